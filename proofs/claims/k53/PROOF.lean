import PyProof.Rows.All
import Wide.All
import OpenK.AllK
import Wide.FinOn
import Lean
import PyProof.EqAt
import PyProof.EqKinds
import PyProof.TupleCall
import PySem.Challenge.RW_easelroom_k53_products
set_option Elab.async false
set_option linter.all false
set_option maxRecDepth 100000
open PySem renaming wpAny_bind→XS,wpAny_pure→X3
open PySem.Heap renaming lt_size→X4
open List renaming map_cons→X5,length_map→X6,replicate→X7,mem_cons_of_mem→X8,size_toArray→Yb
open Nat renaming le_refl→Yc,lt_of_lt_of_le→Yd,le_trans→Ye,ne_of_lt→Yg
open PySem.W renaming Frag→Yh
namespace L2
open PySem PySem.Spec PyProof.Rows
abbrev Key:=Sum Int Str
def yx:Key->Value->Bool
 | .inl k,v=>Value.isInt k v
 | .inr x,v=>Value.isStrOf x v
def Wy (w:World):Key->Int
 | .inl k=>hashInt k
 | .inr x=>hashStr w x
theorem bH:∀ {k:Key} {v:Value},yx k v=true->(∃ i t,k=Sum.inl i/\v=Value.int i t)\/(∃ x t,k=Sum.inr x/\v=Value.str x t)
 | .inl i,v,h=>by
  obtain ⟨t,e⟩:=Value.isInt_shape (k:=i) (v:=v) h
  exact .inl ⟨i,t,rfl,e⟩
 | .inr x,v,h=>by
  obtain ⟨t,e⟩:=Value.isStrOf_shape (x:=x) (v:=v) h
  exact .inr ⟨x,t,rfl,e⟩
theorem zK (i:Int)(t:Tok):yx (.inl i) (.int i t)=true:=by simp [yx,Value.isInt]
theorem Bh (x:Str)(t:Tok):yx (.inr x) (.str x t)=true:=by simp [yx,Value.isStrOf]
theorem R8 (a b:Int):decide ((Sum.inl a:Key)=Sum.inl b)=(a==b):=by
 by_cases e:a=b
 ·subst e;simp
 ·have h:¬ (Sum.inl a:Key)=Sum.inl b:=fun q=>e (Sum.inl.inj q)
  rw [decide_eq_false h]
  exact (beq_eq_false_iff_ne.mpr e).symm
theorem N7 (a b:Str):decide ((Sum.inr a:Key)=Sum.inr b)=decide (a=b):=by
 by_cases e:a=b
 ·subst e;simp
 ·have h:¬ (Sum.inr a:Key)=Sum.inr b:=fun q=>e (Sum.inr.inj q)
  rw [decide_eq_false h,decide_eq_false e]
theorem Qn (a:Int)(b:Str):decide ((Sum.inl a:Key)=Sum.inr b)=false:=decide_eq_false (fun q=>nomatch q)
theorem Pa (a:Str)(b:Int):decide ((Sum.inr a:Key)=Sum.inl b)=false:=decide_eq_false (fun q=>nomatch q)
def dG (prog:Program)(w:World):PySem.KeyKind prog w Key where
 is:=yx
 hash:=Wy w
 inj:=fun v a b ha hb=>by
  rcases bH ha with ⟨i,t,rfl,rfl⟩ | ⟨x,t,rfl,rfl⟩
  ·rcases bH hb with ⟨j,u,rfl,e⟩ | ⟨y,u,rfl,e⟩
   ·injection e with e1 _;rw [e1]
   ·exact nomatch e
  ·rcases bH hb with ⟨j,u,rfl,e⟩ | ⟨y,u,rfl,e⟩
   ·exact nomatch e
   ·injection e with e1 _;rw [e1]
 byValue:=fun k v h=>by
  rcases bH h with ⟨i,t,rfl,rfl⟩ | ⟨x,t,rfl,rfl⟩ <;> rfl
 pyHash:=fun hv h=>by
  rcases bH hv with ⟨i,t,rfl,rfl⟩ | ⟨x,t,rfl,rfl⟩
  ·exact wpAny_pyHash_int h
  ·exact wpAny_pyHash_str h
 eqBool:=fun hu hv h=>by
  rcases bH hu with ⟨i,t,rfl,rfl⟩ | ⟨x,t,rfl,rfl⟩
  ·rcases bH hv with ⟨j,u,rfl,rfl⟩ | ⟨y,u,rfl,rfl⟩
   ·rw [R8] at h;exact wpAny_eqBool_int h
   ·rw [Qn] at h;exact SeqAt.EqAt.int_str i t y u _ _ _ _ h
  ·rcases bH hv with ⟨j,u,rfl,rfl⟩ | ⟨y,u,rfl,rfl⟩
   ·rw [Pa] at h;exact SeqAt.EqAt.str_int x t j u _ _ _ _ h
   ·rw [N7] at h;exact wpAny_eqBool_str h
 «strs»:=fun k x t v h=>by
  rcases bH h with ⟨i,u,rfl,e⟩ | ⟨y,u,rfl,e⟩
  ·exact nomatch e
  ·injection e with e1 _
   subst e1
   cases v <;> rfl
theorem uU (prog:Program)(w:World)(i:Int)(t:Tok):(dG prog w).is (.inl i) (.int i t)=true:=zK i t
theorem vA (prog:Program)(w:World)(x:Str)(t:Tok):(dG prog w).is (.inr x) (.str x t)=true:=Bh x t
end L2
namespace L2
open PySem PySem.Spec PyProof.Rows
inductive V where
 | non | bl (b:Bool) | int (i:Int) | str (x:Str) | byt (b:Array UInt8) | flt (b:UInt64) | ref (a:Addr) | ty (n:String)
 deriving DecidableEq
def RelV:V->Value->Prop
 | .non,u=>u=Value.none
 | .bl b,u=>u=Value.bool b
 | .int i,u=>∃ t,u=Value.int i t
 | .str x,u=>∃ t,u=Value.str x t
 | .byt b,u=>∃ t,u=Value.bytes b t
 | .flt b,u=>∃ t,u=Value.float b t
 | .ref a,u=>u=Value.ref a
 | .ty n,u=>u=Value.type n
abbrev Vals:List V->List Value->Prop:=Paired RelV
theorem Vals.length {xs:List V}{us:List Value}(r:Vals xs us):xs.length=us.length:=Paired.length r
theorem Vals.get:∀ {xs:List V} {us:List Value} {i:Nat} {x:V},Vals xs us->xs[i]?=some x->∃ u,us[i]?=some u/\RelV x u
 | _,_,_,_,.nil,e=>by simp at e
 | _,_,0,_,.cons r _,e=>by simp at e;subst e;exact ⟨_,rfl,r⟩
 | _,_,i+1,x,.cons _ t,e=>by
  obtain ⟨u,h1,h2⟩:=Vals.get (i:=i) (x:=x) t (by simpa using e)
  exact ⟨u,by simpa using h1,h2⟩
theorem Vals.append:∀ {xs ys:List V} {us ws:List Value},Vals xs us->Vals ys ws->Vals (xs++ys) (us++ws)
 | _,_,_,_,.nil,s=>s
 | _,_,_,_,.cons r t,s=>.cons r (Vals.append t s)
theorem Vals.take:∀ {xs:List V} {us:List Value} (n:Nat),Vals xs us->Vals (xs.take n) (us.take n)
 | _,_,0,_=>.nil
 | _,_,_+1,.nil=>.nil
 | _,_,n+1,.cons r t=>.cons r (Vals.take n t)
theorem Vals.drop:∀ {xs:List V} {us:List Value} (n:Nat),Vals xs us->Vals (xs.drop n) (us.drop n)
 | _,_,0,r=>r
 | _,_,_+1,.nil=>.nil
 | _,_,n+1,.cons _ t=>Vals.drop n t
def Jb:Option V->Option Value->Prop
 | some v,some u=>RelV v u
 | none,none=>True
 | _,_=>False
def KV {κ : Type}:List (κ×V)->List (κ×Value)->Prop:=Paired fun (p:κ×V) (q:κ×Value)=>p.1=q.1/\RelV p.2 q.2
def kV:Key->V
 | .inl i=>.int i
 | .inr x=>.str x
inductive HO where
 /-- a list -/
 | lst (xs:List V)
 /-- a tuple (never changes) -/
 | tup (xs:List V)
 /-- a dict whose keys are ints and texts; one whose keys are tuples of ints and texts (the empty one is both) -/
 | dK (kvs:List (Key×V)) | dT (kvs:List (List Key×V))
 /-- a set of ints: its members, its size -/
 | set (S:Int->Bool) (n:Nat)
 /-- an instance of the class at C, its dict at dx, its attributes -/
 | ins (C dx:Addr) (fs:List (Str×V))
 /-- the dict of the instance at x -/
 | own (x:Addr)
 /-- the dict of an exception -/
 | xd (fs:List (Str×V))
 /-- a bound method, f of x -/
 | met (f x:Addr)
 /-- a range object lo, lo + 1, .. below hi -/
 | rng (lo hi:Int)
 /-- a thing that is known to the object (the script; a dict while a loop walks it): read, never written while it is so -/
 | frz (o:Obj) (u:HO)
 /-- a code object's table -/
 | tbl (ps:Array Value)
 /-- any other thing, by what is true of its one object (a def of one's own: SetO a S n := HO.ext fun h => ..) -/
 | ext (φ : Heap->Prop)
abbrev Hp:=Addr->Option HO
def upd (H:Hp)(a:Addr)(o:HO):Hp:=fun b=>if b=a then some o else H b
theorem aV {H:Hp}{a:Addr}{o:HO}:upd H a o a=some o:=by unfold upd;rw [if_pos rfl]
theorem aH {H:Hp}{a b:Addr}{o:HO}(h:b≠a):upd H a o b=H b:=by unfold upd;rw [if_neg h]
theorem aN {H:Hp}{a b:Addr}{o:HO}(h:H a=some o)(h':H b=none):a≠b:=by
 intro e;subst e;rw [h] at h';cases h'
section
variable (P:Program)(w:World)
def zN (h:Heap)(a:Addr)(items:Array Value):Prop:=∃ o,h.get? a=some o/\o.cls=.type "tuple"/\(∃ n,o.data=.seq items n)/\o.dict=none
theorem zN.tup {h:Heap}{a:Addr}{items:Array Value}(x:zN h a items):IsTup h a items:=let ⟨o,ho,hc,hd,_⟩:=x;⟨o,ho,hc,hd⟩
theorem zN.new (h:Heap)(items:Array Value):zN (h.push { cls:=.type "tuple",data:=.seq items }) h.objs.size items:=⟨_,Heap.get?_push_size _ rfl,rfl,⟨_,rfl⟩,rfl⟩
def cZ (H:Hp)(h:Heap)(a:Addr):HO->Prop
 | .lst xs=>xs.length<=sizeLine/\∃ (its:List Value) (n:Nat),Vals xs its/\h.get? a=some { cls:=.type "list",data:=.seq its.toArray n }
 | .tup xs=>xs.length<=sizeLine/\∃ its:List Value,Vals xs its/\zN h a its.toArray
 | .dK kvs=>kvs.length<=sizeLine/\(a==sysModules)=false/\∃ vs,KV kvs vs/\h.DictOf (dG P w) a vs
 | .dT kvs=>kvs.length<=sizeLine/\(a==sysModules)=false/\∃ xs:List (List Key×Addr×Value),
   Paired (fun (p:List Key×V) (q:List Key×Addr×Value)=>p.1=q.1/\H q.2.1=some (.tup (p.1.map kV))/\RelV p.2 q.2.2) kvs xs /\
   ∃ o es ep,h.get? a=some o/\o.ExactDict/\o.data=.dict es ep/\es.toList=xs.map (entryOfKey (tupleKind (dG P w)))/\(xs.map (·.1)).Nodup
 | .set S n=>h.SetOf (intKind P w) a S n
 | .ins C dx fs=>H dx=some (.own a)/\fs.length<=1000/\dx≠a/\h.get? a=some (PySem.W.instObj C dx) /\
   ∃ mA,h.Ns1 dx mA/\(∀ f,Jb (fs.lookup f) (mA f))/\PySem.Within mA (fs.map (·.1))
 | .own _=>∃ o,h.get? a=some o
 | .xd fs=>∃ mA,h.Ns1 a mA/\∀ f,Jb (fs.lookup f) (mA f)
 | .rng lo hi=>∃ t u v,h.get? a=some { cls:=.type "range",data:=.fields #[.int lo t,.int hi u,.int 1 v] }
 | .frz o u=>h.get? a=some o/\cZ H h a u
 | .tbl ps=>h.get? a=some { cls:=.none,data:=.fields ps }
 | .met f x=>h.get? a=some (PySem.W.methodObj (.ref f) (.ref x))
 | .ext φ=>φ h/\(∃ o,h.get? a=some o)/\∀ h1 h2:Heap,φ h1->(∀ o,h1.get? a=some o->h2.get? a=some o)->φ h2
def HOk (H:Hp)(h:Heap):Prop:=∀ a o,H a=some o->cZ P w H h a o
end
section
variable {P:Program}{w:World}{H H':Hp}{h h':Heap}{a:Addr}{o:HO}
theorem cZ.lt (x:cZ P w H h a o):a<h.objs.size:=by
 cases o with
 | lst xs=>obtain ⟨_,_,_,_,e⟩:=x;exact X4 e
 | tup xs=>obtain ⟨_,_,_,p⟩:=x;exact p.tup.lt
 | dK kvs=>obtain ⟨_,_,_,_,o,_,_,e,_⟩:=x;exact X4 e
 | dT kvs=>obtain ⟨_,_,_,_,o,_,_,e,_⟩:=x;exact X4 e
 | set S n=>obtain ⟨o,_,_,_,e,_⟩:=x;exact X4 e
 | ins C dx fs=>obtain ⟨_,_,_,e,_⟩:=x;exact X4 e
 | own y=>obtain ⟨_,e⟩:=x;exact X4 e
 | xd fs=>obtain ⟨_,⟨_,_,_,e,_⟩,_⟩:=x;exact X4 e
 | rng lo hi=>obtain ⟨_,_,_,e⟩:=x;exact X4 e
 | frz ob u=>obtain ⟨e,_⟩:=x;exact X4 e
 | tbl ps=>exact X4 (show h.get? a=some _ from x)
 | met f y=>exact X4 (show h.get? a=some _ from x)
 | ext φ=>obtain ⟨_,⟨_,e⟩,_⟩:=x;exact X4 e
theorem Paired.mapP {α β : Type}{F G:α->β->Prop}:∀ {l₁ : List α} {l₂ : List β},Paired F l₁ l₂->(∀ a b,F a b->G a b)->Paired G l₁ l₂
 | _,_,.nil,_=>.nil
 | _,_,.cons r t,f=>.cons (f _ _ r) (Paired.mapP t f)
theorem cZ.stay (x:cZ P w H h a o)(k:∀ b u,(b=a\/H b=some (.own a))->h.get? b=some u->h'.get? b=some u)
  (ho:∀ b,H b=some (.own a)->H' b=some (.own a)) (ht:∀ b xs,H b=some (.tup xs)->H' b=some (.tup xs)):cZ P w H' h' a o:=by
 induction o with
 | lst xs=>obtain ⟨z,its,n,r,e⟩:=x;exact ⟨z,its,n,r,k _ _ (.inl rfl) e⟩
 | tup xs=>obtain ⟨z,its,r,ob,e,c⟩:=x;exact ⟨z,its,r,ob,k _ _ (.inl rfl) e,c⟩
 | dK kvs=>obtain ⟨z,y,vs,r,ob,es,ep,e,c⟩:=x;exact ⟨z,y,vs,r,ob,es,ep,k _ _ (.inl rfl) e,c⟩
 | dT kvs=>
  obtain ⟨z,y,xs,r,ob,es,ep,e,c⟩:=x
  exact ⟨z,y,xs,Paired.mapP r fun p q z=>⟨z.1,ht _ _ z.2.1,z.2.2⟩,ob,es,ep,k _ _ (.inl rfl) e,c⟩
 | set S n=>obtain ⟨ob,es,ep,t,e,c⟩:=x;exact ⟨ob,es,ep,t,k _ _ (.inl rfl) e,c⟩
 | ins C dx fs=>
  obtain ⟨d,z,ne,e,mA,⟨od,es,ep,e2,c⟩,r⟩:=x
  exact ⟨ho _ d,z,ne,k _ _ (.inl rfl) e,mA,⟨od,es,ep,k _ _ (.inr d) e2,c⟩,r⟩
 | own y=>obtain ⟨ob,e⟩:=x;exact ⟨ob,k _ _ (.inl rfl) e⟩
 | xd fs=>obtain ⟨mA,⟨od,es,ep,e,c⟩,r⟩:=x;exact ⟨mA,⟨od,es,ep,k _ _ (.inl rfl) e,c⟩,r⟩
 | rng lo hi=>obtain ⟨t,u,v,e⟩:=x;exact ⟨t,u,v,k _ _ (.inl rfl) e⟩
 | frz ob u ih=>obtain ⟨e,q⟩:=x;exact ⟨k _ _ (.inl rfl) e,ih q⟩
 | tbl ps=>
  have e:h.get? a=some { cls:=.none,data:=.fields ps }:=x
  show h'.get? a=some { cls:=.none,data:=.fields ps }
  exact k a _ (.inl rfl) e
 | met f y=>
  have e:h.get? a=some (PySem.W.methodObj (.ref f) (.ref y)):=x
  show h'.get? a=some (PySem.W.methodObj (.ref f) (.ref y))
  exact k a _ (.inl rfl) e
 | ext φ=>obtain ⟨p,⟨o,e⟩,st⟩:=x;exact ⟨st _ _ p fun o q=>k _ _ (.inl rfl) q,⟨o,k _ _ (.inl rfl) e⟩,st⟩
theorem HOk.lt (x:HOk P w H h)(e:H a=some o):a<h.objs.size:=(x a o e).lt
theorem HOk.fresh (x:HOk P w H h)(e:h.objs.size<=a):H a=none:=by
 cases q:H a with
 | none=>rfl
 | some u=>exact absurd (Yd (x.lt q) e) (Nat.lt_irrefl _)
theorem HOk.kept (x:HOk P w H h)(k:∀ b u,h.get? b=some u->h'.get? b=some u):HOk P w H h':=fun a o e=>
 (x a o e).stay (fun b u _ q=>k b u q) (fun _ q=>q) fun _ _ q=>q
theorem HOk.laid (x:HOk P w H h)(k:∀ b u,h.get? b=some u->h'.get? b=some u)(hp:h.objs.size<=a)(new:cZ P w (upd H a o) h' a o):HOk P w (upd H a o) h':=fun b u e=>by
 have hn:=x.fresh hp
 by_cases hb:b=a
 ·subst hb;rw [aV] at e;cases e;exact new
 ·rw [aH hb] at e
  exact (x b u e).stay (fun c v _ q=>k c v q) (fun c q=>by rw [aH (aN q hn)];exact q) fun c xs q=>by rw [aH (aN q hn)];exact q
end
def Rd (H:Hp)(a:Addr)(u:HO):Prop:=H a=some u\/∃ o,H a=some (.frz o u)
theorem Rd.ok {P:Program}{w:World}{H:Hp}{h:Heap}{a:Addr}{u:HO}(r:Rd H a u)(x:HOk P w H h):cZ P w H h a u:=by
 rcases r with r | ⟨o,r⟩
 ·exact x a u r
 ·obtain ⟨_,q⟩:=x a _ r
  exact q
def Mut:Option HO->Prop
 | some (.lst _)=>True
 | some (.dK _)=>True
 | some (.dT _)=>True
 | some (.set _ _)=>True
 | some (.ins _ _ _)=>True
 | some (.ext _)=>True
 | _=>False
section
variable {P:Program}{w:World}{H:Hp}{h h':Heap}{x e:Addr}{o':HO}
theorem HOk.write (ok:HOk P w H h)(mu:Mut (H x))(he:e=x\/H e=some (.own x))(k:∀ b u,b≠e->h.get? b=some u->h'.get? b=some u)(heo:∃ u,h'.get? e=some u)
  (new:cZ P w (upd H x o') h' x o'):HOk P w (upd H x o') h':=fun b u q=>by
 have nown:∀ c y,H c=some (.own y)->c≠x:=fun c y r z=>by subst z;rw [r] at mu;exact mu
 have ntup:∀ c xs,H c=some (.tup xs)->c≠x:=fun c xs r z=>by subst z;rw [r] at mu;exact mu
 by_cases hb:b=x
 ·subst hb;rw [aV] at q;cases q;exact new
 ·rw [aH hb] at q
  by_cases hbe:b=e
  ·have q':H b=some (.own x):=by
    rcases he with z | z
    ·exact absurd (hbe.trans z) hb
    ·rw [hbe];exact z
   rw [q] at q';cases q'
   obtain ⟨v,hv⟩:=heo
   exact ⟨v,by rw [hbe];exact hv⟩
  ·refine (ok b u q).stay (fun c v hc r=>k c v ?_ r) (fun c r=>by rw [aH (nown c b r)];exact r) fun c xs r=>by rw [aH (ntup c xs r)];exact r
   rcases hc with rfl | hc
   ·exact hbe
   ·rintro rfl
    rcases he with z | z
    ·exact nown c b hc z
    ·rw [hc] at z;cases z;exact hb rfl
end
structure Un (fs ex:List Addr) (H H':Hp) (h h':Heap):Prop where
 keep:∀ b o,h.get? b=some o->H b=none->b∉fs->b∉ex->h'.get? b=some o
 slot:∀ b o,h.get? b=some o->H b=none->b∈fs->b∉ex->∃ sl,h'.get? b=some { o with slots:=sl }
 free:∀ b o,h.get? b=some o->H b=none->b∉ex->H' b=none
 there:∀ b o,h.get? b=some o->b∉ex->∃ o',h'.get? b=some o'
 tups:∀ b xs,H b=some (.tup xs)->H' b=some (.tup xs)
 frzs:∀ b o u,H b=some (.frz o u)->H' b=some (.frz o u)
 tbls:∀ b ps,H b=some (.tbl ps)->∃ more,H' b=some (.tbl (ps++more))
section
variable {fs fs' ex ex':List Addr}{H H1 H2:Hp}{h h1 h2 h':Heap}{a x e:Addr}{o:HO}
theorem Un.any (u:Un fs ex H H1 h h1){b:Addr}{ob:Obj}(q:h.get? b=some ob)(n:H b=none)(hx:b∉ex):∃ sl,h1.get? b=some { ob with slots:=sl }:=by
 by_cases hb:b∈fs
 ·exact u.slot b ob q n hb hx
 ·exact ⟨ob.slots,u.keep b ob q n hb hx⟩
theorem Un.kept (k:∀ b u,h.get? b=some u->h'.get? b=some u):Un fs ex H H h h':=
 ⟨fun b ob q _ _ _=>k b ob q,fun b ob q _ _ _=>⟨ob.slots,k b ob q⟩,fun _ _ _ n _=>n,fun b ob q _=>⟨ob,k b ob q⟩,fun _ _ q=>q,fun _ _ _ q=>q,fun _ ps q=>⟨#[],by rw [q];simp⟩⟩
theorem Un.refl:Un fs ex H H h h:=Un.kept fun _ _ q=>q
theorem Un.laid (k:∀ b u,h.get? b=some u->h'.get? b=some u)(hp:h.objs.size<=a)(hn:H a=none):Un fs ex H (upd H a o) h h' where
 keep:=fun b u q _ _ _=>k b u q
 slot:=fun b u q _ _ _=>⟨u.slots,k b u q⟩
 free:=fun b u q n _=>by rw [aH (Yg (Yd (X4 q) hp))];exact n
 there:=fun b u q _=>⟨u,k b u q⟩
 tups:=fun b xs q=>by rw [aH (aN q hn)];exact q
 frzs:=fun b u xs q=>by rw [aH (aN q hn)];exact q
 tbls:=fun b ps q=>⟨#[],by rw [aH (aN q hn),q];simp⟩
theorem Un.write (mu:Mut (H x))(he:e=x\/H e=some (.own x))(k:∀ b u,b≠e->h.get? b=some u->h'.get? b=some u)(heo:∃ u,h'.get? e=some u):Un fs ex H (upd H x o) h h':=by
 have hx:∀ b,H b=none->b≠x:=fun b n z=>by subst z;rw [n] at mu;exact mu
 have hb:∀ b,H b=none->b≠e:=fun b n z=>by
  subst z
  rcases he with r | r
  ·exact hx b n r
  ·rw [n] at r;cases r
 have hm:∀ b u,H b=some u->¬ Mut (some u)->b≠x:=fun b u q nm z=>by subst z;rw [q] at mu;exact nm mu
 refine ⟨fun b u q n _ _=>k b u (hb b n) q,fun b u q n _ _=>⟨u.slots,k b u (hb b n) q⟩,fun b u q n _=>by rw [aH (hx b n)];exact n,fun b u q _=>?_,
  fun b xs q=>by rw [aH (hm b _ q fun z=>z)];exact q,fun b u xs q=>by rw [aH (hm b _ q fun z=>z)];exact q,fun b ps q=>⟨#[],by rw [aH (hm b _ q fun z=>z),q];simp⟩⟩
 by_cases hbe:b=e
 ·subst hbe;exact heo
 ·exact ⟨u,k b u hbe q⟩
end
def trk (h:Heap)(H:Hp):List Addr:=(List.range h.objs.size).filter fun a=>(H a).isSome
def GP (h:Heap)(H:Hp):Heap:=PySem.W.hideAll h (trk h H)
theorem zO (h:Heap)(H:Hp):(GP h H).objs.size=h.objs.size:=PySem.W.hideAll_size _ _
theorem HW {h:Heap}{H:Hp}{b:Addr}{o:Obj}(e:h.get? b=some o)(n:H b=none):(GP h H).get? b=some o:=
 PySem.W.hideAll_get _ e fun hm=>by
  have q:(H b).isSome=true:=(List.mem_filter.mp hm).2
  rw [n] at q;simp at q
theorem KH {h:Heap}{H:Hp}{b:Addr}{o:Obj}(e:(GP h H).get? b=some o):h.get? b=some o/\H b=none:=by
 have e':h.get? b=some o:=PySem.W.of_hideAll (trk h H) e
 refine ⟨e',?_⟩
 cases q:H b with
 | none=>rfl
 | some x=>
  have hm:b∈trk h H:=List.mem_filter.mpr ⟨List.mem_range.mpr (X4 e'),by simp [q]⟩
  have z:(GP h H).get? b=none:=PySem.W.hideAll_none (trk h H) hm
  rw [z] at e;cases e
def JM (g h:Heap)(L:Addr):List (Addr×Obj):=(List.range h.objs.size).filterMap fun a=>if a=L\/(g.get? a).isSome=true then none else (h.get? a).map fun o=>(a,o)
def rest (g h:Heap)(L d:Addr):List (Addr×Obj):=(JM g h L).filter fun p=>decide (p.1≠d)
end L2
namespace L2
open PySem PySem.Spec PyProof.Rows
structure Mod (K:Yh) (mg:Str->Option Value) (base:Heap):Prop where
 kin:K.In base
 glob:base.Ns mainGlobals mg
 blt:∃ mb,base.Ns builtinsNs mb/\∀ x:Str,x ≠ "__name__"->mb x=bootBuiltins x
 nolimit:base.NoLimit
structure Cx where
 prog:Program
 w:World
 K:Yh
 mg:Str->Option Value
 base:Heap
 A:Around
 N:List Str
 s₀ : Shared
 H₀ : Hp
 env:Env
 outer:List Env
 stack:List Env
 ex:List Addr
 fn:Str->Bool
 calm:Bool
 pn:List (Addr×Obj)
 xe:Value->Shared->Prop
def frs (l:List Env):List Addr:=l.filterMap (·.frame)
abbrev Cx.fs (X:Cx):List Addr:=frs X.outer
def Vis (sc:Scope)(x:Str):Prop:=sc.names.lookup x=some .local\/sc.names.lookup x=some .cell\/sc.names.lookup x=some .free
def Loc (sc:Scope)(x:Str):Prop:=sc.names.lookup x=some .local\/sc.names.lookup x=some .cell
def Look (env:Env)(h:Heap)(m:Str->Option Value)(x:Str)(u:Value):Prop:=
 (env.kindOf x=some .local/\m x=some u)\/((env.kindOf x=some .cell\/env.kindOf x=some .free)/\∃ c,env.cells.lookup x=some c/\h.IsCell c (some u))
def Still (H:Hp)(v:Value):Prop:=∃ (a:Addr) (o:Obj) (u:HO) (vs:Array Value),v=.ref a/\H a=some (.frz o u)/\o.data=.fields vs/\vs[2]?=some .none
def Quiet (A:Around)(H:Hp):Prop:=∀ v,A.handled=some v->Still H v
structure Cx.Ok (X:Cx):Prop where
 mod:Mod X.K X.mg X.base
 kind:X.env.scope.kind=.function
 glob:X.env.globals=mainGlobals
 blt:X.env.builtins=builtinsNs
 above:X.s₀.heap.objs.size<=X.env.locals
 inj:∀ x y c,X.env.cells.lookup x=some c->X.env.cells.lookup y=some c->x=y
 has:∀ x,(X.env.kindOf x=some .cell\/X.env.kindOf x=some .free)->∃ c,X.env.cells.lookup x=some c
 cab:∀ x c,X.fn x=true->X.env.cells.lookup x=some c->X.s₀.heap.objs.size<=c
 hd:X.calm=true->X.A.handled=none
 qt:Quiet X.A X.H₀
 frames:X.A.frames=some X.stack
 stk:X.stack=X.outer\/(X.stack=X.env::X.outer/\X.env.frame=some X.env.locals)
 exf:∀ b∈X.ex,b≠X.env.locals/\∀ x c,X.env.cells.lookup x=some c->c≠b
 bs:∀ b o,X.base.get? b=some o->X.s₀.heap.get? b=some o/\X.H₀ b=none
 bsz:X.base.objs.size<=X.s₀.heap.objs.size
 noex:∀ b o,X.base.get? b=some o->b∉X.ex
 exfs:∀ b∈X.ex,b∉X.fs
 funs:X.s₀.heap.FunFrames X.base X.outer
 frf:∀ b∈X.fs,X.H₀ b=none
structure Inv (X:Cx) (pins:List (Addr×Obj)) (Z : List (Option V)) (H:Hp) (s:Shared):Prop where
 ok:X.Ok
 os:s.os=X.s₀.os
 bare:AllBare s.gens
 base:Un X.fs X.ex X.H₀ H X.s₀.heap s.heap
 loc:∃ m,s.heap.Ns X.env.locals m/\∀ (i:Nat) (x:Str) (v:V),X.N[i]?=some x->Z[i]?=some (some v)->Vis X.env.scope x->∃ u,RelV v u/\Look X.env s.heap m x u
 cell:∀ x c,X.env.cells.lookup x=some c->∃ v,s.heap.IsCell c v
 free:H X.env.locals=none
 freeC:∀ x c,X.env.cells.lookup x=some c->H c=none
 pin:∀ p∈X.pn++pins,s.heap.get? p.1=some p.2/\H p.1=none/\p.1≠X.env.locals/\p.1∉X.fs/\∀ v,p.2.data≠.cell v
 hok:HOk X.prog X.w H s.heap
 len:Z.length=X.N.length
section
variable {X:Cx}{pins:List (Addr×Obj)}{Z : List (Option V)}{H H':Hp}{s:Shared}{h':Heap}
theorem Cx.Ok.nofr (ok:X.Ok){b:Addr}{o:Obj}(e:X.base.get? b=some o):b∉X.fs:=fun hb=>by
 have:=(ok.funs.mem hb).1
 rw [e] at this;cases this
theorem Inv.bs (I:Inv X pins Z H s):∀ b o,X.base.get? b=some o->s.heap.get? b=some o/\H b=none:=fun b o e=>
 ⟨I.base.keep b o (I.ok.bs b o e).1 (I.ok.bs b o e).2 (I.ok.nofr e) (I.ok.noex b o e),I.base.free b o (I.ok.bs b o e).1 (I.ok.bs b o e).2 (I.ok.noex b o e)⟩
theorem Inv.qt0 (I:Inv X pins Z H s):Quiet X.A H:=fun v e=>let ⟨a,o,u,vs,h1,h2,h3⟩:=I.ok.qt v e;⟨a,o,u,vs,h1,I.base.frzs a o u h2,h3⟩
theorem Inv.bk (I:Inv X pins Z H s):∀ b o,X.base.get? b=some o->s.heap.get? b=some o:=fun b o e=>(I.bs b o e).1
theorem Inv.mod (I:Inv X pins Z H s):Mod X.K X.mg X.base:=I.ok.mod
theorem Inv.kIn (I:Inv X pins Z H s):X.K.In s.heap:=I.ok.mod.kin.keeps I.bk
theorem Inv.lt (I:Inv X pins Z H s):X.env.locals<s.heap.objs.size:=let ⟨_,hn,_⟩:=I.loc;hn.lt
theorem Inv.sz (I:Inv X pins Z H s):X.s₀.heap.objs.size<=s.heap.objs.size:=Ye I.ok.above (Nat.le_of_lt I.lt)
theorem Inv.nofs (I:Inv X pins Z H s){a:Addr}(h:s.heap.objs.size<=a):a∉X.fs:=fun hb=>by
 obtain ⟨_,o,ho,_⟩:=I.ok.funs.mem hb
 exact absurd (Yd (X4 ho) (Ye I.sz h)) (Nat.lt_irrefl _)
theorem Inv.cne (I:Inv X pins Z H s):∀ x c,X.env.cells.lookup x=some c->c≠X.env.locals:=fun x c e z=>by
 obtain ⟨v,o,ho,hd⟩:=I.cell x c e
 obtain ⟨m,⟨o',es,ep,ho',hd',_⟩,_⟩:=I.loc
 rw [z,ho'] at ho;cases ho;rw [hd'] at hd;cases hd
theorem Inv.funs (I:Inv X pins Z H s):s.heap.FunFrames X.base X.outer:=by
 have all:∀ (l:List Env),(∀ b∈frs l,b∈X.fs)->X.s₀.heap.FunFrames X.base l->s.heap.FunFrames X.base l:=by
  intro l
  induction l with
  | nil=>intro _ _;trivial
  | cons env r ih=>
   intro hs hl
   obtain ⟨hk,⟨L,o,hf,hn,ho,hd⟩,hr⟩:=hl
   have hL:L∈X.fs:=hs L (by unfold frs;rw [List.filterMap_cons,hf];exact List.mem_cons_self)
   obtain ⟨sl,e⟩:=I.base.slot L o ho (I.ok.frf L hL) hL fun z=>I.ok.exfs L z hL
   exact ⟨hk,⟨L,_,hf,hn,e,hd⟩,ih (fun b hb=>hs b (by unfold frs;rw [List.filterMap_cons,hf];exact X8 _ hb)) hr⟩
 exact all X.outer (fun _ hb=>hb) I.ok.funs
theorem Inv.stack (I:Inv X pins Z H s):s.heap.FunFrames X.base X.stack:=by
 rcases I.ok.stk with e | ⟨e,hf⟩
 ·rw [e];exact I.funs
 ·rw [e]
  obtain ⟨m,hn,_⟩:=I.loc
  refine .cons (by rw [I.ok.kind];decide) hf hn ?_ I.funs
  exact Heap.get?_none_of_le (Ye I.ok.bsz I.ok.above)
theorem Inv.stkSub (I:Inv X pins Z H s):∀ b∈frs X.stack,b∈X.env.locals::X.fs:=fun b hb=>by
 rcases I.ok.stk with e | ⟨e,hf⟩
 ·rw [e] at hb;exact X8 _ hb
 ·rw [e] at hb
  unfold frs at hb
  rw [List.filterMap_cons,hf] at hb
  exact hb
theorem Inv.stkFree (I:Inv X pins Z H s):∀ b∈frs X.stack,H b=none:=fun b hb=>by
 rcases List.mem_cons.mp (I.stkSub b hb) with e | hb
 ·rw [e];exact I.free
 ·obtain ⟨_,o,ho,_⟩:=I.ok.funs.mem hb
  exact I.base.free b o ho (I.ok.frf b hb) fun z=>I.ok.exfs b z hb
theorem Inv.stepG {g':Array GenState}{t':Nat}{d':Drawn}{ch:List Addr}(I:Inv X pins Z H s)
  (hch:∀ b∈ch,(b∈X.ex\/X.s₀.heap.get? b=none)/\b≠X.env.locals/\(∀ x c,X.env.cells.lookup x=some c->c≠b)/\∀ p∈X.pn++pins,p.1≠b)
  (keep:∀ b o,b≠X.env.locals->b∉X.fs->b∉ch->s.heap.get? b=some o->H b=none->h'.get? b=some o)
  (slot:∀ b o,b≠X.env.locals->b∈X.fs->b∉ch->s.heap.get? b=some o->H b=none->∃ sl,h'.get? b=some { o with slots:=sl }) (free:∀ b o,b∉ch->s.heap.get? b=some o->H b=none->H' b=none)
  (there:∀ b o,b∉ch->s.heap.get? b=some o->∃ o',h'.get? b=some o')
  (tups:∀ b xs,H b=some (.tup xs)->H' b=some (.tup xs)) (frzs:∀ b o u,H b=some (.frz o u)->H' b=some (.frz o u)) (tbls:∀ b ps,H b=some (.tbl ps)->∃ more,H' b=some (.tbl (ps++more)))
  (ns:∀ m,s.heap.Ns X.env.locals m->h'.Ns X.env.locals m) (hok:HOk X.prog X.w H' h') (hg:AllBare g') :
  Inv X pins Z H' { s with heap:=h',gens:=g',drawn:=d',toks:=t' }:=by
 have neL:∀ b o,X.s₀.heap.get? b=some o->b≠X.env.locals:=fun b o e=>Yg (Yd (X4 e) I.ok.above)
 have neC:∀ b o,X.s₀.heap.get? b=some o->b∉X.ex->b∉ch:=fun b o e hx hb=>by
  rcases (hch b hb).1 with z | z
  ·exact hx z
  ·rw [z] at e;cases e
 have cellK:∀ x c,X.env.cells.lookup x=some c->∀ v,s.heap.IsCell c v->h'.IsCell c v:=fun x c e v ⟨o,ho,hd⟩=>by
  have nch:c∉ch:=fun z=>(hch c z).2.2.1 x c e rfl
  by_cases hc:c∈X.fs
  ·obtain ⟨sl,q⟩:=slot c o (I.cne x c e) hc nch ho (I.freeC x c e)
   exact ⟨_,q,hd⟩
  ·exact ⟨o,keep c o (I.cne x c e) hc nch ho (I.freeC x c e),hd⟩
 refine ⟨I.ok,I.os,hg,⟨fun b o e n hb hx=>?_,fun b o e n hb hx=>?_,fun b o e n hx=>?_,fun b o e hx=>?_,fun b xs e=>tups b xs (I.base.tups b xs e),fun b o xs e=>frzs b o xs (I.base.frzs b o xs e),fun b ps e=>?_⟩,?_,fun x c e=>?_,?_,fun x c e=>?_,fun p hp=>?_,hok,I.len⟩
 ·exact keep b o (neL b o e) hb (neC b o e hx) (I.base.keep b o e n hb hx) (I.base.free b o e n hx)
 ·obtain ⟨sl,e1⟩:=I.base.slot b o e n hb hx
  obtain ⟨sl',e2⟩:=slot b _ (neL b o e) hb (neC b o e hx) e1 (I.base.free b o e n hx)
  exact ⟨sl',e2⟩
 ·obtain ⟨o',e1⟩:=I.base.there b o e hx
  exact free b o' (neC b o e hx) e1 (I.base.free b o e n hx)
 ·obtain ⟨o',e1⟩:=I.base.there b o e hx
  exact there b o' (neC b o e hx) e1
 ·obtain ⟨m1,e1⟩:=I.base.tbls b ps e
  obtain ⟨m2,e2⟩:=tbls b _ e1
  exact ⟨m1++m2,by rw [e2,Array.append_assoc]⟩
 ·obtain ⟨m,hn,hl⟩:=I.loc
  refine ⟨m,ns m hn,fun i x v e1 e2 e3=>?_⟩
  obtain ⟨u,r,l⟩:=hl i x v e1 e2 e3
  refine ⟨u,r,?_⟩
  rcases l with l | ⟨k,c,e,z⟩
  ·exact .inl l
  ·exact .inr ⟨k,c,e,cellK x c e _ z⟩
 ·obtain ⟨v,z⟩:=I.cell x c e
  exact ⟨v,cellK x c e v z⟩
 ·obtain ⟨m,⟨o,_,_,ho,_⟩,_⟩:=I.loc
  exact free _ o (fun z=>(hch _ z).2.1 rfl) ho I.free
 ·obtain ⟨v,o,ho,hd⟩:=I.cell x c e
  exact free c o (fun z=>(hch c z).2.2.1 x c e rfl) ho (I.freeC x c e)
 ·obtain ⟨e,n,ne,nf,d⟩:=I.pin p hp
  have nch:p.1∉ch:=fun z=>(hch p.1 z).2.2.2 p hp rfl
  exact ⟨keep p.1 p.2 ne nf nch e n,free p.1 p.2 nch e n,ne,nf,d⟩
theorem Inv.step {g':Array GenState}{t':Nat}{d':Drawn}{ch:List Addr}(I:Inv X pins Z H s)
  (hch:∀ b∈ch,(b∈X.ex\/X.s₀.heap.objs.size<=b)/\b≠X.env.locals/\(∀ x c,X.env.cells.lookup x=some c->c≠b)/\∀ p∈X.pn++pins,p.1≠b)
  (keep:∀ b o,b≠X.env.locals->b∉X.fs->b∉ch->s.heap.get? b=some o->H b=none->h'.get? b=some o)
  (slot:∀ b o,b≠X.env.locals->b∈X.fs->b∉ch->s.heap.get? b=some o->H b=none->∃ sl,h'.get? b=some { o with slots:=sl }) (free:∀ b o,b∉ch->s.heap.get? b=some o->H b=none->H' b=none)
  (there:∀ b o,b∉ch->s.heap.get? b=some o->∃ o',h'.get? b=some o')
  (tups:∀ b xs,H b=some (.tup xs)->H' b=some (.tup xs)) (frzs:∀ b o u,H b=some (.frz o u)->H' b=some (.frz o u)) (tbls:∀ b ps,H b=some (.tbl ps)->∃ more,H' b=some (.tbl (ps++more)))
  (ns:∀ m,s.heap.Ns X.env.locals m->h'.Ns X.env.locals m) (hok:HOk X.prog X.w H' h') (hg:AllBare g') :
  Inv X pins Z H' { s with heap:=h',gens:=g',drawn:=d',toks:=t' }:=
 I.stepG (ch:=ch) (fun b z=>⟨(hch b z).1.imp id fun q=>Heap.get?_none_of_le q,(hch b z).2⟩) keep slot free there tups frzs tbls ns hok hg
theorem Inv.un {t':Nat}(I:Inv X pins Z H s)(u:Un X.fs [] H H' s.heap h')(hok:HOk X.prog X.w H' h'):Inv X pins Z H' { s with heap:=h',toks:=t' }:=by
 obtain ⟨m,⟨o,es,ep,ho,r⟩,_⟩:=id I.loc
 obtain ⟨sl,hL⟩:=u.any ho I.free (by simp)
 exact I.step (g':=s.gens) (d':=s.drawn) (ch:=[]) (fun _ z=>nomatch z) (fun b o _ hb _ e n=>u.keep b o e n hb (by simp)) (fun b o _ hb _ e n=>u.slot b o e n hb (by simp)) (fun b o _ e n=>u.free b o e n (by simp)) (fun b o _ e=>u.there b o e (by simp)) u.tups u.frzs u.tbls (fun m' hm=>by
  obtain ⟨o',es',ep',ho',r'⟩:=hm
  rw [ho] at ho';cases ho'
  exact ⟨_,es',ep',hL,r'⟩) hok I.bare
theorem Inv.call {g':Array GenState}{t':Nat}{d':Drawn}{ch:List Addr}(I:Inv X pins Z H s)(u:Un (frs X.stack) ch H H' s.heap h')(hok:HOk X.prog X.w H' h')(hg:AllBare g')
  (hch:∀ b∈ch,(b∈X.ex\/X.s₀.heap.objs.size<=b)/\b≠X.env.locals/\(∀ x c,X.env.cells.lookup x=some c->c≠b)/\∀ p∈X.pn++pins,p.1≠b) :
  Inv X pins Z H' { s with heap:=h',gens:=g',drawn:=d',toks:=t' }:=by
 obtain ⟨m,⟨o,es,ep,ho,r⟩,_⟩:=id I.loc
 obtain ⟨sl,hL⟩:=u.any ho I.free fun z=>(hch _ z).2.1 rfl
 exact I.step (ch:=ch) hch (fun b o hL hb hc e n=>u.keep b o e n (fun z=>(List.mem_cons.mp (I.stkSub b z)).elim hL hb) hc) (fun b o _ _ hc e n=>u.any e n hc) (fun b o hc e n=>u.free b o e n hc) (fun b o hc e=>u.there b o e hc) u.tups u.frzs u.tbls (fun m' hm=>by
  obtain ⟨o',es',ep',ho',r'⟩:=hm
  rw [ho] at ho';cases ho'
  exact ⟨_,es',ep',hL,r'⟩) hok hg
theorem Inv.turned {t':Nat}{it:Addr}(I:Inv X pins Z H s)(k:∀ b o,b≠it->s.heap.get? b=some o->h'.get? b=some o)(hn:H it=none)(hL:it≠X.env.locals)
  (h1:it∈X.ex\/X.s₀.heap.objs.size<=it) (h2:∀ x c,X.env.cells.lookup x=some c->c≠it) (h3:∀ p∈X.pn++pins,p.1≠it):Inv X pins Z H { s with heap:=h',toks:=t' }:=by
 have nit:∀ b u,H b=some u->b≠it:=fun b u e z=>by rw [z,hn] at e;cases e
 refine I.step (g':=s.gens) (d':=s.drawn) (ch:=[it]) (fun b hb=>?_) (fun b o _ _ hc e _=>k b o (fun z=>hc (by simp [z])) e) (fun b o _ _ hc e _=>⟨o.slots,k b o (fun z=>hc (by simp [z])) e⟩) (fun _ _ _ _ n=>n)
  (fun b o hc e=>⟨o,k b o (fun z=>hc (by simp [z])) e⟩) (fun _ _ e=>e) (fun _ _ _ e=>e) (fun b ps e=>⟨#[],by rw [e];simp⟩) (fun m hm=>?_) (fun b u e=>?_) I.bare
 ·have e:b=it:=by simpa using hb
  subst e
  exact ⟨h1,hL,h2,h3⟩
 ·obtain ⟨o,es,ep,ho,r⟩:=hm
  exact ⟨o,es,ep,k _ o (Ne.symm hL) ho,r⟩
 ·refine (I.hok b u e).stay (fun c v hc q=>k c v ?_ q) (fun _ q=>q) fun _ _ q=>q
  rcases hc with z | z
  ·rw [z];exact nit b u e
  ·exact nit c _ z
theorem Inv.tok (I:Inv X pins Z H s)(t:Nat):Inv X pins Z H { s with toks:=t }:=I.un (h':=s.heap) (t':=t) Un.refl I.hok
theorem Inv.kept {t':Nat}(I:Inv X pins Z H s)(k:∀ b u,s.heap.get? b=some u->h'.get? b=some u):Inv X pins Z H { s with heap:=h',toks:=t' }:=I.un (Un.kept k) (I.hok.kept k)
theorem Inv.laid {a:Addr}{o:HO}{t':Nat}(I:Inv X pins Z H s)(k:∀ b u,s.heap.get? b=some u->h'.get? b=some u)(hp:s.heap.objs.size<=a)(new:cZ X.prog X.w (upd H a o) h' a o) :
  Inv X pins Z (upd H a o) { s with heap:=h',toks:=t' }:=I.un (Un.laid k hp (I.hok.fresh hp)) (I.hok.laid k hp new)
theorem Inv.write {x e:Addr}{o:HO}{t':Nat}(I:Inv X pins Z H s)(mu:Mut (H x))(he:e=x\/H e=some (.own x))(k:∀ b u,b≠e->s.heap.get? b=some u->h'.get? b=some u)(heo:∃ u,h'.get? e=some u)
  (new:cZ X.prog X.w (upd H x o) h' x o):Inv X pins Z (upd H x o) { s with heap:=h',toks:=t' }:=I.un (Un.write mu he k heo) (I.hok.write mu he k heo new)
theorem Inv.weak {Z':List (Option V)}(I:Inv X pins Z H s)(hl:Z'.length = Z.length)(w:∀ (i:Nat) v,Z'[i]?=some (some v)->Z[i]?=some (some v)):Inv X pins Z' H s:=
 ⟨I.ok,I.os,I.bare,I.base,let ⟨m,hn,hl'⟩:=I.loc;⟨m,hn,fun i x v e1 e2 e3=>hl' i x v e1 (w i v e2) e3⟩,I.cell,I.free,I.freeC,I.pin,I.hok,hl.trans I.len⟩
theorem Inv.pins_of {pins':List (Addr×Obj)}(I:Inv X pins Z H s)(h:∀ p∈pins',s.heap.get? p.1=some p.2/\H p.1=none/\p.1≠X.env.locals/\p.1∉X.fs/\∀ v,p.2.data≠.cell v):Inv X pins' Z H s:=
 ⟨I.ok,I.os,I.bare,I.base,I.loc,I.cell,I.free,I.freeC,fun p hp=>(List.mem_append.mp hp).elim (fun z=>I.pin p (List.mem_append_left _ z)) (h p),I.hok,I.len⟩
theorem v7 {N:List Str}(hN:N.Nodup){i j:Nat}{x:Str}(a:N[i]?=some x)(b:N[j]?=some x):i=j:=by
 obtain ⟨h1,e1⟩:=List.getElem?_eq_some_iff.mp a
 obtain ⟨h2,e2⟩:=List.getElem?_eq_some_iff.mp b
 exact (List.getElem_inj hN).mp (e1.trans e2.symm)
theorem z9 {M:Model}{A:Around}{E:Value->Shared->Prop}{i:Nat}{x:Str}{v:V}{u:Value}{Q:Unit->Shared->Prop}(I:Inv X pins Z H s)(hN:X.N.Nodup)(hi:X.N[i]?=some x)(hx:Loc X.env.scope x)(r:RelV v u)
  (h:∀ s',Inv X pins (Z.set i (some v)) H s'->(∃ a,Heap.SameBut a s.heap s'.heap/\(a=X.env.locals\/X.env.cells.lookup x=some a))->Q () s') (hf:X.fn x=true\/X.env.scope.names.lookup x=some .local:=by first | exact .inl rfl | exact .inr rfl | assumption):wpAny M A (storeName X.env x u) Q E s:=by
 obtain ⟨m,hn,hl⟩:=id I.loc
 have hcls:(X.env.scope.kind==.class||(X.env.scope.kind==.module&&X.env.locals != X.env.globals))=false:=by rw [I.ok.kind];rfl
 have hiZ : i < Z.length:=by rw [I.len];exact (List.getElem?_eq_some_iff.mp hi).1
 have cne:=I.cne
 have tracked:∀ {a:Addr} {h':Heap},(∃ o,s.heap.get? a=some o/\H a=none)->Heap.SameBut a s.heap h'->HOk X.prog X.w H h':=fun {a h'} ha hs b ob e=>by
  obtain ⟨_,_,hfree⟩:=ha
  refine (I.hok b ob e).stay (fun c w' hc q=>(hs.2 c ?_).trans q) (fun _ q=>q) fun _ _ q=>q
  rintro rfl
  rcases hc with rfl | hc
  ·rw [hfree] at e;cases e
  ·rw [hfree] at hc;cases hc
 rcases hx with hk | hk
 ·refine wpAny_storeName_local hk hn (fun h' hn' hs=>?_) hcls
  obtain ⟨oL,_,_,hoL,_⟩:=id hn
  refine h _ ⟨I.ok,I.os,I.bare,⟨fun b o e n hb hx=>?_,fun b o e n hb hx=>?_,I.base.free,fun b o e hx=>?_,I.base.tups,I.base.frzs,I.base.tbls⟩,⟨_,hn',fun j y v' e1 e2 e3=>?_⟩,fun y c e=>?_,I.free,I.freeC,fun p hp=>?_,tracked ⟨oL,hoL,I.free⟩ hs,by simpa using I.len⟩ ⟨_,hs,.inl rfl⟩
  ·exact (hs.2 b (Yg (Yd (X4 e) I.ok.above))).trans (I.base.keep b o e n hb hx)
  ·obtain ⟨sl,e1⟩:=I.base.slot b o e n hb hx
   exact ⟨sl,(hs.2 b (Yg (Yd (X4 e) I.ok.above))).trans e1⟩
  ·obtain ⟨o',e1⟩:=I.base.there b o e hx
   exact ⟨o',(hs.2 b (Yg (Yd (X4 e) I.ok.above))).trans e1⟩
  ·by_cases hj:j=i
   ·subst hj
    rw [hi] at e1;cases e1
    rw [List.getElem?_set_self hiZ] at e2
    cases e2
    exact ⟨u,r,.inl ⟨hk,by simp⟩⟩
   ·rw [List.getElem?_set_ne (Ne.symm hj)] at e2
    obtain ⟨u',r',q⟩:=hl j y v' e1 e2 e3
    refine ⟨u',r',?_⟩
    rcases q with ⟨k,e⟩ | ⟨k,c,e,z⟩
    ·refine .inl ⟨k,?_⟩
     have:y≠x:=fun e=>hj (v7 hN e1 (e ▸ hi))
     simp [this,e]
    ·exact .inr ⟨k,c,e,z.sameBut hs (cne y c e)⟩
  ·obtain ⟨w',z⟩:=I.cell y c e
   exact ⟨w',z.sameBut hs (cne y c e)⟩
  ·obtain ⟨e,n,ne,nf,d⟩:=I.pin p hp
   exact ⟨(hs.2 p.1 ne).trans e,n,ne,nf,d⟩
 ·have hfn:X.fn x=true:=by
   rcases hf with z | z
   ·exact z
   ·rw [z] at hk;cases hk
  obtain ⟨c,hc⟩:=I.ok.has x (.inl hk)
  obtain ⟨w',z⟩:=I.cell x c hc
  refine wpAny_storeName_cell I.ok.kind hk hc z (fun h' hc' hs=>?_)
  obtain ⟨oc,hoc,hocd⟩:=id z
  refine h { s with heap:=h' } ⟨I.ok,I.os,I.bare,⟨fun b o e n hb hx=>?_,fun b o e n hb hx=>?_,I.base.free,fun b o e hx=>?_,I.base.tups,I.base.frzs,I.base.tbls⟩,⟨m,hn.sameBut hs (Ne.symm (cne x c hc)),fun j y v' e1 e2 e3=>?_⟩,fun y c' e=>?_,I.free,I.freeC,fun p hp=>?_,tracked ⟨oc,hoc,I.freeC x c hc⟩ hs,by simpa using I.len⟩ ⟨c,hs,.inr hc⟩
  ·exact (hs.2 b (Yg (Yd (X4 e) (I.ok.cab x c hfn hc)))).trans (I.base.keep b o e n hb hx)
  ·obtain ⟨sl,e1⟩:=I.base.slot b o e n hb hx
   exact ⟨sl,(hs.2 b (Yg (Yd (X4 e) (I.ok.cab x c hfn hc)))).trans e1⟩
  ·obtain ⟨o',e1⟩:=I.base.there b o e hx
   exact ⟨o',(hs.2 b (Yg (Yd (X4 e) (I.ok.cab x c hfn hc)))).trans e1⟩
  ·by_cases hj:j=i
   ·subst hj
    rw [hi] at e1;cases e1
    rw [List.getElem?_set_self hiZ] at e2
    cases e2
    exact ⟨u,r,.inr ⟨.inl hk,c,hc,hc'⟩⟩
   ·rw [List.getElem?_set_ne (Ne.symm hj)] at e2
    obtain ⟨u',r',q⟩:=hl j y v' e1 e2 e3
    refine ⟨u',r',?_⟩
    rcases q with q | ⟨k,c',e,z'⟩
    ·exact .inl q
    ·refine .inr ⟨k,c',e,z'.sameBut hs ?_⟩
     rintro rfl
     exact hj (v7 hN e1 (I.ok.inj _ _ _ e hc ▸ hi))
  ·by_cases hcc:c'=c
   ·subst hcc;exact ⟨_,hc'⟩
   ·obtain ⟨w2,z2⟩:=I.cell y c' e
    exact ⟨w2,z2.sameBut hs hcc⟩
  ·obtain ⟨e,n,ne,nf,d⟩:=I.pin p hp
   refine ⟨(hs.2 p.1 ?_).trans e,n,ne,nf,d⟩
   intro q
   rw [q,hoc] at e
   have q':oc=p.2:=Option.some.inj e
   exact d w' (by rw [<-q'];exact hocd)
theorem pW {M:Model}{A:Around}{E:Value->Shared->Prop}{i:Nat}{x:Str}{v:V}{u:Value}{Q:Unit->Shared->Prop}(I:Inv X pins Z H s)(hN:X.N.Nodup)(hi:X.N[i]?=some x)(hx:Loc X.env.scope x)(r:RelV v u)
  (h:∀ s',Inv X pins (Z.set i (some v)) H s'->Q () s') (hf:X.fn x=true\/X.env.scope.names.lookup x=some .local:=by first | exact .inl rfl | exact .inr rfl | assumption):wpAny M A (storeName X.env x u) Q E s:=
 z9 I hN hi hx r (fun s' I' _=>h s' I') hf
theorem Inv.call' {s':Shared}{ch:List Addr}(I:Inv X pins Z H s)(ho:s'.os=s.os)(u:Un (frs X.stack) ch H H' s.heap s'.heap)(hok:HOk X.prog X.w H' s'.heap)(hg:AllBare s'.gens)
  (hch:∀ b∈ch,(b∈X.ex\/X.s₀.heap.objs.size<=b)/\b≠X.env.locals/\(∀ x c,X.env.cells.lookup x=some c->c≠b)/\∀ p∈X.pn++pins,p.1≠b):Inv X pins Z H' s':=by
 obtain ⟨h',g',d',t',o'⟩:=s'
 have e:o'=s.os:=ho
 subst e
 exact I.call (g':=g') (t':=t') (d':=d') u hok hg hch
end
abbrev XK:=Value->Option Addr->Hp->Prop
abbrev St:=List (Option V)
abbrev VK:=V->Hp->Prop
abbrev TE:=St->Hp->VK->Prop
abbrev TT:=St->Hp->(Bool->Hp->Prop)->Prop
abbrev TA:=St->Hp->(List V->Hp->Prop)->Prop
structure Ends where
 nx:St->Hp->Prop
 rt:VK
 bk:St->Hp->Prop:=fun _ _=>False
 ct:St->Hp->Prop:=fun _ _=>False
abbrev TS:=Ends->St->Hp->Prop
def EP (X:Cx)(pins:List (Addr×Obj))(Z : St)(Q:VK)(u:Value)(s':Shared):Prop:=∃ v H',Inv X pins Z H' s'/\RelV v u/\Q v H'
def TP (X:Cx)(pins:List (Addr×Obj))(Z : St)(Q:Bool->Hp->Prop)(b:Bool)(s':Shared):Prop:=∃ H',Inv X pins Z H' s'/\Q b H'
def AP (X:Cx)(pins:List (Addr×Obj))(Z : St)(Q:List V->Hp->Prop)(us:List Value)(s':Shared):Prop:=∃ vs H',Inv X pins Z H' s'/\Vals vs us/\Q vs H'
def SP (X:Cx)(pins:List (Addr×Obj))(D:Ends)(f:Flow)(s':Shared):Prop:=
 match f with
 | .next=>∃ Z' H',Inv X pins Z' H' s'/\D.nx Z' H'
 | .brk=>∃ Z' H',Inv X pins Z' H' s'/\D.bk Z' H'
 | .cont=>∃ Z' H',Inv X pins Z' H' s'/\D.ct Z' H'
 | .ret u=>∃ v Z' H',Inv X pins Z' H' s'/\RelV v u/\D.rt v H'
def PE (X:Cx)(e:Expr)(t:TE):Prop:=
 ∀ (pins:List (Addr×Obj)) (s:Shared) (Z : St) (H:Hp) (Q:VK),Inv X pins Z H s->t Z H Q->wpAny (model X.prog X.w) X.A (eval e X.env) (EP X pins Z Q) X.xe s
def PT (X:Cx)(e:Expr)(t:TT):Prop:=
 ∀ (pins:List (Addr×Obj)) (s:Shared) (Z : St) (H:Hp) (Q:Bool->Hp->Prop),Inv X pins Z H s->t Z H Q->wpAny (model X.prog X.w) X.A (isTrue e X.env (eval e X.env)) (TP X pins Z Q) X.xe s
def PW (X:Cx)(e:Expr)(t:TT):Prop:=
 ∀ (whole:Sem Value) (pins:List (Addr×Obj)) (s:Shared) (Z : St) (H:Hp) (Q:Bool->Hp->Prop),Inv X pins Z H s->t Z H Q->wpAny (model X.prog X.w) X.A (isTrue e X.env whole) (TP X pins Z Q) X.xe s
theorem PW.pt {X:Cx}{e:Expr}{t:TT}(h:PW X e t):PT X e t:=h _
def PA (X:Cx)(es:List Expr)(t:TA):Prop:=
 ∀ (pos:Pos) (pins:List (Addr×Obj)) (s:Shared) (Z : St) (H:Hp) (Q:List V->Hp->Prop),Inv X pins Z H s->t Z H Q->wpAny (model X.prog X.w) X.A (spliced (backTo pos (starEach es X.env))) (AP X pins Z Q) X.xe s
def PS (X:Cx)(st:Stmt)(t:TS):Prop:=
 ∀ (pins:List (Addr×Obj)) (s:Shared) (Z : St) (H:Hp) (D:Ends),Inv X pins Z H s->t D Z H->wpAny (model X.prog X.w) X.A (exec st X.env) (SP X pins D) X.xe s
def PSs (X:Cx)(st:List Stmt)(t:TS):Prop:=
 ∀ (pins:List (Addr×Obj)) (s:Shared) (Z : St) (H:Hp) (D:Ends),Inv X pins Z H s->t D Z H->wpAny (model X.prog X.w) X.A (execs st X.env) (SP X pins D) X.xe s
theorem thn {α : Type}{t:Sem α}{Q Q':α->Shared->Prop}{M:Model}{A:Around}{E:Value->Shared->Prop}{s:Shared}(h:wpAny M A t Q E s)(hQ:∀ a s,Q a s->Q' a s):wpAny M A t Q' E s:=wpAny_mono h hQ fun _ _ x=>x
end L2
namespace L2
open PySem PySem.Spec PyProof.Rows
section
variable {X:Cx}
def T3 (i:Nat):TE:=fun Z H Q=>∃ v,Z[i]?=some (some v)/\Q v H
def tC (v:V):TE:=fun _ H Q=>Q v H
theorem PB {i:Nat}{x:Str}{pos:Pos}(hN:X.N[i]?=some x)(hv:Vis X.env.scope x)(hd:(x==("__debug__" : Str))=false:=by decide)(hcd:(x==("__classdict__" : Str))=false:=by decide):PE X (.Name x pos) (T3 i):=by
 intro pins s Z H Q I h
 obtain ⟨v,e,h⟩:=h
 obtain ⟨m,hn,hl⟩:=I.loc
 obtain ⟨u,r,l⟩:=hl i x v hN e hv
 have fin:EP X pins Z Q u s:=⟨v,H,I,r,h⟩
 rcases l with ⟨hk,hm⟩ | ⟨hk,c,hc,hcell⟩
 ·exact wpAny_Name (wpAny_loadName_local I.ok.kind hk hn hm fin) hd
 ·rcases hk with hk | hk
  ·exact wpAny_Name (wpAny_loadName_cell I.ok.kind hk hc hcell fin) hd
  ·exact wpAny_Name (wpAny_loadName_free I.ok.kind hk hc hcell fin hcd) hd
theorem Ri {i j pos}:PE X (.Constant (.int i) j pos) (tC (.int i)):=fun _ _ _ H _ I h=>wpAny_Constant_int ⟨.int i,H,I.tok _,⟨_,rfl⟩,h⟩
theorem Uv {b j pos}:PE X (.Constant (.bool b) j pos) (tC (.bl b)):=fun _ _ _ H _ I h=>Constant_bool ⟨.bl b,H,I,rfl,h⟩
theorem Qf {j pos}:PE X (.Constant .none j pos) (tC .non):=fun _ _ _ H _ I h=>Constant_none ⟨.non,H,I,rfl,h⟩
theorem Qk {x j pos}:PE X (.Constant (.str x) j pos) (tC (.str x)):=fun _ _ _ H _ I h=>Calls.Constant_str ⟨.str x,H,I.tok _,⟨_,rfl⟩,h⟩
def Gl (X:Cx)(x:Str):Prop:=X.env.kindOf x=some .globalImplicit
theorem pR {E:Value->Shared->Prop}{pins:List (Addr×Obj)}{s:Shared}{Z : St}{H:Hp}{x:Str}{u:Value}{pos:Pos}{Q:Value->Shared->Prop}(I:Inv X pins Z H s)(hg:Gl X x)(hm:X.mg x=some u)(h:Q u s)
  (hd:(x==("__debug__" : Str))=false:=by decide):wpAny (model X.prog X.w) X.A (eval (.Name x pos) X.env) Q E s:=
 Calls.Name_function_global I.ok.kind hg (Calls.loadGlobal_global (by rw [I.ok.glob];exact I.mod.glob.keeps I.bk) hm h) hd
theorem iW {E:Value->Shared->Prop}{pins:List (Addr×Obj)}{s:Shared}{Z : St}{H:Hp}{x:Str}{u:Value}{pos:Pos}{Q:Value->Shared->Prop}(I:Inv X pins Z H s)(hg:Gl X x)(hm:X.mg x=none)(hv:bootBuiltins x=some u)(h:Q u s)
  (hn:x ≠ "__name__":=by decide) (hd:(x==("__debug__" : Str))=false:=by decide):wpAny (model X.prog X.w) X.A (eval (.Name x pos) X.env) Q E s:=by
 obtain ⟨mb,h1,h2⟩:=I.mod.blt
 exact Calls.Name_function_global I.ok.kind hg (Calls.loadGlobal_builtin (by rw [I.ok.glob];exact I.mod.glob.keeps I.bk) hm (by rw [I.ok.blt];exact h1.keeps I.bk) ((h2 x hn).trans hv) h) hd
theorem d8 {x:Str}{v:V}{u:Value}{pos:Pos}(hg:Gl X x)(hm:X.mg x=some u)(r:RelV v u)(hd:(x==("__debug__" : Str))=false:=by decide):PE X (.Name x pos) (tC v):=
 fun _ _ _ H _ I h=>pR I hg hm ⟨v,H,I,r,h⟩ hd
theorem jx {x:Str}{v:V}{u:Value}{pos:Pos}(hg:Gl X x)(hm:X.mg x=none)(hv:bootBuiltins x=some u)(r:RelV v u)(hn:x ≠ "__name__":=by decide)(hd:(x==("__debug__" : Str))=false:=by decide):PE X (.Name x pos) (tC v):=
 fun _ _ _ H _ I h=>iW I hg hm hv ⟨v,H,I,r,h⟩ hn hd
variable {a b:Expr}{ta tb:TE}{pos:Pos}
variable {tA tB':TT}{rest:List Expr}
def Xx (t u:TT):TT:=fun Z H Q=>t Z H fun c H1=>if c=true then u Z H1 Q else Q false H1
def tOr (t u:TT):TT:=fun Z H Q=>t Z H fun c H1=>if c=true then Q true H1 else u Z H1 Q
def WQ (t:TT):TT:=fun Z H Q=>t Z H fun c H1=>Q (!c) H1
theorem LR (ha:PT X a tA):PW X (.BoolOp .And [a] pos) tA:=by
 intro wh pins s Z H Q I h
 refine isTrue_and (thn (ha pins s Z H Q I h) fun c s1 e=>?_)
 cases c with
 | true=>exact isTrue_and_nil e
 | false=>exact e
theorem Ot (ha:PT X a tA):PW X (.BoolOp .Or [a] pos) tA:=by
 intro wh pins s Z H Q I h
 refine isTrue_or (thn (ha pins s Z H Q I h) fun c s1 e=>?_)
 cases c with
 | false=>exact isTrue_or_nil e
 | true=>exact e
theorem PL (ha:PT X a tA)(hb:PW X (.BoolOp .And (b::rest) pos) tB'):PW X (.BoolOp .And (a::b::rest) pos) (Xx tA tB'):=by
 intro wh pins s Z H Q I h
 refine isTrue_and (thn (ha pins s Z H _ I h) fun c s1 ⟨H1,I1,q1⟩=>?_)
 cases c with
 | true=>exact hb wh pins s1 Z H1 Q I1 q1
 | false=>exact ⟨H1,I1,q1⟩
theorem Tp (ha:PT X a tA)(hb:PW X (.BoolOp .Or (b::rest) pos) tB'):PW X (.BoolOp .Or (a::b::rest) pos) (tOr tA tB'):=by
 intro wh pins s Z H Q I h
 refine isTrue_or (thn (ha pins s Z H _ I h) fun c s1 ⟨H1,I1,q1⟩=>?_)
 cases c with
 | true=>exact ⟨H1,I1,q1⟩
 | false=>exact hb wh pins s1 Z H1 Q I1 q1
theorem RJ (ha:PT X a tA):PT X (.UnaryOp .Not a pos) (WQ tA):=by
 intro pins s Z H Q I h
 exact isTrue_not (ha pins s Z H (fun c H1=>Q (!c) H1) I h)
def Uj (ta tb:TE):TE:=fun Z H Q=>ta Z H fun x H1=>∃ c,x=.bl c/\if c=true then tb Z H1 Q else Q (.bl false) H1
def U5 (ta:TE):TE:=fun Z H Q=>ta Z H fun x H1=>∃ c,x=.bl c/\Q (.bl (!c)) H1
theorem QZ {op}{t:TE}(h:PE X a t):PE X (.BoolOp op [a] pos) t:=fun pins s Z H Q I hw=>BoolOp_one (h pins s Z H Q I hw)
theorem NK (ha:PE X a ta)(hb:PE X (.BoolOp .And (b::rest) pos) tb):PE X (.BoolOp .And (a::b::rest) pos) (Uj ta tb):=by
 intro pins s Z H Q I h
 refine BoolOp_and (thn (ha pins s Z H _ I h) fun v s1 ⟨x,H1,I1,r1,q1⟩=>?_)
 obtain ⟨c,rfl,q1⟩:=q1
 cases r1
 refine wpAny_truthy_bool ?_
 cases c with
 | true=>exact hb pins s1 Z H1 Q I1 q1
 | false=>exact ⟨.bl false,H1,I1,rfl,q1⟩
theorem Ou (ha:PE X a ta):PE X (.UnaryOp .Not a pos) (U5 ta):=by
 intro pins s Z H Q I h
 refine UnaryOp_ (thn (ha pins s Z H _ I h) fun v s1 ⟨x,H1,I1,r1,q1⟩=>?_)
 obtain ⟨c,rfl,q1⟩:=q1
 cases r1
 exact not_of (wpAny_truthy_bool ⟨.bl (!c),H1,I1,rfl,q1⟩)
def tIf (t:TT)(ta tb:TE):TE:=fun Z H Q=>t Z H fun c H1=>if c=true then ta Z H1 Q else tb Z H1 Q
theorem Ga {c:Expr}(hc:PT X c tA)(ha:PE X a ta)(hb:PE X b tb):PE X (.IfExp c a b pos) (tIf tA ta tb):=by
 intro pins s Z H Q I h
 refine wpAny_IfExp (thn (hc pins s Z H _ I h) fun d s1 ⟨H1,I1,q1⟩=>?_)
 cases d with
 | true=>exact ha pins s1 Z H1 Q I1 q1
 | false=>exact hb pins s1 Z H1 Q I1 q1
end
end L2
namespace L2
open PySem PySem.Spec PyProof.Rows
def SqL (K:Yh)(H:Hp)(a:Addr)(xs:List V):Prop:=
 Rd H a (.lst xs) \/
  ∃ (o:Obj) (its:Array Value) (n:Nat),K.lookup a=some o/\o.cls=.type "list"/\o.dict=none/\o.data=.seq its n/\its.size<=sizeLine/\Vals xs its.toList
def SqT (K:Yh)(H:Hp)(a:Addr)(xs:List V):Prop:=
 Rd H a (.tup xs) \/
  ∃ (o:Obj) (its:Array Value) (n:Nat),K.lookup a=some o/\o.cls=.type "tuple"/\o.data=.seq its n/\its.size<=sizeLine/\Vals xs its.toList/\o.dict=none
def W6:Value->Option V
 | .none=>some .non
 | .bool b=>some (.bl b)
 | .int i _=>some (.int i)
 | .str x _=>some (.str x)
 | .bytes b _=>some (.byt b)
 | .float b _=>some (.flt b)
 | .ref a=>some (.ref a)
 | .type n=>some (.ty n)
 | _=>none
theorem RelV.abs {x:V}{u:Value}(r:RelV x u):W6 u=some x:=by
 cases x with
 | non=>cases r;rfl
 | bl _=>cases r;rfl
 | int _=>obtain ⟨t,rfl⟩:=r;rfl
 | str _=>obtain ⟨t,rfl⟩:=r;rfl
 | byt _=>obtain ⟨t,rfl⟩:=r;rfl
 | flt _=>obtain ⟨t,rfl⟩:=r;rfl
 | ref _=>cases r;rfl
 | ty _=>cases r;rfl
theorem RelV.inj {x y:V}{u:Value}(r:RelV x u)(q:RelV y u):x=y:=Option.some.inj (r.abs.symm.trans q.abs)
theorem Vals.inj:∀ {xs ys:List V} {us:List Value},Vals xs us->Vals ys us->xs=ys
 | _,_,_,.nil,.nil=>rfl
 | _,_,_,.cons r t,.cons r' t'=>by rw [r.inj r',Vals.inj t t']
section
variable {X:Cx}{pins:List (Addr×Obj)}{Z : St}{H:Hp}{s:Shared}{a:Addr}{xs ys:List V}
theorem SqL.of {K:Yh}(h:H a=some (.lst xs)):SqL K H a xs:=.inl (.inl h)
theorem SqT.of {K:Yh}(h:H a=some (.tup xs)):SqT K H a xs:=.inl (.inl h)
theorem Inv.list (I:Inv X pins Z H s)(h:SqL X.K H a xs):∃ its:List Value,Vals xs its/\PlainL s.heap a its.toArray/\xs.length<=sizeLine:=by
 rcases h with h | ⟨o,its,n,hk,hc,hd,hs,hz,r⟩
 ·obtain ⟨z,its,n,r,e⟩:=h.ok I.hok
  exact ⟨its,r,⟨_,n,e,rfl,rfl,rfl⟩,z⟩
 ·refine ⟨its.toList,r,⟨o,n,I.kIn a o hk,hc,hd,by simpa using hs⟩,?_⟩
  have e:=r.length
  simp only [Array.length_toList] at e
  omega
theorem Inv.tupO (I:Inv X pins Z H s)(h:SqT X.K H a xs):∃ its:List Value,Vals xs its/\zN s.heap a its.toArray/\xs.length<=sizeLine:=by
 rcases h with h | ⟨o,its,n,hk,hc,hs,hz,r,hd⟩
 ·obtain ⟨z,its,r,p⟩:=h.ok I.hok
  exact ⟨its,r,p,z⟩
 ·refine ⟨its.toList,r,⟨o,I.kIn a o hk,hc,⟨n,by simpa using hs⟩,hd⟩,?_⟩
  have e:=r.length
  simp only [Array.length_toList] at e
  omega
theorem Inv.tuple (I:Inv X pins Z H s)(h:SqT X.K H a xs):∃ its:List Value,Vals xs its/\IsTup s.heap a its.toArray/\xs.length<=sizeLine:=let ⟨its,r,p,z⟩:=I.tupO h;⟨its,r,p.tup,z⟩
theorem Inv.list_inj (I:Inv X pins Z H s)(h:SqL X.K H a xs)(h':SqL X.K H a ys):xs=ys:=by
 obtain ⟨its,r,⟨o,n,e,_,_,d⟩,_⟩:=I.list h
 obtain ⟨its',r',⟨o',n',e',_,_,d'⟩,_⟩:=I.list h'
 rw [e] at e';cases e'
 rw [d] at d'
 injection d' with d1 _
 have:its=its':=by simpa using congrArg Array.toList d1
 subst this
 exact r.inj r'
theorem Inv.tuple_inj (I:Inv X pins Z H s)(h:SqT X.K H a xs)(h':SqT X.K H a ys):xs=ys:=by
 obtain ⟨its,r,⟨o,e,_,n,d⟩,_⟩:=I.tuple h
 obtain ⟨its',r',⟨o',e',_,n',d'⟩,_⟩:=I.tuple h'
 rw [e] at e';cases e'
 rw [d] at d'
 injection d' with d1 _
 have:its=its':=by simpa using congrArg Array.toList d1
 subst this
 exact r.inj r'
end
abbrev Cx.wish (X:Cx)(E:Value->Shared->Prop):Cx:={ X with xe:=E }
abbrev Cx.nox (X:Cx):Cx:=X.wish fun _ _=>False
theorem Cx.Ok.wish {X:Cx}(ok:X.Ok)(E:Value->Shared->Prop):(X.wish E).Ok:=
 ⟨ok.mod,ok.kind,ok.glob,ok.blt,ok.above,ok.inj,ok.has,ok.cab,ok.hd,ok.qt,ok.frames,ok.stk,ok.exf,ok.bs,ok.bsz,ok.noex,ok.exfs,ok.funs,ok.frf⟩
theorem Cx.Ok.unwish {X:Cx}{E:Value->Shared->Prop}(ok:(X.wish E).Ok):X.Ok:=
 ⟨ok.mod,ok.kind,ok.glob,ok.blt,ok.above,ok.inj,ok.has,ok.cab,ok.hd,ok.qt,ok.frames,ok.stk,ok.exf,ok.bs,ok.bsz,ok.noex,ok.exfs,ok.funs,ok.frf⟩
section
variable {X:Cx}{pins:List (Addr×Obj)}{Z : St}{H:Hp}{s:Shared}{E:Value->Shared->Prop}
theorem Inv.wish (I:Inv X pins Z H s)(E:Value->Shared->Prop):Inv (X.wish E) pins Z H s:=⟨I.ok.wish E,I.os,I.bare,I.base,I.loc,I.cell,I.free,I.freeC,I.pin,I.hok,I.len⟩
theorem Inv.unwish (I:Inv (X.wish E) pins Z H s):Inv X pins Z H s:=⟨I.ok.unwish,I.os,I.bare,I.base,I.loc,I.cell,I.free,I.freeC,I.pin,I.hok,I.len⟩
theorem SP.unwish {D:Ends}{f:Flow}{s':Shared}(h:SP (X.wish E) pins D f s'):SP X pins D f s':=by
 cases f with
 | next=>obtain ⟨Z',H',I,q⟩:=h;exact ⟨Z',H',I.unwish,q⟩
 | brk=>obtain ⟨Z',H',I,q⟩:=h;exact ⟨Z',H',I.unwish,q⟩
 | cont=>obtain ⟨Z',H',I,q⟩:=h;exact ⟨Z',H',I.unwish,q⟩
 | ret u=>obtain ⟨v,Z',H',I,r,q⟩:=h;exact ⟨v,Z',H',I.unwish,r,q⟩
theorem PSs.nox {st:List Stmt}{t:TS}(h:PSs X.nox st t):PSs X st t:=fun pins s Z H D I hw=>
 wpAny_mono (h pins s Z H D (I.wish _) hw) (fun _ _ q=>q.unwish) fun _ _ z=>False.elim z
end
section
variable {X:Cx}{st:Stmt}{rest:List Stmt}{t u:TS}{e:Expr}{te:TE}{pos:Pos}
def Vv:TS:=fun D Z H=>D.nx Z H
def XC (t u:TS):TS:=fun D Z H=>t { D with nx:=u D } Z H
theorem KQ:PSs X [] Vv:=fun _ _ Z H _ I h=>wpAny_execs_nil ⟨Z,H,I,h⟩
theorem xP (h1:PS X st t)(h2:PSs X rest u):PSs X (st::rest) (XC t u):=by
 intro pins s Z H D I h
 refine wpAny_execs_cons (thn (h1 pins s Z H { D with nx:=u D } I h) fun f s1 q=>?_)
 cases f with
 | next=>
  obtain ⟨Z',H',I',q⟩:=q
  exact h2 pins s1 Z' H' D I' q
 | ret v=>exact q
 | brk=>exact q
 | cont=>exact q
theorem zQ (h1:PS X st t):PSs X [st] t:=by
 intro pins s Z H D I h
 refine wpAny_execs_cons (thn (h1 pins s Z H D I h) fun f s1 q=>?_)
 cases f with
 | next=>exact wpAny_execs_nil q
 | ret v=>exact q
 | brk=>exact q
 | cont=>exact q
theorem Inv.quiet {pins:List (Addr×Obj)}{Z : St}{H:Hp}{s:Shared}(I:Inv X pins Z H s):interactive X.env=false:=by simp [interactive,I.ok.kind]
def T4 (te:TE):TS:=fun D Z H=>te Z H fun _ H1=>D.nx Z H1
theorem Ar (he:PE X e te)(hs:swapsWith e none pos.line X.env=pure false:=by rfl):PS X (.Expr e pos) (T4 te):=by
 intro pins s Z H D I h
 exact wpAny_Expr_any (thn (he pins s Z H _ I h) fun v s1 ⟨x,H1,I1,r1,q1⟩=>⟨Z,H1,I1,q1⟩) I.quiet hs
def WM (te:TE):TS:=fun D Z H=>te Z H D.rt
theorem RN (he:PE X e te):PS X (.Return (some e) pos) (WM te):=by
 intro pins s Z H D I h
 exact wpAny_Return_some (thn (he pins s Z H _ I h) fun v s1 ⟨x,H1,I1,r1,q1⟩=>⟨x,Z,H1,I1,r1,q1⟩)
def Xb (c:TT)(t u:TS):TS:=fun D Z H=>c Z H fun b H1=>if b=true then t D Z H1 else u D Z H1
theorem Q8 {c:Expr}{a b:List Stmt}{tc:TT}(hc:PT X c tc)(ha:PSs X a t)(hb:PSs X b u):PS X (.If c a b pos) (Xb tc t u):=by
 intro pins s Z H D I h
 refine wpAny_If (thn (hc pins s Z H _ I h) fun d s1 ⟨H1,I1,q1⟩=>?_)
 cases d with
 | true=>exact ha pins s1 Z H1 D I1 q1
 | false=>exact hb pins s1 Z H1 D I1 q1
end
abbrev TG:=V->St->Hp->(St->Hp->Prop)->Prop
abbrev TGs:=List V->St->Hp->(St->Hp->Prop)->Prop
def PG (X:Cx)(target:Expr)(t:TG):Prop:=
 ∀ (pins:List (Addr×Obj)) (s:Shared) (Z : St) (H:Hp) (v:V) (u:Value) (Q:St->Hp->Prop),Inv X pins Z H s->RelV v u->t v Z H Q ->
  wpAny (model X.prog X.w) X.A (assign target X.env u) (fun _ s'=>∃ Z' H',Inv X pins Z' H' s'/\Q Z' H') X.xe s
def PGs (X:Cx)(ts:List Expr)(t:TGs):Prop:=
 ∀ (pins:List (Addr×Obj)) (s:Shared) (Z : St) (H:Hp) (vs:List V) (us:List Value) (Q:St->Hp->Prop),Inv X pins Z H s->Vals vs us->t vs Z H Q ->
  wpAny (model X.prog X.w) X.A (assignInOrder ((assignEach ts X.env).map (·.2)) us) (fun _ s'=>∃ Z' H',Inv X pins Z' H' s'/\Q Z' H') X.xe s
abbrev JV:=V->V->V->Hp->(Hp->Prop)->Prop
def SX (X:Cx)(t:JV):Prop:=
 ∀ (pins:List (Addr×Obj)) (s:Shared) (Z : St) (H:Hp) (o i v:V) (ov iv u:Value) (Q:Hp->Prop),Inv X pins Z H s->RelV o ov->RelV i iv->RelV v u->t o i v H Q ->
  wpAny (model X.prog X.w) X.A (setItem ov iv u) (fun _ s'=>∃ H',Inv X pins Z H' s'/\Q H') X.xe s
section
variable {X:Cx}{pos:Pos}
def Hl (i:Nat):TG:=fun v Z H Q=>Q (Z.set i (some v)) H
theorem bA {i:Nat}{x:Str}(hN:X.N.Nodup)(hi:X.N[i]?=some x)(hx:Loc X.env.scope x)(hf:X.fn x=true\/X.env.scope.names.lookup x=some .local:=by first | exact .inl rfl | exact .inr rfl | assumption):PG X (.Name x pos) (Hl i):=by
 intro pins s Z H v u Q I r h
 exact wpAny_assign_Name (pW I hN hi hx r (fun s' I'=>⟨_,H,I',h⟩) hf)
def Xq:TGs:=fun vs Z H Q=>vs=[]/\Q Z H
def Ud (t:TG)(u:TGs):TGs:=fun vs Z H Q=>∃ v r,vs=v::r/\t v Z H fun Z' H'=>u r Z' H' Q
theorem Dm:PGs X [] Xq:=by
 intro pins s Z H vs us Q I r h
 obtain ⟨e,h⟩:=h
 subst e
 cases r
 exact assignInOrder_nil ⟨Z,H,I,h⟩
theorem qz {e:Expr}{es:List Expr}{t:TG}{u:TGs}(h1:PG X e t)(h2:PGs X es u)
  (hs:(assignEach (e::es) X.env).map (·.2)=assign e X.env::(assignEach es X.env).map (·.2):=by rfl):PGs X (e::es) (Ud t u):=by
 intro pins s Z H vs us Q I r h
 obtain ⟨v,vr,e1,h⟩:=h
 subst e1
 cases r with
 | cons r rr=>
  rw [hs]
  refine assignInOrder_cons (thn (h1 pins s Z H _ _ _ I r h) fun _ s1 ⟨Z1,H1,I1,q1⟩=>?_)
  exact h2 pins s1 Z1 H1 _ _ Q I1 rr q1
def W9 (K:Yh)(n:Nat)(t:TGs):TG:=fun v Z H Q=>∃ a xs,v=.ref a/\SqT K H a xs/\xs.length=n/\t xs Z H Q
theorem Oz {es:List Expr}{k:Nat}{t:TGs}{n:Nat}(hc:X.calm=true)(h:PGs X es t)
  (hn:(assignEach es X.env).length=n:=by rfl) (hst:(assignEach es X.env).findIdx? (·.1)=none:=by rfl):PG X (.Tuple es k pos) (W9 X.K n t):=by
 intro pins s Z H v u Q I r hw
 obtain ⟨a,xs,e1,hq,hl,hw⟩:=hw
 subst e1
 cases r
 obtain ⟨its,rv,ht,hz⟩:=I.tuple hq
 refine assign_Tuple_tuple (I.ok.hd hc) ht (by simp [hn,<-hl,rv.length]) hst fun h' hx=>?_
 have I1:Inv X pins Z H { s with heap:=h' }:=I.kept (t':=s.toks) fun b o e=>hx b o (Yg (X4 e)) e
 exact h pins _ Z H xs _ Q I1 (by simpa using rv) hw
def Xn (to ti:TE)(t:JV):TG:=fun v Z H Q=>to Z H fun o H1=>ti Z H1 fun i H2=>t o i v H2 fun H3=>Q Z H3
theorem Qg {o i:Expr}{to ti:TE}{t:JV}(ho:PE X o to)(hi:PE X i ti)(hs:SX X t)
  (ha:∀ v,assign (.Subscript o i pos) X.env v=(do
   let ov <-holding [v] (eval o X.env)
   let iv <-holding [v,ov] (eval i X.env)
   standAt pos
   holding [v,ov,iv] (setItem ov iv v)
   release [v,ov,iv] []):=by intro _;rfl):PG X (.Subscript o i pos) (Xn to ti t):=by
 intro pins s Z H v u Q I r h
 rw [ha]
 refine XS (wpAny_holding (thn (ho pins s Z H _ I h) fun ov s1 ⟨x,H1,I1,r1,q1⟩=>?_))
 refine XS (wpAny_holding (thn (hi pins s1 Z H1 _ I1 q1) fun iv s2 ⟨y,H2,I2,r2,q2⟩=>?_))
 refine XS (wpAny_standAt (XS (wpAny_holding (thn (hs pins s2 Z H2 x y v ov iv u _ I2 r1 r2 r q2) fun _ s3 ⟨H3,I3,q3⟩=>?_))))
 exact wpAny_release ⟨Z,H3,I3,q3⟩
def Sx (te:TE)(g:TG):TS:=fun D Z H=>te Z H fun x H1=>g x Z H1 D.nx
theorem Pr {tg e:Expr}{te:TE}{g:TG}(he:PE X e te)(hg:PG X tg g)(hs:swapsWithSole [tg] e pos.line X.env=pure false:=by rfl)(hw:swappedStores [tg] e X.env=pure none:=by rfl)
  (h1:(assignEach [tg] X.env).map (·.2)=[assign tg X.env]:=by rfl):PS X (.Assign [tg] e pos) (Sx te g):=by
 intro pins s Z H D I h
 refine wpAny_Assign_stores (thn (he pins s Z H _ I h) fun v s1 ⟨x,H1,I1,r1,q1⟩=>?_) hs hw
 rw [h1]
 exact thn (hg pins s1 Z H1 x v _ I1 r1 q1) fun _ s2 q=>q
theorem Ik {i:Nat}{x:Str}{e:Expr}{te:TE}{pos':Pos}(hN:X.N.Nodup)(hi:X.N[i]?=some x)(hx:Loc X.env.scope x)(he:PE X e te)(hs:swapsWith e (some (.Name x pos')) pos.line X.env=pure false:=by rfl)(hf:X.fn x=true\/X.env.scope.names.lookup x=some .local:=by first | exact .inl rfl | exact .inr rfl | assumption) :
  PS X (.Assign [.Name x pos'] e pos) (Sx te (Hl i)):=by
 intro pins s Z H D I h
 refine wpAny_Assign_Name (thn (he pins s Z H _ I h) fun v s1 ⟨y,H1,I1,r1,q1⟩=>?_) hs
 exact pW I1 hN hi hx r1 (fun s2 I2=>⟨_,H1,I2,q1⟩) hf
end
section
variable {X:Cx}{pos:Pos}
end
theorem qw:entryFor table "proto.unchain" = some Builtin.«proto.unchain»:=entryFor_of_tree (by kernel_rfl)
def fB (A:Around)(h:Heap):Prop:=∀ v,A.handled=some v->∃ (a:Addr) (o:Obj) (vs:Array Value),v=.ref a/\h.get? a=some o/\o.data=.fields vs/\vs[2]?=some .none
theorem oJ {A:Around}{P:Program}{w:World}{H:Hp}{h:Heap}(q:Quiet A H)(x:HOk P w H h):fB A h:=fun v e=>by
 obtain ⟨a,o,u,vs,h1,h2,h3,h4⟩:=q v e
 exact ⟨a,o,vs,h1,(x a _ h2).1,h3,h4⟩
theorem oN {α : Type}{prog:Program}{w:World}{A:Around}{E:Value->Shared->Prop}{s:Shared}{e:Addr}{oe:Obj}{ws:Array Value}{Q:α->Shared->Prop}(hq:fB A s.heap)(he:s.heap.get? e=some oe)(hd:oe.data=.fields ws)(hz:2<ws.size)(hne:∀ v,A.handled=some v->v≠.ref e)
  (h:∀ h',(∀ b,b≠e->h'.get? b=s.heap.get? b)->(∃ o',h'.get? e=some o'/\o'.cls=oe.cls)->E (.ref e) { s with heap:=h' }):wpAny (model prog w) A (raiseNew (.ref e):Sem α) Q E s:=by
 unfold raiseNew
 refine XS (wpAny_handled ?_)
 cases hh:A.handled with
 | none=>
  dsimp only
  refine XS (X3 (wpAny_throw ?_))
  exact h s.heap (fun _ _=>rfl) ⟨oe,he,rfl⟩
 | some v=>
  obtain ⟨a,o,vs,rfl,ho,hdo,h2⟩:=hq v hh
  dsimp only
  have ne:(Value.ref a != Value.ref e)=true:=by
   have:=hne _ hh
   simp only [bne_iff_ne,ne_eq]
   exact this
  rw [if_pos ne]
  refine XS (wpAny_holding (wpAny_runValue (codeAny_builtin qw ?_)))
  unfold Builtin.«proto.unchain»
  dsimp only
  refine XS (wpAny_field ho hdo h2 ?_)
  rw [if_pos (show (Value.none==Value.none)=true from rfl)]
  refine XS (X3 (X3 ?_))
  dsimp only
  refine XS ?_
  unfold updateField
  refine XS (wpAny_load he ?_)
  rw [hd]
  dsimp only
  rw [if_pos hz]
  refine wpAny_update he (wpAny_throw ?_)
  have hd3:=Obj.data_mapFields hd (·.setIfInBounds 2 (Value.ref a))
  exact h _ (fun b hb=>Heap.get?_update_other _ _ (Ne.symm hb)) ⟨_,Heap.get?_update_self _ he (Obj.isFreed_of_fields hd3),Obj.cls_mapFields _ _⟩
theorem CQ {prog:Program}{w:World}{A:Around}{E:Value->Shared->Prop}{s:Shared}{it:Addr}{x left step:Int}{Q:Option Value->Shared->Prop}(hh:fB A s.heap)(hit:IsRangeIter s.heap it x left step)(hleft:left<=0)
  (hQ:∀ h',Heap.ExtBut it s.heap h'->Q none { s with heap:=h' }):wpAny (model prog w) A (pyNext (.ref it)) Q E s:=by
 have hT:s.TypeIs (.ref it) "range_iterator":=⟨_,hit,rfl⟩
 unfold pyNext
 refine XS (wpAny_attempt (wpAny_callSpecial?_slot (name:=Str.ofString "__next__") hT F.slot_range_iterator_next
  (wpAny_call_entry F.slot_range_iterator_next hT F.entry_range_iterator_next ?_ (F.args_range_iterator_next_1 _))))
 show wpAny _ _ (field (.ref it) 0 >>= _) _ _ s
 refine XS (wpAny_field hit rfl (x:=rawInt x) rfl ?_)
 show wpAny _ _ (field (.ref it) 1 >>= _) _ _ s
 refine XS (wpAny_field hit rfl (x:=rawInt left) rfl ?_)
 show wpAny _ _ (field (.ref it) 2 >>= _) _ _ s
 refine XS (wpAny_field hit rfl (x:=rawInt step) rfl ?_)
 show wpAny _ _ (if left<=0 then _ else _) _ _ s
 rw [if_pos hleft]
 refine XS (wpAny_rule ?_)
 refine XS ?_
 show wpAny _ _ (newExc (.type "StopIteration") [] >>= _) _ _ _
 refine XS ?_
 simp only [newExc,newTuple]
 refine XS (wpAny_newObj_type ?_ (by size_fits))
 refine XS (m:=firstArgMember _ _) (wpAny_of_eq (a:=Value.none) (by first | rfl | (simp only [firstArgMember];rfl)) ?_)
 refine wpAny_newObj_type ?_ (by size_fits)
 refine oN (A:=A.in1) (fun v e=>?_) (Heap.get?_push_size _ rfl) rfl (by simp;omega) (fun v e=>?_) fun h' h1 ⟨o',h2,h3⟩=>?_
 ·obtain ⟨a,o,vs,r1,r2,r3⟩:=hh v e
  exact ⟨a,o,vs,r1,Heap.get?_push_of_some _ (Heap.get?_push_of_some _ r2),r3⟩
 ·obtain ⟨a,o,vs,r1,r2,r3⟩:=hh v e
  rw [r1]
  intro q
  have q:a=_:=Value.ref.inj q
  have:=X4 r2
  rw [q] at this
  exact absurd this (Nat.not_lt.mpr (by simp [Heap.push]))
 refine XS (wpAny_isInstance (T := "StopIteration") (b:=true) ⟨_,h2,h3⟩ isSubtype_stop ?_)
 refine X3 (hQ _ fun b o hb e=>?_)
 rw [h1 b ?_]
 ·exact Heap.get?_push_of_some _ (Heap.get?_push_of_some _ e)
 ·have:=X4 e
  exact Yg (Yd this (by simp [Heap.push]))
structure It where
 go:Nat->Hp->Prop
 yld:Nat->Hp->V->Hp->Prop
 stop:Nat->Hp->Prop
 cm:Bool
def zq (X:Cx)(pins:List (Addr×Obj))(H:Hp)(b:Addr):Prop:=
 H b=none/\b≠X.env.locals/\b∉X.fs/\(b∈X.ex\/X.s₀.heap.objs.size<=b)/\(∀ x c,X.env.cells.lookup x=some c->c≠b)/\∀ p∈X.pn++pins,p.1≠b
theorem Inv.fpOk {X:Cx}{pins:List (Addr×Obj)}{Z : St}{H H':Hp}{s:Shared}{b:Addr}(I:Inv X pins Z H s)(hb:s.heap.objs.size<=b)(hn:H' b=none):zq X pins H' b:=by
 refine ⟨hn,Nat.ne_of_gt (Yd I.lt hb),I.nofs hb,.inr (Ye I.sz hb),fun x c e z=>?_,fun p hp z=>?_⟩
 ·obtain ⟨v,q⟩:=I.cell x c e
  exact absurd (Yd q.lt (by rw [z];exact hb)) (Nat.lt_irrefl _)
 ·exact absurd (Yd (X4 (I.pin p hp).1) (by rw [z];exact hb)) (Nat.lt_irrefl _)
structure Turn (P:Program) (w:World) (K:Yh) (tg:Expr) (J:It) (fp:List Addr) (it:Addr) (tn:Nat->Heap->Prop):Prop where
 mem:it∈fp
 obj:∀ i h,tn i h->∀ b∈fp,∃ o,h.get? b=some o/\∀ v,o.data≠.cell v
 keep:∀ i h h',tn i h->(∀ b∈fp,∀ o,h.get? b=some o->h'.get? b=some o)->tn i h'
 item:∀ (X:Cx),X.prog=P->X.w=w->X.K=K->(J.cm=true->X.calm=true)->∀ (i:Nat) (pins:List (Addr×Obj)) (s:Shared) (Z : St) (H:Hp) (E:Value->Shared->Prop),Inv X pins Z H s->(∀ b∈fp,zq X pins H b)->tn i s.heap->J.go i H ->
  wpAny (model P w) X.A (pyNext (.ref it)) (fun r s1=>∃ u,r=some u /\
   wpAny (model P w) X.A (letOwnedTupleGo tg (.ref it) u) (fun _ s2=>∃ x H',Inv X pins Z H' s2/\RelV x u/\J.yld i H x H'/\tn (i+1) s2.heap/\∀ b∈fp,H' b=none) E s1) E s
 done:∀ (X:Cx),X.prog=P->X.w=w->X.K=K->(J.cm=true->X.calm=true)->∀ (i:Nat) (pins:List (Addr×Obj)) (s:Shared) (Z : St) (H:Hp) (E:Value->Shared->Prop),Inv X pins Z H s->(∀ b∈fp,zq X pins H b)->tn i s.heap->J.stop i H ->
  wpAny (model P w) X.A (pyNext (.ref it)) (fun r s1=>r=none/\Inv X pins Z H s1) E s
 self:∀ (A:Around) (i:Nat) (s:Shared) (Q:Value->Shared->Prop) (E:Value->Shared->Prop),tn i s.heap->Q (.ref it) s->wpAny (model P w) A (pyIter (.ref it)) Q E s
abbrev TI:=St->Hp->(It->Hp->Prop)->Prop
def PIE (X:Cx)(pins:List (Addr×Obj))(Z : St)(tg:Expr)(R:It->Hp->Prop)(itv:Value)(s2:Shared):Prop:=
 ∃ (it:Addr) (fp:List Addr) (tn:Nat->Heap->Prop) (J:It) (H':Hp),itv=.ref it/\Inv X pins Z H' s2/\Turn X.prog X.w X.K tg J fp it tn/\tn 0 s2.heap/\(∀ b∈fp,zq X pins H' b)/\R J H'
def PI (X:Cx)(tg iter:Expr)(wi:TI):Prop:=
 ∀ (pins:List (Addr×Obj)) (s:Shared) (Z : St) (H:Hp) (R:It->Hp->Prop),Inv X pins Z H s->wi Z H R ->
  wpAny (model X.prog X.w) X.A (eval iter X.env) (fun v s1=>wpAny (model X.prog X.w) X.A (pyIter v) (PIE X pins Z tg R) X.xe s1) X.xe s
theorem JF {M:Model}{A:Around}{E:Value->Shared->Prop}{s:Shared}{tg:Expr}{it:Addr}{u:Value}{o:Obj}{n:String}{vs:Array Value}{Q:Unit->Shared->Prop}(ho:s.heap.get? it=some o)(hc:o.cls=.type n)(hd:o.data=.fields vs)
    (hn:["enumerate", "zip", "dict_itemiterator", "dict_reverseitemiterator", "odict_iterator", "itertools.zip_longest", "itertools.pairwise"].contains n=false) (hQ:Q () s):wpAny M A (letOwnedTupleGo tg (.ref it) u) Q E s:=by
  unfold letOwnedTupleGo
  cases tg <;> first
    | exact X3 hQ
    | (cases u <;> first
        | exact X3 hQ
        | (refine XS (wpAny_load ho ?_)
           rw [hc,hd]
           show wpAny M A (if (["enumerate", "zip", "dict_itemiterator", "dict_reverseitemiterator", "odict_iterator", "itertools.zip_longest", "itertools.pairwise"].contains n&&vs[0]?==some (rawInt _))=true then _ else _) Q E s
           rw [if_neg (by intro h;rw [hn,Bool.false_and] at h;cases h)]
           exact X3 hQ))
def Itl (K:Yh)(a:Addr):It:=
 ⟨fun i H=>∃ xs x,SqL K H a xs/\xs[i]?=some x,fun i H x H'=>H'=H/\∀ xs,SqL K H a xs->xs[i]?=some x,fun i H=>∃ xs,SqL K H a xs/\xs.length<=i,true⟩
def Itt (K:Yh)(a:Addr):It:=
 ⟨fun i H=>∃ xs x,SqT K H a xs/\xs[i]?=some x,fun i H x H'=>H'=H/\∀ xs,SqT K H a xs->xs[i]?=some x,fun i H=>∃ xs,SqT K H a xs/\xs.length<=i,true⟩
def Itr (lo:Int)(n:Nat):It:=⟨fun i _=>i<n,fun i H x H'=>H'=H/\x=.int (lo+i),fun i _=>n<=i,false⟩
theorem Bb {P:Program}{w:World}{K:Yh}{tg:Expr}(a it:Addr):Turn P w K tg (Itl K a) [it] it (fun i h=>h.IsListIter it a i) where
 mem:=by simp
 obj:=fun i h st b hb=>by
  have e:b=it:=by simpa using hb
  subst e
  obtain ⟨o,e,c,d⟩:=st
  exact ⟨o,e,fun v z=>by rw [d] at z;cases z⟩
 keep:=fun i h h' st k=>st.at fun o e=>k it (by simp) o e
 item:=by
  intro X hP hw hK hc i pins s Z H E I hf st hg
  subst hP hw hK
  obtain ⟨xs,x,hq,hx⟩:=hg
  obtain ⟨its,rv,p,hz⟩:=I.list hq
  obtain ⟨u,hu,ru⟩:=rv.get hx
  obtain ⟨f0,f1,f2,f3,f4,f5⟩:=hf it (by simp)
  refine wpAny_pyNext_list_item st p.isList (x:=u) (by simpa using hu) fun h' st' sb=>?_
  have I1:Inv X pins Z H { s with heap:=h' }:=I.turned (t':=s.toks) (fun b o hb e=>(sb.2 b hb).trans e) f0 f1 f3 f4 f5
  obtain ⟨o,e,c,d⟩:=id st'
  exact ⟨u,rfl,JF (s:={ s with heap:=h' }) e c d (by decide) ⟨x,H,I1,ru,⟨rfl,fun ys hy=>by rw [I.list_inj hy hq];exact hx⟩,st',fun b hb=>(hf b hb).1⟩⟩
 done:=by
  intro X hP hw hK hc i pins s Z H E I hf st hg
  subst hP hw hK
  obtain ⟨xs,hq,hx⟩:=hg
  obtain ⟨its,rv,p,hz⟩:=I.list hq
  obtain ⟨f0,f1,f2,f3,f4,f5⟩:=hf it (by simp)
  have hl:=rv.length
  exact wpAny_pyNext_list_end (I.ok.hd (hc rfl)) st p.isList (by simp;omega) fun h' eb=>⟨rfl,I.turned (t':=s.toks) (fun b o hb e=>eb b o hb e) f0 f1 f3 f4 f5⟩
 self:=fun _ _ _ _ _ st h=>wpAny_pyIter_listiter st h
theorem yj {P:Program}{w:World}{K:Yh}{tg:Expr}(a it:Addr):Turn P w K tg (Itt K a) [it] it (fun i h=>h.IsTupleIter it a i) where
 mem:=by simp
 obj:=fun i h st b hb=>by
  have e:b=it:=by simpa using hb
  subst e
  obtain ⟨o,e,c,d⟩:=st
  exact ⟨o,e,fun v z=>by rw [d] at z;cases z⟩
 keep:=fun i h h' st k=>st.at fun o e=>k it (by simp) o e
 item:=by
  intro X hP hw hK hc i pins s Z H E I hf st hg
  subst hP hw hK
  obtain ⟨xs,x,hq,hx⟩:=hg
  obtain ⟨its,rv,p,hz⟩:=I.tuple hq
  obtain ⟨u,hu,ru⟩:=rv.get hx
  obtain ⟨f0,f1,f2,f3,f4,f5⟩:=hf it (by simp)
  refine wpAny_pyNext_tuple_item st (show s.heap.IsTuple a its.toArray from p) (x:=u) (by simpa using hu) fun h' st' sb=>?_
  have I1:Inv X pins Z H { s with heap:=h' }:=I.turned (t':=s.toks) (fun b o hb e=>(sb.2 b hb).trans e) f0 f1 f3 f4 f5
  obtain ⟨o,e,c,d⟩:=id st'
  exact ⟨u,rfl,JF (s:={ s with heap:=h' }) e c d (by decide) ⟨x,H,I1,ru,⟨rfl,fun ys hy=>by rw [I.tuple_inj hy hq];exact hx⟩,st',fun b hb=>(hf b hb).1⟩⟩
 done:=by
  intro X hP hw hK hc i pins s Z H E I hf st hg
  subst hP hw hK
  obtain ⟨xs,hq,hx⟩:=hg
  obtain ⟨its,rv,p,hz⟩:=I.tuple hq
  obtain ⟨f0,f1,f2,f3,f4,f5⟩:=hf it (by simp)
  have hl:=rv.length
  exact wpAny_pyNext_tuple_end (I.ok.hd (hc rfl)) st (show s.heap.IsTuple a its.toArray from p) (by simp;omega) fun h' eb=>⟨rfl,I.turned (t':=s.toks) (fun b o hb e=>eb b o hb e) f0 f1 f3 f4 f5⟩
 self:=fun _ _ _ _ _ st h=>wpAny_pyIter_tupleiter st h
theorem yZ {P:Program}{w:World}{K:Yh}{tg:Expr}(it:Addr)(lo:Int)(n:Nat):Turn P w K tg (Itr lo n) [it] it (fun i h=>IsRangeIter h it (lo+(i:Nat)*1) ((n:Int) - (i:Nat)) 1) where
 mem:=by simp
 obj:=fun i h st b hb=>by
  have e:b=it:=by simpa using hb
  subst e
  exact ⟨_,st,fun v z=>by
   have z':Data.fields _=Data.cell v:=z
   cases z'⟩
 keep:=fun i h h' st k=>k it (by simp) _ st
 item:=by
  intro X hP hw hK hc i pins s Z H E I hf st hg
  subst hP hw hK
  obtain ⟨f0,f1,f2,f3,f4,f5⟩:=hf it (by simp)
  refine wpAny_pyNext_range_item st (by have:i<n:=hg;omega) fun h' st' kk=>?_
  have I1:Inv X pins Z H { s with heap:=h',toks:=s.toks+1 }:=I.turned (fun b o hb e=>(kk.2 b hb).trans e) f0 f1 f3 f4 f5
  have st2:IsRangeIter h' it (lo+((i+1:Nat):Int)*1) ((n:Int) - ((i+1:Nat):Int)) 1:=by
   have e1:lo+((i+1:Nat):Int)*1=lo+((i:Nat):Int)*1+1:=by omega
   have e2:(n:Int) - ((i+1:Nat):Int)=(n:Int) - ((i:Nat):Int) - 1:=by omega
   rw [e1,e2]
   exact st'
  refine ⟨_,rfl,JF (s:={ s with heap:=h',toks:=s.toks+1 }) (n := "range_iterator") st' rfl rfl (by decide) ⟨.int (lo+i),H,I1,⟨s.toks,?_⟩,⟨rfl,rfl⟩,st2,fun b hb=>(hf b hb).1⟩⟩
  rw [Int.mul_one]
 done:=by
  intro X hP hw hK hc i pins s Z H E I hf st hg
  subst hP hw hK
  obtain ⟨f0,f1,f2,f3,f4,f5⟩:=hf it (by simp)
  exact CQ (oJ I.qt0 I.hok) st (by have:n<=i:=hg;omega) fun h' eb=>⟨rfl,I.turned (t':=s.toks) (fun b o hb e=>eb b o hb e) f0 f1 f3 f4 f5⟩
 self:=fun _ _ _ _ _ st h=>wpAny_pyIter_rangeiter st h
end L2
namespace L2
open PySem PySem.Spec PyProof.Rows
section
variable {X:Cx}{tg:Expr}
theorem Gi {pins:List (Addr×Obj)}{Z : St}{H:Hp}{s:Shared}{R:It->Hp->Prop}{E:Value->Shared->Prop}{lo hi:Int}{t u v:Tok}{tk:Nat}(I:Inv X pins Z H s)(h1:-(2^62)<=lo)(h2:lo<2^62)(h3:-(2^62)<=hi)(h4:hi<2^62)
  (q:R (Itr lo (hi - lo).toNat) H):wpAny (model X.prog X.w) X.A (pyIter (.ref s.heap.objs.size)) (PIE X pins Z tg R) E { s with heap:=s.heap.push { cls:=.type "range",data:=.fields #[.int lo t,.int hi u,.int 1 v] },toks:=tk }:=by
 refine wpAny_pyIter_range (IsRange.new ..) (small_one h1 h2 h3 h4) ?_
 have I1:Inv X pins Z H { s with heap:=s.heap.push { cls:=.type "range",data:=.fields #[.int lo t,.int hi u,.int 1 v] },toks:=tk }:=I.kept fun b o e=>Heap.get?_push_of_some _ e
 refine ⟨(s.heap.push { cls:=.type "range",data:=.fields #[.int lo t,.int hi u,.int 1 v] }).objs.size,[(s.heap.push { cls:=.type "range",data:=.fields #[.int lo t,.int hi u,.int 1 v] }).objs.size],_,_,H,rfl,
  I1.kept (t':=tk) fun b o e=>Heap.get?_push_of_some _ e,yZ _ lo (hi - lo).toNat,?_,fun b hb=>?_,q⟩
 ·have e1:lo+((0:Nat):Int)*1=lo:=by simp
  have e2:(((hi - lo).toNat:Nat):Int) - ((0:Nat):Int)=Builtin.Range.rangeSize lo hi 1:=by rw [rangeSize_one];split <;> omega
  show IsRangeIter _ _ (lo+((0:Nat):Int)*1) ((((hi - lo).toNat:Nat):Int) - ((0:Nat):Int)) 1
  rw [e1,e2]
  exact Heap.get?_push_size _ rfl
 ·have e:b=(s.heap.push { cls:=.type "range",data:=.fields #[.int lo t,.int hi u,.int 1 v] }).objs.size:=by simpa using hb
  subst e
  exact I1.fpOk (Yc _) (I1.hok.fresh (Yc _))
def Vu (ta:TA):TI:=fun Z H R=>ta Z H fun vs H1=>∃ j:Int,vs=[.int j]/\-(2^62)<=j/\j<2^62/\R (Itr 0 j.toNat) H1
theorem zZ {a:Expr}{ta:TA}{p pos:Pos}(hg:Gl X "range")(hm:X.mg "range" = none)(ha:PA X [a] ta)(hs:starEach [a] X.env=[(false,eval a X.env)]:=by rfl):PI X tg (.Call (.Name "range" p) [a] [] pos) (Vu ta):=by
 intro pins s Z H R I h
 refine Call_ (iW I hg hm boot_range (PyProof.Rows.callWith_type1 (thn (ha pos pins s Z H _ I h) fun us s1 ⟨vs,H1,I1,r1,q1⟩=>?_) hs rfl))
 obtain ⟨j,e,q1,q2,q⟩:=q1
 subst e
 cases r1 with
 | cons r rr=>
  cases rr
  obtain ⟨t,rfl⟩:=r
  exact call_range_1 (Gi I1 (by omega) (by omega) q1 q2 (by simpa using q))
def Xu (wi:TI)(g:TG)(tb:TS):TS:=fun D Z H=>wi Z H fun J H1=>∃ W:Nat->Nat->St->Hp->Prop,(∃ m,W 0 m Z H1)/\∀ i m Z H,W i m Z H ->
 (J.stop i H/\D.nx Z H)\/(J.go i H/\∃ N:St->Hp->Prop,(∀ Z' H',N Z' H'->∃ m',m'<m/\W (i+1) m' Z' H')/\∀ x H',J.yld i H x H'->g x Z H' fun Z2 H2=>tb { D with nx:=N,ct:=N,bk:=D.nx } Z2 H2)
def rQ (fp:List Addr)(h:Heap):List (Addr×Obj):=fp.filterMap fun b=>(h.get? b).map fun o=>(b,o)
theorem gQ {fp:List Addr}{h:Heap}{b:Addr}{o:Obj}(hb:b∈fp)(e:h.get? b=some o):(b,o)∈rQ fp h:=List.mem_filterMap.mpr ⟨b,hb,by rw [e];rfl⟩
theorem Dq {fp:List Addr}{h:Heap}{p:Addr×Obj}(hp:p∈rQ fp h):p.1∈fp/\h.get? p.1=some p.2:=by
 obtain ⟨b,hb,e⟩:=List.mem_filterMap.mp hp
 cases q:h.get? b with
 | none=>rw [q] at e;cases e
 | some o=>
  rw [q] at e
  have e':(b,o)=p:=Option.some.inj e
  subst e'
  exact ⟨hb,q⟩
theorem Inv.pinned {pins:List (Addr×Obj)}{Z : St}{H:Hp}{s:Shared}{fp:List Addr}(I:Inv X pins Z H s)(hf:∀ b∈fp,zq X pins H b)(ho:∀ b∈fp,∃ o,s.heap.get? b=some o/\∀ v,o.data≠.cell v):Inv X (pins++rQ fp s.heap) Z H s:=
 I.pins_of fun p hp=>(List.mem_append.mp hp).elim (fun z=>I.pin p (List.mem_append_right _ z)) fun z=>by
  obtain ⟨hb,e⟩:=Dq z
  obtain ⟨f0,f1,f2,_⟩:=hf p.1 hb
  obtain ⟨o,e',d⟩:=ho p.1 hb
  rw [e] at e';cases e'
  exact ⟨e,f0,f1,f2,d⟩
theorem Inv.unpinned {pins pl:List (Addr×Obj)}{Z : St}{H:Hp}{s:Shared}(I:Inv X (pins++pl) Z H s):Inv X pins Z H s:=I.pins_of fun p hp=>I.pin p (List.mem_append_right _ (List.mem_append_left _ hp))
theorem Jc {iter:Expr}{body:List Stmt}{wi:TI}{g:TG}{tb:TS}{pos:Pos}(hp:PassesOwn (model X.prog X.w) X.A X.env X.xe)(hc:X.calm=true)(hi:PI X tg iter wi)(hg:PG X tg g)(hb:PSs X body tb)
  (hs:∀ x,foldedSetIterable iter X.env x=pure x:=by intro _;rfl):PS X (.For tg iter body [] pos) (Xu wi g tb):=by
 intro pins s Z H D I h
 refine wpAny_For (thn (hi pins s Z H _ I h) fun v s1 h1=>thn h1 fun itv s2 h2=>?_) hs
 obtain ⟨it,fp,tn,J,H2,e,I2,T,st2,f2,W,⟨m0,w0⟩,turn⟩:=h2
 subst e
 -- what stays true of the iterator's objects through the loop
 have stat:∀ {H':Hp},(∀ b∈fp,H' b=none)->∀ b∈fp,zq X pins H' b:=fun hn b hb=>⟨hn b hb,(f2 b hb).2⟩
 refine codeAny_forLoop_any (fun n s'=>∃ i Z' H',Inv X pins Z' H' s'/\tn i s'.heap/\(∀ b∈fp,H' b=none)/\W i n Z' H') ?_ m0 ⟨0,Z,H2,I2,st2,fun b hb=>(f2 b hb).1,w0⟩
 rintro n s3 ⟨i,Z3,H3,I3,st3,fr3,w3⟩
 rcases turn i n Z3 H3 w3 with ⟨stop,qn⟩ | ⟨go,N,hN,step⟩
 ·refine wpAny_passesOwn hp (thn (T.done X rfl rfl rfl (fun _=>hc) i pins s3 Z3 H3 X.xe I3 (stat fr3) st3 stop) fun r s4 ⟨hr,I4⟩=>?_)
  subst hr
  exact wpAny_execs_nil ⟨Z3,H3,I4,qn⟩
 ·refine wpAny_passesOwn hp (thn (T.item X rfl rfl rfl (fun _=>hc) i pins s3 Z3 H3 X.xe I3 (stat fr3) st3 go) fun r s4 ⟨u,hr,h4⟩=>?_)
  subst hr
  refine wpAny_passesOwn hp (thn h4 fun _ s5 ⟨x,H5,I5,r5,y5,st5,fr5⟩=>?_)
  have I5':=I5.pinned (stat fr5) (T.obj _ _ st5)
  refine wpAny_passesOwn hp (thn (hg _ s5 Z3 H5 x u _ I5' r5 (step x H5 y5)) fun _ s6 ⟨Z6,H6,I6,q6⟩=>?_)
  refine wpAny_passesOwn hp (thn (hb _ s6 Z6 H6 _ I6 q6) fun f s7 q7=>?_)
  have again:∀ {Z7:St} {H7:Hp},Inv X (pins++rQ fp s5.heap) Z7 H7 s7->N Z7 H7->∃ m,m<n/\∃ i Z' H',Inv X pins Z' H' s7/\tn i s7.heap/\(∀ b∈fp,H' b=none)/\W i m Z' H':=fun {Z7 H7} I7 n7=>by
   obtain ⟨m',hm,w7⟩:=hN Z7 H7 n7
   refine ⟨m',hm,i+1,Z7,H7,I7.unpinned,T.keep _ _ _ st5 fun b hb o e=>(I7.pin (b,o) (List.mem_append_right _ (List.mem_append_right _ (gQ hb e)))).1,fun b hb=>?_,w7⟩
   obtain ⟨o,e,d⟩:=T.obj _ _ st5 b hb
   exact (I7.pin (b,o) (List.mem_append_right _ (List.mem_append_right _ (gQ hb e)))).2.1
  cases f with
  | next=>obtain ⟨Z7,H7,I7,n7⟩:=q7;exact again I7 n7
  | cont=>obtain ⟨Z7,H7,I7,n7⟩:=q7;exact again I7 n7
  | brk=>obtain ⟨Z7,H7,I7,q7⟩:=q7;exact ⟨Z7,H7,I7.unpinned,q7⟩
  | ret v=>obtain ⟨x7,Z7,H7,I7,r7,q7⟩:=q7;exact ⟨x7,Z7,H7,I7.unpinned,r7,q7⟩
end
theorem nM {K:Yh}{a:Addr}{xs:List V}{g:TG}{tb:TS}{D:Ends}{Z : St}{H:Hp}(Pv:Nat->St->Hp->Prop)(h0:Pv 0 Z H)(hl:∀ i Z H,i<=xs.length->Pv i Z H->SqT K H a xs)
  (hs:∀ i x Z H,xs[i]?=some x->Pv i Z H->g x Z H fun Z2 H2=>tb { D with nx:=Pv (i+1),ct:=Pv (i+1),bk:=D.nx } Z2 H2) (hd:∀ Z H,Pv xs.length Z H->D.nx Z H) :
  ∃ W:Nat->Nat->St->Hp->Prop,(∃ m,W 0 m Z H)/\∀ i m Z H,W i m Z H ->
   ((Itt K a).stop i H/\D.nx Z H)\/((Itt K a).go i H/\∃ N:St->Hp->Prop,(∀ Z' H',N Z' H'->∃ m',m'<m/\W (i+1) m' Z' H')/\∀ x H',(Itt K a).yld i H x H'->g x Z H' fun Z2 H2=>tb { D with nx:=N,ct:=N,bk:=D.nx } Z2 H2):=by
 refine ⟨fun i m Z H=>m=xs.length - i/\i<=xs.length/\Pv i Z H,⟨xs.length,by simp,Nat.zero_le _,h0⟩,?_⟩
 rintro i m Z H ⟨rfl,hi,p⟩
 have q:=hl i Z H hi p
 by_cases hlt:i<xs.length
 ·refine .inr ⟨⟨xs,xs[i],q,by simp [hlt]⟩,Pv (i+1),fun Z' H' p'=>⟨xs.length - (i+1),by omega,rfl,hlt,p'⟩,fun x H' y=>?_⟩
  obtain ⟨e,y⟩:=y
  subst e
  exact hs i x Z _ (y xs q) p
 ·have e:i=xs.length:=by omega
  subst e
  exact .inl ⟨⟨xs,q,Yc _⟩,hd Z H p⟩
end L2
namespace L2
open PySem PySem.Spec PyProof.Rows
abbrev R2:=V->V->Hp->VK->Prop
def OpR (X:Cx)(f:Value->Value->Sem Value)(r:R2):Prop:=
 ∀ (pins:List (Addr×Obj)) (s:Shared) (Z : St) (H:Hp) (x y:V) (v u:Value) (Q:VK),Inv X pins Z H s->RelV x v->RelV y u->r x y H Q ->
  wpAny (model X.prog X.w) X.A (f v u) (EP X pins Z Q) X.xe s
def iw (X:Cx)(f:Value)(r:List V->Hp->VK->Prop):Prop:=
 ∀ (pins:List (Addr×Obj)) (s:Shared) (Z : St) (H:Hp) (xs:List V) (us:List Value) (Q:VK),Inv X pins Z H s->Vals xs us->r xs H Q ->
  wpAny (model X.prog X.w) X.A (call f us) (EP X pins Z Q) X.xe s
def Xm (X:Cx)(r:V->Hp->(Bool->Hp->Prop)->Prop):Prop:=
 ∀ (pins:List (Addr×Obj)) (s:Shared) (Z : St) (H:Hp) (x:V) (v:Value) (Q:Bool->Hp->Prop),Inv X pins Z H s->RelV x v->r x H Q ->
  wpAny (model X.prog X.w) X.A (truthy v) (TP X pins Z Q) X.xe s
def tOp (r:R2)(ta tb:TE):TE:=fun Z H Q=>ta Z H fun x H1=>tb Z H1 fun y H2=>r x y H2 Q
def rI (C:Int->Int->Prop)(g:Int->Int->V):R2:=fun x y H Q=>∃ i j,x=.int i/\y=.int j/\C i j/\Q (g i j) H
def rI0 (g:Int->Int->V):R2:=fun x y H Q=>∃ i j,x=.int i/\y=.int j/\Q (g i j) H
section
variable {X:Cx}{a b c:Expr}{ta tb tc:TE}{pos:Pos}
theorem UG (ha:PE X a ta)(hb:PE X b tb){pins:List (Addr×Obj)}{s:Shared}{Z : St}{H:Hp}{R:V->V->Hp->Prop}(I:Inv X pins Z H s)
  (h:ta Z H fun x H1=>tb Z H1 fun y H2=>R x y H2) {Q:Value->Shared->Prop} {f:Value->Value->Sem Value}
  (hf:∀ v u s2 x y H2,Inv X pins Z H2 s2->RelV x v->RelV y u->R x y H2->wpAny (model X.prog X.w) X.A (f v u) Q X.xe s2) :
  wpAny (model X.prog X.w) X.A (eval a X.env) (fun v s₁=>wpAny (model X.prog X.w) X.A (eval b X.env) (fun u s₂=>wpAny (model X.prog X.w) X.A (f v u) Q X.xe s₂) X.xe s₁) X.xe s:=by
 refine thn (ha pins s Z H _ I h) fun v s1 ⟨x,H1,I1,r1,q1⟩=>?_
 refine thn (hb pins s1 Z H1 _ I1 q1) fun u s2 ⟨y,H2,I2,r2,q2⟩=>?_
 exact hf v u s2 x y H2 I2 r1 r2 q2
theorem U0 {op:Operator}{r:R2}(ho:OpR X (binaryOp op) r)(ha:PE X a ta)(hb:PE X b tb):PE X (.BinOp a op b pos) (tOp r ta tb):=by
 intro pins s Z H Q I h
 exact wpAny_BinOp (UG ha hb I h fun v u s2 x y H2 I2 rx ry q=>ho pins s2 Z H2 x y v u Q I2 rx ry q)
theorem opI {f:Value->Value->Sem Value}{C:Int->Int->Prop}{g:Int->Int->Int}
  (rule:∀ (i j:Int) (t u:Tok) (s:Shared) (Q:Value->Shared->Prop) (E:Value->Shared->Prop),C i j->Q (.int (g i j) s.toks) { s with toks:=s.toks+1 }->wpAny (model X.prog X.w) X.A (f (.int i t) (.int j u)) Q E s) :
  OpR X f (rI C fun i j=>.int (g i j)):=by
 intro pins s Z H x y v u Q I rx ry h
 obtain ⟨i,j,rfl,rfl,hc,q⟩:=h
 obtain ⟨t,rfl⟩:=rx
 obtain ⟨t',rfl⟩:=ry
 exact rule i j t t' s _ _ hc ⟨.int (g i j),H,I.tok _,⟨_,rfl⟩,q⟩
theorem VR {f:Value->Value->Sem Value}{g:Int->Int->Int}
  (rule:∀ (i j:Int) (t u:Tok) (s:Shared) (Q:Value->Shared->Prop) (E:Value->Shared->Prop),Q (.int (g i j) s.toks) { s with toks:=s.toks+1 }->wpAny (model X.prog X.w) X.A (f (.int i t) (.int j u)) Q E s) :
  OpR X f (rI0 fun i j=>.int (g i j)):=by
 intro pins s Z H x y v u Q I rx ry h
 obtain ⟨i,j,rfl,rfl,q⟩:=h
 obtain ⟨t,rfl⟩:=rx
 obtain ⟨t',rfl⟩:=ry
 exact rule i j t t' s _ _ ⟨.int (g i j),H,I.tok _,⟨_,rfl⟩,q⟩
theorem V9 {f:Value->Value->Sem Value}{g:Int->Int->Bool}
  (rule:∀ (i j:Int) (t u:Tok) (s:Shared) (Q:Value->Shared->Prop) (E:Value->Shared->Prop),Q (.bool (g i j)) s->wpAny (model X.prog X.w) X.A (f (.int i t) (.int j u)) Q E s) :
  OpR X f (rI0 fun i j=>.bl (g i j)):=by
 intro pins s Z H x y v u Q I rx ry h
 obtain ⟨i,j,rfl,rfl,q⟩:=h
 obtain ⟨t,rfl⟩:=rx
 obtain ⟨t',rfl⟩:=ry
 exact rule i j t t' s _ _ ⟨.bl (g i j),H,I,rfl,q⟩
def Vc (i j:Int):Prop:=0<=j/\j<=1000000/\i.natAbs<2^64
theorem PK:OpR X (binaryOp .Add) (rI0 fun i j=>.int (i+j)):=VR fun _ _ _ _ _ _ _ q=>add_int q
theorem Rt:OpR X (binaryOp .Sub) (rI0 fun i j=>.int (i - j)):=VR fun _ _ _ _ _ _ _ q=>sub_int q
theorem KY:OpR X (binaryOp .Mod) (rI (fun _ j=>j≠0) fun i j=>.int (i.fmod j)):=opI fun _ _ _ _ _ _ _ hc q=>mod_int' hc q
theorem Px:OpR X (binaryOp .Pow) (rI Vc fun i j=>.int (i^j.toNat)):=opI fun _ _ _ _ _ _ _ hc q=>pow_int_small hc.1 hc.2.1 hc.2.2 q
end
section
variable {X:Cx}{a b c:Expr}{ta tb tc:TE}{pos:Pos}
theorem xM {pins:List (Addr×Obj)}{Z : St}{H:Hp}{s:Shared}{Q:VK}{k k':Bool}(I:Inv X pins Z H s)(q:Q (.bl k) H)(e:k=k'):EP X pins Z Q (.bool k') s:=by
 subst e
 exact ⟨.bl k,H,I,rfl,q⟩
theorem Ug:OpR X (compareOp .Lt) (rI0 fun i j=>.bl (decide (i<j))):=V9 fun _ _ _ _ _ _ _ q=>lt_int q
theorem Tg:OpR X (compareOp .Gt) (rI0 fun i j=>.bl (decide (j<i))):=V9 fun _ _ _ _ _ _ _ q=>gt_int q
theorem O6:OpR X (compareOp .Is) (fun x y H Q=>y=.non/\Q (.bl (decide (x=.non))) H):=by
 intro pins s Z H x y v u Q I rx ry h
 obtain ⟨rfl,q⟩:=h
 cases ry
 refine is_none_gen (xM I q ?_)
 cases x <;> first
  | (cases rx;rfl)
  | (obtain ⟨t,rfl⟩:=rx;rfl)
theorem OpR.or {f:Value->Value->Sem Value}{r r':R2}(h:OpR X f r)(h':OpR X f r'):OpR X f (fun x y H Q=>r x y H Q\/r' x y H Q):=by
 intro pins s Z H x y v u Q I rx ry q
 rcases q with q | q
 ·exact h pins s Z H x y v u Q I rx ry q
 ·exact h' pins s Z H x y v u Q I rx ry q
theorem bN (b:Expr){op:CmpOp}(h:op≠.In:=by decide)(h2:op≠.NotIn:=by decide):behindInMarks op b=false:=by
 have e1:(op==CmpOp.In)=false:=by cases op <;> first | rfl | exact absurd rfl h
 have e2:(op==CmpOp.NotIn)=false:=by cases op <;> first | rfl | exact absurd rfl h2
 cases b <;> simp [behindInMarks,e1,e2]
theorem JQ {op:CmpOp}{r:R2}(ho:OpR X (compareOp op) r)(ha:PE X a ta)(hb:PE X b tb)(hm:behindInMarks op b=false):PE X (.Compare a [op] [b] pos) (tOp r ta tb):=by
 intro pins s Z H Q I h
 exact wpAny_Compare1 (UG ha hb I h fun v u s2 x y H2 I2 rx ry q=>ho pins s2 Z H2 x y v u Q I2 rx ry q) hm
def U3 (t:TE):TT:=fun Z H Q=>t Z H fun x H'=>∃ k,x=.bl k/\Q k H'
theorem Ml {op:CmpOp}{r:R2}(ho:OpR X (compareOp op) r)(ha:PE X a ta)(hb:PE X b tb)(hm:behindInMarks op b=false):PT X (.Compare a [op] [b] pos) (U3 (tOp r ta tb)):=by
 intro pins s Z H Q I h
 refine wpAny_isTrue_Compare1 (thn (ha pins s Z H _ I h) fun v s1 ⟨x,H1,I1,r1,q1⟩=>thn (hb pins s1 Z H1 _ I1 q1) fun u s2 ⟨y,H2,I2,r2,q2⟩=>
  thn (ho pins s2 Z H2 x y v u _ I2 r1 r2 q2) fun c s3 ⟨z,H3,I3,r3,k,e,q3⟩=>?_) hm
 subst e
 cases r3
 exact wpAny_truthy_bool ⟨H3,I3,q3⟩
def Wf (K:Yh)(x:V)(H:Hp)(k:Bool):Prop:=
 match x with
 | .non=>k=false
 | .bl b=>k=b
 | .int i=>k=(i != 0)
 | .str y=>y.length<=sizeLine/\k=((y.length:Int) != 0)
 | .byt y=>y.size<=sizeLine/\k=((y.size:Int) != 0)
 | .ref p=>(∃ xs,SqL K H p xs/\k = !xs.isEmpty)\/(∃ xs,SqT K H p xs/\k = !xs.isEmpty)\/∃ kvs,H p=some (.dK kvs)/\k = !kvs.isEmpty
 | _=>False
theorem yu {κ : Type}{kvs:List (κ×V)}{vs:List (κ×Value)}(r:KV kvs vs):(!vs.isEmpty) = !kvs.isEmpty:=by
 cases r <;> rfl
theorem oZ {xs:List V}{its:List Value}(r:Vals xs its):(!its.toArray.isEmpty) = !xs.isEmpty:=by
 cases r <;> simp
theorem tG:(sizeLine:Nat)<2^63:=by rw [sizeLine_eq];decide
theorem Rz:Xm X (fun x H Q=>∃ k,Wf X.K x H k/\Q k H):=by
 intro pins s Z H x v Q I rx h
 obtain ⟨k,e,q⟩:=h
 have hl:=tG
 have hs:sizeLine=16777216:=sizeLine_eq
 cases x with
 | non=>
  cases rx
  have e':k=false:=e
  subst e'
  exact truthy_none ⟨H,I,q⟩
 | bl b=>
  cases rx
  have e':k=b:=e
  subst e'
  exact wpAny_truthy_bool ⟨H,I,q⟩
 | int i=>
  obtain ⟨t,rfl⟩:=rx
  have e':k=(i != 0):=e
  subst e'
  exact PySem.P.truthy_int ⟨H,I,q⟩
 | str y=>
  obtain ⟨t,rfl⟩:=rx
  obtain ⟨hy,e'⟩:y.length<=sizeLine/\k=((y.length:Int) != 0):=e
  subst e'
  exact PySem.P.truthy_str (by omega) ⟨H,I.tok _,q⟩
 | byt y=>
  obtain ⟨t,rfl⟩:=rx
  obtain ⟨hy,e'⟩:y.size<=sizeLine/\k=((y.size:Int) != 0):=e
  subst e'
  exact PySem.W.truthy_bytes (by omega) ⟨H,I.tok _,q⟩
 | ref p=>
  cases rx
  have e':(∃ xs,SqL X.K H p xs/\k = !xs.isEmpty)\/(∃ xs,SqT X.K H p xs/\k = !xs.isEmpty)\/∃ kvs,H p=some (.dK kvs)/\k = !kvs.isEmpty:=e
  rcases e' with ⟨xs,hx,e'⟩ | ⟨xs,hx,e'⟩ | ⟨kvs,hx,e'⟩
  ·subst e'
   obtain ⟨its,r,pl,hz⟩:=I.list hx
   have hlen:=r.length
   exact wpAny_truthy_list pl.isList (by simp only [Yb];omega) ⟨H,I.tok _,by rw [oZ r];exact q⟩
  ·subst e'
   obtain ⟨its,r,pl,hz⟩:=I.tuple hx
   have hlen:=r.length
   exact truthy_tuple pl (by simp only [Yb];omega) ⟨H,I.tok _,by rw [oZ r];exact q⟩
  ·subst e'
   obtain ⟨hz,hS,vs,r,m⟩:kvs.length<=sizeLine/\(p==sysModules)=false/\∃ vs,KV kvs vs/\s.heap.DictOf (dG X.prog X.w) p vs:=I.hok p _ hx
   have hlen:kvs.length=vs.length:=Paired.length r
   exact wpAny_truthy_dict hS m (by omega) ⟨H,I.tok _,by rw [yu r];exact q⟩
 | _=>exact (show False from e).elim
theorem Eo (ha:PE X a ta)(he:∀ whole,isTrue a X.env whole=(do let v <-whole;standAt a.pos;holding [v] (truthy v))) :
  PT X a (fun Z H Q=>ta Z H fun x H'=>∃ k,Wf X.K x H' k/\Q k H'):=by
 intro pins s Z H Q I h
 exact isTrue_plain (thn (ha pins s Z H _ I h) fun v s1 ⟨x,H1,I1,r1,q1⟩=>Rz pins s1 Z H1 x v Q I1 r1 q1) (he _)
theorem vals1 {x:V}{us:List Value}(r:Vals [x] us):∃ u,us=[u]/\RelV x u:=by
 cases r with
 | cons r1 r2=>cases r2;exact ⟨_,rfl,r1⟩
theorem vals2 {x y:V}{us:List Value}(r:Vals [x,y] us):∃ u w',us=[u,w']/\RelV x u/\RelV y w':=by
 cases r with
 | cons r1 r2=>
  cases r2 with
  | cons r3 r4=>cases r4;exact ⟨_,_,rfl,r1,r3⟩
end
end L2
namespace L2
open PySem PySem.Spec PyProof.Rows
structure Ui (h:Heap) (x dx C:Addr) (mA:Str->Option Value):Prop where
 obj:h.get? x=some (PySem.W.instObj C dx)
 ns:h.Ns1 dx mA
 ne:dx≠x
theorem Az {h:Heap}{dx:Addr}{mA:Str->Option Value}(n:h.Ns1 dx mA):∃ od,h.get? dx=some od/\∀ name,PySem.W.lookIn name od=some (mA name):=by
 obtain ⟨o,es,ep,ho,hd,hk,_,hm⟩:=n
 refine ⟨o,ho,fun name=>?_⟩
 have e:=hm name
 unfold nsFind findBy at e
 rw [<-Array.find?_toList] at e
 unfold PySem.W.lookIn
 rw [hd]
 dsimp only
 split
 ·rename_i y q
  rw [q] at e
  exact congrArg some e
 ·rename_i q
  rw [q] at e
  have a:es.toList.any (·.refKey)=false:=by
   rw [List.any_eq_false]
   intro y hy
   obtain ⟨z,t,hkey⟩:=hk y (Array.mem_toList_iff.mp hy)
   simp [DictEntry.refKey,hkey]
  have a':¬ es.toList.any (·.refKey)=true:=by rw [a];exact Bool.false_ne_true
  rw [if_neg a']
  exact congrArg some e
theorem Ui.look {h:Heap}{x dx C:Addr}{mA:Str->Option Value}(I:Ui h x dx C mA):∃ od,PySem.W.InstAt h x (PySem.W.instObj C dx) C (some od)/\∀ name,PySem.W.lookIn name od=some (mA name):=
 let ⟨od,ho,hl⟩:=Az I.ns
 ⟨od,⟨I.obj,rfl,rfl,ho⟩,hl⟩
section
variable {prog:Program}{w:World}{A:Around}{E:Value->Shared->Prop}{s:Shared}{K:Yh}{x dx C f:Addr}{mA:Str->Option Value}{name:Str}{v:Value}
theorem get_map {expr:Bool}{Q:Value->Shared->Prop}(X:K.In s.heap)(I:Ui s.heap x dx C mA)(hg:PySem.W.plainGet K C name=true)(hh:PySem.W.hasDictIn K C=true)
  (ha:PySem.W.findIn K (.ref C) name=some none) (hv:mA name=some v) (hv':PySem.W.handedIn v=true) (h:Q v { s with toks:=s.toks+1 }) :
  wpAny (model prog w) A (getAttr (.ref x) name expr) Q E s:=by
 obtain ⟨od,J,hl⟩:=I.look
 exact PySem.W.get_value X J (PySem.W.plainGet_of hg).1 (PySem.W.findObj_own hh ha rfl (by rw [hl,hv])) hv' h
end
theorem Jb.some_of {v:V}{o:Option Value}(r:Jb (some v) o):∃ u,o=some u/\RelV v u:=by
 cases o with
 | none=>exact (show False from r).elim
 | some u=>exact ⟨u,rfl,r⟩
section
variable {P:Program}{w:World}{H H':Hp}{h h':Heap}{a C dx:Addr}{fs fs':List (Str×V)}
end
structure Cls (K:Yh) (C:Addr):Prop where
 pg:PySem.W.plainGet K C Str.empty=true
 hd:PySem.W.hasDictIn K C=true
 po:PySem.W.plainOver K C=true
 sa:PySem.W.findIn K (.ref C) "__setattr__" = some (some (.builtin "object.__setattr__"))
structure Con (K:Yh) (C:Addr) (f:Str) (v:V) (u:Value):Prop where
 at_:PySem.W.findIn K (.ref C) f=some (some u)
 rel:RelV v u
 get:PySem.W.specialIn K u "__get__" = some none
 cp:PySem.W.copiedNames.contains f=false
structure Meth (K:Yh) (C:Addr) (m:Str) (f:Addr):Prop where
 at_:PySem.W.findIn K (.ref C) m=some (some (.ref f))
 fn:PySem.W.isFn K (.ref f)=true
 kp:PySem.W.keepIn K (.ref f)=true
section
variable {X:Cx}{pins:List (Addr×Obj)}{Z : St}{H:Hp}{s:Shared}{a C dx:Addr}{fs:List (Str×V)}{f:Str}{v:V}{A:Around}{E:Value->Shared->Prop}
end
section
variable {X:Cx}{o e value:Expr}{f:Str}{pos pos' tpos:Pos}{ta tv:TE}
end
section
variable {X:Cx}{pins:List (Addr×Obj)}{Z : St}{H:Hp}{s:Shared}{A:Around}{E:Value->Shared->Prop}{Q:Value->Shared->Prop}{c:Value}{b:Bool}
inductive Bs (K:Yh) (H:Hp):V->Value->Prop where
 | non:Bs K H .non (.type "NoneType")
 | bl (x:Bool):Bs K H (.bl x) (.type "bool")
 | int (i:Int):Bs K H (.int i) (.type "int")
 | str (x:Str):Bs K H (.str x) (.type "str")
 | flt (x:UInt64):Bs K H (.flt x) (.type "float")
 | lst {a:Addr} {xs:List V} (e:H a=some (.lst xs)):Bs K H (.ref a) (.type "list")
 | frz {a:Addr} {o:Obj} {xs:List V} (e:H a=some (.frz o (.lst xs))):Bs K H (.ref a) (.type "list")
 | tup {a:Addr} {xs:List V} (e:H a=some (.tup xs)):Bs K H (.ref a) (.type "tuple")
 | dK {a:Addr} {kvs:List (Key×V)} (e:H a=some (.dK kvs)):Bs K H (.ref a) (.type "dict")
 | dT {a:Addr} {kvs:List (List Key×V)} (e:H a=some (.dT kvs)):Bs K H (.ref a) (.type "dict")
 | ins {a C dx:Addr} {fs:List (Str×V)} (e:H a=some (.ins C dx fs)) (cl:Cls K C) (ha:PySem.W.findIn K (.ref C) "__class__" = some (some (.builtin "object.__class__")))
   (hn:PySem.W.specialIn K (.builtin "object.__class__") "__get__" = some (some (.builtin "getset_descriptor.__get__"))) (htk:PySem.W.takesIn K (.builtin "object.__class__")=some true)
   (hm:PySem.W.mroIn K C (.type "object")=some true):Bs K H (.ref a) (.ref C)
end
end L2
namespace L2
open PySem PySem.Spec PyProof.Rows
structure j8 (k:Nat) (A:Around):Prop where
 hd:9<=k->A.handled=none
 dp:A.depth+3*k+5<recursionLimit
 un:A.units+16*k+200<cLine
theorem j8.mono {j k:Nat}{A:Around}(r:j8 k A)(h:j<=k):j8 j A:=⟨fun z=>r.hd (Ye z h),by have:=r.dp;omega,by have:=r.un;omega⟩
theorem j8.deeper {k:Nat}{A:Around}(r:j8 (k+1) A)(env:Env):j8 k (A.deeper env):=
 ⟨fun z=>r.hd (Nat.le_succ_of_le z),by have:=r.dp;show A.depth+1+3*k+5<_;omega,by have:=r.un;show A.units+3+16*k+200<_;omega⟩
theorem j8.calm {k:Nat}{A:Around}(r:j8 k A)(h:9<=k):A.handled.isNone=true:=by rw [r.hd h];rfl
theorem j8.depth {k:Nat}{A:Around}(r:j8 k A):A.depth<recursionLimit:=by have:=r.dp;omega
theorem j8.units {k:Nat}{A:Around}(r:j8 k A):A.units+64<cLine:=by have:=r.un;omega
def Xz:TA:=fun _ H Q=>Q [] H
def Uc (ta:TE)(tr:TA):TA:=fun Z H Q=>ta Z H fun x H1=>tr Z H1 fun xs H2=>Q (x::xs) H2
section
variable {X:Cx}{e:Expr}{es:List Expr}{te:TE}{t:TA}{pos:Pos}
theorem Io:PA X [] Xz:=fun _ _ _ _ H Q I h=>Calls.spliced_nil ⟨[],H,I,.nil,h⟩
theorem uO (ha:PE X e te)(hr:PA X es t)(hs:starEach (e::es) X.env=(false,eval e X.env)::starEach es X.env:=by rfl):PA X (e::es) (Uc te t):=by
 intro pos pins s Z H Q I h
 rw [hs]
 show wpAny _ _ (spliced ((false,eval e X.env)::backTo pos (starEach es X.env))) _ _ s
 refine Calls.spliced_cons (thn (ha pins s Z H _ I h) fun u s1 ⟨x,H1,I1,r1,q1⟩=>?_)
 exact thn (hr pos pins s1 Z H1 _ I1 q1) fun us s2 ⟨xs,H2,I2,r2,q2⟩=>⟨x::xs,H2,I2,.cons r1 r2,q2⟩
def WX (t:TA):TE:=fun Z H Q=>t Z H fun xs H1=>xs.length<=sizeLine/\∀ p,H1 p=none->Q (.ref p) (upd H1 p (.tup xs))
def Xd (t:TA):TE:=fun Z H Q=>t Z H fun xs H1=>xs.length<=sizeLine/\∀ p,H1 p=none->Q (.ref p) (upd H1 p (.lst xs))
theorem Qi {x1}(h:PA X es t):PE X (.Tuple es x1 pos) (WX t):=by
 intro pins s Z H Q I hq
 refine wpAny_Tuple_spliced (thn (h pos pins s Z H _ I hq) fun us s1 ⟨xs,H1,I1,r,z,q⟩=>⟨by rw [<-r.length];exact z,?_⟩)
 have hf:H1 s1.heap.objs.size=none:=I1.hok.fresh (Yc _)
 refine ⟨.ref s1.heap.objs.size,upd H1 s1.heap.objs.size (.tup xs),I1.laid (t':=s1.toks) (fun b u e=>Heap.get?_push_of_some _ e) (Yc _) ?_,rfl,q _ hf⟩
 exact ⟨z,us,r,⟨_,Heap.get?_push_size _ rfl,rfl,⟨_,rfl⟩,rfl⟩⟩
theorem Ja (h:PA X es t):PE X (.List es pos) (Xd t):=by
 intro pins s Z H Q I hq
 refine wpAny_List_spliced (thn (h pos pins s Z H _ I hq) fun us s1 ⟨xs,H1,I1,r,z,q⟩=>⟨by rw [<-r.length];exact z,?_⟩)
 have hf:H1 s1.heap.objs.size=none:=I1.hok.fresh (Yc _)
 refine ⟨.ref s1.heap.objs.size,upd H1 s1.heap.objs.size (.lst xs),I1.laid (t':=s1.toks) (fun b u e=>Heap.get?_push_of_some _ e) (Yc _) ?_,rfl,q _ hf⟩
 exact ⟨z,us,0,r,Heap.get?_push_size _ rfl⟩
end
abbrev Sp:=List V->Hp->VK->XK->Prop
abbrev CXT:=List Env->Hp->Shared->XK->Value->Shared->Prop
structure S7 (P:Program) (w:World) (K:Yh) (mg:Str->Option Value) (base:Heap) (A:Around) (outer:List Env) (s:Shared) (H:Hp):Prop where
 frames:A.frames=some outer
 mod:Mod K mg base
 bs:∀ b o,base.get? b=some o->s.heap.get? b=some o/\H b=none
 bsz:base.objs.size<=s.heap.objs.size
 funs:s.heap.FunFrames base outer
 frf:∀ b∈frs outer,H b=none
 hok:HOk P w H s.heap
 bare:AllBare s.gens
 qt:Quiet A H
def CE (outer:List Env)(P:Program)(w:World)(H:Hp)(s:Shared)(Q:VK)(u:Value)(s':Shared):Prop:=
 ∃ v H',s'.os=s.os/\AllBare s'.gens/\Un (frs outer) [] H H' s.heap s'.heap/\HOk P w H' s'.heap/\RelV v u/\Q v H'
def CR (CX:CXT)(outer:List Env)(P:Program)(w:World)(H:Hp)(s:Shared)(Q:VK)(E:XK)(r:Result)(s':Shared):Prop:=
 match r with
 | .ok (.ret u)=>CE outer P w H s Q u s'
 | .ok _=>False
 | .error e=>CX outer H s E e s'
structure d9 (P:Program) (w:World) (K:Yh) (mg:Str->Option Value) (base:Heap) (CX:CXT) (k:Nat) (f:Addr) (fd:FuncData) (ps:List Str) (sp:Sp):Prop where
 len:∀ vs H Q E,sp vs H Q E->vs.length=ps.length
 run:∀ (A:Around) (outer:List Env) (s:Shared) (H:Hp) (args:Args) (us:List Value) (vs:List V) (Q:VK) (E:XK),j8 k A->S7 P w K mg base A outer s H->BindsTo s fd args (ps.zip us)->Vals vs us->sp vs H Q E ->
  codeAny (model P w) A (.call (.ref f) args) (CR CX outer P w H s Q E) s
theorem d9.mono {P:Program}{w:World}{K:Yh}{mg:Str->Option Value}{base:Heap}{CX:CXT}{j k:Nat}{f:Addr}{fd:FuncData}{ps:List Str}{sp:Sp}(F:d9 P w K mg base CX j f fd ps sp)(h:j<=k) :
  d9 P w K mg base CX k f fd ps sp:=⟨F.len,fun A outer s H args us vs Q E hr=>F.run A outer s H args us vs Q E (hr.mono h)⟩
theorem d9.imp {P:Program}{w:World}{K:Yh}{mg:Str->Option Value}{base:Heap}{CX:CXT}{k:Nat}{f:Addr}{fd:FuncData}{ps:List Str}{sp sp':Sp}(F:d9 P w K mg base CX k f fd ps sp)
  (h:∀ vs H Q E,sp' vs H Q E->sp vs H Q E):d9 P w K mg base CX k f fd ps sp':=
 ⟨fun vs H Q E q=>F.len vs H Q E (h _ _ _ _ q),fun A outer s H args us vs Q E hr he hb hv hs=>F.run A outer s H args us vs Q E hr he hb hv (h _ _ _ _ hs)⟩
section
variable {X:Cx}{pins:List (Addr×Obj)}{Z : St}{H:Hp}{s s':Shared}
theorem Inv.env0 (I:Inv X pins Z H s):S7 X.prog X.w X.K X.mg X.base X.A X.stack s H:=
 ⟨I.ok.frames,I.ok.mod,I.bs,Ye I.ok.bsz I.sz,I.stack,I.stkFree,I.hok,I.bare,I.qt0⟩
theorem Inv.after {Q:VK}{u:Value}(I:Inv X pins Z H s)(h:CE X.stack X.prog X.w H s Q u s'):EP X pins Z Q u s':=by
 obtain ⟨v,H',os,bare,un,hok,r,q⟩:=h
 obtain ⟨hh,g,d,t,os'⟩:=s'
 obtain rfl:os'=s.os:=os
 exact ⟨v,H',I.call (h':=hh) (g':=g) (d':=d) (t':=t) (ch:=[]) un hok bare (fun b z=>absurd z (by simp)),r,q⟩
end
def Ro (sp:Sp)(dvs:List V)(E:XK)(t:TA):TE:=fun Z H Q=>t Z H fun vs H1=>sp (vs++dvs) H1 Q E
def Binds (K:Yh)(fd:FuncData)(ps:List Str)(ds:List Value):Prop:=
 ∀ (s:Shared) (us:List Value),K.In s.heap->(us++ds).length=ps.length->BindsTo s fd ⟨us,[]⟩ (ps.zip (us++ds))
theorem Binds.all {K:Yh}{fd:FuncData}{ps:List Str}(h:∀ us:List Value,us.length=ps.length->bindArgs fd ⟨us,[]⟩=pure (ps.zip us)):Binds K fd ps []:=fun s us _ hl=>by
 rw [List.append_nil] at hl |-
 exact .of_eq (h us hl)
def Passes (CX:CXT)(X:Cx)(E:XK):Prop:=∀ (pins:List (Addr×Obj)) (Z : St) (H:Hp) (s:Shared) (e:Value) (s':Shared),Inv X pins Z H s->CX X.stack H s E e s'->X.xe e s'
section
variable {X:Cx}{CX:CXT}{k:Nat}{f C:Addr}{fd:FuncData}{ps:List Str}{sp:Sp}{dvs:List V}{ds:List Value}{E:XK}{x m:Str}{p pos apos:Pos}{e o:Expr}{es:List Expr}{ta:TE}{t:TA}
theorem Rm {pins:List (Addr×Obj)}{Z : St}{H:Hp}{s:Shared}{Q:VK}{us:List Value}{vs:List V}(F:d9 X.prog X.w X.K X.mg X.base CX k f fd ps sp)(hr:j8 k X.A)(hb:Binds X.K fd ps ds)(hd:Vals dvs ds)(hx:Passes CX X E)
  (I:Inv X pins Z H s) (r:Vals vs us) (h:sp (vs++dvs) H Q E):wpAny (model X.prog X.w) X.A (call (.ref f) us) (EP X pins Z Q) X.xe s:=by
 have r2:Vals (vs++dvs) (us++ds):=r.append hd
 have hl:(us++ds).length=ps.length:=by rw [<-r2.length];exact F.len _ _ _ _ h
 refine wpAny_call (codeAny_mono (F.run X.A X.stack s H ⟨us,[]⟩ (us++ds) (vs++dvs) Q E hr I.env0 (hb s us I.kIn hl) r2 h) fun r s' hq=>?_)
 cases r with
 | error e=>exact hx pins Z H s e s' I hq
 | ok fl=>
  cases fl with
  | ret u=>exact I.after hq
  | next=>exact False.elim hq
  | brk=>exact False.elim hq
  | cont=>exact False.elim hq
theorem La (F:d9 X.prog X.w X.K X.mg X.base CX k f fd ps sp)(hr:j8 k X.A)(hg:Gl X x)(hm:X.mg x=some (.ref f))(hk:PySem.W.keepIn X.K (.ref f)=true)(hb:Binds X.K fd ps ds)(hd:Vals dvs ds)(hx:Passes CX X E)
  (ha:PA X (e::es) t) (hdb:(x==("__debug__" : Str))=false:=by decide) (he:starEach (e::es) X.env=(false,eval e X.env)::starEach es X.env:=by rfl) (hpl:(backTo pos (starEach es X.env)).any (·.1)=false:=by rfl) :
  PE X (.Call (.Name x p) (e::es) [] pos) (Ro sp dvs E t):=by
 intro pins s Z H Q I h
 refine wpAny_Call_Name_kw (pR I hg hm ?_ hdb)
 refine PySem.W.callWith_K (h₀:=X.base) I.ok.mod.kin hk (thn (ha pos pins s Z H _ I h) fun us s1 ⟨vs,H1,I1,r,q⟩=>⟨I1.kIn,?_⟩) he hpl
 exact Rm F hr hb hd hx I1 r q
structure Mk (K:Yh) (C f:Addr):Prop where
 makes:PySem.W.makesIn K C=true
 init:PySem.W.findIn K (.ref C) "__init__" = some (some (.ref f))
 fn:PySem.W.isFn K (.ref f)=true
 kp:PySem.W.keepIn K (.ref C)=true
end
section
variable {X:Cx}{CX:CXT}{k:Nat}{f C:Addr}{fd:FuncData}{ps ks:List Str}{sp:Sp}{E:XK}{x m:Str}{p pos apos kpos:Pos}{e o:Expr}{es:List Expr}{kws:List Keyword}{te ta:TE}{t tk:TA}{nm:Option Str}
structure Wv (K:Yh) (fd:FuncData) (ps ks:List Str) (g:List Value->List Value->List Value) (gV:List V->List V->List V):Prop where
 to:∀ (s:Shared) (us ws:List Value),K.In s.heap->(g us ws).length=ps.length->BindsTo s fd ⟨us,ks.zip ws⟩ (ps.zip (g us ws))
 rel:∀ {vs:List V} {us:List Value} {zs:List V} {ws:List Value},Vals vs us->Vals zs ws->Vals (gV vs zs) (g us ws)
variable {g:List Value->List Value->List Value}{gV:List V->List V->List V}
end
structure bB (N P:List Str) (sc:Scope):Prop where
 kind:sc.kind=.function
 co:sc.isCoroutine=false
 gen:sc.isGenerator=false
 nd:N.Nodup
 pre:N.take P.length=P
 par:∀ x∈P,sc.names.lookup x=some .local\/sc.names.lookup x=some .cell
 nofree:∀ y∈sc.names,y.2≠.free
theorem rB {kindOf:Str->Option NameKind}{x:Str}:∀ {binds:List (Str×Value)} {m:Str->Option Value},(∀ v,(x,v)∉binds)->bindL kindOf binds m x=m x
 | [],_,_=>rfl
 | (n,v)::r,m,h=>by
  unfold bindL
  rw [rB fun w hw=>h w (X8 _ hw)]
  split
  ·have:x≠n:=by rintro rfl;exact h v List.mem_cons_self
   simp [this]
  ·rfl
theorem sZ {kindOf:Str->Option NameKind}{x:Str}:∀ {binds:List (Str×Value)} {m:Str->Option Value},(∀ v,(x,v)∉binds)->bindC kindOf binds m x=m x
 | [],_,_=>rfl
 | (n,v)::r,m,h=>by
  unfold bindC
  rw [sZ fun w hw=>h w (X8 _ hw)]
  split
  ·rfl
  ·have:x≠n:=by rintro rfl;exact h v List.mem_cons_self
   simp [this]
theorem rO {kindOf:Str->Option NameKind}{x:Str}{v:Value}:∀ {P:List Str} {vs:List Value} {i:Nat} {m:Str->Option Value},P.Nodup->P[i]?=some x->vs[i]?=some v->kindOf x=some .local ->
  bindL kindOf (P.zip vs) m x=some v
 | [],_,_,_,_,h,_,_=>by simp at h
 | _::_,[],_,_,_,_,h,_=>by simp at h
 | p::P,w::vs,0,m,nd,h1,h2,hk=>by
  simp at h1 h2;subst h1;subst h2
  show bindL kindOf ((p,w)::P.zip vs) m p=_
  unfold bindL
  rw [rB fun v hv=>(List.nodup_cons.mp nd).1 (List.of_mem_zip hv).1,if_pos hk]
  simp
 | p::P,w::vs,i+1,m,nd,h1,h2,hk=>by
  show bindL kindOf ((p,w)::P.zip vs) m x=_
  unfold bindL
  exact rO (i:=i) (List.nodup_cons.mp nd).2 (by simpa using h1) (by simpa using h2) hk
theorem rK {kindOf:Str->Option NameKind}{x:Str}{v:Value}:∀ {P:List Str} {vs:List Value} {i:Nat} {m:Str->Option Value},P.Nodup->P[i]?=some x->vs[i]?=some v->kindOf x≠some .local ->
  bindC kindOf (P.zip vs) m x=some v
 | [],_,_,_,_,h,_,_=>by simp at h
 | _::_,[],_,_,_,_,h,_=>by simp at h
 | p::P,w::vs,0,m,nd,h1,h2,hk=>by
  simp at h1 h2;subst h1;subst h2
  show bindC kindOf ((p,w)::P.zip vs) m p=_
  unfold bindC
  rw [sZ fun v hv=>(List.nodup_cons.mp nd).1 (List.of_mem_zip hv).1,if_neg hk]
  simp
 | p::P,w::vs,i+1,m,nd,h1,h2,hk=>by
  show bindC kindOf ((p,w)::P.zip vs) m x=_
  unfold bindC
  exact rK (i:=i) (List.nodup_cons.mp nd).2 (by simpa using h1) (by simpa using h2) hk
def start (N:List Str)(vs:List V):St:=vs.map some++X7 (N.length - vs.length) none
def Jx (CX:CXT)(P:Program)(w:World)(K:Yh)(mg:Str->Option Value)(base:Heap)(N:List Str)(qual:Str)(scope:Scope)(f:Addr)(cd:Value)(A:Around)(outer:List Env)(s:Shared)(H:Hp)(E:XK):Cx where
 prog:=P
 w:=w
 K:=K
 mg:=mg
 base:=base
 A:=A.deeper (envOfC qual scope s.heap.objs.size f cd)
 N:=N
 s₀:=s
 H₀:=H
 env:=envOfC qual scope s.heap.objs.size f cd
 outer:=outer
 stack:=envOfC qual scope s.heap.objs.size f cd::outer
 ex:=[]
 calm:=A.handled.isNone
 fn:=fun _=>true
 pn:=[]
 xe:=fun e s'=>wpAny (model P w) (A.deeper (envOfC qual scope s.heap.objs.size f cd)) (leaving (envOfC qual scope s.heap.objs.size f cd) e) (fun _ s''=>CX outer H s E e s'') (fun e' s''=>CX outer H s E e' s'') s'
theorem vR {sc:Scope}{n:Nat}{x:Str}(h:sc.names.lookup x=some .cell):∃ c,(cellsFrom n sc.names []).lookup x=some c:=by
 have q:=PySem.W.cellsFrom_some sc.names n [] (.inl h)
 exact Option.isSome_iff_exists.mp q
theorem Cj {CX:CXT}{P:Program}{w:World}{K:Yh}{mg:Str->Option Value}{base:Heap}{N ps:List Str}{qual:Str}{scope:Scope}{f:Addr}{cd:Value}{A:Around}{outer:List Env}{s s1:Shared}{H:Hp}{E:XK}{us:List Value}{vs:List V}
  (S:bB N ps scope) (e0:S7 P w K mg base A outer s H) (hl:vs.length=ps.length) (r:Vals vs us)
  (x:InCallC s s.heap.objs.size (bindL (envOfC qual scope s.heap.objs.size f cd).kindOf (ps.zip us) fun _=>none) (cellsFrom (s.heap.objs.size+1) scope.names []) (bindC (envOfC qual scope s.heap.objs.size f cd).kindOf (ps.zip us) fun _=>none) s1) :
  Inv (Jx CX P w K mg base N qual scope f cd A outer s H E) [] (start N vs) H s1:=by
 have hpl:ps.length<=N.length:=by have:=congrArg List.length S.pre;rw [List.length_take] at this;omega
 obtain ⟨h1,tk,rfl,hk⟩:=x.done
 have noA:∀ b:Addr,b∉(Jx CX P w K mg base N qual scope f cd A outer s H E).ex:=fun b z=>absurd (show b∈([]:List Addr) from z) (by simp)
 refine ⟨⟨e0.mod,S.kind,rfl,rfl,Yc _,fun y z c h1 h2=>?_,fun y hy=>?_,fun y c _ h=>?_,fun z=>Option.isNone_iff_eq_none.mp (show A.handled.isNone=true from z),e0.qt,Around.frames_deeper e0.frames,.inr ⟨rfl,rfl⟩,fun b z=>absurd z (noA b),e0.bs,e0.bsz,fun b _ _=>noA b,fun b z=>absurd z (noA b),e0.funs,e0.frf⟩,
  rfl,e0.bare,Un.kept hk,⟨_,x.toInCall.ns,fun i y v h1 h2 h3=>?_⟩,fun y c h=>⟨_,x.cell y c h⟩,e0.hok.fresh (Yc _),fun y c h=>?_,fun p hp=>absurd (show p∈([]:List (Addr×Obj)) from hp) (by simp),e0.hok.kept hk,?_⟩
 ·exact name_of_addr x.apart (PySem.mem_of_lookup h1) (PySem.mem_of_lookup h2)
 ·have hy:scope.names.lookup y=some .cell\/scope.names.lookup y=some .free:=hy
  rcases hy with hy | hy
  ·exact vR hy
  ·exact absurd rfl (S.nofree _ (PySem.mem_of_lookup hy))
 ·exact Nat.le_of_lt (x.above y c (PySem.mem_of_lookup h))
 ·have hi:i<vs.length:=by
   unfold start at h2
   by_cases hi:i<vs.length
   ·exact hi
   ·rw [List.getElem?_append_right (by simpa using hi)] at h2
    rw [List.getElem?_replicate] at h2
    split at h2 <;> cases h2
  have ha:vs[i]?=some v:=by
   unfold start at h2
   rw [List.getElem?_append_left (by simpa using hi),List.getElem?_map] at h2
   cases e:vs[i]? with
   | none=>rw [e] at h2;cases h2
   | some a=>rw [e] at h2;cases h2;rfl
  obtain ⟨u,hu,rv⟩:=r.get ha
  have hp:ps[i]?=some y:=by
   rw [<-S.pre,List.getElem?_take_of_lt (by omega)];exact h1
  have ndP:ps.Nodup:=by rw [<-S.pre];exact S.nd.sublist (List.take_sublist _ _)
  refine ⟨u,rv,?_⟩
  rcases S.par y (List.mem_of_getElem? hp) with k | k
  ·exact .inl ⟨k,rO ndP hp hu k⟩
  ·obtain ⟨c,e⟩:=vR (n:=s.heap.objs.size+1) k
   refine .inr ⟨.inl k,c,e,?_⟩
   have q:=x.cell y c e
   rw [rK ndP hp hu (by show scope.names.lookup y≠_;rw [k];decide)] at q
   exact q
 ·exact e0.hok.fresh (Nat.le_of_lt (x.above y c (PySem.mem_of_lookup h)))
 ·unfold start
  show _=N.length
  rw [List.length_append,X6,List.length_replicate]
  omega
theorem Ss {CX:CXT}{P:Program}{w:World}{K:Yh}{mg:Str->Option Value}{base:Heap}{k:Nat}{f:Addr}{name qual:Str}{params:Arguments}{body:List Stmt}{scope:Scope}{dV kV doc pm cdv ct oc:Value}{an od:Option Addr}
  {osl:Array (Option Value)} {N ps:List Str} {sp:Sp} (lk:K.lookup f=some ⟨oc,od,.func (PySem.W.fnOf name qual params body scope dV kV doc pm an cdv ct),osl⟩) (hcd:PySem.W.codeIn K cdv qual=true) (S:bB N ps scope)
  (len:∀ vs H Q E,sp vs H Q E->vs.length=ps.length)
  (hbody:∀ (A:Around) (outer:List Env) (s:Shared) (H:Hp) (vs:List V) (Q:VK) (E:XK),j8 k (A.deeper (envOfC qual scope s.heap.objs.size f cdv))->sp vs H Q E ->
   ∃ t,PSs (Jx CX P w K mg base N qual scope f cdv A outer s H E) body t/\t { nx:=fun _ H'=>Q .non H',rt:=Q } (start N vs) H) :
  d9 P w K mg base CX (k+1) f (PySem.W.fnOf name qual params body scope dV kV doc pm an cdv ct) ps sp:=by
 refine ⟨len,fun A outer s H args us vs Q E hr e0 hb r hsp=>?_⟩
 have hl:=len _ _ _ _ hsp
 have KX:K.In s.heap:=e0.mod.kin.keeps fun b o e=>(e0.bs b o e).1
 have lim:s.heap.NoLimit:=e0.mod.nolimit.keeps fun b o e=>(e0.bs b o e).1
 have hkind:∀ y∈ps.zip us,scope.names.lookup y.1=some .local\/(scope.names.lookup y.1=some .cell/\((cellsFrom (s.heap.objs.size+1) scope.names []).lookup y.1).isSome=true):=fun ⟨n,v⟩ hy=>by
  rcases S.par n (List.of_mem_zip hy).1 with q | q
  ·exact .inl q
  ·exact .inr ⟨q,PySem.W.cellsFrom_some _ _ _ (.inl q)⟩
 refine codeAny_call_function hr.depth (KX _ _ lk) rfl S.co S.gen rfl (PySem.W.codeRec_of KX hcd) (hb _ _ _ _ ?_)
 refine wpAny_newFunctionEnv_cells S.kind hkind fun env he s1 x=>?_
 subst he
 refine ⟨lim.keeps x.toInCall.keep,codeAny_func ?_⟩
 obtain ⟨t,ht,hq⟩:=hbody A outer s H vs Q E (hr.deeper _) hsp
 have I:Inv (Jx CX P w K mg base N qual scope f cdv A outer s H E) [] (start N vs) H s1:=Cj S e0 hl r x
 refine wpAny_mono (ht [] s1 (start N vs) H _ I hq) (fun fl s' hs=>?_) fun e s' hs=>hs
 have fin:∀ {Z':St} {H':Hp} {v:V} {u:Value},Inv (Jx CX P w K mg base N qual scope f cdv A outer s H E) [] Z' H' s'->RelV v u->Q v H'->CE outer P w H s Q u s':=
  fun {Z' H' v u} J rv q=>⟨v,H',J.os,J.bare,J.base,J.hok,rv,q⟩
 cases fl with
 | ret u=>
  obtain ⟨v,Z',H',J,rv,q⟩:=hs
  exact fin J rv q
 | next=>
  obtain ⟨Z',H',J,q⟩:=hs
  exact fin (v:=V.non) (u:=Value.none) J rfl q
 | brk=>
  obtain ⟨_,_,_,q⟩:=hs
  exact False.elim q
 | cont=>
  obtain ⟨_,_,_,q⟩:=hs
  exact False.elim q
end L2
namespace L2
open PySem PySem.Spec PyProof.Rows
section
variable {X:Cx}{x:Str}{p pos:Pos}{e:Expr}{es:List Expr}{t:TA}{id T:String}{r:List V->Hp->VK->Prop}
def tCB (r:List V->Hp->VK->Prop)(t:TA):TE:=fun Z H Q=>t Z H fun vs H1=>r vs H1 Q
theorem wA (hc:iw X (.builtin id) r)(hg:Gl X x)(hm:X.mg x=none)(hv:bootBuiltins x=some (.builtin id))(ha:PA X (e::es) t)(hn:x ≠ "__name__":=by decide)(hdb:(x==("__debug__" : Str))=false:=by decide)
  (he:starEach (e::es) X.env=(false,eval e X.env)::starEach es X.env:=by rfl) (hpl:(backTo pos (starEach es X.env)).any (·.1)=false:=by rfl):PE X (.Call (.Name x p) (e::es) [] pos) (tCB r t):=by
 intro pins s Z H Q I h
 refine wpAny_Call_Name_kw (iW I hg hm hv ?_ hn hdb)
 exact PyProof.Rows.callWith_builtin1 (thn (ha pos pins s Z H _ I h) fun us s1 ⟨vs,H1,I1,r1,q1⟩=>hc pins s1 Z H1 vs us Q I1 r1 q1) he hpl
theorem Dg (hc:iw X (.type T) r)(hg:Gl X x)(hm:X.mg x=none)(hv:bootBuiltins x=some (.type T))(ha:PA X (e::es) t)(hn:x ≠ "__name__":=by decide)(hdb:(x==("__debug__" : Str))=false:=by decide)
  (he:starEach (e::es) X.env=(false,eval e X.env)::starEach es X.env:=by rfl) (hpl:(backTo pos (starEach es X.env)).any (·.1)=false:=by rfl):PE X (.Call (.Name x p) (e::es) [] pos) (tCB r t):=by
 intro pins s Z H Q I h
 refine wpAny_Call_Name_kw (iW I hg hm hv ?_ hn hdb)
 exact PyProof.Rows.callWith_type1 (thn (ha pos pins s Z H _ I h) fun us s1 ⟨vs,H1,I1,r1,q1⟩=>hc pins s1 Z H1 vs us Q I1 r1 q1) he hpl
end
end L2
namespace HT
open PySem PyProof.Rows
section
open PySem.SeqAt
open PySem.AutoSeq1 (wpAny_loadPart')
open PySem.MeetsSeq PySem.MeetsSeq2 PySem.MeetsSeq3
end
section
variable {prog:Program}{w:World}{A:Around}{E:Value->Shared->Prop}{s:Shared}
theorem Mg {t b:Addr}{vs ws:List Value}{Q:Value->Shared->Prop}(ht:IsTup s.heap t vs.toArray)(hb:IsTup s.heap b ws.toArray)(hv:vs≠[])
  (h1:ws=[]->Q (.ref t) s) (h2:ws≠[]->Q (.ref s.heap.objs.size) { s with heap:=s.heap.push { cls:=.type "tuple",data:=.seq (vs++ws).toArray } })
  (hsz:vs.length+ws.length<=sizeLine):wpAny (model prog w) A (binaryOp .Add (.ref t) (.ref b)) Q E s:=by
 obtain ⟨⟨cls,dd,data,sl⟩,ho,hc,n,hd⟩:=id ht
 obtain ⟨⟨cls2,dd2,data2,sl2⟩,ho2,hc2,n2,hd2⟩:=id hb
 simp only at hc hd hc2 hd2
 subst hc hd hc2 hd2
 have e:vs.toArray++ws.toArray=(vs++ws).toArray:=by simp
 by_cases hw:ws=[]
 ·exact concat_meets ⟨_,ho,rfl⟩ ⟨_,ho2,rfl⟩ noFill_tuple_add seq_tuple_add PySem.F.slot_tuple_add PySem.F.entry_tuple_add (PySem.F.args_tuple_add_2 _ _)
   (tuple_addW1 t b vs.toArray ws.toArray n n2 dd dd2 sl sl2 (by simpa using hv) (by simp [hw])) ⟨ho,ho2,h1 hw⟩
 ·refine concat_meets ⟨_,ho,rfl⟩ ⟨_,ho2,rfl⟩ noFill_tuple_add seq_tuple_add PySem.F.slot_tuple_add PySem.F.entry_tuple_add (PySem.F.args_tuple_add_2 _ _)
   (tuple_addW2 t b vs.toArray ws.toArray n n2 dd dd2 sl sl2 (by simpa using hv) (by simpa using hw) (by rw [Yb,Yb];exact hsz)) ⟨ho,ho2,?_⟩
  rw [e]
  exact h2 hw
def sIx (n d:Nat):Option Int->Nat
 | none=>d
 | some v=>if v<0 then (v+(n:Int)).toNat else min v.toNat n
theorem RK (n d:Nat)(hd:d<=n)(o:Option Int):sIx n d o<=n:=by
 cases o with
 | none=>exact hd
 | some v=>
  show (if v<0 then (v+(n:Int)).toNat else min v.toNat n)<=n
  by_cases hv:v<0
  ·rw [if_pos hv];omega
  ·rw [if_neg hv];exact Nat.min_le_right _ _
theorem BJ (v:Int)(n d:Nat):(if v<0 then max (v+(n:Int)) 0 else min v (n:Int))=((sIx n d (some v):Nat):Int):=by
 show (if v<0 then max (v+(n:Int)) 0 else min v (n:Int))=(((if v<0 then (v+(n:Int)).toNat else min v.toNat n):Nat):Int)
 by_cases hv:v<0
 ·simp only [if_pos hv];omega
 ·simp only [if_neg hv];omega
theorem yh (lo hi:Option Int)(n:Nat):Builtin.Slice.sliceAdjust lo hi 1 (n:Int)=(((sIx n 0 lo:Nat):Int),((sIx n n hi:Nat):Int)):=by
 have h1:¬ ((1:Int)<0):=by omega
 unfold Builtin.Slice.sliceAdjust
 simp only [h1,if_false]
 refine Prod.ext ?_ ?_
 ·cases lo with
  | none=>rfl
  | some v=>exact BJ v n 0
 ·cases hi with
  | none=>rfl
  | some v=>exact BJ v n n
theorem zf (i j:Nat):Builtin.Slice.slicePlaces (i:Int) (j:Int) 1=j - i:=by
 unfold Builtin.Slice.slicePlaces
 have h1:(1:Int)>0:=by omega
 simp only [h1,if_true,Int.ediv_one]
 split <;> omega
theorem oO {v:Value}{o:Option Int}{Q:Option Int->Shared->Prop}(p:IsPart v o)(h:Q o s):wpAny (model prog w) A (Builtin.Slice.slicePartIndex v) Q E s:=by
 cases p with
 | none=>exact slicePart_none h
 | int i t=>exact slicePart_int h
theorem fP {sl:Addr}{vl vu:Value}{lo hi:Option Int}{n:Nat}{Q:Int×Int×Nat->Shared->Prop}(hs:s.heap.IsSliceOf sl vl vu .none)(pl:IsPart vl lo)(pu:IsPart vu hi)
  (h:Q (((sIx n 0 lo:Nat):Int),1,sIx n n hi - sIx n 0 lo) s):wpAny (model prog w) A (Builtin.Slice.sliceApplied (.ref sl) (pure (n:Int))) Q E s:=by
 obtain ⟨os,hos,hcs,hds⟩:=id hs
 unfold Builtin.Slice.sliceApplied Builtin.Slice.sliceFields
 refine XS (XS (wpAny_field hos hds (x:=vl) rfl (XS (wpAny_field hos hds (x:=vu) rfl (XS (wpAny_field hos hds (x:=.none) rfl (X3 ?_)))))))
 refine XS (slicePart_none ?_)
 show wpAny _ _ (if ((1:Int)==0)=true then _ else _) _ _ s
 rw [if_neg (by decide)]
 refine XS (oO pl (XS (oO pu (XS (X3 ?_)))))
 show wpAny _ _ (match Builtin.Slice.sliceAdjust lo hi 1 (n:Int) with | (lo,hi)=>pure (lo,(1:Int),Builtin.Slice.slicePlaces lo hi 1)) _ _ s
 rw [yh lo hi n]
 show wpAny _ _ (pure (((sIx n 0 lo:Nat):Int),(1:Int),Builtin.Slice.slicePlaces ((sIx n 0 lo:Nat):Int) ((sIx n n hi:Nat):Int) 1)) _ _ s
 rw [zf]
 exact X3 h
theorem Gg (xs:Array Value)(i k:Nat):((List.range k).filterMap fun (m:Nat)=>xs[((i:Int)+(m:Int)*1).toNat]?).toArray=((xs.toList.drop i).take k).toArray:=by
 have e:(fun (m:Nat)=>xs[((i:Int)+(m:Int)*1).toNat]?)=fun m=>xs[i+m]?:=by
  funext m
  have:((i:Int)+(m:Int)*1).toNat=i+m:=by omega
  rw [this]
 rw [e]
 have:=pick_run xs i k
 rw [List.filterMap_map] at this
 have e2:((fun x=>xs[x]?) ∘ fun x=>i+x)=fun m=>xs[i+m]?:=rfl
 rw [e2] at this
 rw [this]
theorem jN {t sl:Addr}{items:Array Value}{vl vu:Value}{lo hi:Option Int}{Q:Value->Shared->Prop}(ht:IsTup s.heap t items)(hs:s.heap.IsSliceOf sl vl vu .none)(pl:IsPart vl lo)(pu:IsPart vu hi)
  (hw:¬ (sIx items.size 0 lo=0/\sIx items.size items.size hi=items.size))
  (h:Q (.ref s.heap.objs.size) { s with heap:=s.heap.push { cls:=.type "tuple",data:=.seq ((items.toList.drop (sIx items.size 0 lo)).take (sIx items.size items.size hi - sIx items.size 0 lo)).toArray } })
  (hsz:items.size<=sizeLine):wpAny (model prog w) A (getItem (.ref t) (.ref sl)) Q E s:=by
 have htake:sizeOk (.seq ((items.toList.drop (sIx items.size 0 lo)).take (sIx items.size items.size hi - sIx items.size 0 lo)).toArray):=by
  show ((items.toList.drop (sIx items.size 0 lo)).take (sIx items.size items.size hi - sIx items.size 0 lo)).toArray.size<=sizeLine
  rw [Yb,List.length_take,List.length_drop,Array.length_toList]
  omega
 have hj:sIx items.size items.size hi<=items.size:=RK _ _ (Yc _) hi
 obtain ⟨os,hos,hcs,hds⟩:=id hs
 have hTs:s.TypeIs (.ref sl) "slice":=⟨os,hos,hcs⟩
 unfold getItem
 try with_reducible refine wpAny_holding ?_
 first | refine XS (X3 ?_) | skip
 refine XS (wpAny_sequenceKey ht.typeIs (by decide) ?_)
 refine XS (wpAny_callSpecial?_slot (name:=Str.ofString "__getitem__") ht.typeIs PyProof.Rows.slot_tuple_getitem
  (wpAny_call_entry PyProof.Rows.slot_tuple_getitem ht.typeIs entry_tuple_getitem ?_ (args_tuple_getitem _ _)))
 show wpAny _ _ (Builtin.Tuple.tupleItemsOf (.ref t) >>= _) _ _ s
 refine XS (tupleItemsOf_ ht ?_)
 refine XS (wpAny_typeOf hTs ?_)
 rw [if_pos (by decide)]
 refine XS (fP hs pl pu ?_)
 have hno:¬ ((((sIx items.size 0 lo:Nat):Int)==0&&(1:Int)==1&&(sIx items.size items.size hi - sIx items.size 0 lo)==items.size)=true):=by
  intro q
  rw [Bool.and_eq_true,Bool.and_eq_true] at q
  have q1:((sIx items.size 0 lo:Nat):Int)=0:=eq_of_beq q.1.1
  have q2:sIx items.size items.size hi - sIx items.size 0 lo=items.size:=eq_of_beq q.2
  exact hw ⟨by omega,by omega⟩
 show wpAny _ _ (if (((sIx items.size 0 lo:Nat):Int)==0&&(1:Int)==1&&(sIx items.size items.size hi - sIx items.size 0 lo)==items.size)=true then _ else _) _ _ s
 rw [if_neg hno,Gg]
 first
  | exact XS (m:=Builtin.Tuple.tupleExact _) (wpAny_newObj_type (X3 ⟨_,rfl,X3 h⟩) htake)
  | exact XS (m:=Builtin.Tuple.tupleExact _) (wpAny_newObj_type (XS (X3 (X3 ⟨_,rfl,X3 h⟩))) htake)
  | exact XS (XS (m:=Builtin.Tuple.tupleExact _) (wpAny_newObj_type (X3 (X3 ⟨_,rfl,X3 h⟩)) htake))
  | exact XS (XS (m:=Builtin.Tuple.tupleExact _) (wpAny_newObj_type (X3 ⟨_,rfl,X3 h⟩) htake))
end
end HT
namespace L2
open PySem PySem.Spec PyProof.Rows
abbrev TO:=St->Hp->(Option Int->Hp->Prop)->Prop
def PO (X:Cx)(e:Option Expr)(t:TO):Prop:=
 ∀ (pins:List (Addr×Obj)) (s:Shared) (Z : St) (H:Hp) (Q:Option Int->Hp->Prop),Inv X pins Z H s->t Z H Q ->
  wpAny (model X.prog X.w) X.A (evalPart e X.env) (fun u s'=>∃ o H',Inv X pins Z H' s'/\IsPart u o/\Q o H') X.xe s
def KD:TO:=fun _ H Q=>Q none H
def Tf (t:TE):TO:=fun Z H Q=>t Z H fun x H1=>∃ i,x=.int i/\Q (some i) H1
theorem intsAre_of {ns:List Int}:∀ {us:List Value},Vals (ns.map V.int) us->IntsAre us ns:=by
 induction ns with
 | nil=>intro us r;rw [List.map_nil] at r;cases r;exact .nil
 | cons n ns ih=>
  intro us r
  rw [X5] at r
  cases r with
  | cons r1 r2=>
   obtain ⟨t,e⟩:=r1
   subst e
   exact .cons n t (ih r2)
section
variable {X:Cx}{e:Expr}{te:TE}{lo hi:Option Expr}{tl th:TO}{pos p2:Pos}
theorem KC:PO X none KD:=by
 intro pins s Z H Q I h
 rw [evalPart_none]
 exact X3 ⟨none,H,I,.none,h⟩
theorem Lb (h:PE X e te):PO X (some e) (Tf te):=by
 intro pins s Z H Q I hw
 rw [evalPart_some]
 refine thn (h pins s Z H _ I hw) fun u s1 ⟨x,H1,I1,r1,q1⟩=>?_
 obtain ⟨i,rfl,q⟩:=q1
 obtain ⟨t,rfl⟩:=r1
 exact ⟨some i,H1,I1,.int i t,q⟩
def SlR (X:Cx)(r:V->Option Int->Option Int->Hp->VK->Prop):Prop:=
 ∀ (pins:List (Addr×Obj)) (s:Shared) (Z : St) (H:Hp) (x:V) (v vl vu:Value) (lo hi:Option Int) (sl:Addr) (Q:VK),Inv X pins Z H s->RelV x v->s.heap.IsSliceOf sl vl vu .none->IsPart vl lo->IsPart vu hi->r x lo hi H Q ->
  ∃ T id,typeLookup (.type T) "__getitem__" = pure (some (.builtin id))/\s.TypeIs v T/\wpAny (model X.prog X.w) X.A (getItem v (.ref sl)) (EP X pins Z Q) X.xe s
theorem SlR.or {r r':V->Option Int->Option Int->Hp->VK->Prop}(h:SlR X r)(h':SlR X r'):SlR X (fun x lo hi H Q=>r x lo hi H Q\/r' x lo hi H Q):=by
 intro pins s Z H x v vl vu lo hi sl Q I rx hs pl pu q
 rcases q with q | q
 ·exact h pins s Z H x v vl vu lo hi sl Q I rx hs pl pu q
 ·exact h' pins s Z H x v vl vu lo hi sl Q I rx hs pl pu q
def tSl (r:V->Option Int->Option Int->Hp->VK->Prop)(te:TE)(tl th:TO):TE:=fun Z H Q=>te Z H fun x H1=>tl Z H1 fun l H2=>th Z H2 fun u H3=>r x l u H3 Q
theorem Hz {r:V->Option Int->Option Int->Hp->VK->Prop}(hr:SlR X r)(he:PE X e te)(hl:PO X lo tl)(hu:PO X hi th):PE X (.Subscript e (.Slice lo hi none p2) pos) (tSl r te tl th):=by
 intro pins s Z H Q I h
 refine Subscript_ (thn (he pins s Z H _ I h) fun v s1 ⟨x,H1,I1,r1,q1⟩=>?_)
 refine wpAny_Slice (thn (hl pins s1 Z H1 _ I1 q1) fun vl s2 ⟨l,H2,I2,pl,q2⟩=>thn (hu pins s2 Z H2 _ I2 q2) fun vu s3 ⟨u,H3,I3,pu,q3⟩=>?_)
 rw [evalPart_none]
 refine X3 ?_
 have I4:Inv X pins Z H3 { s3 with heap:=s3.heap.push { cls:=.type "slice",data:=.fields #[vl,vu,.none] } }:=I3.kept (t':=s3.toks) fun b ob q=>Heap.get?_push_of_some _ q
 obtain ⟨T,id,hT,ht,hg⟩:=hr pins { s3 with heap:=s3.heap.push { cls:=.type "slice",data:=.fields #[vl,vu,.none] } } Z H3 x v vl vu l u s3.heap.objs.size Q I4 r1 (Heap.IsSliceOf.new ..) pl pu q3
 show wpAny (model X.prog X.w) X.A (subscriptTail e (.Slice lo hi none p2) v (.ref s3.heap.objs.size)) (EP X pins Z Q) X.xe { s3 with heap:=s3.heap.push { cls:=.type "slice",data:=.fields #[vl,vu,.none] } }
 exact tail_any (ops:=[.ref s3.heap.objs.size,v]) ht hT hg (by with_unfolding_all rfl)
def Fd (xs:List V)(lo hi:Option Int):List V:=(xs.drop (HT.sIx xs.length 0 lo)).take (HT.sIx xs.length xs.length hi - HT.sIx xs.length 0 lo)
theorem lX (xs:List V)(lo hi:Option Int):(Fd xs lo hi).length<=xs.length:=by
 unfold Fd
 rw [List.length_take,List.length_drop]
 omega
def XQ (K:Yh):V->Option Int->Option Int->Hp->VK->Prop:=fun x lo hi H Q=>∃ a xs,x=.ref a/\SqT K H a xs /\
 ¬ (HT.sIx xs.length 0 lo=0/\HT.sIx xs.length xs.length hi=xs.length)/\∀ p,H p=none->Q (.ref p) (upd H p (.tup (Fd xs lo hi)))
theorem Ow:SlR X (XQ X.K):=by
 intro pins s Z H x v vl vu lo hi sl Q I rx hs pl pu h
 obtain ⟨a,xs,rfl,hx,hw,q⟩:=h
 cases rx
 obtain ⟨its,r,ht,hz⟩:=I.tuple hx
 have hlen:its.toArray.size=xs.length:=by rw [Yb];exact r.length.symm
 refine ⟨"tuple",_,PyProof.Rows.slot_tuple_getitem.lookup,ht.typeIs,?_⟩
 refine HT.jN ht hs pl pu (by rw [hlen];exact hw) ?_ (by rw [hlen];exact hz)
 rw [hlen]
 refine ⟨.ref s.heap.objs.size,_,I.laid (t':=s.toks) (o:=.tup (Fd xs lo hi)) (fun b ob q=>Heap.get?_push_of_some _ q) (Yc _) ?_,rfl,q _ (I.hok.fresh (Yc _))⟩
 exact ⟨Ye (lX xs lo hi) hz,_,(r.drop (HT.sIx xs.length 0 lo)).take (HT.sIx xs.length xs.length hi - HT.sIx xs.length 0 lo),zN.new _ _⟩
def Vs (K:Yh):R2:=fun x y H Q=>∃ a b xs ys,x=.ref a/\y=.ref b/\SqT K H a xs/\SqT K H b ys/\xs≠[]/\xs.length+ys.length<=sizeLine /\
 (ys=[]->Q (.ref a) H)/\(ys≠[]->∀ p,H p=none->Q (.ref p) (upd H p (.tup (xs++ys))))
theorem Vals.nil_iff {xs:List V}{us:List Value}(r:Vals xs us):us=[]↔xs=[]:=by
 cases r with
 | nil=>simp
 | cons _ _=>simp
theorem K6:OpR X (binaryOp .Add) (Vs X.K):=by
 intro pins s Z H x y v u Q I rx ry h
 obtain ⟨a,b,xs,ys,rfl,rfl,ha,hb,hx,hz,q1,q2⟩:=h
 cases rx
 cases ry
 obtain ⟨its,r1,p1,_⟩:=I.tuple ha
 obtain ⟨its2,r2,p2,_⟩:=I.tuple hb
 refine HT.Mg p1 p2 (fun z=>hx (r1.nil_iff.mp z)) (fun z=>⟨.ref a,H,I,rfl,q1 (r2.nil_iff.mp z)⟩) (fun z=>?_) (by rw [<-r1.length,<-r2.length];exact hz)
 refine ⟨.ref s.heap.objs.size,_,I.laid (t':=s.toks) (o:=.tup (xs++ys)) (fun b ob q=>Heap.get?_push_of_some _ q) (Yc _) ?_,rfl,q2 (fun w=>z (r2.nil_iff.mpr w)) _ (I.hok.fresh (Yc _))⟩
 exact ⟨by rw [List.length_append];exact hz,_,r1.append r2,zN.new _ _⟩
end
end L2
namespace L2
open PySem PySem.Spec PyProof.Rows
def ixN (n:Nat)(i:Int):Option Nat:=if 0<=i then (if i<n then some i.toNat else none) else if -(n:Int)<=i then some (i+n).toNat else none
def atI {α : Type}(xs:List α)(i:Int):Option α:=(ixN xs.length i).bind fun j=>xs[j]?
theorem K5 {n:Nat}{i:Int}{j:Nat}(h:ixN n i=some j):seqIndex? i n=some j/\j<n/\-(n:Int)<=i/\i<n:=by
 unfold ixN at h
 by_cases h0:0<=i
 ·rw [if_pos h0] at h
  by_cases h1:i<n
  ·rw [if_pos h1] at h
   have e:i.toNat=j:=Option.some.inj h
   exact ⟨by rw [seqIndex_of h0 h1,e],by omega,by omega,h1⟩
  ·rw [if_neg h1] at h;cases h
 ·rw [if_neg h0] at h
  by_cases h1:-(n:Int)<=i
  ·rw [if_pos h1] at h
   have e:(i+n).toNat=j:=Option.some.inj h
   exact ⟨by rw [seqIndex_neg (by omega) h1,e],by omega,h1,by omega⟩
  ·rw [if_neg h1] at h;cases h
theorem vK {α : Type}{xs:List α}{i:Int}{v:α}(h:atI xs i=some v):∃ j,seqIndex? i xs.length=some j/\xs[j]?=some v/\j<xs.length/\-(xs.length:Int)<=i/\i<xs.length:=by
 unfold atI at h
 cases e:ixN xs.length i with
 | none=>rw [e] at h;cases h
 | some j=>
  rw [e] at h
  obtain ⟨h1,h2,h3,h4⟩:=K5 e
  exact ⟨j,h1,h,h2,h3,h4⟩
theorem Ea {α : Type}{xs:List α}{j:Nat}{v:α}(h:xs[j]?=some v):atI xs (j:Int)=some v:=by
 have hj:j<xs.length:=(List.getElem?_eq_some_iff.mp h).1
 have e:ixN xs.length (j:Int)=some j:=by
  unfold ixN
  rw [if_pos (by omega),if_pos (by omega)];simp
 unfold atI;rw [e];exact h
def zR (b:Expr):Prop:=∀ o i,subscripted b false o i=operate [o,i] (getItem o i)
def IxR (X:Cx)(r:R2):Prop:=
 ∀ (value slice:Expr) (pins:List (Addr×Obj)) (s:Shared) (Z : St) (H:Hp) (x y:V) (v u:Value) (Q:VK),Inv X pins Z H s->RelV x v->RelV y u->r x y H Q ->
  subscripted slice false v u=operate [v,u] (getItem v u)->wpAny (model X.prog X.w) X.A (subscriptTail value slice v u) (EP X pins Z Q) X.xe s
def MtR (X:Cx)(id:String)(r:V->List V->Hp->VK->Prop):Prop:=
 ∀ (pins:List (Addr×Obj)) (s:Shared) (Z : St) (H:Hp) (x:V) (xs:List V) (v:Value) (us:List Value) (Q:VK),Inv X pins Z H s->RelV x v->Vals xs us->r x xs H Q ->
  wpAny (model X.prog X.w) X.A (call (.builtin id) (v::us)) (EP X pins Z Q) X.xe s
section
variable {X:Cx}{a b:Expr}{ta tb:TE}{pos:Pos}
theorem IxR.or {r r':R2}(h:IxR X r)(h':IxR X r'):IxR X (fun x y H Q=>r x y H Q\/r' x y H Q):=by
 intro value slice pins s Z H x y v u Q I rx ry q hs
 rcases q with q | q
 ·exact h value slice pins s Z H x y v u Q I rx ry q hs
 ·exact h' value slice pins s Z H x y v u Q I rx ry q hs
theorem Uz {r:R2}(hr:IxR X r)(ha:PE X a ta)(hb:PE X b tb)(hs:zR b):PE X (.Subscript a b pos) (tOp r ta tb):=by
 intro pins s Z H Q I h
 exact Subscript_ (UG ha hb I h fun v u s2 x y H2 I2 rx ry q=>hr a b pins s2 Z H2 x y v u Q I2 rx ry q (hs _ _))
def Wg (K:Yh):R2:=fun x y H Q=>∃ p xs i v,x=.ref p/\y=.int i/\SqL K H p xs/\atI xs i=some v/\Q v H
def V4 (K:Yh):R2:=fun x y H Q=>∃ p xs i v,x=.ref p/\y=.int i/\SqT K H p xs/\atI xs i=some v/\Q v H
def Wo:R2:=fun x y H Q=>∃ z i c,x=.str z/\y=.int i/\z.length<=sizeLine/\atI z.cps.toList i=some c/\Q (.str ⟨#[c]⟩) H
theorem Lf:IxR X (Wg X.K):=by
 intro value slice pins s Z H x y v u Q I rx ry h hs
 obtain ⟨p,xs,i,z,rfl,rfl,hq,he,q⟩:=h
 cases rx
 obtain ⟨t,rfl⟩:=ry
 obtain ⟨its,r,pl,hz⟩:=I.list hq
 obtain ⟨j,h1,h2,h3,h4,h5⟩:=vK he
 obtain ⟨w,ew,rw'⟩:=r.get h2
 have hl:=r.length
 have hn:=tG
 have fin:EP X pins Z Q w s:=⟨z,H,I,rw',q⟩
 by_cases h0:0<=i
 ·have hj:i.toNat=j:=by
   rw [seqIndex_of h0 h5] at h1
   exact Option.some.inj h1
  exact item_listR pl.isList h0 (by omega) (by rw [hj];simpa using ew) fin hs
 ·have hj:(i+(its.toArray.size:Int)).toNat=j:=by
   rw [seqIndex_neg (by omega) h4] at h1
   rw [Yb,<-hl]
   exact Option.some.inj h1
  exact subscriptTail_builtinR (x:=w) pl.isList.typeIs slot_list_getitem.lookup
   (wpAny_getItem_list_neg (Q:=fun r s'=>r=w/\EP X pins Z Q r s') pl.isList (by omega) (by rw [Yb] <;> omega) (by omega) (by rw [hj];simpa using ew) ⟨rfl,fin⟩) hs
theorem O9:IxR X (V4 X.K):=by
 intro value slice pins s Z H x y v u Q I rx ry h hs
 obtain ⟨p,xs,i,z,rfl,rfl,hq,he,q⟩:=h
 cases rx
 obtain ⟨t,rfl⟩:=ry
 obtain ⟨its,r,pl,hz⟩:=I.tuple hq
 obtain ⟨j,h1,h2,h3,h4,h5⟩:=vK he
 obtain ⟨w,ew,rw'⟩:=r.get h2
 have hl:=r.length
 have hn:=tG
 have fin:EP X pins Z Q w s:=⟨z,H,I,rw',q⟩
 exact subscriptTail_builtinR (x:=w) pl.typeIs slot_tuple_getitem.lookup
  (getItem_tuple (j:=j) (Q:=fun r s'=>r=w/\EP X pins Z Q r s') pl (by omega) (by omega) (by rw [Yb,<-hl];exact h1) (by simpa using ew) ⟨rfl,fin⟩) hs
theorem O2:IxR X Wo:=by
 intro value slice pins s Z H x y v u Q I rx ry h hs
 obtain ⟨z,i,c,rfl,rfl,hz,he,q⟩:=h
 obtain ⟨t,rfl⟩:=rx
 obtain ⟨t',rfl⟩:=ry
 obtain ⟨j,h1,h2,h3,h4,h5⟩:=vK he
 have hl:z.cps.toList.length=z.length:=by simp [Str.length]
 rw [hl] at h1 h4 h5
 have hn:=tG
 exact tail_any (typeIs_str s z t) slot_str_getitem.lookup (getItem_str (c:=c) (by
  have e1:decide (i < -(2^63:Int))=false:=decide_eq_false (by omega)
  have e2:decide (i>=2^63)=false:=decide_eq_false (by omega)
  rw [e1,e2,Bool.or_false]) (by rw [h1];simpa using h2) ⟨.str ⟨#[c]⟩,H,I.tok _,⟨_,rfl⟩,q⟩) hs
def rIx (K:Yh):R2:=fun x y H Q=>Wg K x y H Q\/V4 K x y H Q\/Wo x y H Q
theorem Ru:IxR X (rIx X.K):=Lf.or (O9.or O2)
theorem rG (lo hi:Option Int)(n:Nat):(sliceBounds lo hi none n).1=((HT.sIx n 0 lo:Nat):Int)/\(sliceBounds lo hi none n).2.1=((HT.sIx n n hi:Nat):Int)/\(sliceBounds lo hi none n).2.2=1:=by
 refine ⟨?_,?_,rfl⟩
 ·cases lo with
  | none=>simp [sliceBounds,HT.sIx]
  | some i=>
   simp only [sliceBounds,HT.sIx,Option.getD_none,show (1:Int)>0 by decide,if_true]
   by_cases h:i<0
   ·simp only [h,if_true] <;> omega
   ·simp only [h,if_false] <;> omega
 ·cases hi with
  | none=>simp [sliceBounds,HT.sIx]
  | some i=>
   simp only [sliceBounds,HT.sIx,Option.getD_none,show (1:Int)>0 by decide,if_true]
   by_cases h:i<0
   ·simp only [h,if_true] <;> omega
   ·simp only [h,if_false] <;> omega
theorem pH (its:List Value)(lo hi:Option Int):slicePick its.toArray lo hi none=((its.drop (HT.sIx its.length 0 lo)).take (HT.sIx its.length its.length hi - HT.sIx its.length 0 lo)).toArray:=by
 obtain ⟨h1,h2,h3⟩:=rG lo hi its.toArray.size
 unfold slicePick
 rw [h1,h2,h3]
 simp only [sliceRange_one,pick_run,Yb] <;> rfl
def XH (K:Yh):V->Option Int->Option Int->Hp->VK->Prop:=fun x lo hi H Q=>∃ a xs,x=.ref a/\SqL K H a xs/\∀ p,H p=none->Q (.ref p) (upd H p (.lst (Fd xs lo hi)))
theorem Mj:SlR X (XH X.K):=by
 intro pins s Z H x v vl vu lo hi sl Q I rx hs pl pu h
 obtain ⟨a,xs,rfl,hx,q⟩:=h
 cases rx
 obtain ⟨its,r,ht,hz⟩:=I.list hx
 have hlen:=r.length
 refine ⟨"list",_,slot_list_getitem.lookup,ht.isList.typeIs,?_⟩
 refine wpAny_getItem_list_slice ht.isList hs pl pu .none (by simp) ?_ (by rw [Yb] <;> omega)
 rw [pH,<-hlen]
 refine ⟨.ref s.heap.objs.size,_,I.laid (t':=s.toks) (o:=.lst (Fd xs lo hi)) (fun b ob q=>Heap.get?_push_of_some _ q) (Yc _) ?_,rfl,q _ (I.hok.fresh (Yc _))⟩
 exact ⟨Ye (lX xs lo hi) hz,_,0,(r.drop (HT.sIx xs.length 0 lo)).take (HT.sIx xs.length xs.length hi - HT.sIx xs.length 0 lo),Heap.get?_push_size _ rfl⟩
def oh:V->Bool
 | .non=>true
 | .bl _=>true
 | .int _=>true
 | .str _=>true
 | _=>false
def eqV:V->V->Bool
 | .non,.non=>true
 | .bl a,.bl b=>a==b
 | .bl a,.int b=>(if a then 1 else 0)==b
 | .int a,.bl b=>a==(if b then 1 else 0)
 | .int a,.int b=>a==b
 | .str a,.str b=>a==b
 | _,_=>false
theorem Ay {A:Around}{s:Shared}{y x:V}{u v:Value}(ry:RelV y u)(rx:RelV x v)(fy:oh y=true)(fx:oh x=true):SeqAt.EqAt A s u v (eqV y x):=by
 cases y with
 | non=>
  cases ry
  cases x with
  | non=>cases rx;exact SeqAt.EqAt.same _
  | bl b=>cases rx;exact SeqAt.EqAt.none_bool b
  | int b=>obtain ⟨t,rfl⟩:=rx;exact SeqAt.EqAt.none_int b t
  | str b=>obtain ⟨t,rfl⟩:=rx;exact SeqAt.EqAt.none_str b t
  | _=>exact absurd (show false=true from fx) Bool.false_ne_true
 | bl a=>
  cases ry
  cases x with
  | non=>cases rx;exact SeqAt.EqAt.bool_none a
  | bl b=>cases rx;exact SeqAt.EqAt.bool_bool a b
  | int b=>obtain ⟨t,rfl⟩:=rx;exact SeqAt.EqAt.bool_int a b t
  | str b=>obtain ⟨t,rfl⟩:=rx;exact SeqAt.EqAt.bool_str a b t
  | _=>exact absurd (show false=true from fx) Bool.false_ne_true
 | int a=>
  obtain ⟨t',rfl⟩:=ry
  cases x with
  | non=>cases rx;exact SeqAt.EqAt.int_none a t'
  | bl b=>cases rx;exact SeqAt.EqAt.int_bool a t' b
  | int b=>obtain ⟨t,rfl⟩:=rx;exact SeqAt.EqAt.int_int a t' b t
  | str b=>obtain ⟨t,rfl⟩:=rx;exact SeqAt.EqAt.int_str a t' b t
  | _=>exact absurd (show false=true from fx) Bool.false_ne_true
 | str a=>
  obtain ⟨t',rfl⟩:=ry
  cases x with
  | non=>cases rx;exact SeqAt.EqAt.str_none a t'
  | bl b=>cases rx;exact SeqAt.EqAt.str_bool a t' b
  | int b=>obtain ⟨t,rfl⟩:=rx;exact SeqAt.EqAt.str_int a t' b t
  | str b=>obtain ⟨t,rfl⟩:=rx;exact SeqAt.EqAt.str_str a t' b t
  | _=>exact absurd (show false=true from fx) Bool.false_ne_true
 | _=>exact absurd (show false=true from fy) Bool.false_ne_true
def eqU (x:V)(u:Value):Bool:=match u with
 | .none=>eqV .non x
 | .bool b=>eqV (.bl b) x
 | .int i _=>eqV (.int i) x
 | .str z _=>eqV (.str z) x
 | _=>false
theorem Jt {x y:V}{u:Value}(r:RelV y u)(f:oh y=true):eqU x u=eqV y x:=by
 cases y with
 | non=>cases r;rfl
 | bl b=>cases r;rfl
 | int i=>obtain ⟨t,rfl⟩:=r;rfl
 | str z=>obtain ⟨t,rfl⟩:=r;rfl
 | _=>exact absurd (show false=true from f) Bool.false_ne_true
theorem uJ {x:V}:∀ {xs:List V} {us:List Value},Vals xs us->xs.all oh=true->us.any (eqU x)=xs.any fun y=>eqV y x
 | _,_,.nil,_=>rfl
 | y::xs,u::us,.cons r t,f=>by
  rw [List.all_cons,Bool.and_eq_true] at f
  rw [List.any_cons,List.any_cons,Jt r f.1,uJ t f.2]
theorem qO {A:Around}{s:Shared}{x:V}{v:Value}(rx:RelV x v)(fx:oh x=true):∀ {xs:List V} {us:List Value},Vals xs us->xs.all oh=true->∀ u∈us,SeqAt.EqAt A s u v (eqU x u)
 | _,_,.nil,_=>fun u hu=>by cases hu
 | y::xs,u::us,.cons r t,f=>fun u' hu=>by
  rw [List.all_cons,Bool.and_eq_true] at f
  rcases List.mem_cons.mp hu with rfl | hu
  ·rw [Jt r f.1];exact Ay r rx f.1 fx
  ·exact qO rx fx t f.2 u' hu
def inV (x:V)(xs:List V):Bool:=xs.any fun y=>eqV y x
def rIn (K:Yh)(neg:Bool):R2:=fun x y H Q=>∃ p xs,y=.ref p/\(SqL K H p xs\/SqT K H p xs)/\oh x=true/\xs.all oh=true/\Q (.bl (if neg then !inV x xs else inV x xs)) H
theorem zH:OpR X (compareOp .In) (rIn X.K false):=by
 intro pins s Z H x y v u Q I rx ry h
 obtain ⟨p,xs,rfl,hq,fx,fs,q⟩:=h
 cases ry
 rcases hq with hq | hq
 ·obtain ⟨its,r,pl,hz⟩:=I.list hq
  refine SeqAt.in_listAt (eqU x) pl.isList (fun w hw=>qO rx fx r fs w (by simpa using hw)) ⟨.bl _,H,I,rfl,?_⟩
  rw [show its.toArray.any (eqU x)=its.any (eqU x) by simp,uJ r fs]
  exact q
 ·obtain ⟨its,r,pl,hz⟩:=I.tuple hq
  refine SeqAt.in_tupleAt (eqU x) pl (fun w hw=>qO rx fx r fs w (by simpa using hw)) ⟨.bl _,H,I,rfl,?_⟩
  rw [show its.toArray.any (eqU x)=its.any (eqU x) by simp,uJ r fs]
  exact q
theorem tV:iw X (.builtin "len") (fun xs H Q=>∃ p ys,xs=[.ref p]/\(SqL X.K H p ys\/SqT X.K H p ys)/\Q (.int ys.length) H):=by
 intro pins s Z H xs us Q I r h
 obtain ⟨p,ys,rfl,hq,q⟩:=h
 obtain ⟨u,rfl,rx⟩:=vals1 r
 cases rx
 have hn:=tG
 rcases hq with hq | hq
 ·obtain ⟨its,r',pl,hz⟩:=I.list hq
  have hlen:=r'.length
  exact Calls.call_len_list pl.isList (by simp only [Yb] <;> omega) ⟨.int ys.length,H,I.tok _,⟨s.toks+1,by rw [Yb,hlen]⟩,q⟩
 ·obtain ⟨its,r',pl,hz⟩:=I.tuple hq
  have hlen:=r'.length
  exact len_tuple pl (by simp only [Yb] <;> omega) ⟨.int ys.length,H,I.tok _,⟨s.toks+1,by rw [Yb,hlen]⟩,q⟩
theorem rC:iw X (.type "list") (fun xs H Q=>∃ p ys,xs=[.ref p]/\(SqL X.K H p ys\/SqT X.K H p ys)/\∀ l,H l=none->Q (.ref l) (upd H l (.lst ys))):=by
 intro pins s Z H xs us Q I r h
 obtain ⟨p,ys,rfl,hq,q⟩:=h
 obtain ⟨u,rfl,rx⟩:=vals1 r
 cases rx
 have fin:∀ (its:List Value),Vals ys its->ys.length<=sizeLine->∀ (h':Heap) (c':Nat),(∀ b o',s.heap.get? b=some o'->h'.get? b=some o') ->
   h'.get? s.heap.objs.size=some { cls:=.type "list",dict:=none,data:=.seq its.toArray c',slots:=#[] }->EP X pins Z Q (.ref s.heap.objs.size) { s with heap:=h' }:=fun its r' hz h' c' kp e=>
  ⟨.ref s.heap.objs.size,_,I.laid (t':=s.toks) kp (Yc _) (show cZ X.prog X.w _ h' _ (.lst ys) from ⟨hz,its,c',r',e⟩),rfl,q _ (I.hok.fresh (Yc _))⟩
 rcases hq with hq | hq
 ·obtain ⟨its,r',pl,hz⟩:=I.list hq
  have hlen:=r'.length
  obtain ⟨o,ho,hc,n,hd⟩:=pl.isList
  exact call_list_seq p (.inl rfl) ho hc hd (fun h' c' kp e=>fin its r' hz h' c' kp e) (by simp only [Yb] <;> omega)
 ·obtain ⟨its,r',pl,hz⟩:=I.tuple hq
  have hlen:=r'.length
  obtain ⟨o,ho,hc,n,hd⟩:=pl
  exact call_list_seq p (.inr rfl) ho hc hd (fun h' c' kp e=>fin its r' hz h' c' kp e) (by simp only [Yb] <;> omega)
theorem qH:iw X (.type "tuple") (fun xs H Q=>∃ p ys,xs=[.ref p]/\((SqL X.K H p ys/\∀ l,H l=none->Q (.ref l) (upd H l (.tup ys)))\/(SqT X.K H p ys/\Q (.ref p) H))):=by
 intro pins s Z H xs us Q I r h
 obtain ⟨p,ys,rfl,h⟩:=h
 obtain ⟨u,rfl,rx⟩:=vals1 r
 cases rx
 rcases h with ⟨hq,q⟩ | ⟨hq,q⟩
 ·obtain ⟨its,r',pl,hz⟩:=I.list hq
  have hlen:=r'.length
  refine call_tuple_list pl.isList (fun h' kp=>?_) (by simp only [Yb] <;> omega)
  have I1:Inv X pins Z H { s with heap:=h' }:=I.kept (t':=s.toks) kp
  have I2:Inv X pins Z (upd H h'.objs.size (.tup ys)) { s with heap:=h'.push { cls:=.type "tuple",data:=.seq its.toArray } }:=
   I1.laid (t':=s.toks) (fun b o e=>Heap.get?_push_of_some _ e) (Yc _) (show cZ X.prog X.w _ _ _ (.tup ys) from ⟨hz,its,r',zN.new _ _⟩)
  exact ⟨.ref h'.objs.size,_,I2,rfl,q _ (I1.hok.fresh (Yc _))⟩
 ·obtain ⟨its,r',pl,hz⟩:=I.tuple hq
  exact call_tuple_same pl ⟨.ref p,H,I,rfl,q⟩
def tyV (K:Yh)(T:String)(x:V)(H:Hp):Prop:=match x with
 | .str _=>T = "str"
 | .int _=>T = "int"
 | .ref p=>(T = "list"/\∃ xs,SqL K H p xs)\/(T = "tuple"/\∃ o,K.lookup p=some o/\o.cls=.type "tuple"/\o.dict=none) \/
   (T = "dict"/\((∃ kvs,H p=some (.dK kvs))\/∃ kvs,H p=some (.dT kvs)))\/(T = "set"/\∃ S n,H p=some (.set S n))
 | _=>False
theorem Ia {pins:List (Addr×Obj)}{Z : St}{H:Hp}{s:Shared}{T:String}{x:V}{v:Value}(I:Inv X pins Z H s)(r:RelV x v)(ty:tyV X.K T x H) :
  s.TypeIs v T/\∀ a,v=.ref a->∃ ob,s.heap.get? a=some ob/\ob.dict=none:=by
 cases x with
 | str z=>
  obtain ⟨t,rfl⟩:=r
  cases (show T = "str" from ty)
  exact ⟨typeIs_str s z t,fun _ e=>nomatch e⟩
 | int i=>
  obtain ⟨t,rfl⟩:=r
  cases (show T = "int" from ty)
  exact ⟨typeIs_int s i t,fun _ e=>nomatch e⟩
 | ref p=>
  cases r
  rcases ty with ⟨rfl,xs,hq⟩ | ⟨rfl,o,hk,hc,hd⟩ | ⟨rfl,hk⟩ | ⟨rfl,S,n,hk⟩
  ·obtain ⟨its,_,pl,_⟩:=I.list hq
   refine ⟨pl.isList.typeIs,fun a e=>?_⟩
   cases e
   obtain ⟨o,n,e,c,hd,_⟩:=pl
   exact ⟨o,e,hd⟩
  ·refine ⟨⟨o,I.kIn p o hk,hc⟩,fun a e=>?_⟩
   cases e
   exact ⟨o,I.kIn _ o hk,hd⟩
  ·have z:∃ o,s.heap.get? p=some o/\o.ExactDict:=by
    rcases hk with ⟨kvs,hk⟩ | ⟨kvs,hk⟩
    ·obtain ⟨_,_,_,_,o,_,_,e,ex,_⟩:=I.hok p _ hk
     exact ⟨o,e,ex⟩
    ·obtain ⟨_,_,_,_,o,_,_,e,ex,_⟩:=I.hok p _ hk
     exact ⟨o,e,ex⟩
   obtain ⟨o,e,ex⟩:=z
   refine ⟨⟨o,e,ex.1⟩,fun a e2=>?_⟩
   cases e2
   exact ⟨o,e,ex.2.1⟩
  ·obtain ⟨o,_,_,_,e,ex,_⟩:=I.hok p _ hk
   refine ⟨⟨o,e,ex.1⟩,fun a e2=>?_⟩
   cases e2
   exact ⟨o,e,ex.2.1⟩
 | _=>exact False.elim ty
def W7 (K:Yh)(T:String)(r:V->List V->Hp->VK->Prop)(to:TE):TE:=fun Z H Q=>to Z H fun x H1=>tyV K T x H1/\r x [] H1 Q
def tBM (K:Yh)(T:String)(r:V->List V->Hp->VK->Prop)(to:TE)(t:TA):TE:=fun Z H Q=>to Z H fun x H1=>tyV K T x H1/\t Z H1 fun xs H2=>r x xs H2 Q
variable {o e:Expr}{es:List Expr}{to:TE}{t:TA}{name:Str}{apos cpos:Pos}{T id:String}{r:V->List V->Hp->VK->Prop}
theorem O8 (pa:PlainAttrs T)(slot:Slot T name id)(hty:typeOf (.builtin id)=pure (.type "method_descriptor"))(hm:MtR X id r)(ho:PE X o to)
  (hbase:attributeBase o name X.env (eval o X.env)=eval o X.env:=by rfl) (hline:(apos.endLine==cpos.line)=true:=by rfl):PE X (.Call (.Attribute o name apos) [] [] cpos) (W7 X.K T r to):=by
 intro pins s Z H Q I h
 refine wpAny_Call_method0_late hbase hline (thn (ho pins s Z H _ I h) fun v s1 ⟨x,H1,I1,r1,ty,q1⟩=>?_)
 obtain ⟨h1,h2⟩:=Ia I1 r1 ty
 exact ⟨T,id,pa,slot,hty,h1,h2,Calls.callWith_builtin rfl (PySem.evalArgs_none (hm pins s1 Z H1 x [] v [] Q I1 r1 .nil q1))⟩
theorem T8 (pa:PlainAttrs T)(slot:Slot T name id)(hty:typeOf (.builtin id)=pure (.type "method_descriptor"))(hm:MtR X id r)(ho:PE X o to)(ha:PA X (e::es) t)
  (hbase:attributeBase o name X.env (eval o X.env)=eval o X.env:=by rfl)
  (hfew:((backTo cpos (starEach (e::es) X.env)).all (fun x=>!x.1)&&(backToKw cpos (keywordEach [] X.env)).all (fun x=>x.1.isSome)
   && decide ((e::es).length+([]:List Keyword).length+(if ([]:List Keyword).isEmpty then 0 else 1)<30))=true:=by rfl)
  (hline:(apos.endLine==cpos.line)=true:=by rfl) (hs:starEach (e::es) X.env=(false,eval e X.env)::starEach es X.env:=by rfl) (hplain:(backTo cpos (starEach es X.env)).any (·.1)=false:=by rfl) :
  PE X (.Call (.Attribute o name apos) (e::es) [] cpos) (tBM X.K T r to t):=by
 intro pins s Z H Q I h
 refine wpAny_Call_method_late hbase hfew hline rfl (thn (ho pins s Z H _ I h) fun v s1 ⟨x,H1,I1,r1,ty,q1⟩=>?_)
 obtain ⟨h1,h2⟩:=Ia I1 r1 ty
 refine ⟨T,id,pa,slot,hty,h1,h2,?_⟩
 have hA:=ha cpos pins s1 Z H1 _ I1 q1
 rw [hs] at hA |-
 refine Calls.callWith_builtin (by show (false||(backTo cpos (starEach es X.env)).any (·.1))=false;rw [hplain] <;> rfl) (Calls.evalArgs_plain ?_)
 exact thn hA fun us s2 ⟨vs,H2,I2,r2,q2⟩=>hm pins s2 Z H2 x vs v us Q I2 r1 r2 q2
/- xs.append(e), list.index on a module's tuple .. are MtR facts of 06m -/
end
end L2
namespace L2
open PySem PySem.Spec PyProof.Rows
def MtM (X:Cx)(id:String)(r:V->List V->Hp->VK->Prop):Prop:=
 ∀ (pins:List (Addr×Obj)) (s:Shared) (Z : St) (H:Hp) (x:V) (xs:List V) (v:Value) (us:List Value) (Q:VK),Inv X pins Z H s->RelV x v->Vals xs us->r x xs H Q ->
  wpAny (model X.prog X.w) X.A (call (.builtin id) (v::us)) (EP X pins Z Q) X.xe s
theorem Vals.one:∀ {x:V} {us:List Value},Vals [x] us->∃ u,us=[u]/\RelV x u
 | _,_,.cons r .nil=>⟨_,rfl,r⟩
theorem Vals.zero:∀ {us:List Value},Vals [] us->us=[]
 | _,.nil=>rfl
theorem Vals.rep {xs:List V}{us:List Value}(h:Vals xs us):∀ k:Nat,Vals (X7 k xs).flatten (X7 k us).flatten
 | 0=>.nil
 | k+1=>by
  rw [List.replicate_succ,List.replicate_succ,List.flatten_cons,List.flatten_cons]
  exact Vals.append h (Vals.rep h k)
theorem foldl_rep (its:List Value):∀ (k:Nat) (acc:List Value),
  List.foldl (fun x1 x2=>x1++x2) acc.toArray (X7 k its.toArray)=(acc++(X7 k its).flatten).toArray
 | 0,acc=>by simp
 | k+1,acc=>by
  have e:acc.toArray++its.toArray=(acc++its).toArray:=by simp
  have e2:(acc++its)++(X7 k its).flatten=acc++(X7 (k+1) its).flatten:=by
   rw [List.replicate_succ,List.flatten_cons,List.append_assoc]
  rw [<-e2,<-foldl_rep its k (acc++its),<-e,List.replicate_succ,List.foldl_cons]
section
variable {X:Cx}{pins:List (Addr×Obj)}{Z : St}{H:Hp}{s:Shared}{l b:Addr}{xs ys zs:List V}
theorem Inv.lset {its its':List Value}{n:Nat}{f:Array Value->Array Value}{t':Nat}(I:Inv X pins Z H s)(hH:H l=some (.lst xs))
  (e:s.heap.get? l=some { cls:=.type "list",data:=.seq its.toArray n }) (hf:f its.toArray=its'.toArray) (hv:Vals ys its') (hz:ys.length<=sizeLine) :
  Inv X pins Z (upd H l (.lst ys)) { s with heap:=s.heap.update l (Obj.mapSeq f),toks:=t' }:=by
 have q:=PySem.IsL.update e f
 rw [hf] at q
 refine I.write (x:=l) (e:=l) (by rw [hH];exact trivial) (.inl rfl) (fun b' u hb hu=>(Heap.get?_update_other s.heap (Obj.mapSeq f) (Ne.symm hb)).trans hu) ⟨_,q⟩ ?_
 exact ⟨hz,its',_,hv,q⟩
theorem Inv.lnew {its:List Value}{t':Nat}(I:Inv X pins Z H s)(hv:Vals ys its)(hz:ys.length<=sizeLine) :
  Inv X pins Z (upd H s.heap.objs.size (.lst ys)) { s with heap:=s.heap.push { cls:=.type "list",data:=.seq its.toArray },toks:=t' }:=
 I.laid (fun _ _ q=>Heap.get?_push_of_some _ q) (Yc _) ⟨hz,its,0,hv,Heap.get?_push_size _ rfl⟩
theorem Inv.fresh (I:Inv X pins Z H s):H s.heap.objs.size=none:=I.hok.fresh (Yc _)
theorem Inv.lstM (I:Inv X pins Z H s)(hH:H l=some (.lst xs)):xs.length<=sizeLine/\∃ (its:List Value) (n:Nat),Vals xs its/\xs.length=its.length/\s.heap.get? l=some { cls:=.type "list",data:=.seq its.toArray n }:=by
 obtain ⟨z,its,n,r,e⟩:=I.hok l _ hH
 exact ⟨z,its,n,r,r.length,e⟩
end
section
variable {X:Cx}
def z6:V->List V->Hp->VK->Prop:=fun x vs H Q=>∃ l xs y,x=.ref l/\vs=[y]/\H l=some (.lst xs)/\xs.length<sizeLine/\Q .non (upd H l (.lst (xs++[y])))
theorem sG:MtM X "list.append" z6:=by
 intro pins s Z H x vs v us Q I rx rv h
 obtain ⟨l,xs,y,rfl,rfl,hH,hz,q⟩:=h
 cases rx
 obtain ⟨u,rfl,ru⟩:=rv.one
 obtain ⟨z,its,n,r,hl,e⟩:=I.lstM hH
 refine call_meets F.slot_list_append ⟨_,e,rfl⟩ F.entry_list_append (F.args_list_append_2 _ _) (PySem.list_append l its.toArray n u (by rw [Yb];omega)) ⟨e,?_⟩
 refine ⟨.non,_,I.lset (its':=its++[u]) hH e (by simp) (r.append (.cons ru .nil)) ?_,rfl,q⟩
 rw [List.length_append,List.length_singleton]
 omega
def Xp:R2:=fun x y H Q=>∃ l b xs zs,x=.ref l/\y=.ref b/\H l=some (.lst xs)/\H b=some (.lst zs)/\xs.length+zs.length<=sizeLine/\∀ p,H p=none->Q (.ref p) (upd H p (.lst (xs++zs)))
theorem NP:OpR X (binaryOp .Add) Xp:=by
 intro pins s Z H x y v u Q I rx ry h
 obtain ⟨l,b,xs,zs,rfl,rfl,hH,hB,hz,q⟩:=h
 cases rx
 cases ry
 obtain ⟨z,its,n,r,hl,e⟩:=I.lstM hH
 obtain ⟨z2,its2,n2,r2,hl2,e2⟩:=I.lstM hB
 refine PySem.P.add_list e e2 ?_ (by rw [Yb,Yb];omega)
 have ea:its.toArray++its2.toArray=(its++its2).toArray:=by simp
 rw [ea]
 exact ⟨.ref _,_,I.lnew (t':=s.toks) (r.append r2) (by rw [List.length_append];omega),rfl,q _ I.fresh⟩
theorem len_rep {α : Type}(xs:List α)(k:Nat):(X7 k xs).flatten.length=k*xs.length:=by
 induction k with
 | zero=>simp
 | succ k ih=>rw [List.replicate_succ,List.flatten_cons,List.length_append,ih,Nat.succ_mul,Nat.add_comm]
end
section
variable {prog:Program}{w:World}{A:Around}{E:Value->Shared->Prop}{s:Shared}
end
section
variable {X:Cx}
end
end L2
namespace Att
open PySem PySem.W PySem.Calls PyProof.Rows
theorem mY {P:Params}{h:Heap}:∀ (ns:List Int) (vs:List Value),WellAll P h vs (ns.map WData.int)->IntsAre vs ns:=by
 intro ns
 induction ns with
 | nil=>
  intro vs w
  rw [List.map_nil] at w
  cases w
  exact .nil
 | cons n ns ih=>
  intro vs w
  rw [X5] at w
  cases w with
  | cons a b=>
   cases a
   exact .cons _ _ (ih _ b)
theorem CK {l:OpenLaw}{n:Nat}(hn:l.most=some n){P:Params}{h:Heap}{args:List WData}{vals:List Value}
  (hpre:l.row.toRowW.claim.pre args=true) (hwl:WellAll P h vals args) :
  ∃ a vs ns,vals=[Value.ref a]/\args=[WData.list (ns.map WData.int)]/\h.get? a=some { cls:=.type "list",data:=.seq vs.toArray }/\IntsAre vs ns/\ns.length<=n:=by
 have hsh:WShape.hasAll [] args [.list .int]=true:=(pre_splitW hpre).1
 have hc:l.pre.holds [] { args:=args }=true:=(pre_splitW hpre).2
 obtain ⟨d,r,rfl,h1,h2⟩:=hasAllW_cons hsh
 obtain rfl:=hasAllW_nil h2
 obtain ⟨xs,rfl,h3⟩:=hasW_list h1
 obtain ⟨ns,rfl⟩:=items_int h3
 have hlen:ns.length<=n:=by
  unfold OpenLaw.pre at hc
  have h4:(WTm.not (.lt (.lit (.int (n:Int))) (.len (.arg 0)))).holds [] { args:=[.list (ns.map .int)] }=true:=by
   have h4:=(holds_andW hc).1
   rw [hn] at h4
   exact h4
  have h5:=condW_of h4 (w_not (w_lt w_lit (w_len_list (w_arg rfl))))
  rw [X6] at h5
  refine Nat.le_of_not_lt fun q=>?_
  have q':(n:Int)<((ns.length:Nat):Int):=by omega
  first
   | (rw [decide_eq_true q'] at h5;exact absurd h5 (by decide))
   | (simp at h5;omega)
 cases hwl with
 | cons w1 w2=>
  cases w2
  cases w1 with
  | list ho hall=>exact ⟨_,_,ns,rfl,rfl,ho,mY ns _ hall,hlen⟩
theorem zV (l:OpenLaw)(args:List WData):l.row.toRowW.claim.post args (.bool true) args=true:=
 postW_of (r:=l.row.toRowW) (X:=(true==true))
  (show WShape.has [] (.bool true) .bool=true by first | rfl | decide | simp [WShape.has,WShape.arms,WShape.armsAll])
  (show (WTm.eq .res (.lit (.bool true))).value [] { args:=args,res:=some (.bool true),after:=args }=some (.bool (true==true)) from w_eq_bool (w_res rfl) w_lit) rfl
theorem uD {l:OpenLaw}{n:Nat}{q:Program}{loose:List Str}{XP:(Str->Option Value)->Heap->Prop}{YP:World->Heap->Prop}{d:DefRec}
  (hn:l.most=some n) (hdf:d.params.defaults=[])
  (call:∀ (w:World) (s₀ s₁ : Shared) (mg mb:Str->Option Value) (fa:Addr) (o:Obj) (pm cd doc:Value) (a:Addr) (vs:List Value) (ns:List Int),
   Ground q loose [] XP w s₀ mg mb s₁.heap->YP w s₁.heap ->
   s₁.heap.get? fa=some o->o.data=.func (docDef d.name d.params d.body d.scope pm cd doc)->s₁.heap.CodeRec cd d.name->mg d.name=some (.ref fa) ->
   s₁.heap.get? a=some { cls:=.type "list",data:=.seq vs.toArray }->IntsAre vs ns->ns.length<=n->s₁.gens = #[] ->
   codeAny (model l.prog w) callerA (.call (.ref fa) ⟨[.ref a],[]⟩) (fun r s'=>r=.ok (.ret (.bool true))/\OldK s₁.heap s'.heap/\s'.os=s₁.os/\AllBare s'.gens) s₁) :
  WalkO q loose XP YP l.row.toRowW d [] (fun f vs=>PySem.call f vs):=by
 intro w s₀ s₁ mg mb G Y fa o pm cd doc dV kV ho hd hcd hD hmg hg args vals as hpre hlay hrd hwl hlo
 obtain rfl:dV=.none:=Dflts.none hD hdf
 obtain rfl:kV=.none:=Dflts.noKw hD
 obtain ⟨a,vs,ns,rfl,rfl,hobj,hints,hlen⟩:=CK hn hpre hwl
 refine enter_call (codeAny_mono (call w s₀ s₁ mg mb fa o pm cd doc a vs ns G Y ho (fd_plain hd) hcd hmg hobj hints hlen hg) fun r s' hq=>?_)
 obtain ⟨rfl,h2,h3,h4⟩:=hq
 exact ⟨.inl ⟨.bool true,.bool true,[],rfl,fun _=>rfl,.bool true,zV l _,fun _=>⟨List.Pairwise.nil,fun _ hm=>(nomatch hm)⟩⟩,h2,h3,h4⟩
section
variable {prog:Program}{w:World}{A:Around}{E:Value->Shared->Prop}{s:Shared}{K:Frag}
def ledger (h:Heap)(L d:Addr):List (Addr×Obj):=(List.range h.objs.size).filterMap fun a=>if a=L\/a=d then none else (h.get? a).map fun o=>(a,o)
end
end Att
namespace L2
open PySem PySem.Spec PyProof.Rows
theorem uc:∀ {vs:List Value} {ns:List Int},IntsAre vs ns->Vals (ns.map V.int) vs
 | _,_,.nil=>.nil
 | _,_,.cons n t h=>.cons ⟨t,rfl⟩ (uc h)
def Only (H:Hp):Prop:=∀ b,H b=none\/∃ o xs,H b=some (.frz o (.lst xs))
theorem Fw {P:Program}{w:World}{K:Yh}{mg mb:Str->Option Value}{CX:CXT}{k:Nat}{fa a:Addr}{fd:FuncData}{x:Str}{sp:Sp}{s₁ : Shared}{vs:List Value}{ns:List Int}
  (KX:K.In s₁.heap) (hns:s₁.heap.Ns mainGlobals mg) (hb:s₁.heap.Ns builtinsNs mb) (hbb:∀ x:Str,x ≠ "__name__"->mb x=bootBuiltins x) (hlim:s₁.heap.NoLimit) (hg:s₁.gens = #[])
  (ha:s₁.heap.get? a=some { cls:=.type "list",data:=.seq vs.toArray }) (hi:IntsAre vs ns) (hl:ns.length<=sizeLine) (hr:j8 k callerA)
  (F:∀ base:Heap,K.In base->base.Ns mainGlobals mg->d9 P w K mg base CX k fa fd [x] sp) (hbind:∀ (s:Shared) (u:Value),BindsTo s fd ⟨[u],[]⟩ [(x,u)])
  (hsp:∀ H:Hp,Only H->SqL K H a (ns.map V.int)->sp [.ref a] H (fun v _=>v=.bl true) fun _ _ _=>False)
  (hCX:∀ H e s',CX [] H s₁ (fun _ _ _=>False) e s'->False) :
  codeAny (model P w) callerA (.call (.ref fa) ⟨[.ref a],[]⟩) (fun r s'=>r=.ok (.ret (.bool true))/\OldK s₁.heap s'.heap/\s'.os=s₁.os/\AllBare s'.gens) s₁:=by
 have rv:=uc hi
 have lenV:=hi.length
 -- from an abstract heap in which nothing but the script may be tracked
 have core:∀ H:Hp,Only H->SqL K H a (ns.map V.int)->HOk P w H s₁.heap->(∀ b,H b≠none->b=a)->(H a≠none->K.lookup a=none) ->
   codeAny (model P w) callerA (.call (.ref fa) ⟨[.ref a],[]⟩) (fun r s'=>r=.ok (.ret (.bool true))/\OldK s₁.heap s'.heap/\s'.os=s₁.os/\AllBare s'.gens) s₁:=by
  intro H hO hS hok hA hK
  have base_of:∀ {b:Addr} {o:Obj},s₁.heap.get? b=some o->H b=none->(GP s₁.heap H).get? b=some o:=fun e n=>HW e n
  have noA:∀ {b:Addr} {o:Obj} {es:Array DictEntry} {ep:Nat},s₁.heap.get? b=some o->o.data=.dict es ep->H b=none:=fun {b o es ep} e d=>by
   cases q:H b with
   | none=>rfl
   | some u=>
    have e':b=a:=hA b (by rw [q];simp)
    subst e'
    rw [ha] at e;cases e
    have d':Data.seq vs.toArray _=Data.dict es ep:=d
    cases d'
  have nsK:∀ {b:Addr} {m:Str->Option Value},s₁.heap.Ns b m->(GP s₁.heap H).Ns b m:=fun {b m} ⟨o,es,ep,e,d,r⟩=>⟨o,es,ep,base_of e (noA e d),d,r⟩
  have hKb:K.In (GP s₁.heap H):=fun b o e=>base_of (KX b o e) (by
   cases q:H b with
   | none=>rfl
   | some u=>
    have e':b=a:=hA b (by rw [q];simp)
    subst e'
    rw [hK (by rw [q];simp)] at e;cases e)
  have hM:Mod K mg (GP s₁.heap H):=⟨hKb,nsK hns,⟨mb,nsK hb,hbb⟩,let ⟨mc,h1,h2⟩:=hlim;⟨mc,nsK h1,h2⟩⟩
  have e0:S7 P w K mg (GP s₁.heap H) callerA [] s₁ H:=⟨rfl,hM,fun b o e=>KH e,Nat.le_of_eq (zO _ _),trivial,fun b hb=>absurd (show b∈([]:List Addr) from hb) (by simp),hok,.of_eq hg,fun v e=>(nomatch e)⟩
  refine codeAny_mono ((F _ hKb (nsK hns)).run callerA [] s₁ H ⟨[.ref a],[]⟩ [.ref a] [.ref a] _ _ hr e0 (hbind s₁ (.ref a)) (.cons rfl .nil) (hsp H hO hS)) fun r s' h=>?_
  cases r with
  | error e=>exact (hCX H e s' h).elim
  | ok fl=>
   cases fl with
   | next=>exact False.elim h
   | brk=>exact False.elim h
   | cont=>exact False.elim h
   | ret u=>
    obtain ⟨v,H',os,bare,un,hok',r',q⟩:=h
    have q':v=.bl true:=q
    subst q'
    obtain rfl:u=Value.bool true:=r'
    refine ⟨rfl,OldK.of_keep fun b o e=>?_,os,bare⟩
    cases q:H b with
    | none=>exact un.keep b o e q (by intro z;exact absurd (show b∈([]:List Addr) from z) (by simp)) (by simp)
    | some u=>
     rcases hO b with z | ⟨ob,xs,z⟩
     ·rw [q] at z;cases z
     ·have z2:=un.frzs b ob _ z
      obtain ⟨e1,_⟩:=hok b _ z
      obtain ⟨e2,_⟩:=hok' b _ z2
      rw [e] at e1;cases e1
      exact e2
 cases hk:K.lookup a with
 | some o=>
  -- the script is one of the module's own objects
  have e:=KX a o hk
  rw [ha] at e
  cases e
  refine core (fun _=>none) (fun _=>.inl rfl) (.inr ⟨_,vs.toArray,_,hk,rfl,rfl,rfl,by rw [Yb,lenV];exact hl,by simpa using rv⟩) (fun b u z=>by have z':(none:Option HO)=some u:=z;cases z') (fun b z=>absurd rfl z) fun z=>absurd rfl z
 | none=>
  refine core (fun b=>if b=a then some (.frz { cls:=.type "list",data:=.seq vs.toArray } (.lst (ns.map V.int))) else none) (fun b=>?_) (.inl (.inr ⟨{ cls:=.type "list",data:=.seq vs.toArray },if_pos rfl⟩)) (fun b u z=>?_) (fun b z=>?_) fun _=>hk
  ·by_cases hb:b=a
   ·exact .inr ⟨_,_,if_pos hb⟩
   ·exact .inl (if_neg hb)
  ·by_cases hb:b=a
   ·have z':=(if_pos hb).symm.trans z
    cases z'
    subst hb
    exact ⟨ha,by rw [X6];exact hl,vs,_,rv,ha⟩
   ·have z':=(if_neg hb).symm.trans z
    cases z'
  ·by_cases hb:b=a
   ·exact hb
   ·exact absurd (if_neg hb) z
end L2
namespace L2
open PySem PySem.Spec PyProof.Rows
theorem Ec {l:PySem.W.OpenLaw}{n k:Nat}{q:Program}{loose:List Str}{XP:(Str->Option Value)->Heap->Prop}{YP:World->Heap->Prop}{d:DefRec}{K:Params->Yh}{CX:World->CXT}{sp:World->Sp}{x:Str}
  (hn:l.most=some n) (hn2:n<=sizeLine) (hdf:d.params.defaults=[]) (hr:j8 k callerA)
  (hY:∀ (w:World) (h:Heap),YP w h->(K w.params).In h)
  (F:∀ (w:World) (mg:Str->Option Value) (fa:Addr) (h:Heap),(K w.params).In h->h.Ns mainGlobals mg->mg d.name=some (.ref fa) ->
   ∃ fd:FuncData,(∀ (s:Shared) (u:Value),BindsTo s fd ⟨[u],[]⟩ [(x,u)]) /\
    ∀ base:Heap,(K w.params).In base->base.Ns mainGlobals mg->d9 l.prog w (K w.params) mg base (CX w) k fa fd [x] (sp w))
  (hsp:∀ (w:World) (H:Hp) (a:Addr) (ns:List Int),ns.length<=n->Only H->SqL (K w.params) H a (ns.map V.int)->sp w [.ref a] H (fun v _=>v=.bl true) fun _ _ _=>False)
  (hCX:∀ (w:World) (H:Hp) (s:Shared) (e:Value) (s':Shared),CX w [] H s (fun _ _ _=>False) e s'->False) :
  PySem.W.WalkO q loose XP YP l.row.toRowW d [] (fun f vs=>PySem.call f vs):=by
 refine Att.uD hn hdf fun w s₀ s₁ mg mb fa o pm cd doc a vs ns G Y ho hd hcd hmg hobj hints hlen hg=>?_
 have KX:=hY w _ Y
 obtain ⟨fd,hb,hF⟩:=F w mg fa _ KX G.T.g hmg
 exact Fw KX G.T.g G.T.b G.T.builtins G.T.nolimit hg hobj hints (Ye hlen hn2) hr hF hb (fun H hO hS=>hsp w H a ns hlen hO hS) fun H e s'=>hCX w H s₁ e s'
end L2
/- THE LAST THEOREM (shape; LID, My.* are yours):
   My.Adr: a structure of the addresses that your layer names (classes,functions);My.Txt K t: a structure (Prop) of the equations over K;
   My.txt_mk:{K} {implicit addresses ..} (e1:nsIn K mainGlobals "law" = some (some (.ref f))) (e2:K.lookup f=some ⟨oc,od,.func (fnOf "law" "law" params body scope dV kV doc pm an cdv ct),sl⟩) (e3:codeIn K cdv "law" = true) .. : ∃ t,My.Txt K t
set_option maxRecDepth 100000 in
set_option maxHeartbeats 0 in
theorem PySem.Challenge.cw_LID_holds : PySem.Challenge.rw_LID.Holds := by
 w_on;o_law;k_head;(case hw=>w_witness2)
 k_fill
 refine L2.Ec (l:=PySem.Challenge.rw_LID) (n:=63) (k:=40) (x := "script") (CX:=fun w=>..) (sp:=fun _=>My.sp_law) rfl (by decide) rfl ⟨rfl,by decide,by decide⟩ (fun w h Y=>PySem.W.kIn_of Y) ?F ?S ?C
 case F=>
  intro w mg fa h KX G hmg
  have T:∃ t,My.Txt (L2.KOf KX) t:=by
   dsimp only [L2.KOf]                          -- K must stand as «<heap const> w.params» for k_is
   refine' My.txt_mk ?e1 ?e2 ?e3 ..
   (case e1=>PySem.W.k_is)                    -- in the order: a name -> its address -> its object -> its parts
   (case e2=>PySem.W.k_is)
   ..
  obtain ⟨t,T⟩:=T
  have e0:=hmg.symm.trans (PySem.W.mg_of KX G T.law)
  cases e0                                       -- fa is the law's own address
  exact ⟨_,fun s u=>.of_eq rfl,fun base kb nb=>My.law_fn T kb nb⟩     -- if «.of_eq rfl» comes too early: refine' ⟨_,?b,fun base kb nb=>My.law_fn T kb nb⟩;exact fun s u=>.of_eq rfl
 case S=>exact fun w H a ns hl hO hS=>..
 case C=>exact ..
(the tactic k_is has no namespace: write k_is) -/
namespace L2
open PySem PySem.Spec PyProof.Rows
def mO (s:Stmt):Arguments:=match s with
 | .FunctionDef _ a _ _ _ _ _ _ _ _=>a
 | _=>{ posonlyargs:=[],args:=[],vararg:=none,kwonlyargs:=[],kw_defaults:=[],kwarg:=none,defaults:=[] }
def gF (s:Stmt):List Stmt:=match s with
 | .FunctionDef _ _ b _ _ _ _ _ _ _=>b
 | _=>[]
def aQ (s:Stmt):Scope:=match s with
 | .FunctionDef _ _ _ _ _ _ sc _ _ _=>sc
 | _=>{ kind:=.function,names:=[],isGenerator:=false,isCoroutine:=false }
abbrev CX0:CXT:=fun _ _ _ _ _ _=>False
abbrev E0:XK:=fun _ _ _=>False
theorem Ti {X:Cx}:Passes CX0 X E0:=fun _ _ _ _ _ _ _ h=>h.elim
structure Fun (K:Yh) (x qual:Str) (st:Stmt) (f:Addr) (fd:FuncData):Prop where
 ex:∃ (oc:Value) (od:Option Addr) (kV doc pm:Value) (an:Option Addr) (cdv ct:Value) (osl:Array (Option Value)),
  fd=PySem.W.fnOf x qual (mO st) (gF st) (aQ st) .none kV doc pm an cdv ct/\K.lookup f=some ⟨oc,od,.func fd,osl⟩/\PySem.W.codeIn K cdv qual=true
 kp:PySem.W.keepIn K (.ref f)=true
section
variable {P:Program}{w:World}{K:Yh}{mg:Str->Option Value}{base:Heap}
theorem Fun.ok {x qual:Str}{st:Stmt}{f:Addr}{fd:FuncData}{N ps:List Str}{k:Nat}{sp:Sp}(F:Fun K x qual st f fd)(S:bB N ps (aQ st))(len:∀ vs H Q E,sp vs H Q E->vs.length=ps.length)
  (hbody:∀ (cdv:Value) (A:Around) (outer:List Env) (s:Shared) (H:Hp) (vs:List V) (Q:VK) (E:XK),j8 k (A.deeper (envOfC qual (aQ st) s.heap.objs.size f cdv))->sp vs H Q E ->
   ∃ t,PSs (Jx CX0 P w K mg base N qual (aQ st) f cdv A outer s H E).nox (gF st) t/\t { nx:=fun _ H'=>Q .non H',rt:=Q } (start N vs) H):d9 P w K mg base CX0 (k+1) f fd ps sp:=by
 obtain ⟨oc,od,kV,doc,pm,an,cdv,ct,osl,rfl,lk,hcd⟩:=F.ex
 refine Ss lk hcd S len fun A outer s H vs Q E hr hsp=>?_
 obtain ⟨t,h,q⟩:=hbody cdv A outer s H vs Q E hr hsp
 exact ⟨t,h.nox,q⟩
theorem Fun.binds {x qual:Str}{st:Stmt}{f:Addr}{fd:FuncData}{ps:List Str}(F:Fun K x qual st f fd)
  (h:∀ (kV doc pm:Value) (an:Option Addr) (cdv ct:Value) (us:List Value),us.length=ps.length->bindArgs (PySem.W.fnOf x qual (mO st) (gF st) (aQ st) .none kV doc pm an cdv ct) ⟨us,[]⟩=pure (ps.zip us)):Binds K fd ps []:=by
 obtain ⟨oc,od,kV,doc,pm,an,cdv,ct,osl,rfl,lk,hcd⟩:=F.ex
 exact .all (h kV doc pm an cdv ct)
theorem cO {x qual:Str}{st:Stmt}{f:Addr}{oc:Value}{od an:Option Addr}{osl:Array (Option Value)}{kV doc pm cdv ct:Value}(l:K.lookup f=some ⟨oc,od,.func (PySem.W.fnOf x qual (mO st) (gF st) (aQ st) .none kV doc pm an cdv ct),osl⟩)
  (c:PySem.W.codeIn K cdv qual=true) (k:PySem.W.keepIn K (.ref f)=true):Fun K x qual st f (PySem.W.fnOf x qual (mO st) (gF st) (aQ st) .none kV doc pm an cdv ct):=⟨⟨oc,od,kV,doc,pm,an,cdv,ct,osl,rfl,l,c⟩,k⟩
end
section
variable {X:Cx}
theorem pv (i:Nat){x:Str}{pos:Pos}(hN:X.N[i]?=some x:=by rfl)(hv:Vis X.env.scope x:=by first | exact Or.inl rfl | exact Or.inr (Or.inl rfl) | exact Or.inr (Or.inr rfl))(hd:(x==("__debug__" : Str))=false:=by decide)
  (hcd:(x==("__classdict__" : Str))=false:=by decide):PE X (.Name x pos) (T3 i):=PB hN hv hd hcd
end
end L2
namespace L2
open PySem PySem.Spec PyProof.Rows
end L2
namespace L2
open PySem PySem.Spec PyProof.Rows
def Kh (env:Env):List (Str×NameKind)->List (Str×Addr)->List (Str×Addr)
 | [],cs=>cs
 | (n,k)::r,cs=>Kh env r (if (k==NameKind.free)=true then (n,(env.cells.lookup n).getD 0)::cs else cs)
def Ju (scope:Scope)(env:Env):List (Str×Addr):=Kh env scope.names []
theorem qT {env:Env}{p:Str×Addr}:∀ (l:List (Str×NameKind)) (cs:List (Str×Addr)),p∈Kh env l cs->p∈cs\/((p.1,NameKind.free)∈l/\p.2=(env.cells.lookup p.1).getD 0)
 | [],cs,h=>.inl h
 | (n,k)::r,cs,h=>by
  rcases qT r _ h with h | ⟨h1,h2⟩
  ·by_cases hk:(k==NameKind.free)=true
   ·rw [if_pos hk] at h
    rcases List.mem_cons.mp h with rfl | h
    ·have e:k=NameKind.free:=by simpa using hk
     subst e
     exact .inr ⟨List.mem_cons_self,rfl⟩
    ·exact .inl h
   ·rw [if_neg hk] at h
    exact .inl h
  ·exact .inr ⟨X8 _ h1,h2⟩
theorem wY {env:Env}{x:Str}:∀ (l:List (Str×NameKind)) (cs:List (Str×Addr)),((x,NameKind.free)∈l\/∃ c,(x,c)∈cs)->∃ c,(x,c)∈Kh env l cs
 | [],cs,h=>by
  rcases h with h | h
  ·exact absurd h (by simp)
  ·exact h
 | (n,k)::r,cs,h=>by
  refine wY r _ ?_
  rcases h with h | ⟨c,h⟩
  ·rcases List.mem_cons.mp h with e | h
   ·injection e with e1 e2
    subst e1;subst e2
    exact .inr ⟨_,by rw [if_pos (by rfl)];exact List.mem_cons_self⟩
   ·exact .inl h
  ·refine .inr ⟨c,?_⟩
   by_cases hk:(k==NameKind.free)=true
   ·rw [if_pos hk];exact X8 _ h
   ·rw [if_neg hk];exact h
theorem fu {x:Str}{c:Addr}:∀ {l:List (Str×Addr)},(x,c)∈l->∃ c',l.lookup x=some c'
 | [],h=>absurd h (by simp)
 | (n,d)::r,h=>by
  by_cases e:x=n
  ·subst e
   exact ⟨d,by simp [List.lookup_cons]⟩
  ·rcases List.mem_cons.mp h with q | q
   ·injection q with q1 _
    exact absurd q1 e
   ·obtain ⟨c',h'⟩:=fu q
    refine ⟨c',?_⟩
    have e':(x==n)=false:=beq_eq_false_iff_ne.mpr e
    rw [List.lookup_cons,e']
    exact h'
theorem K3 {scope:Scope}{env:Env}(h:∀ y∈scope.names,y.2=NameKind.free->∃ c,env.cells.lookup y.1=some c):closureFor scope env=pure (Ju scope env):=by
 unfold closureFor Ju
 have key:∀ (l:List (Str×NameKind)) (cs:List (Str×Addr)),(∀ y∈l,y.2=NameKind.free->∃ c,env.cells.lookup y.1=some c) ->
   (forIn l cs (fun (x:Str×NameKind) (cs:List (Str×Addr))=>(if (x.2==NameKind.free)=true then cellOf env x.1 >>= fun c=>pure (ForInStep.yield ((x.1,c)::cs)) else pure (ForInStep.yield cs):Sem (ForInStep (List (Str×Addr))))))=pure (Kh env l cs):=by
  intro l
  induction l with
  | nil=>intro cs _;rfl
  | cons x r ih=>
   intro cs hl
   obtain ⟨n,k⟩:=x
   rw [List.forIn_cons]
   have hr:∀ y∈r,y.2=NameKind.free->∃ c,env.cells.lookup y.1=some c:=fun y hy=>hl y (X8 _ hy)
   by_cases hk:(k==NameKind.free)=true
   ·obtain ⟨c,hc⟩:=hl (n,k) List.mem_cons_self (by simpa using hk)
    have hc':env.cells.lookup n=some c:=hc
    have e1:cellOf env n=pure c:=by unfold cellOf;rw [hc']
    simp only [hk,if_true,e1,pure_bind]
    rw [ih _ hr]
    simp only [Kh,hk,if_true,hc',Option.getD_some]
   ·simp only [hk,if_false,pure_bind,Bool.false_eq_true]
    rw [ih _ hr]
    simp only [Kh,hk,if_false,Bool.false_eq_true]
 have q:=key scope.names [] h
 simpa using q
theorem gk {y:Str}{c:Addr}:∀ {names:List (Str×NameKind)} {n:Nat} {acc:List (Str×Addr)},(y,c)∈cellsFrom n names acc↔(y,c)∈acc\/(y,c)∈cellsFrom n names []
 | [],n,acc=>by simp [cellsFrom]
 | (name,kind)::r,n,acc=>by
  unfold cellsFrom
  split
  ·rw [gk (acc:=(name,n)::acc),gk (acc:=[(name,n)])]
   simp only [List.mem_cons,List.not_mem_nil,or_false]
   exact ⟨fun h=>h.elim (fun h=>h.elim (fun h=>.inr (.inl h)) .inl) fun h=>.inr (.inr h),fun h=>h.elim (fun h=>.inl (.inr h)) fun h=>h.elim (fun h=>.inl (.inl h)) .inr⟩
  ·exact gk
theorem uw {y:Str}{c:Addr}:∀ {names:List (Str×NameKind)} {n:Nat},(y,c)∈cellsFrom n names []->(y,NameKind.cell)∈names
 | [],n,h=>by simp [cellsFrom] at h
 | (name,kind)::r,n,h=>by
  unfold cellsFrom at h
  split at h
  ·rename_i hk
   rcases gk.mp h with q | q
   ·have hk':kind=.cell:=by simpa using hk
    simp only [List.mem_cons,List.not_mem_nil,or_false,Prod.mk.injEq] at q
    rw [q.1,hk']
    exact List.mem_cons_self
   ·exact X8 _ (uw q)
  ·exact X8 _ (uw h)
theorem Ds {y:Str}:∀ {names:List (Str×NameKind)} {n:Nat},(y,NameKind.cell)∈names->∃ c,(y,c)∈cellsFrom n names []
 | [],n,h=>by simp at h
 | (name,kind)::r,n,h=>by
  unfold cellsFrom
  rcases List.mem_cons.mp h with q | q
  ·cases q
   rw [if_pos (by rfl)]
   exact ⟨n,gk.mpr (.inl List.mem_cons_self)⟩
  ·split
   ·obtain ⟨c,hc⟩:=Ds (n:=n+1) q
    exact ⟨c,gk.mpr (.inr hc)⟩
   ·exact Ds q
theorem R9 {h:Heap}{names:List (Str×NameKind)}{y:Str}{c:Addr}(e:(y,c)∈cellsFrom h.objs.size names []):(pushCells h names).IsCell c none/\h.objs.size<=c:=
 (cellsFrom_ok names h h.objs.size [] ⟨fun _ _ z=>by simp at z,List.Pairwise.nil⟩ (Yc _)).empty y c e
theorem Ht {n:Nat}{names:List (Str×NameKind)}{y z:Str}{c:Addr}(e:(y,c)∈cellsFrom n names [])(e':(z,c)∈cellsFrom n names []):y=z:=by
 have key:∀ (k:Nat),∃ h:Heap,h.objs.size=k:=fun k=>by
  induction k with
  | zero=>exact ⟨{ (default:Heap) with objs:=#[] },rfl⟩
  | succ k ih=>
   obtain ⟨h,e⟩:=ih
   exact ⟨h.push { cls:=.type "cell",data:=.cell none },by rw [Heap.size_push,e]⟩
 obtain ⟨h,rfl⟩:=key n
 exact name_of_addr (cellsFrom_ok names h h.objs.size [] ⟨fun _ _ z=>by simp at z,List.Pairwise.nil⟩ (Yc _)).apart e e'
theorem Av {M:Model}{A:Around}{E:Value->Shared->Prop}{s:Shared}{scope:Scope}{globals:Addr}{closure:List (Str×Addr)}{qual:Str}{func:Option Addr}{code:Value}{ar:Env}{builtins:Addr}{Q:Env->Shared->Prop}
  (hQ:Q { scope:=scope,locals:=s.heap.objs.size,globals:=globals,cells:=cellsFrom (s.heap.objs.size+1) scope.names closure,qual:=qual,func:=func,code:=ar.code,frame:=ar.frame,builtins:=ar.builtins } { s with heap:=pushCells (s.heap.push { cls:=.type "dict",data:=.dict #[] }) scope.names }) :
  wpAny M A (newFunctionEnv scope globals closure [] qual func code (some ar) builtins) Q E s:=by
 simp only [newFunctionEnv,Option.isSome_some,if_true]
 refine XS (wpAny_alloc ?_)
 refine XS (wpAny_layCells _ (fun name kind cells=>by cases hkc:kind==NameKind.cell <;> simp [hkc]) _ _ _ _ ?_)
 rw [show ({ s with heap:=s.heap.push { cls:=.type "dict",data:=.dict #[] } }:Shared).heap.objs.size=s.heap.objs.size+1 from Heap.size_push ..]
 rw [List.forIn_nil]
 exact XS (X3 (X3 hQ))
def blk (X:Cx)(scope:Scope)(N':List Str)(C:Addr)(s:Shared)(H:Hp)(ex:List Addr):Cx where
 prog:=X.prog
 w:=X.w
 K:=X.K
 mg:=X.mg
 base:=X.base
 A:=X.A
 N:=N'
 s₀:=s
 H₀:=H
 env:=compEnvC scope (cellsFrom (C+1) scope.names (Ju scope X.env)) C X.env
 outer:=X.stack
 stack:=X.stack
 ex:=ex
 fn:=fun y=>decide (scope.names.lookup y=some .cell)
 calm:=X.calm
 pn:=[]
 xe:=fun _ _=>False
structure jP (X:Cx) (scope:Scope) (x:List Str) (ix:List Nat):Prop where
 kind:scope.kind=.function
 own:∀ y∈x,scope.names.lookup y=some .local\/scope.names.lookup y=some .cell
 names:∀ y∈scope.names,scope.names.lookup y.1=some y.2
 free:∀ y∈scope.names,y.2=.free->X.env.scope.names.lookup y.1=some .cell\/X.env.scope.names.lookup y.1=some .free
 ixs:∀ i∈ix,scope.names.lookup (X.N.getD i "")=some .free
 nd:(x++ix.map fun i=>X.N.getD i "").Nodup
def wC:List Str->Bool
 | []=>true
 | x::r=>!(r.contains x)&&wC r
def Wi (sc:Scope)(N:List Str)(scope:Scope)(x:List Str)(ix:List Nat):Bool:=
 decide (scope.kind=.function)&&x.all (fun y=>decide (scope.names.lookup y=some .local)||decide (scope.names.lookup y=some .cell)) &&
 scope.names.all (fun y=>decide (scope.names.lookup y.1=some y.2)) &&
 scope.names.all (fun y=>!decide (y.2=.free)||decide (sc.names.lookup y.1=some .cell)||decide (sc.names.lookup y.1=some .free)) &&
 ix.all (fun i=>decide (scope.names.lookup (N.getD i "")=some .free))&&wC (x++ix.map fun i=>N.getD i "")
theorem tH:∀ {l:List Str},wC l=true->l.Nodup
 | [],_=>List.nodup_nil
 | x::r,h=>by
  unfold wC at h
  rw [Bool.and_eq_true] at h
  refine List.nodup_cons.mpr ⟨fun hm=>?_,tH h.2⟩
  have:r.contains x=true:=List.contains_iff_mem.mpr hm
  rw [this] at h
  exact absurd h.1 (by decide)
theorem cP {X:Cx}{scope:Scope}{x:List Str}{ix:List Nat}(h:Wi X.env.scope X.N scope x ix=true):jP X scope x ix:=by
 unfold Wi at h
 simp only [Bool.and_eq_true,List.all_eq_true,decide_eq_true_eq,Bool.or_eq_true,Bool.not_eq_true',decide_eq_false_iff_not] at h
 obtain ⟨⟨⟨⟨⟨h1,h3⟩,h4⟩,h5⟩,h6⟩,h7⟩:=h
 refine ⟨h1,fun y hy=>h3 y hy,fun y hy=>h4 y hy,fun y hy hk=>?_,fun i hi=>h6 i hi,tH h7⟩
 ·rcases h5 y hy with (q | q) | q
  ·exact absurd hk q
  ·exact .inl q
  ·exact .inr q
def yE (ix:List Nat)(Z : St):St:=ix.map fun i=>(Z[i]?).getD none
abbrev jh (X:Cx)(x:List Str)(ix:List Nat):List Str:=x++ix.map fun i=>X.N.getD i ""
theorem dZ {scope:Scope}{env:Env}{x:Str}:∀ {names:List (Str×NameKind)} {k:NameKind},
  (names.map fun (p:Str×NameKind)=>if (p.2==NameKind.free&&env.scope.kind==.function&&env.kindOf p.1==some .cell)=true then (p.1,NameKind.cell) else (p.1,p.2)).lookup x=some k ->
  names.lookup x=some k\/(k=.cell/\names.lookup x=some .free)
 | [],k,h=>by simp at h
 | (n,k')::r,k,h=>by
  rw [X5] at h
  cases hx:x==n with
  | true=>
   by_cases hc:(k'==NameKind.free&&env.scope.kind==.function&&env.kindOf n==some .cell)=true
   ·rw [if_pos hc] at h
    simp only [List.lookup_cons,hx] at h
    have hk:k'=.free:=by
     have:=(Bool.and_eq_true_iff.mp (Bool.and_eq_true_iff.mp hc).1).1
     simpa using this
    subst hk
    cases h
    exact .inr ⟨rfl,by simp [List.lookup_cons,hx]⟩
   ·rw [if_neg hc] at h
    simp only [List.lookup_cons,hx] at h
    cases h
    exact .inl (by simp [List.lookup_cons,hx])
  | false=>
   have h':(r.map fun (p:Str×NameKind)=>if (p.2==NameKind.free&&env.scope.kind==.function&&env.kindOf p.1==some .cell)=true then (p.1,NameKind.cell) else (p.1,p.2)).lookup x=some k:=by
    by_cases hc:(k'==NameKind.free&&env.scope.kind==.function&&env.kindOf n==some .cell)=true
    ·rw [if_pos hc] at h;simpa only [List.lookup_cons,hx] using h
    ·rw [if_neg hc] at h;simpa only [List.lookup_cons,hx] using h
   rcases dZ (scope:=scope) (env:=env) h' with q | ⟨q1,q2⟩
   ·exact .inl (by simpa only [List.lookup_cons,hx] using q)
   ·exact .inr ⟨q1,by simpa only [List.lookup_cons,hx] using q2⟩
theorem jU {env:Env}{x:Str}:∀ {names:List (Str×NameKind)},names.lookup x=some .free ->
  (names.map fun (p:Str×NameKind)=>if (p.2==NameKind.free&&env.scope.kind==.function&&env.kindOf p.1==some .cell)=true then (p.1,NameKind.cell) else (p.1,p.2)).lookup x=some .cell \/
  (names.map fun (p:Str×NameKind)=>if (p.2==NameKind.free&&env.scope.kind==.function&&env.kindOf p.1==some .cell)=true then (p.1,NameKind.cell) else (p.1,p.2)).lookup x=some .free
 | [],h=>by simp at h
 | (n,k')::r,h=>by
  rw [X5]
  cases hx:x==n with
  | true=>
   simp only [List.lookup_cons,hx] at h
   cases h
   by_cases hc:(NameKind.free==NameKind.free&&env.scope.kind==.function&&env.kindOf n==some .cell)=true
   ·rw [if_pos hc];exact .inl (by simp [List.lookup_cons,hx])
   ·rw [if_neg hc];exact .inr (by simp [List.lookup_cons,hx])
  | false=>
   have h':r.lookup x=some .free:=by simpa only [List.lookup_cons,hx] using h
   have ih:=jU (env:=env) h'
   by_cases hc:(k'==NameKind.free&&env.scope.kind==.function&&env.kindOf n==some .cell)=true
   ·rw [if_pos hc];simpa only [List.lookup_cons,hx] using ih
   ·rw [if_neg hc];simpa only [List.lookup_cons,hx] using ih
theorem j5 {env:Env}{x:Str}:∀ {names:List (Str×NameKind)},names.lookup x=some .cell ->
  (names.map fun (p:Str×NameKind)=>if (p.2==NameKind.free&&env.scope.kind==.function&&env.kindOf p.1==some .cell)=true then (p.1,NameKind.cell) else (p.1,p.2)).lookup x=some .cell
 | [],h=>by simp at h
 | (n,k')::r,h=>by
  rw [X5]
  cases hx:x==n with
  | true=>
   simp only [List.lookup_cons,hx] at h
   cases h
   rw [if_neg (by simp)]
   simp [List.lookup_cons,hx]
  | false=>
   have ih:=j5 (env:=env) (show r.lookup x=some .cell by simpa only [List.lookup_cons,hx] using h)
   split
   ·simpa only [List.lookup_cons,hx] using ih
   ·simpa only [List.lookup_cons,hx] using ih
section
variable {X:Cx}{pins:List (Addr×Obj)}{Z : St}{H:Hp}{s:Shared}{scope:Scope}{x:List Str}{ix:List Nat}{C:Addr}{fp:List Addr}
theorem CV (B:jP X scope x ix){y:Str}(hy:y∈x):Loc (relabel scope X.env) y/\(decide (scope.names.lookup y=some .cell)=true\/(relabel scope X.env).names.lookup y=some .local):=by
 rcases B.own y hy with q | q
 ·have:=lookup_relabel_local (env:=X.env) q
  exact ⟨.inl this,.inr this⟩
 ·exact ⟨.inr (j5 (env:=X.env) q),.inl (decide_eq_true q)⟩
theorem wg (I:Inv X pins Z H s)(B:jP X scope x ix):∀ y∈scope.names,y.2=NameKind.free->∃ c,X.env.cells.lookup y.1=some c:=fun y hy hk=>I.ok.has y.1 (B.free y hy hk)
theorem OJ (I:Inv X pins Z H s)(B:jP X scope x ix){y:Str}{c:Addr}(h:(y,c)∈Ju scope X.env):X.env.cells.lookup y=some c:=by
 rcases qT scope.names [] h with q | ⟨q1,q2⟩
 ·exact absurd q (by simp)
 ·obtain ⟨c',e⟩:=wg I B _ q1 rfl
  have e':X.env.cells.lookup y=some c':=e
  have q2':c=(X.env.cells.lookup y).getD 0:=q2
  rw [e',Option.getD_some] at q2'
  rw [e',q2']
theorem j6 (I:Inv X pins Z H s)(B:jP X scope x ix){y:Str}{c:Addr}(h:(cellsFrom (C+1) scope.names (Ju scope X.env)).lookup y=some c):X.env.cells.lookup y=some c\/(y,c)∈cellsFrom (C+1) scope.names []:=
 (gk.mp (PySem.mem_of_lookup h)).imp_left (OJ I B)
theorem Cp {n:Nat}{names:List (Str×NameKind)}{y:Str}{c:Addr}(e:(y,c)∈cellsFrom n names []):n<=c:=by
 have key:∀ (names:List (Str×NameKind)) (n:Nat),(y,c)∈cellsFrom n names []->n<=c:=by
  intro names
  induction names with
  | nil=>intro n h;simp [cellsFrom] at h
  | cons a r ih=>
   intro n h
   obtain ⟨name,kind⟩:=a
   unfold cellsFrom at h
   split at h
   ·rcases gk.mp h with q | q
    ·simp only [List.mem_cons,List.not_mem_nil,or_false,Prod.mk.injEq] at q
     exact Nat.le_of_eq q.2.symm
    ·exact Ye (Nat.le_succ n) (ih (n+1) q)
   ·exact ih n h
 exact key names n e
theorem Mp (B:jP X scope x ix){y:Str}{c:Addr}(hf:scope.names.lookup y=some .free)(h:(y,c)∈cellsFrom (C+1) scope.names []):False:=by
 have:=B.names _ (uw h)
 simp only at this
 rw [hf] at this
 cases this
theorem wR {y:Str}(h:scope.names.lookup y=some .free\/scope.names.lookup y=some .cell):∃ c,(cellsFrom (C+1) scope.names (Ju scope X.env)).lookup y=some c:=by
 rcases h with h | h
 ·obtain ⟨c,hc⟩:=wY (env:=X.env) scope.names [] (.inl (PySem.mem_of_lookup h))
  exact fu (gk.mpr (.inl hc))
 ·obtain ⟨c,hc⟩:=Ds (n:=C+1) (PySem.mem_of_lookup h)
  exact fu (gk.mpr (.inr hc))
theorem RV (I:Inv X pins Z H s)(B:jP X scope x ix)(hC:s.heap.objs.size<=C)(hf:∀ b∈fp,zq X pins H b)(ho:∀ b∈fp,∃ o,s.heap.get? b=some o) :
  (blk X scope (jh X x ix) C s H fp).Ok where
 mod:=I.ok.mod
 kind:=B.kind
 glob:=I.ok.glob
 blt:=I.ok.blt
 above:=hC
 inj:=fun y z c h1 h2=>by
  have far:∀ {y z:Str},X.env.cells.lookup y=some c->(z,c)∈cellsFrom (C+1) scope.names []->False:=fun {y z} e q=>by
   obtain ⟨v,w⟩:=I.cell y c e
   exact absurd (Yd w.lt (Ye (Ye hC (Nat.le_succ C)) (Cp q))) (Nat.lt_irrefl _)
  rcases j6 I B h1 with q1 | q1
  ·rcases j6 I B h2 with q2 | q2
   ·exact I.ok.inj y z c q1 q2
   ·exact (far q1 q2).elim
  ·rcases j6 I B h2 with q2 | q2
   ·exact (far q2 q1).elim
   ·exact Ht q1 q2
 has:=fun y hy=>by
  have hy':(relabel scope X.env).names.lookup y=some .cell\/(relabel scope X.env).names.lookup y=some .free:=hy
  rcases hy' with q | q
  ·rcases dZ (scope:=scope) (env:=X.env) q with r | ⟨_,r⟩
   ·exact wR (.inr r)
   ·exact wR (.inl r)
  ·rcases dZ (scope:=scope) (env:=X.env) q with r | ⟨r,_⟩
   ·exact wR (.inl r)
   ·cases r
 cab:=fun y c hf h=>by
  have hf':scope.names.lookup y=some .cell:=of_decide_eq_true hf
  rcases gk.mp (PySem.mem_of_lookup h) with q | q
  ·rcases qT scope.names [] q with q | ⟨q1,_⟩
   ·exact absurd q (by simp)
   ·have:=B.names _ q1
    simp only at this
    rw [hf'] at this
    cases this
  ·exact Ye (Ye hC (Nat.le_succ C)) (Cp q)
 hd:=I.ok.hd
 qt:=I.qt0
 frames:=I.ok.frames
 stk:=.inl rfl
 exf:=fun b hb=>by
  obtain ⟨o,e⟩:=ho b hb
  refine ⟨Yg (Yd (X4 e) hC),fun y c h=>?_⟩
  rcases j6 I B h with q | q
  ·exact (hf b hb).2.2.2.2.1 y c q
  ·intro z
   rw [z] at q
   exact absurd (Yd (X4 e) (Ye (Ye hC (Nat.le_succ C)) (Cp q))) (Nat.lt_irrefl _)
 bs:=I.bs
 bsz:=Ye I.ok.bsz I.sz
 noex:=fun b o e hb=>by
  rcases (hf b hb).2.2.2.1 with q | q
  ·exact I.ok.noex b o e q
  ·exact absurd (Yd (X4 e) (Ye I.ok.bsz q)) (Nat.lt_irrefl _)
 exfs:=fun b hb z=>by
  obtain ⟨_,h1,h2,_⟩:=hf b hb
  rcases List.mem_cons.mp (I.stkSub b z) with e | e
  ·exact h1 e
  ·exact h2 e
 funs:=I.stack
 frf:=I.stkFree
theorem Np {D:Addr}{h1:Heap}{tk:Nat}{m:Str->Option Value}(I:Inv X pins Z H s)(B:jP X scope x ix)(ok:(blk X scope (jh X x ix) C s H fp).Ok)
  (hD:D=s.heap.objs.size) (k:∀ b o,s.heap.get? b=some o->h1.get? b=some o) (hl:h1.get? D=some { cls:=.type "list",data:=.seq #[] }) (hns:h1.Ns C m) (hCD:C≠D) (hC:s.heap.objs.size<=C) (hce:∀ y c,(y,c)∈cellsFrom (C+1) scope.names []->h1.IsCell c none) :
  Inv (blk X scope (jh X x ix) C s H fp) [] (X7 x.length none++yE ix Z) (upd H D (.lst [])) { s with heap:=h1,toks:=tk } where
 ok:=ok
 os:=rfl
 bare:=I.bare
 base:=Un.laid k (by rw [hD];exact Yc _) (I.hok.fresh (by rw [hD];exact Yc _))
 loc:=by
  refine ⟨m,hns,fun i y v e1 e2 e3=>?_⟩
  by_cases hix:i<x.length
  ·rw [List.getElem?_append_left (by simpa using hix),List.getElem?_replicate,if_pos hix] at e2
   cases e2
  ·rw [List.getElem?_append_right (by simpa using hix),List.length_replicate] at e2
   have e1':(ix.map fun i=>X.N.getD i "")[i - x.length]?=some y:=by
    have z:(x++ix.map fun i=>X.N.getD i "")[i]?=some y:=e1
    rwa [List.getElem?_append_right (by simpa using hix)] at z
   generalize i - x.length=j at e1' e2
   unfold yE at e2
   rw [List.getElem?_map] at e1' e2
   cases hj:ix[j]? with
   | none=>rw [hj] at e2;cases e2
   | some i'=>
    rw [hj] at e1' e2
    simp only [Option.map_some,Option.some.injEq] at e1' e2
    have hi:Z[i']?=some (some v):=by
     cases q:Z[i']? with
     | none=>rw [q] at e2;cases e2
     | some z=>rw [q] at e2;exact congrArg some e2
    have hlt:i'<X.N.length:=by
     have:=(List.getElem?_eq_some_iff.mp hi).1
     rw [I.len] at this
     exact this
    have hn:X.N[i']?=some y:=by
     rw [List.getD_eq_getElem?_getD,List.getElem?_eq_getElem hlt,Option.getD_some] at e1'
     rw [List.getElem?_eq_getElem hlt,e1']
    have hfree:scope.names.lookup y=some .free:=by
     have:=B.ixs i' (List.mem_of_getElem? hj)
     rw [e1'] at this
     exact this
    have kx:=B.free _ (PySem.mem_of_lookup hfree) rfl
    have vis:Vis X.env.scope y:=by
     rcases kx with q | q
     ·exact .inr (.inl q)
     ·exact .inr (.inr q)
    obtain ⟨m',_,hl'⟩:=I.loc
    obtain ⟨u,r,lk⟩:=hl' i' y v hn hi vis
    refine ⟨u,r,?_⟩
    rcases lk with ⟨q,_⟩ | ⟨_,c,hc,hcell⟩
    ·have q':X.env.scope.names.lookup y=some .local:=q
     rcases kx with z | z <;> (rw [q'] at z;cases z)
    ·obtain ⟨c',hc'⟩:=wR (X:=X) (C:=C) (.inl hfree)
     have e:=(j6 I B hc').resolve_right fun z=>Mp B hfree z
     rw [hc] at e
     cases e
     refine .inr ⟨jU (env:=X.env) hfree,c,hc',?_⟩
     obtain ⟨o,ho,hd⟩:=hcell
     exact ⟨o,k c o ho,hd⟩
 cell:=fun y c h=>by
  rcases j6 I B h with q | q
  ·obtain ⟨v,o,ho,hd⟩:=I.cell y c q
   exact ⟨v,o,k c o ho,hd⟩
  ·exact ⟨none,hce y c q⟩
 free:=by
  show upd H D (.lst []) C=none
  rw [aH hCD]
  exact I.hok.fresh hC
 freeC:=fun y c h=>by
  show upd H D (.lst []) c=none
  rcases j6 I B h with q | q
  ·obtain ⟨v,o,ho,hd⟩:=I.cell y c q
   rw [aH (by rw [hD];exact Yg (X4 ho))]
   exact I.freeC y c q
  ·have g:s.heap.objs.size<c:=Yd (Nat.lt_succ_of_le hC) (Cp q)
   rw [aH (by rw [hD];exact Nat.ne_of_gt g)]
   exact I.hok.fresh (Nat.le_of_lt g)
 pin:=fun p hp=>absurd (show p∈([]:List (Addr×Obj)) from hp) (by simp)
 hok:=I.hok.laid k (by rw [hD];exact Yc _) ⟨Nat.zero_le _,[],0,.nil,hl⟩
 len:=by
  show (X7 x.length none++yE ix Z).length=(jh X x ix).length
  simp [yE]
theorem Mi {Z':St}{H':Hp}{s':Shared}{h':Heap}{p':List (Addr×Obj)}(I:Inv X pins Z H s)(hC:s.heap.objs.size<=C)(hf:∀ b∈fp,zq X pins H b)(J:Inv (blk X scope (jh X x ix) C s H fp) p' Z' H' s')
  (hs:Heap.SameBut C s'.heap h'):Inv X pins Z H' { s' with heap:=h' }:=by
 have I1:Inv X pins Z H' s':=I.call' (ch:=fp) J.os J.base J.hok J.bare fun b hb=>⟨(hf b hb).2.2.2.1,(hf b hb).2.1,(hf b hb).2.2.2.2.1,(hf b hb).2.2.2.2.2⟩
 refine I1.turned (it:=C) (t':=s'.toks) (fun b o hb e=>(hs.2 b hb).trans e) J.free (Nat.ne_of_gt (Yd I.lt hC)) (.inr (Ye I.sz hC)) (fun y c e z=>?_) (fun p hp z=>?_)
 ·obtain ⟨v,q⟩:=I.cell y c e
  exact absurd (Yd q.lt (by rw [z];exact hC)) (Nat.lt_irrefl _)
 ·exact absurd (Yd (X4 (I.pin p hp).1) (by rw [z];exact hC)) (Nat.lt_irrefl _)
end
def Ol (X:Cx)(ifs:List Expr)(t:TT):Prop:=
 ∀ (pins:List (Addr×Obj)) (s:Shared) (Z : St) (H:Hp) (Q:Bool->Hp->Prop),Inv X pins Z H s->t Z H Q ->
  wpAny (model X.prog X.w) X.A (forIn ifs true fun c r=>if r=true then do let ok <-isTrue c X.env (eval c X.env);pure (ForInStep.yield ok) else pure (ForInStep.yield r)) (TP X pins Z Q) X.xe s
def WY:TT:=fun _ H Q=>Q true H
theorem J5 {X:Cx}:Ol X [] WY:=fun _ _ _ H _ I h=>X3 ⟨H,I,h⟩
theorem Nh {X:Cx}{c:Expr}{t:TT}(h:PT X c t):Ol X [c] t:=fun pins s Z H Q I hq=>by
 rw [List.forIn_cons]
 refine XS ?_
 rw [if_pos rfl]
 refine XS (thn (h pins s Z H Q I hq) fun b s1 q=>X3 ?_)
 exact X3 q
def VH (n:Nat)(own:V->Hp->List V->Prop)(ix:List Nat)(tt:TT)(te:TE)(Z : St)(Q:VK)(J:It)(H1:Hp)(D:Addr):Prop:=∃ W:Nat->Nat->List V->Hp->Prop,(∃ m,W 0 m [] (upd H1 D (.lst [])))/\∀ i m ys H,W i m ys H->H D=some (.lst ys) ->
 (J.stop i H/\Q (.ref D) H)\/(J.go i H/\ys.length<sizeLine/\∀ x H',J.yld i H x H'->∃ vs,own x H' vs/\vs.length=n/\tt (vs.map some++yE ix Z) H' fun b H2=>
  if b=true then te (vs.map some++yE ix Z) H2 (fun v H3=>H3 D=some (.lst ys)/\∃ m',m'<m/\W (i+1) m' (ys++[v]) (upd H3 D (.lst (ys++[v]))))
  else H2 D=some (.lst ys)/\∃ m',m'<m/\W (i+1) m' ys H2)
def wLC (n:Nat)(own:V->Hp->List V->Prop)(ix:List Nat)(tt:TT)(te:TE)(Z : St)(Q:VK)(J:It)(H1:Hp):Prop:=∀ D,H1 D=none->VH n own ix tt te Z Q J H1 D
def tLC (n:Nat)(own:V->Hp->List V->Prop)(ix:List Nat)(wi:TI)(tt:TT)(te:TE):TE:=fun Z H Q=>wi Z H fun J H1=>wLC n own ix tt te Z Q J H1
def QX (n:Nat)(own:V->Hp->List V->Prop):TG:=fun v Z H N=>∃ vs,own v H vs/\vs.length=n/\N (vs.map some++Z.drop n) H
theorem Ah {P:Program}{w:World}{A:Around}{R:Result->Shared->Prop}{s:Shared}{elt target iter:Expr}{ifs:List Expr}{scope:Scope}{pos:Pos}{it acc:Value}{env:Env}(Iv:Nat->Shared->Prop)
  (turn:∀ n s,Iv n s->wpAny (model P w) A (pyNext it) (fun r s₁=>match r with
   | none=>R (.ok .next) s₁
   | some v=>wpAny (model P w) A (letOwnedTupleGo target it v) (fun _ t₁=>wpAny (model P w) A (assign target env v) (fun _ s₂=>
     wpAny (model P w) A (forIn ifs true fun c r=>if r=true then do let ok <-isTrue c env (eval c env);pure (ForInStep.yield ok) else pure (ForInStep.yield r)) (fun ok s₃=>
      if ok=true then wpAny (model P w) A (eval elt env) (fun x s₄=>
       wpAny (model P w) A (call (.builtin "list.append") [acc,x]) (fun _ s₅=>∃ m,m<n/\Iv m s₅) (notedBy (model P w) A env fun e s'=>R (.error e) s') s₄) (notedBy (model P w) A env fun e s'=>R (.error e) s') s₃
      else ∃ m,m<n/\Iv m s₃) (notedBy (model P w) A env fun e s'=>R (.error e) s') s₂) (notedBy (model P w) A env fun e s'=>R (.error e) s') t₁) (notedBy (model P w) A env fun e s'=>R (.error e) s') s₁) (notedBy (model P w) A env fun e s'=>R (.error e) s') s)
  (n:Nat) (h:Iv n s):codeAny (model P w) A (.compLoop (.ListComp elt [⟨target,iter,ifs,0⟩] scope pos) 0 it acc env) R s:=by
 refine codeAny_loop rfl Iv (fun n s hI=>?_) n h
 show wpAny _ A ((compTurn (.ListComp elt [⟨target,iter,ifs,0⟩] scope pos) 0 it acc env).onRaise (fun x=>do noteFrame x env;theTreesLotGoes x)) _ _ s
 refine wpAny_noted ?_
 rw [compTurn_list]
 refine XS (wpAny_standAt (XS (wpAny_mono (turn n s hI) (fun r s₁ k₁=>?_) fun _ _ z=>z)))
 cases r with
 | none=>exact X3 k₁
 | some v=>
  refine XS (wpAny_mono k₁ (fun _ t₁ k₂=>XS (wpAny_mono k₂ (fun _ s₂ k₃=>XS (wpAny_mono k₃ (fun ok s₃ k₄=>?_) fun _ _ z=>z)) fun _ _ z=>z)) fun _ _ z=>z)
  cases ok with
  | false=>exact X3 ⟨rfl,k₄⟩
  | true=>exact XS (XS (wpAny_mono k₄ (fun x s₄ k₅=>XS (wpAny_mono k₅ (fun _ s₅ k₆=>X3 (X3 ⟨rfl,k₆⟩)) fun _ _ z=>z)) fun _ _ z=>z))
section
variable {X:Cx}{scope:Scope}{x:List Str}{ix:List Nat}{elt iter tg:Expr}{ifs:List Expr}{px pos:Pos}{wi:TI}{tt:TT}{te:TE}{own:V->Hp->List V->Prop}
theorem JN {pins:List (Addr×Obj)}{Z : St}{s₂ : Shared}{H2:Hp}{it:Addr}{fp:List Addr}{tn:Nat->Heap->Prop}{J:It}{Q:VK}{E:Value->Shared->Prop}{RR:Value->Addr->Result->Shared->Prop}
  (hc:J.cm=true->X.calm=true) (B:jP X scope x ix) (hg:∀ C s H fp,PG (blk X scope (jh X x ix) C s H fp) tg (QX x.length own)) (ht:∀ C s H fp,Ol (blk X scope (jh X x ix) C s H fp) ifs tt) (he:∀ C s H fp,PE (blk X scope (jh X x ix) C s H fp) elt te)
  (I2:Inv X pins Z H2 s₂) (T:Turn X.prog X.w X.K tg J fp it tn) (st2:tn 0 s₂.heap) (f2:∀ b∈fp,zq X pins H2 b) (hq:wLC x.length own ix tt te Z Q J H2)
  (hRR:∀ D C s' Z' H' p',s₂.heap.objs.size<=C->Inv (blk X scope (jh X x ix) C s₂ H2 fp) p' Z' H' s'->Q (.ref D) H'->RR (.ref D) C (.ok .next) s') :
  wpAny (model X.prog X.w) X.A (newList []) (fun acc s₃=>wpAny (model X.prog X.w) X.A (newFunctionEnv scope X.env.globals (Ju scope X.env) [] X.env.qual none .none (some X.env)) (fun cenv s₄=>
   codeAny (model X.prog X.w) X.A (.compStart (.ListComp elt [⟨tg,iter,ifs,0⟩] scope pos) 0 (.ref it) acc { cenv with scope:=relabel scope X.env }) (RR acc cenv.locals) s₄) E s₃) E s₂:=by
 refine wpAny_newObj_type (Av ?_)
 dsimp only
 generalize hH2:s₂.heap.push { cls:=.type "list",dict:=none,data:=.seq ([]:List Value).toArray }=HH
 generalize hh1:pushCells (HH.push { cls:=.type "dict",data:=.dict #[] }) scope.names=h₁
 have hns₁ : h₁.Ns HH.objs.size (fun _=>none):=by
  obtain ⟨o,es,ep,ho,r⟩:=Heap.Ns.new HH (.type "dict")
  exact ⟨o,es,ep,by rw [<-hh1];exact pushCells_keeps _ _ _ _ ho,r⟩
 have hkeep:∀ b o,HH.get? b=some o->h₁.get? b=some o:=fun b o e=>by rw [<-hh1];exact pushCells_keeps _ _ _ _ (Heap.get?_push_of_some _ e)
 have hce:∀ y c,(y,c)∈cellsFrom (HH.objs.size+1) scope.names []->h₁.IsCell c none:=fun y c e=>by
  rw [<-hh1]
  exact (R9 (h:=HH.push { cls:=.type "dict",data:=.dict #[] }) (by rw [Heap.size_push];exact e)).1
 have hC:HH.objs.size=s₂.heap.objs.size+1:=by rw [<-hH2,Heap.size_push]
 have hDC:s₂.heap.objs.size≠HH.objs.size:=by rw [hC];exact Yg (Nat.lt_succ_self _)
 have hCle:s₂.heap.objs.size<=HH.objs.size:=by rw [hC];exact Nat.le_succ _
 have old:∀ b o,s₂.heap.get? b=some o->h₁.get? b=some o:=fun b o e=>hkeep b o (hH2 ▸ Heap.get?_push_of_some _ e)
 have hacc:h₁.get? s₂.heap.objs.size=some { cls:=.type "list",data:=.seq #[] }:=hkeep _ _ (hH2 ▸ Heap.get?_push_size _ rfl)
 have hob:∀ b∈fp,∃ o,s₂.heap.get? b=some o:=fun b hb=>let ⟨o,e,_⟩:=T.obj 0 _ st2 b hb;⟨o,e⟩
 have ok:=RV (C:=HH.objs.size) I2 B hCle f2 hob
 obtain ⟨W,⟨m0,w0⟩,turn⟩:=hq s₂.heap.objs.size (I2.hok.fresh (Yc _))
 -- the iterator's records, in the block
 have stat:∀ {H':Hp},(∀ b∈fp,H' b=none)->∀ b∈fp,zq (blk X scope (jh X x ix) HH.objs.size s₂ H2 fp) [] H' b:=fun {H'} hn b hb=>by
  obtain ⟨o,e⟩:=hob b hb
  obtain ⟨_,g1,g2,g3,g4,g5⟩:=f2 b hb
  refine ⟨hn b hb,Yg (Yd (X4 e) hCle),fun z=>?_,.inl hb,fun y c h=>?_,fun p hp=>absurd (show p∈([]:List (Addr×Obj)) from hp) (by simp)⟩
  ·rcases List.mem_cons.mp (I2.stkSub b z) with q | q
   ·exact g1 q
   ·exact g2 q
  ·rcases j6 I2 B h with q | q
   ·exact g4 y c q
   ·intro z
    rw [z] at q
    exact absurd (Yd (X4 e) (Ye (Ye hCle (Nat.le_succ _)) (Cp q))) (Nat.lt_irrefl _)
 have loop:∀ s₃ : Shared,s₃ = { s₂ with heap:=h₁ } ->
   codeAny (model X.prog X.w) X.A (.compLoop (.ListComp elt [⟨tg,iter,ifs,0⟩] scope pos) 0 (.ref it) (.ref s₂.heap.objs.size) (compEnvC scope (cellsFrom (HH.objs.size+1) scope.names (Ju scope X.env)) HH.objs.size X.env))
    (RR (.ref s₂.heap.objs.size) HH.objs.size) s₃:=by
  rintro s₃ rfl
  have J0:=Np (fp:=fp) (C:=HH.objs.size) (tk:=s₂.toks) I2 B ok rfl old hacc hns₁ (Ne.symm hDC) hCle hce
  have fr0:∀ b∈fp,upd H2 s₂.heap.objs.size (.lst []) b=none:=fun b hb=>by
   obtain ⟨o,e⟩:=hob b hb
   rw [aH (Yg (X4 e))]
   exact (f2 b hb).1
  refine Ah (fun k s'=>∃ i ys H',Inv (blk X scope (jh X x ix) HH.objs.size s₂ H2 fp) [] (X7 x.length none++yE ix Z) H' s'/\tn i s'.heap/\(∀ b∈fp,H' b=none)/\H' s₂.heap.objs.size=some (.lst ys)/\W i k ys H') ?_ m0
   ⟨0,[],_,J0,T.keep 0 _ _ st2 (fun b _ o e=>old b o e),fr0,aV,w0⟩
  rintro n s₄ ⟨i,ys,H4,I4,st4,fr4,hD4,w4⟩
  rcases turn i n ys H4 w4 hD4 with ⟨stop,qn⟩ | ⟨go,hz,step⟩
  ·refine thn (T.done (blk X scope (jh X x ix) HH.objs.size s₂ H2 fp) rfl rfl rfl hc i [] s₄ _ H4 _ I4 (stat fr4) st4 stop) fun r s5 ⟨hr,I5⟩=>?_
   subst hr
   exact hRR _ _ s5 _ H4 [] hCle I5 qn
  ·refine thn (T.item (blk X scope (jh X x ix) HH.objs.size s₂ H2 fp) rfl rfl rfl hc i [] s₄ _ H4 _ I4 (stat fr4) st4 go) fun r s5 ⟨u,hr,h5⟩=>?_
   subst hr
   refine wpAny_mono h5 (fun _ s6 ⟨xv,H6,I6,r6,y6,st6,fr6⟩=>?_) fun _ _ z=>z
   have I6':=I6.pinned (stat fr6) (T.obj _ _ st6)
   obtain ⟨vs,hov,hvl,q7⟩:=step xv H6 y6
   have fgt:∀ {Z9:St} {H9:Hp} {s9:Shared} {p9:List (Addr×Obj)},Z9.length=x.length->Inv (blk X scope (jh X x ix) HH.objs.size s₂ H2 fp) p9 (Z9++yE ix Z) H9 s9->Inv (blk X scope (jh X x ix) HH.objs.size s₂ H2 fp) p9 (X7 x.length none++yE ix Z) H9 s9:=fun {Z9 H9 s9 p9} hl I9=>
    I9.weak (by simp [hl]) fun k v e=>by
     by_cases hk:k<x.length
     ·rw [List.getElem?_append_left (by simpa using hk),List.getElem?_replicate,if_pos hk] at e
      cases e
     ·rw [List.getElem?_append_right (by simpa using hk),List.length_replicate] at e
      rw [List.getElem?_append_right (by rw [hl];omega),hl]
      exact e
   refine wpAny_mono (hg _ _ _ _ _ s6 _ H6 xv u (fun Z9 H9=>Z9=vs.map some++(X7 x.length (none:Option V)++yE ix Z).drop x.length/\H9=H6) I6' r6 ⟨vs,hov,hvl,rfl,rfl⟩) (fun _ s7 ⟨Z7,H7,I7,e7,e8⟩=>?_) fun _ _ z=>z.elim
   subst e7 e8
   rw [List.drop_left' (by simp)] at I7
   have hml:(vs.map some).length=x.length:=by rw [X6];exact hvl
   refine wpAny_mono (ht _ _ _ _ _ s7 _ H7 _ I7 q7) (fun b s8 ⟨H8,I8,q8⟩=>?_) fun _ _ z=>z.elim
   have pinned:∀ {H9:Hp} {s9:Shared} {Z9:St},Inv (blk X scope (jh X x ix) HH.objs.size s₂ H2 fp) ([]++rQ fp s6.heap) Z9 H9 s9->tn (i+1) s9.heap/\∀ b∈fp,H9 b=none:=fun {H9 s9 Z9} I9=>by
    refine ⟨T.keep _ _ _ st6 fun b hb o e=>(I9.pin (b,o) (List.mem_append_right _ (List.mem_append_right _ (gQ hb e)))).1,fun b hb=>?_⟩
    obtain ⟨o,e,d⟩:=T.obj _ _ st6 b hb
    exact (I9.pin (b,o) (List.mem_append_right _ (List.mem_append_right _ (gQ hb e)))).2.1
   cases b with
   | false=>
    rw [if_neg Bool.false_ne_true] at q8 |-
    obtain ⟨hD8,m',hm,w8⟩:=q8
    obtain ⟨t8,f8⟩:=pinned I8
    exact ⟨m',hm,i+1,ys,H8,fgt hml I8.unpinned,t8,f8,hD8,w8⟩
   | true=>
    rw [if_pos rfl] at q8 |-
    refine wpAny_mono (he _ _ _ _ _ s8 _ H8 _ I8 q8) (fun u9 s9 ⟨v9,H9,I9,r9,hD9,m',hm,w9⟩=>?_) fun _ _ z=>z.elim
    refine wpAny_mono (sG (X:=blk X scope (jh X x ix) HH.objs.size s₂ H2 fp) _ s9 _ H9 (.ref s₂.heap.objs.size) [v9] _ [u9] (fun _ H'=>H'=upd H9 s₂.heap.objs.size (.lst (ys++[v9]))) I9 rfl (.cons r9 .nil) ⟨_,ys,v9,rfl,rfl,hD9,hz,rfl⟩) (fun _ s10 ⟨_,H10,I10,_,e10⟩=>?_) fun _ _ z=>z.elim
    subst e10
    obtain ⟨t10,f10⟩:=pinned I10
    exact ⟨m',hm,i+1,ys++[v9],_,fgt hml I10.unpinned,t10,f10,aV,w9⟩
 exact codeAny_compStart_list (loop _ rfl) (T.self _ 0 _ _ _ (T.keep 0 _ _ st2 (fun b _ o e=>old b o e)) (loop _ rfl))
theorem U6 (ix:List Nat)(hc:X.calm=true)(B:jP X scope x ix)(hg:∀ C s H fp,PG (blk X scope (jh X x ix) C s H fp) tg (QX x.length own))(hi:PI X tg iter wi)(ht:∀ C s H fp,Ol (blk X scope (jh X x ix) C s H fp) ifs tt)(he:∀ C s H fp,PE (blk X scope (jh X x ix) C s H fp) elt te)
  (hs:∀ v,foldedSetIterable iter X.env v=pure v:=by intro _;rfl):PE X (.ListComp elt [⟨tg,iter,ifs,0⟩] scope pos) (tLC x.length own ix wi tt te):=by
 intro pins s Z H Q I h
 rw [eval_ListComp]
 refine wpAny_comprehension_free (use:=none) rfl hs (K3 (wg I B)) B.kind (fun y hy hk=>by rw [B.names y hy,hk]) ?_
 refine thn (hi pins s Z H _ I h) fun v s1 h1=>thn h1 fun itv s2 h2=>?_
 obtain ⟨it,fp,tn,J,H2,e,I2,T,st2,f2,hq⟩:=h2
 subst e
 refine JN (RR:=fun acc C=>compPost (model X.prog X.w) X.A X.xe none (EP X pins Z Q) acc C) (fun _=>hc) B hg ht he I2 T st2 f2 hq fun D C s' Z' H' p' hC I' q'=>?_
 obtain ⟨m,hn,_⟩:=I'.loc
 exact ⟨m,hn,fun h' hs'=>⟨.ref D,H',Mi I2 hC f2 I' hs',rfl,q'⟩⟩
end
end L2
namespace L2
open PySem PySem.Spec PyProof.Rows
def Sm (n:Nat)(i:Int):Prop:=i.natAbs<2^n
theorem Sm.bits {n:Nat}{i:Int}(h:Sm n i):Builtin.Int.intBits i<=n:=by
 unfold Builtin.Int.intBits
 by_cases e:i=0
 ·subst e;exact Nat.zero_le _
 ·have e':(i==0)=false:=beq_eq_false_iff_ne.mpr e
  rw [e']
  have h0:i.natAbs≠0:=by omega
  have:=(Nat.log2_lt h0).mpr h
  simp only [Bool.false_eq_true,if_false]
  omega
theorem Sm.mono {m n:Nat}{i:Int}(h:Sm m i)(hmn:m<=n):Sm n i:=Yd h (Nat.pow_le_pow_right (by decide) hmn)
theorem Sm.mul {m n:Nat}{i j:Int}(h:Sm m i)(h':Sm n j):Sm (m+n) (i*j):=by
 unfold Sm at *
 rw [Int.natAbs_mul,Nat.pow_add]
 by_cases e:j.natAbs=0
 ·rw [e,Nat.mul_zero]
  exact Nat.mul_pos (Nat.pow_pos (by decide)) (Nat.pow_pos (by decide))
 ·exact Yd (Nat.mul_lt_mul_of_pos_right h (Nat.pos_of_ne_zero e)) (Nat.mul_le_mul_left _ (Nat.le_of_lt h'))
theorem Sm.add {m n:Nat}{i j:Int}(h:Sm m i)(h':Sm n j):Sm (max m n+1) (i+j):=by
 have h1:=h.mono (Nat.le_max_left m n)
 have h2:=h'.mono (Nat.le_max_right m n)
 unfold Sm at *
 rw [Nat.pow_succ]
 omega
theorem Sm.neg {n:Nat}{i:Int}(h:Sm n i):Sm n (-i):=by unfold Sm at *;rw [Int.natAbs_neg];exact h
theorem Sm.sub {m n:Nat}{i j:Int}(h:Sm m i)(h':Sm n j):Sm (max m n+1) (i - j):=by
 rw [Int.sub_eq_add_neg];exact h.add h'.neg
theorem Sm.zero {n:Nat}:Sm n 0:=Nat.pow_pos (by decide)
theorem eX {n:Nat}{i:Int}(h1:-(2^n:Int)<i)(h2:i<(2^n:Int)):Sm n i:=by
 unfold Sm
 have e:((2^n:Nat):Int)=(2:Int)^n:=by simp
 omega
theorem Sm.le {n:Nat}{i j:Int}(h:Sm n i)(hj:j.natAbs<=i.natAbs):Sm n j:=Nat.lt_of_le_of_lt hj h
def oA (i j:Int):Prop:=∃ m n,m<=1000000/\n<=1000000/\Sm m i/\Sm n j
theorem oA.ok {i j:Int}(h:oA i j):IntMulOk i j:=by
 obtain ⟨m,n,hm,hn,h1,h2⟩:=h
 have e:(2:Nat)^20=1048576:=by decide
 exact .of_bits (by have:=h1.bits;omega) (by have:=h2.bits;omega)
def xJ (_ j:Int):Prop:=j≠0/\∃ n,n<=8000/\Sm n j
theorem Nm {n:Nat}{j:Int}(hn:n<=8000)(h:Sm n j):j.natAbs.log2<9000:=by
 by_cases e:j.natAbs=0
 ·rw [e];decide
 ·have:=(Nat.log2_lt e).mpr h
  omega
section
variable {X:Cx}
theorem zJ:OpR X (binaryOp .Mult) (rI oA fun i j=>.int (i*j)):=opI fun _ _ _ _ _ _ _ hc q=>mul_int q hc.ok
theorem BZ:OpR X (binaryOp .FloorDiv) (rI xJ fun i j=>.int (i.fdiv j)):=opI fun i j _ _ _ _ _ hc q=>by
 obtain ⟨h1,n,hn,h2⟩:=hc
 exact floordiv_int h1 q (.inl (PyProof.noPylong_of_log2 (Nm hn h2)))
theorem iR:∀ {bs:List Bool} {its:List Value} {i:Nat} {v:Value},Vals (bs.map V.bl) its->its[i]?=some v->∃ b,bs[i]?=some b/\v=.bool b
 | [],_,_,_,.nil,e=>by simp at e
 | b::bs,_,0,_,.cons r _,e=>by simp at e;subst e;exact ⟨b,rfl,r⟩
 | _::bs,_,i+1,v,.cons _ t,e=>by
  obtain ⟨b,h1,h2⟩:=iR (i:=i) (v:=v) t (by simpa using e)
  exact ⟨b,by simpa using h1,h2⟩
theorem yQ:∀ (bs:List Bool),((List.range bs.length).all fun i=>(bs[i]?).getD true)=bs.all id:=fun bs=>by
 rw [Bool.eq_iff_iff,List.all_eq_true,List.all_eq_true]
 constructor
 ·intro h b hb
  obtain ⟨i,hi,rfl⟩:=List.mem_iff_getElem.mp hb
  have:=h i (List.mem_range.mpr hi)
  simpa [hi] using this
 ·intro h i hi
  have hi':=List.mem_range.mp hi
  have:=h bs[i] (List.getElem_mem hi')
  simpa [hi'] using this
theorem Bl (hc:X.calm=true):iw X (.builtin "all") (fun xs H Q=>∃ (p:Addr) (bs:List Bool),xs=[.ref p]/\SqL X.K H p (bs.map V.bl)/\Q (.bl (bs.all id)) H):=by
 intro pins s Z H xs us Q I r h
 obtain ⟨p,bs,rfl,hS,q⟩:=h
 obtain ⟨u,rfl,ru⟩:=vals1 r
 cases ru
 obtain ⟨its,rv,pl,hz⟩:=I.list hS
 have hlen:its.length=bs.length:=by rw [<-rv.length,X6]
 have hl:=pl.isList
 have hlt:p<s.heap.objs.size:=by obtain ⟨_,e,_⟩:=hl;exact X4 e
 refine call_all_walk (wpAny_pyIter_list hl ?_)
 refine ⟨s.heap.objs.size,[s.heap.objs.size,p],[s.heap.objs.size],its.toArray.size,_,_,fun i=>(bs[i]?).getD true,rfl,Walks.list (A:=X.A.in1) (I.ok.hd hc) _ p (Yg hlt) its.toArray,
  ⟨⟨_,Heap.get?_push_size _ rfl,rfl,rfl⟩,hl.push _⟩,fun i v s' Q' E' hP hQ=>?_,fun h' tk hk=>?_⟩
 ·obtain ⟨b,e,rfl⟩:=iR rv (by simpa using hP)
  simp only [e,Option.getD_some] at hQ
  exact wpAny_truthy_bool hQ
 ·have e:((List.range its.toArray.size).all fun i=>(bs[i]?).getD true)=bs.all id:=by
   rw [Yb,hlen];exact yQ bs
  rw [e]
  refine ⟨.bl (bs.all id),H,I.kept (h':=h') (t':=tk) (fun b x e=>?_),rfl,q⟩
  exact hk b x (fun hm=>by rw [List.mem_singleton.mp hm] at e;exact Nat.lt_irrefl _ (X4 e)) (Heap.get?_push_of_some _ e)
def Wb (K:Yh)(H:Hp):V->String->Bool->Prop
 | .int _,T,b=>(T = "int"/\b=true)\/(T = "bool"/\b=false)\/(T = "tuple"/\b=false)\/(T = "list"/\b=false)
 | .bl _,T,b=>(T = "int"/\b=true)\/(T = "bool"/\b=true)\/(T = "tuple"/\b=false)\/(T = "list"/\b=false)
 | .str _,T,b=>(T = "int"/\b=false)\/(T = "bool"/\b=false)\/(T = "tuple"/\b=false)\/(T = "list"/\b=false)
 | .non,T,b=>(T = "int"/\b=false)\/(T = "bool"/\b=false)\/(T = "tuple"/\b=false)\/(T = "list"/\b=false)
 | .ref p,T,b=>(∃ xs,SqT K H p xs/\((T = "int"/\b=false)\/(T = "bool"/\b=false)\/(T = "tuple"/\b=true)\/(T = "list"/\b=false))) \/
   (∃ xs,SqL K H p xs/\((T = "int"/\b=false)\/(T = "bool"/\b=false)\/(T = "tuple"/\b=false)\/(T = "list"/\b=true)))
 | _,_,_=>False
theorem Gu:iw X (.builtin "isinstance") (fun xs H Q=>∃ x T b,xs=[x,.ty T]/\Wb X.K H x T b/\Q (.bl b) H):=by
 intro pins s Z H xs us Q I r h
 obtain ⟨x,T,b,rfl,hi,q⟩:=h
 obtain ⟨u,w',rfl,rx,ru⟩:=vals2 r
 cases ru
 have k0:EP X pins Z Q (.bool b) s:=⟨.bl b,H,I,rfl,q⟩
 have k1:EP X pins Z Q (.bool b) { s with toks:=s.toks+1 }:=⟨.bl b,H,I.tok _,rfl,q⟩
 cases x with
 | int i=>
  obtain ⟨t,rfl⟩:=rx
  rcases hi with ⟨rfl,rfl⟩ | ⟨rfl,rfl⟩ | ⟨rfl,rfl⟩ | ⟨rfl,rfl⟩
  ·exact IsiPair.int_int k0
  ·exact IsiPair.int_bool k1
  ·exact IsiPair.int_tuple k1
  ·exact IsiPair.int_list k1
 | bl i=>
  cases rx
  rcases hi with ⟨rfl,rfl⟩ | ⟨rfl,rfl⟩ | ⟨rfl,rfl⟩ | ⟨rfl,rfl⟩
  ·first | exact IsiPair.bool_int k0 | exact IsiPair.bool_int k1
  ·first | exact IsiPair.bool_bool k0 | exact IsiPair.bool_bool k1
  ·exact IsiPair.bool_tuple k1
  ·exact IsiPair.bool_list k1
 | str i=>
  obtain ⟨t,rfl⟩:=rx
  rcases hi with ⟨rfl,rfl⟩ | ⟨rfl,rfl⟩ | ⟨rfl,rfl⟩ | ⟨rfl,rfl⟩
  ·exact IsiPair.str_int k1
  ·exact IsiPair.str_bool k1
  ·exact IsiPair.str_tuple k1
  ·exact IsiPair.str_list k1
 | non=>
  cases rx
  rcases hi with ⟨rfl,rfl⟩ | ⟨rfl,rfl⟩ | ⟨rfl,rfl⟩ | ⟨rfl,rfl⟩
  ·exact IsiPair.NoneType_int k1
  ·exact IsiPair.NoneType_bool k1
  ·exact IsiPair.NoneType_tuple k1
  ·exact IsiPair.NoneType_list k1
 | ref p=>
  cases rx
  rcases hi with ⟨xs,hS,hi⟩ | ⟨xs,hS,hi⟩
  ·obtain ⟨its,_,⟨o,e,c,_⟩,_⟩:=I.tuple hS
   rcases hi with ⟨rfl,rfl⟩ | ⟨rfl,rfl⟩ | ⟨rfl,rfl⟩ | ⟨rfl,rfl⟩
   ·exact IsiPair.tuple_int e c k1
   ·exact IsiPair.tuple_bool e c k1
   ·exact IsiPair.tuple_tuple e c k0
   ·exact IsiPair.tuple_list e c k1
  ·obtain ⟨its,_,pl,_⟩:=I.list hS
   obtain ⟨o,e,c,_⟩:=pl.isList
   rcases hi with ⟨rfl,rfl⟩ | ⟨rfl,rfl⟩ | ⟨rfl,rfl⟩ | ⟨rfl,rfl⟩
   ·exact IsiPair.list_int e c k1
   ·exact IsiPair.list_bool e c k1
   ·exact IsiPair.list_tuple e c k1
   ·exact IsiPair.list_list e c k0
 | _=>exact (show False from hi).elim
end
end L2
namespace L2
open PySem PySem.Spec PyProof.Rows
inductive W where
 | non | bl (b:Bool) | int (i:Int) | str (x:Str) | ty (n:String) | tup (ws:List W) | lst (ws:List W) | loc (n:Nat) | kls (ws:List W) | exc (n:Str)
 /-- an exception with attributes -/
 | exa (n:Str) (ws:List W)
 /-- a def of the module, by its address and a number -/
 | fnv (f:Addr) (i:Nat)
inductive Cell where
 | lst (ws:List W) | obj (C:Addr) (fs:List (Str×W)) | dct (kvs:List (Key×W))
 /-- a dict whose keys are tuples of ints -/
 | dtt (kvs:List (List Int×W))
structure Gh where
 nx:Nat
 c:Nat->Option Cell
structure Mu where
 f:Nat->Option Addr
 hid:Addr->Prop
def W0 (K:Yh)(p:Addr)(xs:List V):Prop:=
 ∃ (o:Obj) (its:Array Value) (n:Nat),K.lookup p=some o/\o.cls=.type "list"/\o.dict=none/\o.data=.seq its n/\its.size<=sizeLine/\Vals xs its.toList
def Frz (H:Hp)(μ : Mu)(p:Addr)(xs:List V):Prop:=H p=some (.lst xs)/\(∀ n,μ.f n≠some p)/\¬ μ.hid p
def Frk (K:Yh)(H:Hp)(p:Addr)(xs:List V):Prop:=(∃ o,H p=some (.frz o (.lst xs)))\/W0 K p xs
theorem Frz.sq {K:Yh}{H:Hp}{μ : Mu}{p:Addr}{xs:List V}(h:Frz H μ p xs):SqL K H p xs:=.inl (.inl h.1)
theorem Frk.sq {K:Yh}{H:Hp}{p:Addr}{xs:List V}(h:Frk K H p xs):SqL K H p xs:=by
 rcases h with h | h
 ·exact .inl (.inr h)
 ·exact .inr h
def vmB:List Value:=[.type "ValueError",.type "Exception",.type "BaseException",.type "object"]
def qU (K:Yh)(C:Addr)(n:Str):Bool:=PySem.W.nsIn K mainGlobals n==some (some (.ref C))&&PySem.W.typeIn K (.ref C)==some (.type "type")&&match PySem.W.clsIn K C with
 | some cd=>cd.name==n&&cd.mro.contains (.type "BaseException")
 | none=>false
def rF (K:Yh)(C:Addr)(n:Str):Bool:=qU K C n&&(match PySem.W.clsIn K C with
 | some cd=>(match cd.mro with
  | [.ref C',.ref R,a,b,c,d]=>C'==C&&[a,b,c,d]==vmB&&PySem.W.nsIn K mainGlobals "EaselError"==some (some (.ref R))&&(PySem.W.clsIn K R).any (fun c=>c.name==("EaselError" : Str))
  | _=>false)
 | none=>false)&&PySem.W.findIn K (.ref C) "__getattribute__"==some (some (.builtin "BaseException.__getattribute__"))&&PySem.W.findIn K (.ref C) "__getattr__"==some none&&PySem.W.findIn K (.ref C) "__class__"==some (some (.builtin "object.__class__"))&&PySem.W.specialIn K (.builtin "object.__class__") "__get__"==some (some (.builtin "getset_descriptor.__get__"))
 && PySem.W.takesIn K (.builtin "object.__class__")==some true
def Cu (n:Str):List Str:=if n = "Apart" then ["word", "places"] else ["at"]
def Vf (K:Yh)(C:Addr)(n:Str):Bool:=rF K C n&&PySem.W.hasDictIn K C&&(Cu n).all fun f=>PySem.W.findIn K (.ref C) f==some none
def Xoa (K:Yh)(o:Obj)(n:Str)(dd:Addr):Prop:=∃ C,o.cls=.ref C/\o.dict=some dd/\PySem.W.notCls o=true/\Vf K C n=true
def Xob (K:Yh)(o:Obj)(n:Str):Prop:=∃ C,o.cls=.ref C/\o.dict=none/\PySem.W.notCls o=true/\rF K C n=true
mutual
def Rep (K:Yh)(H:Hp)(μ : Mu):W->V->Prop
 | .non,v=>v=.non
 | .bl b,v=>v=.bl b
 | .int i,v=>v=.int i
 | .str x,v=>v=.str x
 | .ty n,v=>v=.ty n
 | .tup ws,v=>∃ p xs,v=.ref p/\SqT K H p xs/\aJ K H μ ws xs
 | .lst ws,v=>∃ p xs,v=.ref p/\Frz H μ p xs/\aJ K H μ ws xs
 | .kls ws,v=>∃ p xs,v=.ref p/\Frk K H p xs/\aJ K H μ ws xs
 | .loc n,v=>∃ p,v=.ref p/\μ.f n=some p
 | .exc n,v=>∃ p o u,v=.ref p/\H p=some (.frz o u)/\Xob K o n
 | .exa n ws,v=>∃ p o u dd ns xs,v=.ref p/\H p=some (.frz o u)/\Xoa K o n dd/\H dd=some (.xd (List.zip ns xs))/\ns=Cu n/\ns.length=xs.length/\aJ K H μ ws xs
 | .fnv f _,v=>v=.ref f
def aJ (K:Yh)(H:Hp)(μ : Mu):List W->List V->Prop
 | [],xs=>xs=[]
 | w::ws,xs=>∃ v vs,xs=v::vs/\Rep K H μ w v/\aJ K H μ ws vs
end
section
variable {K:Yh}{H H' H1 H2:Hp}{μ μ' μ1 μ2:Mu}{h h':Gh}{w:W}{ws:List W}{v:V}{xs:List V}
theorem aJ.len:∀ {ws:List W} {xs:List V},aJ K H μ ws xs->ws.length=xs.length
 | [],xs,h=>by
  have e:xs=[]:=by rw [aJ] at h;exact h
  rw [e];rfl
 | w::ws,xs,h=>by
  rw [aJ] at h
  obtain ⟨v,vs,e,_,h⟩:=h
  rw [e,List.length_cons,List.length_cons,aJ.len h]
theorem aJ.get:∀ {ws:List W} {xs:List V} {i:Nat} {w:W},aJ K H μ ws xs->ws[i]?=some w->∃ v,xs[i]?=some v/\Rep K H μ w v
 | [],_,_,_,_,e=>by simp at e
 | a::ws,xs,0,w,h,e=>by
  rw [aJ] at h
  obtain ⟨v,vs,e1,r,_⟩:=h
  simp at e;subst e;subst e1
  exact ⟨v,rfl,r⟩
 | a::ws,xs,i+1,w,h,e=>by
  rw [aJ] at h
  obtain ⟨v,vs,e1,_,h⟩:=h
  subst e1
  obtain ⟨u,h1,h2⟩:=aJ.get (i:=i) (w:=w) h (by simpa using e)
  exact ⟨u,by simpa using h1,h2⟩
theorem aJ.nil:aJ K H μ [] []:=by rw [aJ]
theorem aJ.cons (r:Rep K H μ w v)(h:aJ K H μ ws xs):aJ K H μ (w::ws) (v::xs):=by
 rw [aJ];exact ⟨v,xs,rfl,r,h⟩
theorem aJ.append:∀ {ws:List W} {xs:List V} {us:List W} {ys:List V},aJ K H μ ws xs->aJ K H μ us ys->aJ K H μ (ws++us) (xs++ys)
 | [],xs,us,ys,h,g=>by
  rw [aJ] at h;subst h;exact g
 | w::ws,xs,us,ys,h,g=>by
  rw [aJ] at h
  obtain ⟨v,vs,e,r,h⟩:=h
  subst e
  exact aJ.cons r (aJ.append h g)
theorem aJ.one (r:Rep K H μ w v):aJ K H μ [w] [v]:=aJ.cons r aJ.nil
theorem aJ.take:∀ {ws:List W} {xs:List V} (n:Nat),aJ K H μ ws xs->aJ K H μ (ws.take n) (xs.take n)
 | _,_,0,_=>by simp only [List.take_zero];exact aJ.nil
 | [],xs,n+1,h=>by rw [aJ] at h;subst h;exact aJ.nil
 | a::ws,xs,n+1,h=>by
  rw [aJ] at h
  obtain ⟨u,vs,e,q,h⟩:=h
  subst e
  exact aJ.cons q (aJ.take n h)
theorem aJ.drop:∀ {ws:List W} {xs:List V} (n:Nat),aJ K H μ ws xs->aJ K H μ (ws.drop n) (xs.drop n)
 | _,_,0,h=>h
 | [],xs,n+1,h=>by rw [aJ] at h;subst h;exact aJ.nil
 | a::ws,xs,n+1,h=>by
  rw [aJ] at h
  obtain ⟨u,vs,e,q,h⟩:=h
  subst e
  exact aJ.drop n h
structure Ex0 (K:Yh) (H:Hp) (μ : Mu) (H':Hp) (μ':Mu):Prop where
 t:∀ p xs,SqT K H p xs->SqT K H' p xs
 l:∀ p xs,Frz H μ p xs->Frz H' μ' p xs
 k:∀ p xs,Frk K H p xs->Frk K H' p xs
 m:∀ n p,μ.f n=some p->μ'.f n=some p
 x:∀ p o u,H p=some (.frz o u)->H' p=some (.frz o u)
 y:∀ p fs,H p=some (.xd fs)->H' p=some (.xd fs)
structure Ex (K:Yh) (H:Hp) (μ : Mu) (H':Hp) (μ':Mu):Prop extends Ex0 K H μ H' μ' where
 o:∀ p u,μ.hid p->H p=some u->μ'.hid p/\H' p=some u
mutual
theorem Rep.ex (e:Ex0 K H μ H' μ'):∀ {w:W} {v:V},Rep K H μ w v->Rep K H' μ' w v
 | .non,_,h=>by rw [Rep] at h |-;exact h
 | .bl _,_,h=>by rw [Rep] at h |-;exact h
 | .int _,_,h=>by rw [Rep] at h |-;exact h
 | .str _,_,h=>by rw [Rep] at h |-;exact h
 | .ty _,_,h=>by rw [Rep] at h |-;exact h
 | .tup ws,_,h=>by
  rw [Rep] at h |-
  obtain ⟨p,xs,e1,hs,hr⟩:=h
  exact ⟨p,xs,e1,e.t _ _ hs,aJ.ex e hr⟩
 | .lst ws,_,h=>by
  rw [Rep] at h |-
  obtain ⟨p,xs,e1,hs,hr⟩:=h
  exact ⟨p,xs,e1,e.l _ _ hs,aJ.ex e hr⟩
 | .kls ws,_,h=>by
  rw [Rep] at h |-
  obtain ⟨p,xs,e1,hs,hr⟩:=h
  exact ⟨p,xs,e1,e.k _ _ hs,aJ.ex e hr⟩
 | .loc n,_,h=>by
  rw [Rep] at h |-
  obtain ⟨p,e1,hm⟩:=h
  exact ⟨p,e1,e.m _ _ hm⟩
 | .exc n,_,h=>by
  rw [Rep] at h |-
  obtain ⟨p,o,u,e1,hm,hx⟩:=h
  exact ⟨p,o,u,e1,e.x _ _ _ hm,hx⟩
 | .exa n ws,_,h=>by
  rw [Rep] at h |-
  obtain ⟨p,o,u,dd,ns,xs,e1,hm,hx,hd,e2,e3,hr⟩:=h
  exact ⟨p,o,u,dd,ns,xs,e1,e.x _ _ _ hm,hx,e.y _ _ hd,e2,e3,aJ.ex e hr⟩
 | .fnv _ _,_,h=>by rw [Rep] at h |-;exact h
theorem aJ.ex (e:Ex0 K H μ H' μ'):∀ {ws:List W} {xs:List V},aJ K H μ ws xs->aJ K H' μ' ws xs
 | [],_,h=>by rw [aJ] at h |-;exact h
 | w::ws,_,h=>by
  rw [aJ] at h |-
  obtain ⟨v,vs,e1,r,h⟩:=h
  exact ⟨v,vs,e1,Rep.ex e r,aJ.ex e h⟩
end
structure Ext (K:Yh) (H:Hp) (μ : Mu) (H':Hp) (μ':Mu):Prop where
 r:∀ w v,Rep K H μ w v->Rep K H' μ' w v
 o:∀ p u,μ.hid p->H p=some u->μ'.hid p/\H' p=some u
theorem Ext.refl:Ext K H μ H μ:=⟨fun _ _ h=>h,fun _ _ h g=>⟨h,g⟩⟩
theorem Ext.trans (a:Ext K H μ H1 μ1)(b:Ext K H1 μ1 H2 μ2):Ext K H μ H2 μ2:=
 ⟨fun w v h=>b.r w v (a.r w v h),fun p u h g=>let ⟨h1,g1⟩:=a.o p u h g;b.o p u h1 g1⟩
theorem Ex.ext (e:Ex K H μ H' μ'):Ext K H μ H' μ':=⟨fun _ _ h=>Rep.ex e.toEx0 h,e.o⟩
theorem Ext.s (e:Ext K H μ H' μ'):∀ {ws:List W} {xs:List V},aJ K H μ ws xs->aJ K H' μ' ws xs
 | [],_,h=>by rw [aJ] at h |-;exact h
 | w::ws,_,h=>by
  rw [aJ] at h |-
  obtain ⟨v,vs,e1,r,h⟩:=h
  exact ⟨v,vs,e1,e.r _ _ r,Ext.s e h⟩
def S8:Option HO->Prop
 | some (.lst _)=>True
 | some (.dK _)=>True
 | some (.ins _ _ _)=>True
 | some (.ext _)=>True
 | _=>False
def nR {κ : Type}(K:Yh)(H:Hp)(μ : Mu):List (κ×W)->List (κ×V)->Prop:=Paired fun (p:κ×W) (q:κ×V)=>p.1=q.1/\Rep K H μ p.2 q.2
def WL (x:List Int×Addr×Value):DictEntry:=⟨reduceHash (Builtin.Tuple.tupleHashOf (x.1.map hashInt)),.ref x.2.1,x.2.2⟩
def vO (a:Addr)(xs:List (List Int×Addr×Value))(h:Heap):Prop:=xs.length<=sizeLine/\(a==sysModules)=false/\(xs.map (·.1)).Nodup/\∃ o es ep,h.get? a=some o/\o.ExactDict/\o.data=.dict es ep/\es.toList=xs.map WL
def oW (K:Yh)(H:Hp)(μ : Mu)(p:Addr):Cell->Prop
 | .lst ws=>∃ xs,H p=some (.lst xs)/\aJ K H μ ws xs
 | .obj C fs=>∃ dx fvs,H p=some (.ins C dx fvs)/\nR K H μ fs fvs
 | .dct kvs=>∃ kvv,H p=some (.dK kvv)/\nR K H μ kvs kvv
 | .dtt kvs=>∃ xs vs,H p=some (.ext (vO p xs))/\kvs.map (·.1)=xs.map (·.1)/\Vals vs (xs.map (·.2.2))/\aJ K H μ (kvs.map fun x=>W.tup (x.1.map W.int)) (xs.map fun x=>V.ref x.2.1)/\aJ K H μ (kvs.map (·.2)) vs
structure Rel (K:Yh) (μ : Mu) (H:Hp) (h:Gh):Prop where
 inj:∀ m n p,μ.f m=some p->μ.f n=some p->m=n
 dom:∀ n p,μ.f n=some p->n<h.nx
 trk:∀ n p,μ.f n=some p->S8 (H p)
 cel:∀ n c,h.c n=some c->∃ p,μ.f n=some p/\oW K H μ p c
 hd:∀ p,μ.hid p->(∃ xs,H p=some (.lst xs))/\∀ n,μ.f n≠some p
theorem oW.ext {p:Addr}{c:Cell}(e:Ext K H μ H' μ')(hp:H' p=H p)(x:oW K H μ p c):oW K H' μ' p c:=by
 cases c with
 | lst ws=>obtain ⟨xs,a,b⟩:=x;exact ⟨xs,hp.trans a,e.s b⟩
 | obj C fs=>obtain ⟨dx,fvs,a,b⟩:=x;exact ⟨dx,fvs,hp.trans a,Paired.mapP b fun _ _ z=>⟨z.1,e.r _ _ z.2⟩⟩
 | dct kvs=>obtain ⟨kvv,a,b⟩:=x;exact ⟨kvv,hp.trans a,Paired.mapP b fun _ _ z=>⟨z.1,e.r _ _ z.2⟩⟩
 | dtt kvs=>obtain ⟨xs,vs,a,b,c,d,f⟩:=x;exact ⟨xs,vs,hp.trans a,b,c,e.s d,e.s f⟩
theorem Rd.laid {p q:Addr}{o u:HO}(hp:H p=none)(r:Rd H q u):Rd (upd H p o) q u:=by
 have ne:q≠p:=by
  rcases r with r | ⟨_,r⟩
  ·exact aN r hp
  ·exact aN r hp
 unfold Rd
 rw [aH ne]
 exact r
theorem Ex.laid {p:Addr}{o:HO}(hp:H p=none):Ex K H μ (upd H p o) μ where
 t:=fun q xs h=>by
  rcases h with h | h
  ·exact .inl (h.laid hp)
  ·exact .inr h
 l:=fun q xs h=>⟨by rw [aH (aN h.1 hp)];exact h.1,h.2⟩
 k:=fun q xs h=>by
  rcases h with ⟨o',h⟩ | h
  ·exact .inl ⟨o',by rw [aH (aN h hp)];exact h⟩
  ·exact .inr h
 m:=fun _ _ h=>h
 x:=fun q o' u e=>by rw [aH (aN e hp)];exact e
 y:=fun q fs e=>by rw [aH (aN e hp)];exact e
 o:=fun q u z e=>⟨z,by rw [aH (aN e hp)];exact e⟩
theorem Rel.laid {p:Addr}{o:HO}(R:Rel K μ H h)(hp:H p=none):Rel K μ (upd H p o) h where
 inj:=R.inj
 dom:=R.dom
 trk:=fun n q e=>by
  have:=R.trk n q e
  have ne:q≠p:=fun z=>by subst z;rw [hp] at this;exact this
  rw [aH ne];exact this
 cel:=fun n c e=>by
  obtain ⟨q,e1,x⟩:=R.cel n c e
  have:=R.trk n q e1
  have ne:q≠p:=fun z=>by subst z;rw [hp] at this;exact this
  exact ⟨q,e1,x.ext (Ex.laid hp).ext (aH ne)⟩
 hd:=fun q z=>by
  obtain ⟨⟨xs,e⟩,g⟩:=R.hd q z
  exact ⟨⟨xs,by rw [aH (aN e hp)];exact e⟩,g⟩
theorem Rep.tupNew {p:Addr}(hp:H p=none)(r:aJ K H μ ws xs):Rep K (upd H p (.tup xs)) μ (.tup ws) (.ref p):=by
 rw [Rep]
 exact ⟨p,xs,rfl,SqT.of aV,(Ex.laid hp).ext.s r⟩
theorem Rep.lstNew {p:Addr}(R:Rel K μ H h)(hp:H p=none)(r:aJ K H μ ws xs):Rep K (upd H p (.lst xs)) μ (.lst ws) (.ref p):=by
 rw [Rep]
 refine ⟨p,xs,rfl,⟨aV,fun n e=>?_,fun z=>?_⟩,(Ex.laid hp).ext.s r⟩
 ·have:=R.trk n p e
  rw [hp] at this
  exact this
 ·obtain ⟨⟨xs,e⟩,_⟩:=R.hd p z
  rw [hp] at e
  cases e
def Mu.put (μ : Mu)(n:Nat)(p:Addr):Mu:=⟨fun m=>if m=n then some p else μ.f m,μ.hid⟩
theorem Mu.put_same {n:Nat}{p:Addr}:(μ.put n p).f n=some p:=by show (if n=n then some p else μ.f n)=_;rw [if_pos rfl]
theorem Mu.put_ne {m n:Nat}{p:Addr}(e:m≠n):(μ.put n p).f m = μ.f m:=by show (if m=n then some p else μ.f m)=_;rw [if_neg e]
def Gh.new (h:Gh)(c:Cell):Gh:=⟨h.nx+1,fun m=>if m=h.nx then some c else h.c m⟩
def Gh.set (h:Gh)(n:Nat)(c:Cell):Gh:=⟨h.nx,fun m=>if m=n then some c else h.c m⟩
theorem Rel.dead (R:Rel K μ H h){n:Nat}(hn:h.nx<=n):μ.f n=none:=by
 cases e:μ.f n with
 | none=>rfl
 | some p=>exact absurd (R.dom n p e) (by omega)
theorem Ex.newCell {p:Addr}{o:HO}(R:Rel K μ H h)(hp:H p=none):Ex K H μ (upd H p o) (μ.put h.nx p) where
 t:=fun q xs z=>(Ex.laid (μ:=μ) hp).t q xs z
 l:=fun q xs z=>by
  have nq:=aN z.1 hp
  refine ⟨by rw [aH nq];exact z.1,fun n e=>?_,z.2.2⟩
  by_cases hn:n=h.nx
  ·subst hn
   rw [Mu.put_same] at e
   exact nq (Option.some.inj e).symm
  ·rw [Mu.put_ne hn] at e
   exact z.2.1 n e
 k:=fun q xs z=>(Ex.laid (μ:=μ) hp).k q xs z
 m:=fun n q e=>by
  have hn:n≠h.nx:=fun z=>by subst z;rw [R.dead (Yc _)] at e;cases e
  rw [Mu.put_ne hn];exact e
 x:=fun q o' u e=>by rw [aH (aN e hp)];exact e
 y:=fun q fs e=>by rw [aH (aN e hp)];exact e
 o:=fun q u z e=>⟨z,by rw [aH (aN e hp)];exact e⟩
theorem Rel.newCell {p:Addr}{o:HO}{c:Cell}(R:Rel K μ H h)(hp:H p=none)(mo:S8 (some o))(ck:oW K (upd H p o) (μ.put h.nx p) p c):Rel K (μ.put h.nx p) (upd H p o) (h.new c) where
 inj:=fun m n q em en=>by
  by_cases hm:m=h.nx
  ·by_cases hn:n=h.nx
   ·rw [hm,hn]
   ·rw [hm,Mu.put_same] at em
    rw [Mu.put_ne hn] at en
    have e:p=q:=Option.some.inj em
    subst e
    have:=R.trk n _ en
    rw [hp] at this
    exact this.elim
  ·rw [Mu.put_ne hm] at em
   by_cases hn:n=h.nx
   ·rw [hn,Mu.put_same] at en
    have e:p=q:=Option.some.inj en
    subst e
    have:=R.trk m _ em
    rw [hp] at this
    exact this.elim
   ·rw [Mu.put_ne hn] at en
    exact R.inj m n q em en
 dom:=fun n q e=>by
  show n<h.nx+1
  by_cases hn:n=h.nx
  ·omega
  ·rw [Mu.put_ne hn] at e
   have:=R.dom n q e
   omega
 trk:=fun n q e=>by
  by_cases hn:n=h.nx
  ·rw [hn,Mu.put_same] at e
   have e:p=q:=Option.some.inj e
   subst e
   rw [aV];exact mo
  ·rw [Mu.put_ne hn] at e
   have:=R.trk n q e
   have ne:q≠p:=fun z=>by subst z;rw [hp] at this;exact this
   rw [aH ne];exact this
 cel:=fun n d e=>by
  have e:(if n=h.nx then some c else h.c n)=some d:=e
  by_cases hn:n=h.nx
  ·rw [if_pos hn] at e
   have e:c=d:=Option.some.inj e
   subst e
   exact ⟨p,by rw [hn,Mu.put_same],ck⟩
  ·rw [if_neg hn] at e
   obtain ⟨q,e1,x⟩:=R.cel n d e
   have:=R.trk n q e1
   have ne:q≠p:=fun z=>by subst z;rw [hp] at this;exact this
   exact ⟨q,by rw [Mu.put_ne hn];exact e1,x.ext (Ex.newCell R hp).ext (aH ne)⟩
 hd:=fun q z=>by
  obtain ⟨⟨xs,e⟩,g⟩:=R.hd q z
  have ne:=aN e hp
  refine ⟨⟨xs,by rw [aH ne];exact e⟩,fun n en=>?_⟩
  by_cases hn:n=h.nx
  ·rw [hn,Mu.put_same] at en
   exact ne (Option.some.inj en).symm
  ·rw [Mu.put_ne hn] at en
   exact g n en
theorem Rd.kept {p q:Addr}{o u:HO}(mo:S8 (H p))(r:Rd H q u)(hn:q≠p):Rd (upd H p o) q u:=by
 unfold Rd
 rw [aH hn]
 exact r
theorem Ex.write {n:Nat}{p:Addr}{o:HO}(R:Rel K μ H h)(hn:μ.f n=some p):Ex K H μ (upd H p o) μ where
 t:=fun q xs z=>by
  rcases z with z | z
  ·refine .inl (z.kept (R.trk n p hn) fun e=>?_)
   subst e
   have:=R.trk n q hn
   rcases z with r | ⟨_,r⟩ <;> rw [r] at this <;> exact this
  ·exact .inr z
 l:=fun q xs z=>⟨by rw [aH (fun e=>z.2.1 n (by rw [e];exact hn))];exact z.1,z.2⟩
 k:=fun q xs z=>by
  rcases z with ⟨o',z⟩ | z
  ·refine .inl ⟨o',?_⟩
   rw [aH (fun e=>?_)]
   ·exact z
   ·subst e
    have:=R.trk n q hn
    rw [z] at this
    exact this
  ·exact .inr z
 m:=fun _ _ e=>e
 x:=fun q o' u e=>by
  rw [aH (fun y=>?_)]
  ·exact e
  ·subst y
   have:=R.trk n q hn
   rw [e] at this
   exact this
 y:=fun q fs e=>by
  rw [aH (fun y=>?_)]
  ·exact e
  ·subst y
   have:=R.trk n q hn
   rw [e] at this
   exact this
 o:=fun q u z e=>⟨z,by rw [aH (fun y=>(R.hd q z).2 n (by rw [y];exact hn))];exact e⟩
theorem Rel.write {n:Nat}{p:Addr}{o:HO}{c:Cell}(R:Rel K μ H h)(hn:μ.f n=some p)(mo:S8 (some o))(ck:oW K (upd H p o) μ p c):Rel K μ (upd H p o) (h.set n c) where
 inj:=R.inj
 dom:=R.dom
 trk:=fun m q e=>by
  by_cases z:q=p
  ·subst z;rw [aV];exact mo
  ·rw [aH z];exact R.trk m q e
 cel:=fun m d e=>by
  have e:(if m=n then some c else h.c m)=some d:=e
  by_cases hm:m=n
  ·rw [if_pos hm] at e
   have e:c=d:=Option.some.inj e
   subst e
   exact ⟨p,by rw [hm];exact hn,ck⟩
  ·rw [if_neg hm] at e
   obtain ⟨q,e1,x⟩:=R.cel m d e
   have ne:q≠p:=fun z=>by subst z;exact hm (R.inj m n q e1 hn)
   exact ⟨q,e1,x.ext (Ex.write R hn).ext (aH ne)⟩
 hd:=fun q z=>by
  obtain ⟨⟨xs,e⟩,g⟩:=R.hd q z
  exact ⟨⟨xs,by rw [aH (fun y=>g n (by rw [y];exact hn))];exact e⟩,g⟩
mutual
def Lo (k:Nat):W->Prop
 | .tup ws=>Los k ws
 | .lst ws=>Los k ws
 | .kls ws=>Los k ws
 | .exa _ ws=>Los k ws
 | .loc n=>n<k
 | _=>True
def Los (k:Nat):List W->Prop
 | []=>True
 | w::ws=>Lo k w/\Los k ws
end
mutual
theorem Rep.lo {k:Nat}(hd:∀ n p,μ.f n=some p->n<k):∀ {w:W} {v:V},Rep K H μ w v->Lo k w
 | .non,_,_=>by rw [Lo] <;> first | trivial | (intros;contradiction)
 | .bl _,_,_=>by rw [Lo] <;> first | trivial | (intros;contradiction)
 | .int _,_,_=>by rw [Lo] <;> first | trivial | (intros;contradiction)
 | .str _,_,_=>by rw [Lo] <;> first | trivial | (intros;contradiction)
 | .ty _,_,_=>by rw [Lo] <;> first | trivial | (intros;contradiction)
 | .exc _,_,_=>by rw [Lo] <;> first | trivial | (intros;contradiction)
 | .fnv _ _,_,_=>by rw [Lo] <;> first | trivial | (intros;contradiction)
 | .exa _ ws,_,h=>by
  rw [Rep] at h
  obtain ⟨_,_,_,_,_,_,_,_,_,_,_,_,hr⟩:=h
  rw [Lo]
  exact aJ.lo hd hr
 | .tup ws,_,h=>by
  rw [Rep] at h
  obtain ⟨p,xs,_,_,hr⟩:=h
  rw [Lo]
  exact aJ.lo hd hr
 | .lst ws,_,h=>by
  rw [Rep] at h
  obtain ⟨p,xs,_,_,hr⟩:=h
  rw [Lo]
  exact aJ.lo hd hr
 | .kls ws,_,h=>by
  rw [Rep] at h
  obtain ⟨p,xs,_,_,hr⟩:=h
  rw [Lo]
  exact aJ.lo hd hr
 | .loc n,_,h=>by
  rw [Rep] at h
  obtain ⟨p,_,hm⟩:=h
  rw [Lo]
  exact hd n p hm
theorem aJ.lo {k:Nat}(hd:∀ n p,μ.f n=some p->n<k):∀ {ws:List W} {xs:List V},aJ K H μ ws xs->Los k ws
 | [],_,_=>by rw [Los];trivial
 | w::ws,_,h=>by
  rw [aJ] at h
  obtain ⟨v,vs,_,r,h⟩:=h
  rw [Los]
  exact ⟨Rep.lo hd r,aJ.lo hd h⟩
end
def Mu.cut (μ : Mu)(k:Nat):Mu:=⟨fun n=>if n<k then μ.f n else none,μ.hid⟩
theorem Mu.cut_some {k n:Nat}{p:Addr}(e:(μ.cut k).f n=some p):n<k/\μ.f n=some p:=by
 have e:(if n<k then μ.f n else none)=some p:=e
 by_cases hn:n<k
 ·rw [if_pos hn] at e;exact ⟨hn,e⟩
 ·rw [if_neg hn] at e;cases e
mutual
theorem Rep.cut {k:Nat}:∀ {w:W} {v:V},Rep K H μ w v->Lo k w->Rep K H (μ.cut k) w v
 | .non,_,h,_=>by rw [Rep] at h |-;exact h
 | .bl _,_,h,_=>by rw [Rep] at h |-;exact h
 | .int _,_,h,_=>by rw [Rep] at h |-;exact h
 | .str _,_,h,_=>by rw [Rep] at h |-;exact h
 | .ty _,_,h,_=>by rw [Rep] at h |-;exact h
 | .exc _,_,h,_=>by rw [Rep] at h |-;exact h
 | .fnv _ _,_,h,_=>by rw [Rep] at h |-;exact h
 | .exa _ ws,_,h,l=>by
  rw [Rep] at h |-
  rw [Lo] at l
  obtain ⟨p,o,u,dd,ns,xs,e1,hm,hx,hd,e2,e3,hr⟩:=h
  exact ⟨p,o,u,dd,ns,xs,e1,hm,hx,hd,e2,e3,aJ.cut hr l⟩
 | .tup ws,_,h,l=>by
  rw [Rep] at h |-
  rw [Lo] at l
  obtain ⟨p,xs,e1,hs,hr⟩:=h
  exact ⟨p,xs,e1,hs,aJ.cut hr l⟩
 | .lst ws,_,h,l=>by
  rw [Rep] at h |-
  rw [Lo] at l
  obtain ⟨p,xs,e1,hs,hr⟩:=h
  exact ⟨p,xs,e1,⟨hs.1,fun n e=>hs.2.1 n (Mu.cut_some e).2,hs.2.2⟩,aJ.cut hr l⟩
 | .kls ws,_,h,l=>by
  rw [Rep] at h |-
  rw [Lo] at l
  obtain ⟨p,xs,e1,hs,hr⟩:=h
  exact ⟨p,xs,e1,hs,aJ.cut hr l⟩
 | .loc n,_,h,l=>by
  rw [Rep] at h |-
  rw [Lo] at l
  obtain ⟨p,e1,hm⟩:=h
  refine ⟨p,e1,?_⟩
  show (if n<k then μ.f n else none)=some p
  rw [if_pos l]
  exact hm
theorem aJ.cut {k:Nat}:∀ {ws:List W} {xs:List V},aJ K H μ ws xs->Los k ws->aJ K H (μ.cut k) ws xs
 | [],_,h,_=>by rw [aJ] at h |-;exact h
 | w::ws,_,h,l=>by
  rw [aJ] at h |-
  rw [Los] at l
  obtain ⟨v,vs,e1,r,h⟩:=h
  exact ⟨v,vs,e1,Rep.cut r l.1,aJ.cut h l.2⟩
end
end
end L2
namespace L2
open PySem PySem.Spec PyProof.Rows
section
variable {K:Yh}{H H' H1 H2:Hp}{μ μ' μ1 μ2:Mu}{h h':Gh}{w:W}{ws:List W}{v:V}{xs ys:List V}{p:Addr}
def Mu.hide (μ : Mu)(p:Addr):Mu:=⟨μ.f,fun q=>q=p\/μ.hid q⟩
def Mu.unhide (μ : Mu)(p:Addr):Mu:=⟨μ.f,fun q=>q≠p/\μ.hid q⟩
structure Nu (p:Addr) (K:Yh) (H:Hp) (μ : Mu) (H':Hp) (μ':Mu):Prop where
 r:∀ w v,Rep K H μ w v->Rep K H' μ' w v
 o:∀ q u,q≠p->μ.hid q->H q=some u->μ'.hid q/\H' q=some u
theorem Ext.x (a:Ext K H μ H1 μ1)(hp:¬ μ.hid p)(b:Nu p K H1 μ1 H2 μ2):Ext K H μ H2 μ2:=
 ⟨fun w v z=>b.r w v (a.r w v z),fun q u z e=>let ⟨z1,e1⟩:=a.o q u z e;b.o q u (fun y=>hp (by rw [<-y];exact z)) z1 e1⟩
theorem Ext.hide {o:HO}(hp:H p=none):Ext K H μ (upd H p o) (μ.hide p):=Ex.ext {
 t:=fun q xs z=>(Ex.laid (μ:=μ) hp).t q xs z
 l:=fun q xs z=>by
  have nq:=aN z.1 hp
  refine ⟨by rw [aH nq];exact z.1,z.2.1,fun y=>?_⟩
  rcases y with y | y
  ·exact nq y
  ·exact z.2.2 y
 k:=fun q xs z=>(Ex.laid (μ:=μ) hp).k q xs z
 m:=fun _ _ e=>e
 x:=fun q o' u e=>by rw [aH (aN e hp)];exact e
 y:=fun q fs e=>by rw [aH (aN e hp)];exact e
 o:=fun q u z e=>⟨.inr z,by rw [aH (aN e hp)];exact e⟩ }
theorem Rel.nohid (R:Rel K μ H h)(hp:H p=none):¬ μ.hid p:=fun z=>by
 obtain ⟨⟨xs,e⟩,_⟩:=R.hd p z
 rw [hp] at e;cases e
theorem Rel.hide (R:Rel K μ H h)(hp:H p=none):Rel K (μ.hide p) (upd H p (.lst xs)) h where
 inj:=R.inj
 dom:=R.dom
 trk:=(R.laid hp).trk
 cel:=fun n c e=>by
  obtain ⟨q,e1,x⟩:=R.cel n c e
  have:=R.trk n q e1
  have ne:q≠p:=fun z=>by subst z;rw [hp] at this;exact this
  exact ⟨q,e1,x.ext (Ext.hide hp) (aH ne)⟩
 hd:=fun q z=>by
  rcases z with z | z
  ·subst z
   refine ⟨⟨xs,aV⟩,fun n e=>?_⟩
   have:=R.trk n q e
   rw [hp] at this
   exact this
  ·exact (R.laid (o:=.lst xs) hp).hd q z
theorem Ex0.grow (R:Rel K μ H h)(hp:μ.hid p):Ex0 K H μ (upd H p (.lst ys)) μ where
 t:=fun q xs z=>by
  rcases z with z | z
  ·refine .inl ?_
   unfold Rd
   rw [aH (fun y=>?_)]
   ·exact z
   ·subst y
    obtain ⟨⟨xs',e⟩,_⟩:=R.hd q hp
    rcases z with r | ⟨_,r⟩ <;> rw [e] at r <;> cases r
  ·exact .inr z
 l:=fun q xs z=>⟨by rw [aH (fun y=>z.2.2 (by rw [y];exact hp))];exact z.1,z.2⟩
 k:=fun q xs z=>by
  rcases z with ⟨o',z⟩ | z
  ·refine .inl ⟨o',?_⟩
   rw [aH (fun y=>?_)]
   ·exact z
   ·subst y
    obtain ⟨⟨xs',e⟩,_⟩:=R.hd q hp
    rw [e] at z
    cases z
  ·exact .inr z
 m:=fun _ _ e=>e
 x:=fun q o' u e=>by
  rw [aH (fun y=>?_)]
  ·exact e
  ·subst y
   obtain ⟨⟨xs',e'⟩,_⟩:=R.hd q hp
   rw [e'] at e
   cases e
 y:=fun q fs e=>by
  rw [aH (fun y=>?_)]
  ·exact e
  ·subst y
   obtain ⟨⟨xs',e'⟩,_⟩:=R.hd q hp
   rw [e'] at e
   cases e
theorem Nu.grow (R:Rel K μ H h)(hp:μ.hid p):Nu p K H μ (upd H p (.lst ys)) μ:=
 ⟨fun _ _ z=>Rep.ex (Ex0.grow R hp) z,fun q u ne z e=>⟨z,by rw [aH ne];exact e⟩⟩
theorem Rel.grow (R:Rel K μ H h)(hp:μ.hid p):Rel K μ (upd H p (.lst ys)) h where
 inj:=R.inj
 dom:=R.dom
 trk:=fun n q e=>by
  have ne:q≠p:=fun z=>(R.hd p hp).2 n (by rw [<-z];exact e)
  rw [aH ne];exact R.trk n q e
 cel:=fun n c e=>by
  obtain ⟨q,e1,x⟩:=R.cel n c e
  have ne:q≠p:=fun z=>(R.hd p hp).2 n (by rw [<-z];exact e1)
  refine ⟨q,e1,?_⟩
  cases c with
  | lst ws=>obtain ⟨xs,a,b⟩:=x;exact ⟨xs,(aH ne).trans a,aJ.ex (Ex0.grow R hp) b⟩
  | obj C fs=>obtain ⟨dx,fvs,a,b⟩:=x;exact ⟨dx,fvs,(aH ne).trans a,Paired.mapP b fun _ _ z=>⟨z.1,Rep.ex (Ex0.grow R hp) z.2⟩⟩
  | dct kvs=>obtain ⟨kvv,a,b⟩:=x;exact ⟨kvv,(aH ne).trans a,Paired.mapP b fun _ _ z=>⟨z.1,Rep.ex (Ex0.grow R hp) z.2⟩⟩
  | dtt kvs=>obtain ⟨xs,vs,a,b,c,d,f⟩:=x;exact ⟨xs,vs,(aH ne).trans a,b,c,aJ.ex (Ex0.grow R hp) d,aJ.ex (Ex0.grow R hp) f⟩
 hd:=fun q z=>by
  by_cases e:q=p
  ·subst e;exact ⟨⟨ys,aV⟩,(R.hd q hp).2⟩
  ·rw [aH e];exact R.hd q z
theorem Ex0.unhide:Ex0 K H μ H (μ.unhide p) where
 t:=fun _ _ z=>z
 l:=fun q xs z=>⟨z.1,z.2.1,fun y=>z.2.2 y.2⟩
 k:=fun _ _ z=>z
 m:=fun _ _ e=>e
 x:=fun _ _ _ e=>e
 y:=fun _ _ e=>e
theorem Nu.unhide:Nu p K H μ H (μ.unhide p):=⟨fun _ _ z=>Rep.ex Ex0.unhide z,fun q u ne z e=>⟨⟨ne,z⟩,e⟩⟩
theorem Rel.unhide (R:Rel K μ H h):Rel K (μ.unhide p) H h where
 inj:=R.inj
 dom:=R.dom
 trk:=R.trk
 cel:=fun n c e=>by
  obtain ⟨q,e1,x⟩:=R.cel n c e
  refine ⟨q,e1,?_⟩
  cases c with
  | lst ws=>obtain ⟨xs,a,b⟩:=x;exact ⟨xs,a,aJ.ex Ex0.unhide b⟩
  | obj C fs=>obtain ⟨dx,fvs,a,b⟩:=x;exact ⟨dx,fvs,a,Paired.mapP b fun _ _ z=>⟨z.1,Rep.ex Ex0.unhide z.2⟩⟩
  | dct kvs=>obtain ⟨kvv,a,b⟩:=x;exact ⟨kvv,a,Paired.mapP b fun _ _ z=>⟨z.1,Rep.ex Ex0.unhide z.2⟩⟩
  | dtt kvs=>obtain ⟨xs,vs,a,b,c,d,f⟩:=x;exact ⟨xs,vs,a,b,c,aJ.ex Ex0.unhide d,aJ.ex Ex0.unhide f⟩
 hd:=fun q z=>R.hd q z.2
theorem Rep.built (R:Rel K μ H h)(hp:μ.hid p)(e:H p=some (.lst xs))(r:aJ K H μ ws xs):Rep K H (μ.unhide p) (.lst ws) (.ref p):=by
 rw [Rep]
 exact ⟨p,xs,rfl,⟨e,(R.hd p hp).2,fun z=>z.1 rfl⟩,aJ.ex Ex0.unhide r⟩
end
abbrev Sw:=List (Option W)
abbrev WK:=W->Gh->Prop
abbrev ME:=Sw->Gh->WK->Prop
abbrev MT:=Sw->Gh->(Bool->Gh->Prop)->Prop
abbrev MA:=Sw->Gh->(List W->Gh->Prop)->Prop
structure bL where
 nx:Sw->Gh->Prop
 rt:WK
 bk:Sw->Gh->Prop:=fun _ _=>False
 ct:Sw->Gh->Prop:=fun _ _=>False
abbrev MS:=bL->Sw->Gh->Prop
abbrev MG:=W->Sw->Gh->(Sw->Gh->Prop)->Prop
abbrev MGs:=List W->Sw->Gh->(Sw->Gh->Prop)->Prop
structure Xw where
 cls:Str
 fs:List (Str×W)
abbrev XWK:=Xw->Gh->Prop
abbrev MSp:=List W->Gh->WK->XWK->Prop
def EF:XWK:=fun _ _=>False
structure Slots (K:Yh) (H:Hp) (μ : Mu) (Zw:Sw) (Z : St):Prop where
 len:Zw.length = Z.length
 get:∀ (i:Nat) (w:W),Zw[i]?=some (some w)->∃ v,Z[i]?=some (some v)/\Rep K H μ w v
def DQ (K:Yh)(H:Hp)(μ : Mu)(Q:WK):VK:=fun v H'=>∃ μ' w h',Ext K H μ H' μ'/\Rel K μ' H' h'/\Rep K H' μ' w v/\Q w h'
def DB (K:Yh)(H:Hp)(μ : Mu)(Q:Bool->Gh->Prop):Bool->Hp->Prop:=fun b H'=>∃ μ' h',Ext K H μ H' μ'/\Rel K μ' H' h'/\Q b h'
def DA (K:Yh)(H:Hp)(μ : Mu)(Q:List W->Gh->Prop):List V->Hp->Prop:=fun vs H'=>∃ μ' ws h',Ext K H μ H' μ'/\Rel K μ' H' h'/\aJ K H' μ' ws vs/\Q ws h'
def DN (K:Yh)(H:Hp)(μ : Mu)(N:Sw->Gh->Prop):St->Hp->Prop:=fun Z' H'=>∃ μ' Zw' h',Ext K H μ H' μ'/\Rel K μ' H' h'/\Slots K H' μ' Zw' Z'/\N Zw' h'
section
variable {K:Yh}{H H' H1 H2:Hp}{μ μ' μ1 μ2:Mu}{h h' h1:Gh}{w:W}{v:V}{Z : St}{Zw:Sw}
theorem Slots.ext (S:Slots K H μ Zw Z)(e:Ext K H μ H' μ'):Slots K H' μ' Zw Z:=⟨S.len,fun i w q=>let ⟨v,a,b⟩:=S.get i w q;⟨v,a,e.r _ _ b⟩⟩
theorem Slots.set (S:Slots K H μ Zw Z)(r:Rep K H μ w v)(i:Nat):Slots K H μ (Zw.set i (some w)) (Z.set i (some v)):=by
 refine ⟨by rw [List.length_set,List.length_set,S.len],fun j u q=>?_⟩
 rw [List.getElem?_set] at q |-
 by_cases hij:i=j
 ·rw [if_pos hij] at q |-
  by_cases hl:i < Zw.length
  ·rw [if_pos hl] at q
   rw [if_pos (by rw [<-S.len];exact hl)]
   have e:w=u:=by injection q with q;injection q
   subst e
   exact ⟨v,rfl,r⟩
  ·rw [if_neg hl] at q;cases q
 ·rw [if_neg hij] at q |-
  exact S.get j u q
theorem DQ.trans {Q:WK}(e:Ext K H μ H1 μ1)(q:DQ K H1 μ1 Q v H'):DQ K H μ Q v H':=let ⟨μ',w,h',a,b⟩:=q;⟨μ',w,h',e.trans a,b⟩
theorem DB.trans {Q:Bool->Gh->Prop}{b:Bool}(e:Ext K H μ H1 μ1)(q:DB K H1 μ1 Q b H'):DB K H μ Q b H':=let ⟨μ',h',a,b⟩:=q;⟨μ',h',e.trans a,b⟩
theorem DN.trans {N:Sw->Gh->Prop}{Z':St}(e:Ext K H μ H1 μ1)(q:DN K H1 μ1 N Z' H'):DN K H μ N Z' H':=let ⟨μ',w,h',a,b⟩:=q;⟨μ',w,h',e.trans a,b⟩
end
def tD (K:Yh)(m:ME):TE:=fun Z H Q=>∃ μ h Zw Qw,Rel K μ H h/\Slots K H μ Zw Z/\m Zw h Qw/\∀ v H',DQ K H μ Qw v H'->Q v H'
def tDT (K:Yh)(m:MT):TT:=fun Z H Q=>∃ μ h Zw Qw,Rel K μ H h/\Slots K H μ Zw Z/\m Zw h Qw/\∀ b H',DB K H μ Qw b H'->Q b H'
def tDA (K:Yh)(m:MA):TA:=fun Z H Q=>∃ μ h Zw Qw,Rel K μ H h/\Slots K H μ Zw Z/\m Zw h Qw/\∀ vs H',DA K H μ Qw vs H'->Q vs H'
def tDG (K:Yh)(g:MG):TG:=fun v Z H N=>∃ μ h Zw w Nw,Rel K μ H h/\Slots K H μ Zw Z/\Rep K H μ w v/\g w Zw h Nw/\∀ Z' H',DN K H μ Nw Z' H'->N Z' H'
def WT (K:Yh)(g:MGs):TGs:=fun vs Z H N=>∃ μ h Zw ws Nw,Rel K μ H h/\Slots K H μ Zw Z/\aJ K H μ ws vs/\g ws Zw h Nw/\∀ Z' H',DN K H μ Nw Z' H'->N Z' H'
structure rZ (K:Yh) (H:Hp) (μ : Mu) (Dw:bL) (D:Ends):Prop where
 nx:∀ Z' H',DN K H μ Dw.nx Z' H'->D.nx Z' H'
 rt:∀ v H',DQ K H μ Dw.rt v H'->D.rt v H'
 bk:∀ Z' H',DN K H μ Dw.bk Z' H'->D.bk Z' H'
 ct:∀ Z' H',DN K H μ Dw.ct Z' H'->D.ct Z' H'
def tDS (K:Yh)(m:MS):TS:=fun D Z H=>∃ μ h Zw Dw,Rel K μ H h/\Slots K H μ Zw Z/\m Dw Zw h/\rZ K H μ Dw D
theorem rZ.trans {K:Yh}{H H1:Hp}{μ μ1:Mu}{Dw:bL}{D:Ends}(k:rZ K H μ Dw D)(e:Ext K H μ H1 μ1):rZ K H1 μ1 Dw D:=
 ⟨fun _ _ q=>k.nx _ _ (q.trans e),fun _ _ q=>k.rt _ _ (q.trans e),fun _ _ q=>k.bk _ _ (q.trans e),fun _ _ q=>k.ct _ _ (q.trans e)⟩
section
variable {X:Cx}{e:Expr}{es:List Expr}{st:Stmt}{sts:List Stmt}
theorem PE.of {t t':TE}(h:PE X e t)(k:∀ Z H Q,t' Z H Q->t Z H Q):PE X e t':=fun pins s Z H Q I q=>h pins s Z H Q I (k Z H Q q)
theorem PT.of {t t':TT}(h:PT X e t)(k:∀ Z H Q,t' Z H Q->t Z H Q):PT X e t':=fun pins s Z H Q I q=>h pins s Z H Q I (k Z H Q q)
theorem PW.of {t t':TT}(h:PW X e t)(k:∀ Z H Q,t' Z H Q->t Z H Q):PW X e t':=fun wh pins s Z H Q I q=>h wh pins s Z H Q I (k Z H Q q)
theorem PA.of {t t':TA}(h:PA X es t)(k:∀ Z H Q,t' Z H Q->t Z H Q):PA X es t':=fun pos pins s Z H Q I q=>h pos pins s Z H Q I (k Z H Q q)
theorem PG.of {t t':TG}(h:PG X e t)(k:∀ v Z H Q,t' v Z H Q->t v Z H Q):PG X e t':=fun pins s Z H v u Q I r q=>h pins s Z H v u Q I r (k v Z H Q q)
theorem PGs.of {t t':TGs}(h:PGs X es t)(k:∀ v Z H Q,t' v Z H Q->t v Z H Q):PGs X es t':=fun pins s Z H v u Q I r q=>h pins s Z H v u Q I r (k v Z H Q q)
theorem PS.of {t t':TS}(h:PS X st t)(k:∀ D Z H,t' D Z H->t D Z H):PS X st t':=fun pins s Z H D I q=>h pins s Z H D I (k D Z H q)
theorem PSs.of {t t':TS}(h:PSs X sts t)(k:∀ D Z H,t' D Z H->t D Z H):PSs X sts t':=fun pins s Z H D I q=>h pins s Z H D I (k D Z H q)
end
abbrev DE (X:Cx)(e:Expr)(m:ME):Prop:=PE X e (tD X.K m)
abbrev DT (X:Cx)(e:Expr)(m:MT):Prop:=PT X e (tDT X.K m)
abbrev DWt (X:Cx)(e:Expr)(m:MT):Prop:=PW X e (tDT X.K m)
abbrev DAs (X:Cx)(es:List Expr)(m:MA):Prop:=PA X es (tDA X.K m)
abbrev DG (X:Cx)(e:Expr)(m:MG):Prop:=PG X e (tDG X.K m)
abbrev SM (X:Cx)(es:List Expr)(m:MGs):Prop:=PGs X es (WT X.K m)
abbrev DS (X:Cx)(st:Stmt)(m:MS):Prop:=PS X st (tDS X.K m)
abbrev DSs (X:Cx)(st:List Stmt)(m:MS):Prop:=PSs X st (tDS X.K m)
section
variable {X:Cx}{e a b c:Expr}{ma mb mc:ME}{pos:Pos}
def aG (i:Nat):ME:=fun Z h Q=>match Z[i]? with
 | some (some w)=>Q w h
 | _=>False
def mC (w:W):ME:=fun _ h Q=>Q w h
theorem dv (i:Nat)(he:PE X e (T3 i)):DE X e (aG i):=he.of fun Z H Q ⟨μ,h,Zw,Qw,R,S,m,k⟩=>by
 unfold aG at m
 cases q:Zw[i]? with
 | none=>rw [q] at m;exact m.elim
 | some o=>
  rw [q] at m
  cases o with
  | none=>exact m.elim
  | some w=>
   obtain ⟨v,h1,h2⟩:=S.get i w q
   exact ⟨v,h1,k _ _ ⟨μ,w,h,.refl,R,h2,m⟩⟩
theorem dc {w:W}{v:V}(he:PE X e (tC v))(r:∀ H μ,Rep X.K H μ w v):DE X e (mC w):=he.of fun Z H Q ⟨μ,h,Zw,Qw,R,S,m,k⟩=>k _ _ ⟨μ,w,h,.refl,R,r H μ,m⟩
theorem aF {i:Int}{j pos}:DE X (.Constant (.int i) j pos) (mC (.int i)):=dc Ri fun _ _=>by rw [Rep]
theorem Es {i:Bool}{j pos}:DE X (.Constant (.bool i) j pos) (mC (.bl i)):=dc Uv fun _ _=>by rw [Rep]
theorem M9 {j pos}:DE X (.Constant .none j pos) (mC .non):=dc Qf fun _ _=>by rw [Rep]
theorem Vp {i:Str}{j pos}:DE X (.Constant (.str i) j pos) (mC (.str i)):=dc Qk fun _ _=>by rw [Rep]
abbrev M2:=W->W->Gh->WK->Prop
def mOp (r:M2)(ma mb:ME):ME:=fun Z h Q=>ma Z h fun x h1=>mb Z h1 fun y h2=>r x y h2 Q
def VN (K:Yh)(r:R2)(mr:M2):Prop:=∀ {H:Hp} {μ : Mu} {h:Gh} {x y:V} {wx wy:W} {Qw:WK} {Q:VK},Rel K μ H h->Rep K H μ wx x->Rep K H μ wy y->mr wx wy h Qw ->
 (∀ v H',DQ K H μ Qw v H'->Q v H')->r x y H Q
theorem two {K:Yh}{Z : St}{H:Hp}{Q:VK}{mr:M2}{R2':V->V->Hp->Prop}(h:tD K (mOp mr ma mb) Z H Q)
  (k:∀ {H2:Hp} {μ2:Mu} {h2:Gh} {x y:V} {wx wy:W} {Qw:WK},Rel K μ2 H2 h2->Rep K H2 μ2 wx x->Rep K H2 μ2 wy y->mr wx wy h2 Qw->(∀ v H',DQ K H2 μ2 Qw v H'->Q v H')->R2' x y H2) :
  tD K ma Z H fun x H1=>tD K mb Z H1 fun y H2=>R2' x y H2:=by
 obtain ⟨μ,g,Zw,Qw,R,S,m,q⟩:=h
 refine ⟨μ,g,Zw,_,R,S,m,fun x H1 ⟨μ1,wx,h1,e1,R1,r1,m1⟩=>?_⟩
 refine ⟨μ1,h1,Zw,_,R1,S.ext e1,m1,fun y H2 ⟨μ2,wy,h2,e2,R2,r2,m2⟩=>?_⟩
 exact k R2 (e2.r _ _ r1) r2 m2 fun v H' z=>q _ _ ((z.trans e2).trans e1)
def DOp (X:Cx)(f:Value->Value->Sem Value)(mr:M2):Prop:=∃ r,OpR X f r/\VN X.K r mr
theorem bx {op:Operator}{mr:M2}(ho:DOp X (binaryOp op) mr)(ha:DE X a ma)(hb:DE X b mb):DE X (.BinOp a op b pos) (mOp mr ma mb):=by
 obtain ⟨r,o,s⟩:=ho
 exact (U0 o ha hb).of fun Z H Q h=>two h fun R r1 r2 m k=>s R r1 r2 m k
theorem HJ {op:CmpOp}{mr:M2}(ho:DOp X (compareOp op) mr)(ha:DE X a ma)(hb:DE X b mb)(hm:behindInMarks op b=false):DE X (.Compare a [op] [b] pos) (mOp mr ma mb):=by
 obtain ⟨r,o,s⟩:=ho
 exact (JQ o ha hb hm).of fun Z H Q h=>two h fun R r1 r2 m k=>s R r1 r2 m k
def dz (m:ME):MT:=fun Z h Q=>m Z h fun w h1=>match w with
 | .bl c=>Q c h1
 | _=>False
theorem Ls {K:Yh}{Z : St}{H:Hp}{m:ME}{Q:Bool->Hp->Prop}(h:tDT K (dz m) Z H Q):tD K m Z H fun x H'=>∃ k,x=.bl k/\Q k H':=by
 obtain ⟨μ,g,Zw,Qw,R,S,mm,q⟩:=h
 refine ⟨μ,g,Zw,_,R,S,mm,fun v H' ⟨μ1,w,h1,e1,R1,r1,m1⟩=>?_⟩
 cases w with
 | bl c=>rw [Rep] at r1;exact ⟨c,r1,q _ _ ⟨μ1,h1,e1,R1,m1⟩⟩
 | _=>exact m1.elim
theorem bU {op:CmpOp}{mr:M2}(ho:DOp X (compareOp op) mr)(ha:DE X a ma)(hb:DE X b mb)(hm:behindInMarks op b=false):DT X (.Compare a [op] [b] pos) (dz (mOp mr ma mb)):=by
 obtain ⟨r,o,s⟩:=ho
 exact (Ml o ha hb hm).of fun Z H Q h=>two (Ls h) fun R r1 r2 m k=>s R r1 r2 m k
def by2 (c:Bool)(a b:Prop):Prop:=match c with
 | true=>a
 | false=>b
def br (c:Bool)(a b:Prop):Prop:=(c=true->a)/\(c=false->b)
theorem Vb {c:Bool}{a b:Prop}(e:c=true)(x:a):br c a b:=⟨fun _=>x,fun z=>by rw [e] at z;cases z⟩
theorem vC {c:Bool}{a b:Prop}(e:c=false)(x:b):br c a b:=⟨fun z=>(by rw [e] at z;cases z),fun _=>x⟩
theorem yt {c:Prop} [Decidable c] {a b:Prop} (x:c->a) (y:¬ c->b):br (decide c) a b:=⟨fun e=>x (of_decide_eq_true e),fun e=>y (of_decide_eq_false e)⟩
def S6 (t u:MT):MT:=fun Z h Q=>t Z h fun c h1=>br c (u Z h1 Q) (Q false h1)
def mOr (t u:MT):MT:=fun Z h Q=>t Z h fun c h1=>br c (Q true h1) (u Z h1 Q)
def Ig (t:MT):MT:=fun Z h Q=>t Z h fun c h1=>Q (!c) h1
variable {tA tB':MT}{rest:List Expr}
theorem vh (ha:DT X a tA):DWt X (.BoolOp .And [a] pos) tA:=LR ha
theorem xW (ha:DT X a tA):DWt X (.BoolOp .Or [a] pos) tA:=Ot ha
theorem Am (ha:DT X a tA)(hb:DWt X (.BoolOp .And (b::rest) pos) tB'):DWt X (.BoolOp .And (a::b::rest) pos) (S6 tA tB'):=(PL ha hb).of fun Z H Q ⟨μ,g,Zw,Qw,R,S,m,q⟩=>by
 refine ⟨μ,g,Zw,_,R,S,m,fun c H1 ⟨μ1,h1,e1,R1,m1⟩=>?_⟩
 cases c with
 | true=>
  rw [if_pos rfl]
  exact ⟨μ1,h1,Zw,_,R1,S.ext e1,m1.1 rfl,fun b H' z=>q _ _ (z.trans e1)⟩
 | false=>
  rw [if_neg Bool.false_ne_true]
  exact q _ _ ⟨μ1,h1,e1,R1,m1.2 rfl⟩
theorem yg (ha:DT X a tA)(hb:DWt X (.BoolOp .Or (b::rest) pos) tB'):DWt X (.BoolOp .Or (a::b::rest) pos) (mOr tA tB'):=(Tp ha hb).of fun Z H Q ⟨μ,g,Zw,Qw,R,S,m,q⟩=>by
 refine ⟨μ,g,Zw,_,R,S,m,fun c H1 ⟨μ1,h1,e1,R1,m1⟩=>?_⟩
 cases c with
 | true=>
  rw [if_pos rfl]
  exact q _ _ ⟨μ1,h1,e1,R1,m1.1 rfl⟩
 | false=>
  rw [if_neg Bool.false_ne_true]
  exact ⟨μ1,h1,Zw,_,R1,S.ext e1,m1.2 rfl,fun b H' z=>q _ _ (z.trans e1)⟩
theorem pD (ha:DT X a tA):DT X (.UnaryOp .Not a pos) (Ig tA):=(RJ ha).of fun Z H Q ⟨μ,g,Zw,Qw,R,S,m,q⟩=>
 ⟨μ,g,Zw,_,R,S,m,fun c H1 ⟨μ1,h1,e1,R1,m1⟩=>q _ _ ⟨μ1,h1,e1,R1,m1⟩⟩
def uM (a b:ME):ME:=fun Z h Q=>a Z h fun x h1=>match x with
 | .bl true=>b Z h1 Q
 | .bl false=>Q (.bl false) h1
 | _=>False
def W2 (a b:ME):ME:=fun Z h Q=>a Z h fun x h1=>match x with
 | .bl false=>b Z h1 Q
 | .bl true=>Q (.bl true) h1
 | _=>False
def HY (a:ME):ME:=fun Z h Q=>a Z h fun x h1=>match x with
 | .bl c=>Q (.bl (!c)) h1
 | _=>False
theorem Ep {op}(h:DE X a ma):DE X (.BoolOp op [a] pos) ma:=QZ h
theorem Ba (ha:DE X a ma)(hb:DE X (.BoolOp .And (b::rest) pos) mb):DE X (.BoolOp .And (a::b::rest) pos) (uM ma mb):=(NK ha hb).of fun Z H Q ⟨μ,g,Zw,Qw,R,S,m,q⟩=>by
 refine ⟨μ,g,Zw,_,R,S,m,fun v H1 ⟨μ1,w,h1,e1,R1,r1,m1⟩=>?_⟩
 cases w with
 | bl c=>
  rw [Rep] at r1
  refine ⟨c,r1,?_⟩
  cases c with
  | true=>rw [if_pos rfl];exact ⟨μ1,h1,Zw,_,R1,S.ext e1,m1,fun b H' z=>q _ _ (z.trans e1)⟩
  | false=>rw [if_neg Bool.false_ne_true];exact q _ _ ⟨μ1,.bl false,h1,e1,R1,by rw [Rep],m1⟩
 | _=>exact m1.elim
theorem Oi (ha:DE X a ma):DE X (.UnaryOp .Not a pos) (HY ma):=(Ou ha).of fun Z H Q ⟨μ,g,Zw,Qw,R,S,m,q⟩=>by
 refine ⟨μ,g,Zw,_,R,S,m,fun v H1 ⟨μ1,w,h1,e1,R1,r1,m1⟩=>?_⟩
 cases w with
 | bl c=>rw [Rep] at r1;exact ⟨c,r1,q _ _ ⟨μ1,.bl (!c),h1,e1,R1,by rw [Rep],m1⟩⟩
 | _=>exact m1.elim
def mIf (t:MT)(a b:ME):ME:=fun Z h Q=>t Z h fun c h1=>br c (a Z h1 Q) (b Z h1 Q)
theorem Xl (hc:DT X c tA)(ha:DE X a ma)(hb:DE X b mb):DE X (.IfExp c a b pos) (mIf tA ma mb):=(Ga hc ha hb).of fun Z H Q ⟨μ,g,Zw,Qw,R,S,m,q⟩=>by
 refine ⟨μ,g,Zw,_,R,S,m,fun c H1 ⟨μ1,h1,e1,R1,m1⟩=>?_⟩
 cases c with
 | true=>
  rw [if_pos rfl]
  exact ⟨μ1,h1,Zw,_,R1,S.ext e1,m1.1 rfl,fun b H' z=>q _ _ (z.trans e1)⟩
 | false=>
  rw [if_neg Bool.false_ne_true]
  exact ⟨μ1,h1,Zw,_,R1,S.ext e1,m1.2 rfl,fun b H' z=>q _ _ (z.trans e1)⟩
def mUn (r:W->Gh->WK->Prop)(a:ME):ME:=fun Z h Q=>a Z h fun x h1=>r x h1 Q
def W8:W->Gh->WK->Prop:=fun x h Q=>match x with
 | .int i=>Q (.int (-i)) h
 | _=>False
def aW:MA:=fun _ h Q=>Q [] h
def aA (a:ME)(r:MA):MA:=fun Z h Q=>a Z h fun x h1=>r Z h1 fun xs h2=>Q (x::xs) h2
variable {es:List Expr}{mr:MA}
theorem aB:DAs X [] aW:=Io.of fun Z H Q ⟨μ,g,Zw,Qw,R,S,m,q⟩=>q _ _ ⟨μ,[],g,.refl,R,.nil,m⟩
theorem ak (ha:DE X e ma)(hr:DAs X es mr)(hs:starEach (e::es) X.env=(false,eval e X.env)::starEach es X.env:=by rfl):DAs X (e::es) (aA ma mr):=(uO ha hr hs).of fun Z H Q ⟨μ,g,Zw,Qw,R,S,m,q⟩=>by
 refine ⟨μ,g,Zw,_,R,S,m,fun v H1 ⟨μ1,w,h1,e1,R1,r1,m1⟩=>?_⟩
 refine ⟨μ1,h1,Zw,_,R1,S.ext e1,m1,fun vs H2 ⟨μ2,ws,h2,e2,R2,r2,m2⟩=>?_⟩
 exact q _ _ ⟨μ2,w::ws,h2,e1.trans e2,R2,.cons (e2.r _ _ r1) r2,m2⟩
def fW (n:Nat)(P:Prop):Prop:=by2 (Nat.ble n 1000) P (n<=sizeLine/\P)
theorem fW.ok {n:Nat}{P:Prop}(h:fW n P):n<=sizeLine/\P:=by
 unfold fW at h
 cases e:Nat.ble n 1000 with
 | true=>rw [e] at h;exact ⟨Ye (Nat.le_of_ble_eq_true e) (by decide),h⟩
 | false=>rw [e] at h;exact h
theorem fW.mk {n:Nat}{P:Prop}(hn:n<=sizeLine)(h:P):fW n P:=by
 unfold fW
 cases e:Nat.ble n 1000 with
 | true=>exact h
 | false=>exact ⟨hn,h⟩
def lq (t:MA):ME:=fun Z h Q=>t Z h fun ws h1=>fW ws.length (Q (.tup ws) h1)
def Nt (t:MA):ME:=fun Z h Q=>t Z h fun ws h1=>fW ws.length (Q (.lst ws) h1)
def u5 (t:MA):ME:=fun Z h Q=>t Z h fun ws h1=>fW ws.length (Q (.loc h1.nx) (h1.new (.lst ws)))
theorem dh {x1}(h:DAs X es mr):DE X (.Tuple es x1 pos) (lq mr):=(Qi h).of fun Z H Q ⟨μ,g,Zw,Qw,R,S,m,q⟩=>
 ⟨μ,g,Zw,_,R,S,m,fun vs H1 ⟨μ1,ws,h1,e1,R1,r1,sz⟩=>⟨by rw [<-r1.len];exact sz.ok.1,fun p hp=>q _ _ ⟨μ1,.tup ws,h1,e1.trans (Ex.laid hp).ext,R1.laid hp,.tupNew hp r1,sz.ok.2⟩⟩⟩
theorem BX (h:DAs X es mr):DE X (.List es pos) (Nt mr):=(Ja h).of fun Z H Q ⟨μ,g,Zw,Qw,R,S,m,q⟩=>
 ⟨μ,g,Zw,_,R,S,m,fun vs H1 ⟨μ1,ws,h1,e1,R1,r1,sz⟩=>⟨by rw [<-r1.len];exact sz.ok.1,fun p hp=>q _ _ ⟨μ1,.lst ws,h1,e1.trans (Ex.laid hp).ext,R1.laid hp,.lstNew R1 hp r1,sz.ok.2⟩⟩⟩
theorem Rf {K:Yh}{H:Hp}{μ : Mu}{h:Gh}{p:Addr}{ws:List W}{xs:List V}(R:Rel K μ H h)(hp:H p=none)(r:aJ K H μ ws xs) :
  Rel K (μ.put h.nx p) (upd H p (.lst xs)) (h.new (.lst ws)):=R.newCell hp trivial ⟨xs,aV,(Ex.newCell R hp).ext.s r⟩
theorem Dv (h:DAs X es mr):DE X (.List es pos) (u5 mr):=(Ja h).of fun Z H Q ⟨μ,g,Zw,Qw,R,S,m,q⟩=>
 ⟨μ,g,Zw,_,R,S,m,fun vs H1 ⟨μ1,ws,h1,e1,R1,r1,sz⟩=>⟨by rw [<-r1.len];exact sz.ok.1,fun p hp=>q _ _ ⟨μ1.put h1.nx p,.loc h1.nx,h1.new (.lst ws),e1.trans (Ex.newCell R1 hp).ext,Rf R1 hp r1,by rw [Rep];exact ⟨p,rfl,Mu.put_same⟩,sz.ok.2⟩⟩⟩
def lift (K:Yh)(ms:MSp):Sp:=fun vs H Q _=>∃ μ h ws Qw,Rel K μ H h/\aJ K H μ ws vs/\ms ws h Qw EF/\∀ v H',DQ K H μ Qw v H'->Q v H'
def bD (ms:MSp)(E:XWK)(ma:MA):ME:=fun Z h Q=>ma Z h fun ws h1=>ms ws h1 Q E
theorem call_of {K:Yh}{Z : St}{H:Hp}{Q:VK}{E:XK}{ms:MSp}{ma:MA}(h:tD K (bD ms EF ma) Z H Q):Ro (lift K ms) [] E (tDA K ma) Z H Q:=by
 obtain ⟨μ,g,Zw,Qw,R,S,m,q⟩:=h
 refine ⟨μ,g,Zw,_,R,S,m,fun vs H1 ⟨μ1,ws,h1,e1,R1,r1,m1⟩=>?_⟩
 show lift K ms (vs++[]) H1 Q E
 rw [List.append_nil]
 exact ⟨μ1,h1,ws,Qw,R1,r1,m1,fun v H' z=>q _ _ (z.trans e1)⟩
theorem aX {k:Nat}{f:Addr}{fd:FuncData}{ps:List Str}{ms:MSp}{x:Str}{p:Pos}(F:d9 X.prog X.w X.K X.mg X.base CX0 k f fd ps (lift X.K ms))(hr:j8 k X.A)(hg:Gl X x)(hm:X.mg x=some (.ref f))(hk:PySem.W.keepIn X.K (.ref f)=true)
  (hb:Binds X.K fd ps []) (ha:DAs X (e::es) mr) (hdb:(x==("__debug__" : Str))=false:=by decide) (he:starEach (e::es) X.env=(false,eval e X.env)::starEach es X.env:=by rfl) (hpl:(backTo pos (starEach es X.env)).any (·.1)=false:=by rfl) :
  DE X (.Call (.Name x p) (e::es) [] pos) (bD ms EF mr):=(La F hr hg hm hk hb .nil Ti ha hdb he hpl).of fun _ _ _ h=>call_of h
def Te (h:Gh)(w:W):Option Bool:=match w with
 | .non=>some false
 | .bl b=>some b
 | .int i=>some (i != 0)
 | .tup ws=>some (!ws.isEmpty)
 | .lst ws=>some (!ws.isEmpty)
 | .kls ws=>some (!ws.isEmpty)
 | .loc n=>(match h.c n with
  | some (.lst ws)=>some (!ws.isEmpty)
  | _=>none)
 | _=>none
def zm (m:ME):MT:=fun Z h Q=>m Z h fun w h1=>match Te h1 w with
 | some b=>Q b h1
 | none=>False
theorem aJ.emp {K:Yh}{H:Hp}{μ : Mu}{ws:List W}{xs:List V}(r:aJ K H μ ws xs):ws.isEmpty=xs.isEmpty:=by
 have:=r.len
 cases ws <;> cases xs <;> first | rfl | cases this
theorem jw (he:DE X e ma)(h:∀ whole,isTrue e X.env whole=(do let v <-whole;standAt e.pos;holding [v] (truthy v)):=by intro _;rfl):DT X e (zm ma):=(Eo he h).of fun Z H Q ⟨μ,g,Zw,Qw,R,S,m,q⟩=>by
 refine ⟨μ,g,Zw,_,R,S,m,fun v H1 ⟨μ1,w,h1,e1,R1,r1,m1⟩=>?_⟩
 dsimp only at m1
 split at m1
 ·rename_i b eb
  refine ⟨b,?_,q _ _ ⟨μ1,h1,e1,R1,m1⟩⟩
  cases w with
  | non=>rw [Rep] at r1;subst r1;cases eb;rfl
  | bl c=>rw [Rep] at r1;subst r1;cases eb;rfl
  | int c=>rw [Rep] at r1;subst r1;cases eb;rfl
  | tup ws=>
   rw [Rep] at r1
   obtain ⟨p,xs,ev,hs,rs⟩:=r1
   subst ev
   cases eb
   exact .inr (.inl ⟨xs,hs,by rw [rs.emp]⟩)
  | lst ws=>
   rw [Rep] at r1
   obtain ⟨p,xs,ev,hs,rs⟩:=r1
   subst ev
   cases eb
   exact .inl ⟨xs,hs.sq,by rw [rs.emp]⟩
  | kls ws=>
   rw [Rep] at r1
   obtain ⟨p,xs,ev,hs,rs⟩:=r1
   subst ev
   cases eb
   exact .inl ⟨xs,hs.sq,by rw [rs.emp]⟩
  | loc n=>
   rw [Rep] at r1
   obtain ⟨p,ev,hm⟩:=r1
   subst ev
   unfold Te at eb
   dsimp only at eb
   cases ec:h1.c n with
   | none=>rw [ec] at eb;cases eb
   | some cl=>
    rw [ec] at eb
    cases cl with
    | lst ws=>
     cases eb
     obtain ⟨p',hm',xs,hx,rs⟩:=R1.cel n _ ec
     have ep:p'=p:=by rw [hm] at hm';exact (Option.some.inj hm').symm
     subst ep
     exact .inl ⟨xs,.of hx,by rw [rs.emp]⟩
    | _=>cases eb
  | _=>cases eb
 ·exact m1.elim
abbrev MC:=List W->Gh->WK->Prop
def mCB (r:MC)(ma:MA):ME:=fun Z h Q=>ma Z h fun ws h1=>r ws h1 Q
def SJ (K:Yh)(r:List V->Hp->VK->Prop)(mr:MC):Prop:=∀ {H:Hp} {μ : Mu} {h:Gh} {vs:List V} {ws:List W} {Qw:WK} {Q:VK},Rel K μ H h->aJ K H μ ws vs->mr ws h Qw->(∀ v H',DQ K H μ Qw v H'->Q v H')->r vs H Q
def jM (X:Cx)(f:Value)(mr:MC):Prop:=∃ r,iw X f r/\SJ X.K r mr
theorem Ho {K:Yh}{Z : St}{H:Hp}{Q:VK}{r:List V->Hp->VK->Prop}{mc:MC}{ma:MA}(s:SJ K r mc)(h:tD K (mCB mc ma) Z H Q):tCB r (tDA K ma) Z H Q:=by
 obtain ⟨μ,g,Zw,Qw,R,S,m,q⟩:=h
 exact ⟨μ,g,Zw,_,R,S,m,fun vs H1 ⟨μ1,ws,h1,e1,R1,r1,m1⟩=>s R1 r1 m1 fun v H' z=>q _ _ (z.trans e1)⟩
theorem bw {x:Str}{p:Pos}{id:String}{mc:MC}(hc:jM X (.builtin id) mc)(hg:Gl X x)(hm:X.mg x=none)(hv:bootBuiltins x=some (.builtin id))(ha:DAs X (e::es) mr)(hn:x ≠ "__name__":=by decide)(hdb:(x==("__debug__" : Str))=false:=by decide)
  (he:starEach (e::es) X.env=(false,eval e X.env)::starEach es X.env:=by rfl) (hpl:(backTo pos (starEach es X.env)).any (·.1)=false:=by rfl):DE X (.Call (.Name x p) (e::es) [] pos) (mCB mc mr):=by
 obtain ⟨r,c,s⟩:=hc
 exact (wA c hg hm hv ha hn hdb he hpl).of fun _ _ _ h=>Ho s h
theorem cV {x:Str}{p:Pos}{T:String}{mc:MC}(hc:jM X (.type T) mc)(hg:Gl X x)(hm:X.mg x=none)(hv:bootBuiltins x=some (.type T))(ha:DAs X (e::es) mr)(hn:x ≠ "__name__":=by decide)(hdb:(x==("__debug__" : Str))=false:=by decide)
  (he:starEach (e::es) X.env=(false,eval e X.env)::starEach es X.env:=by rfl) (hpl:(backTo pos (starEach es X.env)).any (·.1)=false:=by rfl):DE X (.Call (.Name x p) (e::es) [] pos) (mCB mc mr):=by
 obtain ⟨r,c,s⟩:=hc
 exact (Dg c hg hm hv ha hn hdb he hpl).of fun _ _ _ h=>Ho s h
end
end L2
namespace L2
open PySem PySem.Spec PyProof.Rows
section
variable {X:Cx}{e a b c tg:Expr}{ma mb mc:ME}{pos:Pos}{es:List Expr}
def nName (i:Nat):MG:=fun w Z h N=>N (Z.set i (some w)) h
theorem bJ {i:Nat}(hg:PG X e (Hl i)):DG X e (nName i):=hg.of fun v Z H N ⟨μ,h,Zw,w,Nw,R,S,r,m,k⟩=>k _ _ ⟨μ,Zw.set i (some w),h,.refl,R,S.set r i,m⟩
def Js:MGs:=fun ws Z h N=>match ws with
 | []=>N Z h
 | _=>False
def ju (g:MG)(r:MGs):MGs:=fun ws Z h N=>match ws with
 | w::ws'=>g w Z h fun Z1 h1=>r ws' Z1 h1 N
 | []=>False
theorem jO:SM X [] Js:=Dm.of fun vs Z H N ⟨μ,h,Zw,ws,Nw,R,S,r,m,k⟩=>by
 cases ws with
 | nil=>rw [aJ] at r;exact ⟨r,k _ _ ⟨μ,Zw,h,.refl,R,S,m⟩⟩
 | cons w ws=>exact m.elim
theorem cF {g:MG}{u:MGs}(h1:DG X e g)(h2:SM X es u)(hs:(assignEach (e::es) X.env).map (·.2)=assign e X.env::(assignEach es X.env).map (·.2):=by rfl):SM X (e::es) (ju g u):=(qz h1 h2 hs).of fun vs Z H N ⟨μ,h,Zw,ws,Nw,R,S,r,m,k⟩=>by
 cases ws with
 | nil=>exact m.elim
 | cons w ws=>
  rw [aJ] at r
  obtain ⟨v,vr,ev,r1,r2⟩:=r
  refine ⟨v,vr,ev,μ,h,Zw,w,_,R,S,r1,m,fun Z1 H1 ⟨μ1,Zw1,h1,e1,R1,S1,m1⟩=>?_⟩
  exact ⟨μ1,h1,Zw1,ws,_,R1,S1,e1.s r2,m1,fun Z2 H2 z=>k _ _ (z.trans e1)⟩
def V1 (n:Nat)(g:MGs):MG:=fun w Z h N=>match w with
 | .tup ws=>by2 (Nat.beq ws.length n) (g ws Z h N) False
 | _=>False
abbrev J7:=W->W->W->Gh->(Gh->Prop)->Prop
def Al (K:Yh)(t:JV)(ms:J7):Prop:=∀ {H:Hp} {μ : Mu} {h:Gh} {o i v:V} {wo wi w:W} {Nw:Gh->Prop} {N:Hp->Prop},Rel K μ H h->Rep K H μ wo o->Rep K H μ wi i->Rep K H μ w v->ms wo wi w h Nw ->
 (∀ H',(∃ μ' h',Ext K H μ H' μ'/\Rel K μ' H' h'/\Nw h')->N H')->t o i v H N
def Nq (mo mi:ME)(ms:J7):MG:=fun w Z h N=>mo Z h fun o h1=>mi Z h1 fun i h2=>ms o i w h2 fun h3=>N Z h3
theorem xV {o i:Expr}{mo mi:ME}{t:JV}{ms:J7}(ho:DE X o mo)(hi:DE X i mi)(hs:SX X t)(hm:Al X.K t ms)
  (ha:∀ v,assign (.Subscript o i pos) X.env v=(do
   let ov <-holding [v] (eval o X.env)
   let iv <-holding [v,ov] (eval i X.env)
   standAt pos
   holding [v,ov,iv] (setItem ov iv v)
   release [v,ov,iv] []):=by intro _;rfl):DG X (.Subscript o i pos) (Nq mo mi ms):=
 (Qg ho hi hs ha).of fun v Z H N ⟨μ,h,Zw,w,Nw,R,S,r,m,k⟩=>by
  refine ⟨μ,h,Zw,_,R,S,m,fun o H1 ⟨μ1,wo,h1,e1,R1,r1,m1⟩=>?_⟩
  refine ⟨μ1,h1,Zw,_,R1,S.ext e1,m1,fun i H2 ⟨μ2,wi,h2,e2,R2,r2,m2⟩=>?_⟩
  refine hm R2 (e2.r _ _ r1) r2 (e2.r _ _ (e1.r _ _ r)) m2 fun H3 ⟨μ3,h3,e3,R3,m3⟩=>?_
  exact k _ _ ⟨μ3,Zw,h3,(e1.trans e2).trans e3,R3,S.ext ((e1.trans e2).trans e3),m3⟩
def Xj:J7:=fun o i w h N=>match o,i with
 | .loc n,.int k=>(match h.c n with
  | some (.lst ws)=>(match ixN ws.length k with
   | some j=>N (h.set n (.lst (ws.set j w)))
   | none=>False)
  | _=>False)
 | _,_=>False
theorem Rel.lstAt {K:Yh}{μ : Mu}{H:Hp}{h:Gh}{n:Nat}{ws:List W}(R:Rel K μ H h)(e:h.c n=some (.lst ws)):∃ p xs,μ.f n=some p/\H p=some (.lst xs)/\aJ K H μ ws xs:=by
 obtain ⟨p,e1,xs,e2,r⟩:=R.cel n _ e
 exact ⟨p,xs,e1,e2,r⟩
variable {st:Stmt}{rest body:List Stmt}{m1 m2:MS}{t:MT}
def eF:MS:=fun D Z h=>D.nx Z h
def bY (m u:MS):MS:=fun D Z h=>m { D with nx:=u D } Z h
theorem bR:DSs X [] eF:=KQ.of fun D Z H ⟨μ,h,Zw,Dw,R,S,m,k⟩=>k.nx _ _ ⟨μ,Zw,h,.refl,R,S,m⟩
theorem aM (h1:DS X st m1):DSs X [st] m1:=zQ h1
theorem aC (h1:DS X st m1)(h2:DSs X rest m2):DSs X (st::rest) (bY m1 m2):=(xP h1 h2).of fun D Z H ⟨μ,h,Zw,Dw,R,S,m,k⟩=>by
 refine ⟨μ,h,Zw,_,R,S,m,?_,k.rt,k.bk,k.ct⟩
 intro Z' H' ⟨μ1,Zw1,h1,e1,R1,S1,m1⟩
 exact ⟨μ1,h1,Zw1,Dw,R1,S1,m1,k.trans e1⟩
def qm (m:ME):MS:=fun D Z h=>m Z h fun _ h1=>D.nx Z h1
theorem qg (he:DE X e ma)(hs:swapsWith e none pos.line X.env=pure false:=by rfl):DS X (.Expr e pos) (qm ma):=(Ar he hs).of fun D Z H ⟨μ,h,Zw,Dw,R,S,m,k⟩=>
 ⟨μ,h,Zw,_,R,S,m,fun v H1 ⟨μ1,w,h1,e1,R1,_,m1⟩=>k.nx _ _ ⟨μ1,Zw,h1,e1,R1,S.ext e1,m1⟩⟩
def iu (m:ME):MS:=fun D Z h=>m Z h D.rt
theorem bG (he:DE X e ma):DS X (.Return (some e) pos) (iu ma):=(RN he).of fun D Z H ⟨μ,h,Zw,Dw,R,S,m,k⟩=>⟨μ,h,Zw,_,R,S,m,k.rt⟩
def nW (t:MT)(a b:MS):MS:=fun D Z h=>t Z h fun c h1=>br c (a D Z h1) (b D Z h1)
theorem fV {a b:List Stmt}(hc:DT X c t)(ha:DSs X a m1)(hb:DSs X b m2):DS X (.If c a b pos) (nW t m1 m2):=(Q8 hc ha hb).of fun D Z H ⟨μ,h,Zw,Dw,R,S,m,k⟩=>by
 refine ⟨μ,h,Zw,_,R,S,m,fun b H1 ⟨μ1,h1,e1,R1,q⟩=>?_⟩
 cases b with
 | true=>rw [if_pos rfl];exact ⟨μ1,h1,Zw,Dw,R1,S.ext e1,q.1 rfl,k.trans e1⟩
 | false=>rw [if_neg Bool.false_ne_true];exact ⟨μ1,h1,Zw,Dw,R1,S.ext e1,q.2 rfl,k.trans e1⟩
def tE (x:Str)(E:XWK):MS:=fun _ _ h=>E ⟨x,[]⟩ h
def cY (m:ME)(g:MG):MS:=fun D Z h=>m Z h fun w h1=>g w Z h1 D.nx
theorem QG {K:Yh}{Z : St}{H:Hp}{D:Ends}{m:ME}{g:MG}(q:tDS K (cY m g) D Z H):Sx (tD K m) (tDG K g) D Z H:=by
 obtain ⟨μ,h,Zw,Dw,R,S,m,k⟩:=q
 exact ⟨μ,h,Zw,_,R,S,m,fun v H1 ⟨μ1,w,h1,e1,R1,r1,m1⟩=>⟨μ1,h1,Zw,w,_,R1,S.ext e1,r1,m1,fun Z' H' z=>k.nx _ _ (z.trans e1)⟩⟩
theorem sX {g:MG}(he:DE X e ma)(hg:DG X tg g)(hs:swapsWithSole [tg] e pos.line X.env=pure false:=by rfl)(hw:swappedStores [tg] e X.env=pure none:=by rfl)
  (h1:(assignEach [tg] X.env).map (·.2)=[assign tg X.env]:=by rfl):DS X (.Assign [tg] e pos) (cY ma g):=(Pr he hg hs hw h1).of fun _ _ _ q=>QG q
theorem RX {K:Yh}{Z : St}{H:Hp}{D:Ends}{m:ME}{t:TE}{i:Nat}(ht:∀ Z H Q,tD K m Z H Q->t Z H Q)(q:tDS K (cY m (nName i)) D Z H):Sx t (Hl i) D Z H:=by
 obtain ⟨μ,h,Zw,Dw,R,S,m,k⟩:=q
 exact ht _ _ _ ⟨μ,h,Zw,_,R,S,m,fun v H1 ⟨μ1,w,h1,e1,R1,r1,m1⟩=>k.nx _ _ ⟨μ1,Zw.set i (some w),h1,e1,R1,(S.ext e1).set r1 i,m1⟩⟩
theorem aU {i:Nat}{x:Str}{pos':Pos}(hN:X.N.Nodup)(hi:X.N[i]?=some x)(hx:Loc X.env.scope x)(he:DE X e ma)(hs:swapsWith e (some (.Name x pos')) pos.line X.env=pure false:=by rfl)
  (hf:X.fn x=true\/X.env.scope.names.lookup x=some .local:=by first | exact .inl rfl | exact .inr rfl | assumption) :
  DS X (.Assign [.Name x pos'] e pos) (cY ma (nName i)):=(Ik hN hi hx he hs hf).of fun _ _ _ q=>RX (fun _ _ _ z=>z) q
def XR (i j:Nat)(ta:MA):MS:=fun D Z h=>ta Z h fun ws h1=>match ws with
 | [v,w]=>D.nx ((Z.set i (some v)).set j (some w)) h1
 | _=>False
structure Src where
 ws:List W
 cell:Option (Nat×List W)
def Src.chk (s:Src)(h:Gh):Prop:=match s.cell with
 | none=>True
 | some n=>h.c n.1=some (.lst n.2)
abbrev MI:=Sw->Gh->(Src->Gh->Prop)->Prop
def Nx (K:Yh)(J:It)(src:Src)(H:Hp)(μ : Mu):Prop:=∀ {H2:Hp} {μ2:Mu} {h2:Gh} {i:Nat},Ext K H μ H2 μ2->Rel K μ2 H2 h2->src.chk h2 ->
 (∀ w,src.ws[i]?=some w->J.go i H2/\∀ x H3,J.yld i H2 x H3->∃ μ3,Ext K H2 μ2 H3 μ3/\Rel K μ3 H3 h2/\Rep K H3 μ3 w x)/\(src.ws.length<=i->J.stop i H2)
def DI (K:Yh)(H:Hp)(μ : Mu)(Rw:Src->Gh->Prop):It->Hp->Prop:=fun J H'=>∃ μ' src h',Ext K H μ H' μ'/\Rel K μ' H' h'/\Nx K J src H' μ'/\Rw src h'
def tDI (K:Yh)(mi:MI):TI:=fun Z H R=>∃ μ h Zw Rw,Rel K μ H h/\Slots K H μ Zw Z/\mi Zw h Rw/\∀ J H',DI K H μ Rw J H'->R J H'
abbrev DIt (X:Cx)(tg iter:Expr)(mi:MI):Prop:=PI X tg iter (tDI X.K mi)
theorem PI.of {iter:Expr}{t t':TI}(h:PI X tg iter t)(k:∀ Z H R,t' Z H R->t Z H R):PI X tg iter t':=fun pins s Z H R I q=>h pins s Z H R I (k Z H R q)
def dU (h:Gh):W->Option (List W)
 | .lst ws=>some ws
 | .kls ws=>some ws
 | .loc n=>(match h.c n with
  | some (.lst ws)=>some ws
  | _=>none)
 | _=>none
def view (h:Gh):W->Option (List W)
 | .tup ws=>some ws
 | .lst ws=>some ws
 | .kls ws=>some ws
 | .loc n=>dU h (.loc n)
 | _=>none
def Ql (h:Gh):W->Option Src
 | .tup ws=>some ⟨ws,none⟩
 | .lst ws=>some ⟨ws,none⟩
 | .kls ws=>some ⟨ws,none⟩
 | .loc n=>(match h.c n with
  | some (.lst ws)=>some ⟨ws,some (n,ws)⟩
  | _=>none)
 | _=>none
theorem JB {K:Yh}{H:Hp}{μ : Mu}{p:Addr}{ws:List W}(r:Rep K H μ (.lst ws) (.ref p)):Nx K (Itl K p) ⟨ws,none⟩ H μ:=by
 intro H2 μ2 h2 i e R2 _
 have r2:=e.r _ _ r
 rw [Rep] at r2
 obtain ⟨q,xs,eq,hf,rs⟩:=r2
 cases eq
 refine ⟨fun w ew=>?_,fun hl=>⟨xs,hf.sq,by rw [<-rs.len];exact hl⟩⟩
 obtain ⟨v,ev,rv⟩:=rs.get ew
 refine ⟨⟨xs,v,hf.sq,ev⟩,fun x H3 ⟨e3,y⟩=>?_⟩
 subst e3
 have:=y xs hf.sq
 rw [ev] at this
 cases this
 exact ⟨μ2,.refl,R2,rv⟩
theorem JL {K:Yh}{H:Hp}{μ : Mu}{p:Addr}{ws:List W}(r:Rep K H μ (.kls ws) (.ref p)):Nx K (Itl K p) ⟨ws,none⟩ H μ:=by
 intro H2 μ2 h2 i e R2 _
 have r2:=e.r _ _ r
 rw [Rep] at r2
 obtain ⟨q,xs,eq,hf,rs⟩:=r2
 cases eq
 refine ⟨fun w ew=>?_,fun hl=>⟨xs,hf.sq,by rw [<-rs.len];exact hl⟩⟩
 obtain ⟨v,ev,rv⟩:=rs.get ew
 refine ⟨⟨xs,v,hf.sq,ev⟩,fun x H3 ⟨e3,y⟩=>?_⟩
 subst e3
 have:=y xs hf.sq
 rw [ev] at this
 cases this
 exact ⟨μ2,.refl,R2,rv⟩
theorem Fv {K:Yh}{H:Hp}{μ : Mu}{p:Addr}{n:Nat}{ws:List W}(r:Rep K H μ (.loc n) (.ref p)):Nx K (Itl K p) ⟨ws,some (n,ws)⟩ H μ:=by
 intro H2 μ2 h2 i e R2 ck
 have r2:=e.r _ _ r
 rw [Rep] at r2
 obtain ⟨q,eq,hm⟩:=r2
 cases eq
 obtain ⟨p',xs,hm',hx,rs⟩:=R2.lstAt (show h2.c n=some (.lst ws) from ck)
 have ep:p'=p:=by rw [hm] at hm';exact (Option.some.inj hm').symm
 subst ep
 refine ⟨fun w ew=>?_,fun hl=>⟨xs,.of hx,by rw [<-rs.len];exact hl⟩⟩
 obtain ⟨v,ev,rv⟩:=rs.get ew
 refine ⟨⟨xs,v,.of hx,ev⟩,fun x H3 ⟨e3,y⟩=>?_⟩
 subst e3
 have:=y xs (.of hx)
 rw [ev] at this
 cases this
 exact ⟨μ2,.refl,R2,rv⟩
theorem Kr {K:Yh}{H:Hp}{μ : Mu}{p:Addr}{ws:List W}(r:Rep K H μ (.tup ws) (.ref p)):Nx K (Itt K p) ⟨ws,none⟩ H μ:=by
 intro H2 μ2 h2 i e R2 _
 have r2:=e.r _ _ r
 rw [Rep] at r2
 obtain ⟨q,xs,eq,hf,rs⟩:=r2
 cases eq
 refine ⟨fun w ew=>?_,fun hl=>⟨xs,hf,by rw [<-rs.len];exact hl⟩⟩
 obtain ⟨v,ev,rv⟩:=rs.get ew
 refine ⟨⟨xs,v,hf,ev⟩,fun x H3 ⟨e3,y⟩=>?_⟩
 subst e3
 have:=y xs hf
 rw [ev] at this
 cases this
 exact ⟨μ2,.refl,R2,rv⟩
def XJ (K:Yh)(tl:TE):TI:=fun Z H R=>tl Z H fun x H1=>(∃ a,x=.ref a/\(∃ xs,SqL K H1 a xs)/\R (Itl K a) H1)\/(∃ a,x=.ref a/\(∃ xs,SqT K H1 a xs)/\R (Itt K a) H1)
theorem Oh {l:Expr}{tl:TE}(hl:PE X l tl):PI X tg l (XJ X.K tl):=by
 intro pins s Z H R I h
 refine thn (hl pins s Z H _ I h) fun v s1 ⟨x,H1,I1,r1,q1⟩=>?_
 rcases q1 with ⟨a,e,⟨xs,hq⟩,q⟩ | ⟨a,e,⟨xs,hq⟩,q⟩
 ·subst e
  cases r1
  obtain ⟨its,rv,p,hz⟩:=I1.list hq
  refine wpAny_pyIter_list p.isList ?_
  refine ⟨s1.heap.objs.size,[s1.heap.objs.size],_,_,H1,rfl,I1.kept (t':=s1.toks) fun b o e=>Heap.get?_push_of_some _ e,Bb a _,⟨_,Heap.get?_push_size _ rfl,rfl,rfl⟩,fun b hb=>?_,q⟩
  have e:b=s1.heap.objs.size:=by simpa using hb
  subst e
  exact I1.fpOk (Yc _) (I1.hok.fresh (Yc _))
 ·subst e
  cases r1
  obtain ⟨its,rv,p,hz⟩:=I1.tuple hq
  refine wpAny_pyIter_tuple (show s1.heap.IsTuple a its.toArray from p) ?_
  refine ⟨s1.heap.objs.size,[s1.heap.objs.size],_,_,H1,rfl,I1.kept (t':=s1.toks) fun b o e=>Heap.get?_push_of_some _ e,yj a _,⟨_,Heap.get?_push_size _ rfl,rfl,rfl⟩,fun b hb=>?_,q⟩
  have e:b=s1.heap.objs.size:=by simpa using hb
  subst e
  exact I1.fpOk (Yc _) (I1.hok.fresh (Yc _))
def nIt (m:ME):MI:=fun Z h R=>m Z h fun w h1=>match Ql h1 w with
 | some s=>R s h1
 | none=>False
theorem dW {l:Expr}(hl:DE X l ma):DIt X tg l (nIt ma):=PI.of (Oh hl) fun Z H Q ⟨μ,h,Zw,Rw,R,S,m,k⟩=>by
 refine ⟨μ,h,Zw,_,R,S,m,fun v H1 ⟨μ1,w,h1,e1,R1,r1,m1⟩=>?_⟩
 cases w with
 | tup ws=>
  have r1':=r1
  rw [Rep] at r1
  obtain ⟨p,xs,ev,hs,_⟩:=r1
  subst ev
  exact .inr ⟨p,rfl,⟨xs,hs⟩,k _ _ ⟨μ1,⟨ws,none⟩,h1,e1,R1,Kr r1',m1⟩⟩
 | lst ws=>
  have r1':=r1
  rw [Rep] at r1
  obtain ⟨p,xs,ev,hs,_⟩:=r1
  subst ev
  exact .inl ⟨p,rfl,⟨xs,hs.sq⟩,k _ _ ⟨μ1,⟨ws,none⟩,h1,e1,R1,JB r1',m1⟩⟩
 | kls ws=>
  have r1':=r1
  rw [Rep] at r1
  obtain ⟨p,xs,ev,hs,_⟩:=r1
  subst ev
  exact .inl ⟨p,rfl,⟨xs,hs.sq⟩,k _ _ ⟨μ1,⟨ws,none⟩,h1,e1,R1,JL r1',m1⟩⟩
 | loc n=>
  have r1':=r1
  rw [Rep] at r1
  obtain ⟨p,ev,hm⟩:=r1
  subst ev
  unfold Ql at m1
  dsimp only at m1
  cases ec:h1.c n with
  | none=>rw [ec] at m1;exact m1.elim
  | some cl=>
   rw [ec] at m1
   cases cl with
   | lst ws=>
    obtain ⟨p',xs,hm',hx,rs⟩:=R1.lstAt ec
    have ep:p'=p:=by rw [hm] at hm';exact (Option.some.inj hm').symm
    subst ep
    exact .inl ⟨p',rfl,⟨xs,.of hx⟩,k _ _ ⟨μ1,⟨ws,some (n,ws)⟩,h1,e1,R1,Fv r1',m1⟩⟩
   | _=>exact m1.elim
 | _=>exact m1.elim
def vX (lo:Int)(n:Nat):List W:=(List.range n).map fun (k:Nat)=>.int (lo+(k:Int))
theorem Q7 {K:Yh}{H:Hp}{μ : Mu}{lo:Int}{n:Nat}:Nx K (Itr lo n) ⟨vX lo n,none⟩ H μ:=by
 intro H2 μ2 h2 i e R2 _
 refine ⟨fun w ew=>?_,fun hl=>?_⟩
 ·have hi:i<n:=by
   have:=(List.getElem?_eq_some_iff.mp ew).1
   simpa [vX] using this
  have ew':w=.int (lo+(i:Int)):=by
   unfold vX at ew
   rw [List.getElem?_map,List.getElem?_range hi] at ew
   exact (Option.some.inj ew).symm
  subst ew'
  refine ⟨hi,fun x H3 ⟨e3,y⟩=>?_⟩
  subst e3
  exact ⟨μ2,.refl,R2,by rw [Rep];exact y⟩
 ·have:n<=i:=by simpa [vX] using hl
  exact this
def Ek (j:Int)(P:Prop):Prop:=by2 (decide (-1000<=j)&&decide (j<=1000)) P ((-(2^62)<=j/\j<2^62)/\P)
theorem Ek.ok {j:Int}{P:Prop}(h:Ek j P):(-(2^62)<=j/\j<2^62)/\P:=by
 unfold Ek at h
 cases e:(decide (-1000<=j)&&decide (j<=1000)) with
 | true=>
  rw [e] at h
  rw [Bool.and_eq_true,decide_eq_true_iff,decide_eq_true_iff] at e
  exact ⟨⟨by omega,by omega⟩,h⟩
 | false=>rw [e] at h;exact h
theorem Ek.mk {j:Int}{P:Prop}(h1:-(2^62)<=j)(h2:j<2^62)(h:P):Ek j P:=by
 unfold Ek
 cases e:(decide (-1000<=j)&&decide (j<=1000)) with
 | true=>exact h
 | false=>exact ⟨⟨h1,h2⟩,h⟩
def mV (ma:MA):MI:=fun Z h R=>ma Z h fun ws h1=>match ws with
 | [.int j]=>Ek j (R ⟨vX 0 j.toNat,none⟩ h1)
 | _=>False
theorem dM {a:Expr}{mr:MA}{p pos:Pos}(hg:Gl X "range")(hm:X.mg "range" = none)(ha:DAs X [a] mr)(hs:starEach [a] X.env=[(false,eval a X.env)]:=by rfl):DIt X tg (.Call (.Name "range" p) [a] [] pos) (mV mr):=
 PI.of (zZ hg hm ha hs) fun Z H Q ⟨μ,h,Zw,Rw,R,S,m,k⟩=>by
  refine ⟨μ,h,Zw,_,R,S,m,fun vs H1 ⟨μ1,ws,h1,e1,R1,r1,m1⟩=>?_⟩
  dsimp only at m1
  split at m1
  ·rename_i j
   rw [aJ] at r1
   obtain ⟨v,vr,ev,ra,r1⟩:=r1
   rw [aJ] at r1
   rw [Rep] at ra
   subst ev r1 ra
   exact ⟨j,rfl,m1.ok.1.1,m1.ok.1.2,k _ _ ⟨μ1,_,h1,e1,R1,Q7,m1.ok.2⟩⟩
  ·exact m1.elim
def Src.go (s:Src)(h:Gh)(P:Prop):Prop:=match s.cell with
 | none=>P
 | some n=>h.c n.1=some (.lst n.2)/\P
theorem Src.go_ok {s:Src}{h:Gh}{P:Prop}(x:s.go h P):s.chk h/\P:=by
 unfold Src.go at x
 unfold Src.chk
 cases e:s.cell with
 | none=>rw [e] at x;exact ⟨trivial,x⟩
 | some n=>rw [e] at x;exact x
def eO (s:Src)(g:MG)(b:MS)(D:bL):List W->Sw->Gh->Prop
 | [],Z,h=>s.go h (D.nx Z h)
 | w::r,Z,h=>s.go h (g w Z h fun Z1 h1=>b { D with nx:=eO s g b D r,ct:=eO s g b D r,bk:=D.nx } Z1 h1)
def oX (mi:MI)(g:MG)(b:MS):MS:=fun D Z h=>mi Z h fun s h1=>eO s g b D s.ws Z h1
theorem fL {iter:Expr}{body:List Stmt}{mi:MI}{g:MG}{mb0:MS}{pos:Pos}(hp:PassesOwn (model X.prog X.w) X.A X.env X.xe)(hc:X.calm=true)(hi:DIt X tg iter mi)(hg:DG X tg g)(hb:DSs X body mb0)
  (hs:∀ x,foldedSetIterable iter X.env x=pure x:=by intro _;rfl):DS X (.For tg iter body [] pos) (oX mi g mb0):=(Jc hp hc hi hg hb hs).of fun D Z H ⟨μ,h,Zw,Dw,R,S,m,k⟩=>by
 refine ⟨μ,h,Zw,_,R,S,m,fun J H1 ⟨μ1,src,h1,e1,R1,ok,m1⟩=>?_⟩
 refine ⟨fun i n Z' H'=>n=src.ws.length - i/\i<=src.ws.length/\DN X.K H1 μ1 (eO src g mb0 Dw (src.ws.drop i)) Z' H',⟨src.ws.length,by simp,Nat.zero_le _,μ1,Zw,h1,.refl,R1,S.ext e1,by rw [List.drop_zero];exact m1⟩,?_⟩
 rintro i n Z2 H2 ⟨hn,hle,μ2,Zw2,h2,e2,R2,S2,m2⟩
 by_cases hlt:i<src.ws.length
 ·rw [List.drop_eq_getElem_cons hlt] at m2
  obtain ⟨ck,m2⟩:=Src.go_ok m2
  obtain ⟨hgo,hy⟩:=(ok e2 R2 ck).1 src.ws[i] (List.getElem?_eq_getElem hlt)
  refine .inr ⟨hgo,fun Z' H'=>DN X.K H2 μ2 (eO src g mb0 Dw (src.ws.drop (i+1))) Z' H',fun Z' H' z=>⟨src.ws.length - (i+1),by omega,rfl,hlt,z.trans e2⟩,fun x H3 y=>?_⟩
  obtain ⟨μ3,e3,R3,rx⟩:=hy x H3 y
  refine ⟨μ3,h2,Zw2,src.ws[i],_,R3,S2.ext e3,rx,m2,fun Z4 H4 ⟨μ4,Zw4,h4,e4,R4,S4,m4⟩=>?_⟩
  have e24:=e3.trans e4
  have e14:=(e1.trans e2).trans e24
  exact ⟨μ4,h4,Zw4,_,R4,S4,m4,fun Z' H' z=>z.trans e24,fun v H' z=>k.rt _ _ (z.trans e14),fun Z' H' z=>k.nx _ _ (z.trans e14),fun Z' H' z=>z.trans e24⟩
 ·have ei:i=src.ws.length:=by omega
  subst ei
  rw [List.drop_length] at m2
  obtain ⟨ck,m2⟩:=Src.go_ok m2
  exact .inl ⟨(ok e2 R2 ck).2 (Yc _),k.nx _ _ ⟨μ2,Zw2,h2,e1.trans e2,R2,S2,m2⟩⟩
def n8 (ix:List Nat)(Z : Sw):Sw:=ix.map fun i=>(Z[i]?).getD none
theorem Slots.blk {K:Yh}{H:Hp}{μ : Mu}{Zw:Sw}{Z : St}{ix:List Nat}(S:Slots K H μ Zw Z):∀ {ws:List W} {vs:List V},aJ K H μ ws vs->Slots K H μ (ws.map some++n8 ix Zw) (vs.map some++yE ix Z):=by
 intro ws vs r
 have hl:=r.len
 refine ⟨by simp [n8,yE,hl],fun i u q=>?_⟩
 by_cases hi:i<ws.length
 ·rw [List.getElem?_append_left (by simpa using hi),List.getElem?_map] at q
  have q':ws[i]?=some u:=by
   cases e:ws[i]? with
   | none=>rw [e] at q;cases q
   | some a=>rw [e] at q;simpa using q
  obtain ⟨v,hv,rv⟩:=r.get q'
  refine ⟨v,?_,rv⟩
  rw [List.getElem?_append_left (by rw [X6];omega),List.getElem?_map,hv]
  rfl
 ·rw [List.getElem?_append_right (by simpa using hi),X6] at q
  rw [List.getElem?_append_right (by rw [X6];omega),X6,<-hl]
  generalize i - ws.length=i at q |-
  unfold n8 at q
  unfold yE
  rw [List.getElem?_map] at q |-
  cases e:ix[i]? with
  | none=>rw [e] at q;cases q
  | some j=>
   rw [e] at q
   cases e2:Zw[j]? with
   | none=>simp [e2] at q
   | some o=>
    have eo:o=some u:=by simpa [e2] using q
    subst eo
    obtain ⟨v',h1,h2⟩:=S.get j u e2
    exact ⟨v',by simp [h1],h2⟩
def yd:MT:=fun _ h Q=>Q true h
def oE (s:Src)(own:W->Option (List W))(ix:List Nat)(tt:MT)(te:ME)(Z : Sw)(Q:WK):List W->List W->Gh->Prop
 | [],acc,h=>s.go h (Q (.lst acc) h)
 | w::r,acc,h=>s.go h (match own w with
  | some vs=>tt (vs.map some++n8 ix Z) h fun c h1=>by2 c (te (vs.map some++n8 ix Z) h1 fun v h2=>oE s own ix tt te Z Q r (acc++[v]) h2) (oE s own ix tt te Z Q r acc h1)
  | none=>False)
def mLC (own:W->Option (List W))(ix:List Nat)(mi:MI)(tt:MT)(te:ME):ME:=fun Z h Q=>mi Z h fun s h1=>fW s.ws.length (oE s own ix tt te Z Q s.ws [] h1)
def Gp (K:Yh)(n:Nat)(own:V->Hp->List V->Prop)(ow:W->Option (List W)):Prop:=∀ {H:Hp} {μ : Mu} {w:W} {v:V} {ws:List W},Rep K H μ w v->ow w=some ws->∃ vs,own v H vs/\vs.length=n/\aJ K H μ ws vs
def ow1 (w:W):Option (List W):=some [w]
def owT (n:Nat)(w:W):Option (List W):=match w with
 | .tup ws=>(match Nat.beq ws.length n with
  | true=>some ws
  | false=>none)
 | _=>none
def ov1:V->Hp->List V->Prop:=fun v _ vs=>vs=[v]
def ovT (K:Yh):V->Hp->List V->Prop:=fun v H vs=>∃ a,v=.ref a/\SqT K H a vs
theorem Eu {K:Yh}:Gp K 1 ov1 ow1:=by
 intro H μ w v ws r e
 cases (show some [w]=some ws from e)
 exact ⟨[v],rfl,rfl,.one r⟩
theorem CW {K:Yh}{n:Nat}:Gp K n (ovT K) (owT n):=by
 intro H μ w v ws r e
 cases w with
 | tup us=>
  unfold owT at e
  dsimp only at e
  cases en:Nat.beq us.length n with
  | false=>rw [en] at e;cases e
  | true=>
   rw [en] at e
   cases (show some us=some ws from e)
   rw [Rep] at r
   obtain ⟨p,xs,ev,hs,rs⟩:=r
   exact ⟨xs,⟨p,ev,hs⟩,by rw [<-rs.len];exact Nat.eq_of_beq_eq_true en,rs⟩
 | _=>cases e
abbrev Vr (X:Cx)(ifs:List Expr)(m:MT):Prop:=Ol X ifs (tDT X.K m)
theorem iz:Vr X [] yd:=fun pins s Z H Q I ⟨μ,h,Zw,Qw,R,S,m,k⟩=>J5 pins s Z H Q I (k _ _ ⟨μ,h,.refl,R,m⟩)
theorem CN (h:DT X c t):Vr X [c] t:=Nh h
theorem TF {K:Yh}{Z : St}{H:Hp}{Q:VK}{n:Nat}{own:V->Hp->List V->Prop}{ow:W->Option (List W)}{ix:List Nat}{mi:MI}{tt:MT}{te:ME}(oo:Gp K n own ow)(q:tD K (mLC ow ix mi tt te) Z H Q):tLC n own ix (tDI K mi) (tDT K tt) (tD K te) Z H Q:=by
 obtain ⟨μ,h,Zw,Qw,R,S,m,k⟩:=q
 refine ⟨μ,h,Zw,_,R,S,m,fun J H1 ⟨μ1,src,h1,e1,R1,ok,hz0⟩=>?_⟩
 obtain ⟨hz,m1⟩:=hz0.ok
 intro D hD
 have nD:=R1.nohid hD
 have hD1:Ext K H1 μ1 (upd H1 D (.lst [])) (μ1.hide D):=Ext.hide hD
 refine ⟨fun i n ys H'=>n=src.ws.length - i/\i<=src.ws.length/\ys.length<=i/\H' D=some (.lst ys)/\∃ μ' acc h',Ext K H1 μ1 H' μ'/\Rel K μ' H' h'/\μ'.hid D/\aJ K H' μ' acc ys/\oE src ow ix tt te Zw Qw (src.ws.drop i) acc h',
  ⟨src.ws.length,by simp,Nat.zero_le _,Yc _,aV,μ1.hide D,[],h1,hD1,R1.hide hD,.inl rfl,.nil,by rw [List.drop_zero];exact m1⟩,?_⟩
 rintro i n' ys H2 ⟨hn,hle,hys,hH2,μ2,acc,h2,e2,R2,hid2,ra,m2⟩ _
 by_cases hlt:i<src.ws.length
 ·rw [List.drop_eq_getElem_cons hlt] at m2
  obtain ⟨ck,m2⟩:=Src.go_ok m2
  obtain ⟨hgo,hy⟩:=(ok e2 R2 ck).1 src.ws[i] (List.getElem?_eq_getElem hlt)
  refine .inr ⟨hgo,by omega,fun x H3 y=>?_⟩
  obtain ⟨μ3,e3,R3,rx⟩:=hy x H3 y
  have e13:=e2.trans e3
  cases eo:ow src.ws[i] with
  | none=>rw [eo] at m2;exact m2.elim
  | some us=>
   rw [eo] at m2
   obtain ⟨vs,hov,hvl,rvs⟩:=oo rx eo
   have S3:=(S.ext (e1.trans e13)).blk (ix:=ix) rvs
   refine ⟨vs,hov,hvl,μ3,h2,_,_,R3,S3,m2,fun b H4 ⟨μ4,h4,e4,R4,m4⟩=>?_⟩
   have e24:=e3.trans e4
   obtain ⟨hid4,hH4⟩:=e24.o D _ hid2 hH2
   cases b with
   | false=>
    dsimp only
    rw [if_neg Bool.false_ne_true]
    exact ⟨hH4,src.ws.length - (i+1),by omega,rfl,hlt,by omega,hH4,μ4,acc,h4,e2.trans e24,R4,hid4,e24.s ra,m4⟩
   | true=>
    dsimp only
    rw [if_pos rfl]
    refine ⟨μ4,h4,_,_,R4,S3.ext e4,m4,fun v H5 ⟨μ5,w5,h5,e5,R5,r5,m5⟩=>?_⟩
    have e25:=e24.trans e5
    obtain ⟨hid5,hH5⟩:=e25.o D _ hid2 hH2
    have g:=Nu.grow (ys:=ys++[v]) R5 hid5
    have rs:aJ K (upd H5 D (.lst (ys++[v]))) μ5 (acc++[w5]) (ys++[v]):=aJ.ex (Ex0.grow R5 hid5) (aJ.append (e25.s ra) (aJ.one r5))
    exact ⟨hH5,src.ws.length - (i+1),by omega,rfl,hlt,by rw [List.length_append];simp;omega,aV,μ5,acc++[w5],h5,(e2.trans e25).x nD g,R5.grow hid5,hid5,rs,m5⟩
 ·have ei:i=src.ws.length:=by omega
  subst ei
  rw [List.drop_length] at m2
  obtain ⟨ck,m2⟩:=Src.go_ok m2
  exact .inl ⟨(ok e2 R2 ck).2 (Yc _),k _ _ ⟨μ2.unhide D,.lst acc,h2,e1.trans (e2.x nD .unhide),R2.unhide,Rep.built R2 hid2 hH2 ra,m2⟩⟩
variable {scope:Scope}{x:Str}{xs:List Str}{ix:List Nat}{elt iter:Expr}{ifs:List Expr}{px:Pos}{mi:MI}{tt:MT}{te:ME}
theorem Hx (B:jP X scope [x] ix)(C:Addr)(s:Shared)(H:Hp)(fp:List Addr):PG (blk X scope (jh X [x] ix) C s H fp) (.Name x px) (QX 1 ov1):=by
 obtain ⟨o1,o2⟩:=CV B (y:=x) (by simp)
 intro pins s' Z H' v u Q I r ⟨vs,hv,hl,q⟩
 cases hv
 refine bA (X:=blk X scope (jh X [x] ix) C s H fp) (i:=0) B.nd rfl o1 o2 pins s' Z H' v u Q I r ?_
 have hlen:Z.length=(jh X [x] ix).length:=I.len
 cases Z with
 | nil=>simp at hlen
 | cons o Z=>exact q
theorem zG {y:Str}{py pt:Pos}{kt:Nat}(hc:X.calm=true)(B:jP X scope [x,y] ix)(C:Addr)(s:Shared)(H:Hp)(fp:List Addr)
  (h1:∀ env,(assignEach [.Name x px,.Name y py] env).map (·.2)=assign (.Name x px) env::(assignEach [.Name y py] env).map (·.2):=by intro _;rfl)
  (h2:∀ env,(assignEach [.Name y py] env).map (·.2)=assign (.Name y py) env::(assignEach [] env).map (·.2):=by intro _;rfl)
  (h3:∀ env,(assignEach [.Name x px,.Name y py] env).length=2:=by intro _;rfl) (h4:∀ env,(assignEach [.Name x px,.Name y py] env).findIdx? (·.1)=none:=by intro _;rfl) :
  PG (blk X scope (jh X [x,y] ix) C s H fp) (.Tuple [.Name x px,.Name y py] kt pt) (QX 2 (ovT X.K)):=by
 obtain ⟨o1,u1⟩:=CV B (y:=x) (by simp)
 obtain ⟨o2,u2⟩:=CV B (y:=y) (by simp)
 intro pins s' Z H' v u Q I r ⟨vs,⟨a,ea,ha⟩,hl,q⟩
 have hlen:Z.length=(jh X [x,y] ix).length:=I.len
 refine Oz (X:=blk X scope (jh X [x,y] ix) C s H fp) (n:=2) hc (qz (bA (i:=0) B.nd rfl o1 u1) (qz (bA (i:=1) B.nd rfl o2 u2) Dm (h2 _)) (h1 _)) (h3 _) (h4 _) pins s' Z H' v u Q I r ?_
 refine ⟨a,vs,ea,ha,hl,?_⟩
 match vs,hl,q with
 | [v1,v2],_,q=>
  match Z,hlen,q with
  | [],hlen,_=>simp at hlen
  | [_],hlen,_=>simp at hlen
  | _::_::Z,_,q=>exact ⟨v1,[v2],rfl,v2,[],rfl,rfl,q⟩
theorem Hs {own:V->Hp->List V->Prop}{ow:W->Option (List W)}(ix:List Nat)(hc:X.calm=true)(B:jP X scope xs ix)(oo:Gp X.K xs.length own ow)(hg:∀ C s H fp,PG (blk X scope (jh X xs ix) C s H fp) tg (QX xs.length own))(hi:DIt X tg iter mi)
  (ht:∀ C s H fp,Vr (blk X scope (jh X xs ix) C s H fp) ifs tt) (he:∀ C s H fp,DE (blk X scope (jh X xs ix) C s H fp) elt te)
  (hs:∀ v,foldedSetIterable iter X.env v=pure v:=by intro _;rfl):DE X (.ListComp elt [⟨tg,iter,ifs,0⟩] scope pos) (mLC ow ix mi tt te):=(U6 ix hc B hg hi ht he hs).of fun _ _ _ q=>TF oo q
theorem Um {κ : Type}{K:Yh}{H0 H:Hp}{μ0 μ : Mu}{k:Nat}(hd:∀ n p,μ0.f n=some p->n<k):∀ {fs:List (κ×W)} {f0 fv:List (κ×V)},nR K H0 μ0 fs f0->nR K H μ fs fv->nR K H (μ.cut k) fs fv
 | [],_,_,_,.nil=>.nil
 | _::_,_,_,.cons a b,.cons c d=>.cons ⟨c.1,Rep.cut c.2 (Rep.lo hd a.2)⟩ (Um hd b d)
def vN (pure:Bool)(h:Gh)(w:W)(h':Gh)(Q:WK):Prop:=match pure with
 | false=>Q w h'
 | true=>(∀ n c,n<h.nx->h.c n=some c->h'.c n=some c)/\((Lo h.nx w/\Q w h)\/∃ n ws,w=.loc n/\h.nx<=n/\h'.c n=some (.lst ws)/\Los h.nx ws/\Q (.lst ws) h)
def mFn (n N:Nat)(pure:Bool)(body:XWK->MS):MSp:=fun ws h Q E=>by2 (Nat.beq ws.length n)
 (body E { nx:=fun _ h'=>vN pure h .non h' Q,rt:=fun w h'=>vN pure h w h' Q } (ws.map some++X7 (N - ws.length) none) h) False
theorem wL {n N:Nat}{pure:Bool}{body:XWK->MS}{ws:List W}{h:Gh}{Q:WK}{E:XWK}(x:mFn n N pure body ws h Q E):ws.length=n /\
  body E { nx:=fun _ h'=>vN pure h .non h' Q,rt:=fun w h'=>vN pure h w h' Q } (ws.map some++X7 (N - ws.length) none) h:=by
 unfold mFn at x
 cases e:Nat.beq ws.length n with
 | true=>rw [e] at x;exact ⟨Nat.eq_of_beq_eq_true e,x⟩
 | false=>rw [e] at x;exact (show False from x).elim
theorem Rel.cut {K:Yh}{H H':Hp}{μ μ':Mu}{h h':Gh}(R:Rel K μ H h)(R':Rel K μ' H' h')(e:Ext K H μ H' μ')(hc:∀ n c,h.c n=some c->h'.c n=some c):Rel K (μ'.cut h.nx) H' h where
 inj:=fun m n p a b=>R'.inj m n p (Mu.cut_some a).2 (Mu.cut_some b).2
 dom:=fun n p a=>(Mu.cut_some a).1
 trk:=fun n p a=>R'.trk n p (Mu.cut_some a).2
 cel:=fun n c a=>by
  obtain ⟨p0,m0,x0⟩:=R.cel n c a
  obtain ⟨p,m,x⟩:=R'.cel n c (hc n c a)
  have hn:=R.dom n p0 m0
  refine ⟨p,by show (if n<h.nx then μ'.f n else none)=some p;rw [if_pos hn];exact m,?_⟩
  cases c with
  | lst ws=>
   obtain ⟨xs0,_,r0⟩:=x0
   obtain ⟨xs,hx,r⟩:=x
   exact ⟨xs,hx,aJ.cut r (aJ.lo R.dom r0)⟩
  | obj C fs=>
   obtain ⟨dx0,f0,_,r0⟩:=x0
   obtain ⟨dx,fv,hx,r⟩:=x
   exact ⟨dx,fv,hx,Um R.dom r0 r⟩
  | dct kvs=>
   obtain ⟨f0,_,r0⟩:=x0
   obtain ⟨fv,hx,r⟩:=x
   exact ⟨fv,hx,Um R.dom r0 r⟩
  | dtt kvs=>
   obtain ⟨_,_,_,_,_,d0,f0⟩:=x0
   obtain ⟨xs,vs,a,b,c,d,f⟩:=x
   exact ⟨xs,vs,a,b,c,aJ.cut d (aJ.lo R.dom d0),aJ.cut f (aJ.lo R.dom f0)⟩
 hd:=fun p z=>⟨(R'.hd p z).1,fun n a=>(R'.hd p z).2 n (Mu.cut_some a).2⟩
theorem Ext.cut {K:Yh}{H H':Hp}{μ μ':Mu}{h:Gh}(R:Rel K μ H h)(e:Ext K H μ H' μ'):Ext K H μ H' (μ'.cut h.nx):=
 ⟨fun w v r=>Rep.cut (e.r w v r) (Rep.lo R.dom r),fun p u z a=>e.o p u z a⟩
theorem pO {K:Yh}{H H':Hp}{μ μ':Mu}{h h':Gh}{w:W}{v:V}{Q:WK}{pure:Bool}(R:Rel K μ H h)(e:Ext K H μ H' μ')(R':Rel K μ' H' h')(r:Rep K H' μ' w v)(x:vN pure h w h' Q):DQ K H μ Q v H':=by
 cases pure with
 | false=>exact ⟨μ',w,h',e,R',r,x⟩
 | true=>
  obtain ⟨hc0,⟨lo,q⟩ | ⟨n,ws,ew,hn,ec,lo,q⟩⟩:=x
  all_goals have hc:∀ n c,h.c n=some c->h'.c n=some c:=fun n c a=>hc0 n c (let ⟨p,m,_⟩:=R.cel n c a;R.dom n p m) a
  ·exact ⟨μ'.cut h.nx,w,h,e.cut R,R.cut R' e hc,Rep.cut r lo,q⟩
  ·subst ew
   refine ⟨μ'.cut h.nx,.lst ws,h,e.cut R,R.cut R' e hc,?_,q⟩
   rw [Rep] at r
   rw [Rep]
   obtain ⟨p,ev,hm⟩:=r
   obtain ⟨p',xs,hm',hx,rs⟩:=R'.lstAt ec
   have ep:p'=p:=by rw [hm] at hm';exact (Option.some.inj hm').symm
   subst ep
   refine ⟨p',xs,ev,⟨hx,fun m a=>?_,fun z=>(R'.hd p' z).2 n hm⟩,aJ.cut rs lo⟩
   obtain ⟨a1,a2⟩:=Mu.cut_some a
   have:=R'.inj m n p' a2 hm
   omega
theorem nG {K:Yh}{H:Hp}{μ : Mu}{N:List Str}:∀ {ws:List W} {vs:List V},aJ K H μ ws vs->Slots K H μ (ws.map some++X7 (N.length - ws.length) none) (start N vs):=by
 intro ws vs r
 have hl:=r.len
 refine ⟨by simp [start,hl],fun i w q=>?_⟩
 by_cases hi:i<ws.length
 ·rw [List.getElem?_append_left (by simpa using hi),List.getElem?_map] at q
  have q':ws[i]?=some w:=by
   cases e:ws[i]? with
   | none=>rw [e] at q;cases q
   | some a=>rw [e] at q;simpa using q
  obtain ⟨v,hv,rv⟩:=r.get q'
  refine ⟨v,?_,rv⟩
  unfold start
  rw [List.getElem?_append_left (by rw [X6];omega),List.getElem?_map,hv]
  rfl
 ·rw [List.getElem?_append_right (by simpa using hi),List.getElem?_replicate] at q
  split at q <;> cases q
theorem uP {P:Program}{w:World}{K:Yh}{mg:Str->Option Value}{base:Heap}{x qual:Str}{st:Stmt}{f:Addr}{fd:FuncData}{N ps:List Str}{k:Nat}{pure:Bool}{body:XWK->MS}(F:Fun K x qual st f fd)(S:bB N ps (aQ st))
  (hb:∀ (cdv:Value) (A:Around) (outer:List Env) (s:Shared) (H:Hp) (E:XK),j8 k (A.deeper (envOfC qual (aQ st) s.heap.objs.size f cdv)) ->
   DSs (Jx CX0 P w K mg base N qual (aQ st) f cdv A outer s H E).nox (gF st) (body EF)):d9 P w K mg base CX0 (k+1) f fd ps (lift K (mFn ps.length N.length pure body)):=by
 refine F.ok S (fun vs H Q E ⟨μ,h,ws,Qw,R,r,m,k⟩=>by rw [<-r.len];exact (wL m).1) (fun cdv A outer s H vs Q E hr ⟨μ,h,ws,Qw,R,r,m0,k⟩=>?_)
 obtain ⟨hl,m⟩:=wL m0
 refine ⟨_,hb cdv A outer s H E hr,μ,h,_,_,R,nG r,m,?_,?_,?_,?_⟩
 ·rintro Z' H' ⟨μ1,Zw1,h1,e1,R1,S1,m1⟩
  exact k _ _ (pO (w:=.non) R e1 R1 (by rw [Rep]) m1)
 ·rintro v H' ⟨μ1,w1,h1,e1,R1,r1,m1⟩
  exact k _ _ (pO R e1 R1 r1 m1)
 ·rintro Z' H' ⟨μ1,Zw1,h1,e1,R1,S1,m1⟩
  exact m1.elim
 ·rintro Z' H' ⟨μ1,Zw1,h1,e1,R1,S1,m1⟩
  exact m1.elim
end
end L2
namespace L2
open PySem PySem.Spec PyProof.Rows
section
variable {X:Cx}{K:Yh}
theorem DQ.int {H:Hp}{μ : Mu}{h:Gh}{i:Int}{Q:WK}(R:Rel K μ H h)(q:Q (.int i) h):DQ K H μ Q (.int i) H:=⟨μ,.int i,h,.refl,R,by rw [Rep],q⟩
theorem DQ.bl {H:Hp}{μ : Mu}{h:Gh}{i:Bool}{Q:WK}(R:Rel K μ H h)(q:Q (.bl i) h):DQ K H μ Q (.bl i) H:=⟨μ,.bl i,h,.refl,R,by rw [Rep],q⟩
def kI (C:Int->Int->Prop)(g:Int->Int->Int):M2:=fun x y h Q=>match x,y with
 | .int i,.int j=>C i j/\Q (.int (g i j)) h
 | _,_=>False
def El:M2:=fun x y h Q=>match x,y with
 | .int i,.int j=>Q (.int (i - j)) h
 | _,_=>False
theorem uZ:DOp X (binaryOp .Sub) El:=⟨_,Rt,by
 intro H μ h x y wx wy Qw Q R rx ry m k
 unfold El at m
 split at m
 ·rw [Rep] at rx ry
  exact ⟨_,_,rx,ry,k _ _ (.int R m)⟩
 ·exact m.elim⟩
def lE:M2:=fun x y h Q=>match x,y with
 | .int i,.int j=>oA i j/\Q (.int (i*j)) h
 | _,_=>False
theorem fK:DOp X (binaryOp .Mult) lE:=⟨_,zJ,by
 intro H μ h x y wx wy Qw Q R rx ry m k
 unfold lE at m
 split at m
 ·rw [Rep] at rx ry
  exact ⟨_,_,rx,ry,m.1,k _ _ (.int R m.2)⟩
 ·exact m.elim⟩
def wQ:M2:=fun x y h Q=>match x,y with
 | .int i,.int j=>xJ i j/\Q (.int (i.fdiv j)) h
 | _,_=>False
theorem kW:DOp X (binaryOp .FloorDiv) wQ:=⟨_,BZ,by
 intro H μ h x y wx wy Qw Q R rx ry m k
 unfold wQ at m
 split at m
 ·rw [Rep] at rx ry
  exact ⟨_,_,rx,ry,m.1,k _ _ (.int R m.2)⟩
 ·exact m.elim⟩
def lg:M2:=fun x y h Q=>match x,y with
 | .int i,.int j=>j≠0/\Q (.int (i.fmod j)) h
 | _,_=>False
theorem dR:DOp X (binaryOp .Mod) lg:=⟨_,KY,by
 intro H μ h x y wx wy Qw Q R rx ry m k
 unfold lg at m
 split at m
 ·rw [Rep] at rx ry
  exact ⟨_,_,rx,ry,m.1,k _ _ (.int R m.2)⟩
 ·exact m.elim⟩
def Ip:M2:=fun x y h Q=>match x,y with
 | .int i,.int j=>Vc i j/\Q (.int (i^j.toNat)) h
 | _,_=>False
theorem Du:DOp X (binaryOp .Pow) Ip:=⟨_,Px,by
 intro H μ h x y wx wy Qw Q R rx ry m k
 unfold Ip at m
 split at m
 ·rw [Rep] at rx ry
  exact ⟨_,_,rx,ry,m.1,k _ _ (.int R m.2)⟩
 ·exact m.elim⟩
def kLt:M2:=fun x y h Q=>match x,y with
 | .int i,.int j=>Q (.bl (decide (i<j))) h
 | _,_=>False
theorem Xe:DOp X (compareOp .Lt) kLt:=⟨_,Ug,by
 intro H μ h x y wx wy Qw Q R rx ry m k
 unfold kLt at m
 split at m
 ·rw [Rep] at rx ry
  exact ⟨_,_,rx,ry,k _ _ (.bl R m)⟩
 ·exact m.elim⟩
def kGt:M2:=fun x y h Q=>match x,y with
 | .int i,.int j=>Q (.bl (decide (j<i))) h
 | _,_=>False
theorem Gx:DOp X (compareOp .Gt) kGt:=⟨_,Tg,by
 intro H μ h x y wx wy Qw Q R rx ry m k
 unfold kGt at m
 split at m
 ·rw [Rep] at rx ry
  exact ⟨_,_,rx,ry,k _ _ (.bl R m)⟩
 ·exact m.elim⟩
theorem aJ.ne_nil {H:Hp}{μ : Mu}{ws:List W}{xs:List V}(r:aJ K H μ ws xs):xs=[]↔ws=[]:=by
 have:=r.len
 constructor
 ·intro e;subst e;exact List.eq_nil_of_length_eq_zero this
 ·intro e;subst e;exact List.eq_nil_of_length_eq_zero this.symm
def kIx:M2:=fun x y h Q=>match y with
 | .int i=>(match view h x with
  | some ws=>(match atI ws i with
   | some w=>Q w h
   | none=>False)
  | none=>False)
 | _=>False
theorem aJ.at {H:Hp}{μ : Mu}{ws:List W}{xs:List V}{i:Int}{w:W}(r:aJ K H μ ws xs)(e:atI ws i=some w):∃ v,atI xs i=some v/\Rep K H μ w v:=by
 unfold atI at e |-
 rw [<-r.len]
 cases q:ixN ws.length i with
 | none=>rw [q] at e;cases e
 | some j=>rw [q] at e;exact r.get e
theorem cG {H:Hp}{μ : Mu}{h:Gh}{w:W}{v:V}{ws:List W}(R:Rel K μ H h)(r:Rep K H μ w v)(e:dU h w=some ws):∃ p xs,v=.ref p/\SqL K H p xs/\aJ K H μ ws xs:=by
 cases w with
 | lst us=>
  rw [Rep] at r
  obtain ⟨p,xs,ev,hs,rs⟩:=r
  cases (show some us=some ws from e)
  exact ⟨p,xs,ev,hs.sq,rs⟩
 | kls us=>
  rw [Rep] at r
  obtain ⟨p,xs,ev,hs,rs⟩:=r
  cases (show some us=some ws from e)
  exact ⟨p,xs,ev,hs.sq,rs⟩
 | loc n=>
  rw [Rep] at r
  obtain ⟨p,ev,hm⟩:=r
  unfold dU at e
  dsimp only at e
  cases ec:h.c n with
  | none=>rw [ec] at e;cases e
  | some cl=>
   rw [ec] at e
   cases cl with
   | lst us=>
    cases (show some us=some ws from e)
    obtain ⟨p',xs,hm',hx,rs⟩:=R.lstAt ec
    have ep:p'=p:=by rw [hm] at hm';exact (Option.some.inj hm').symm
    subst ep
    exact ⟨p',xs,ev,.of hx,rs⟩
   | _=>cases e
 | _=>cases e
theorem m9 {H:Hp}{μ : Mu}{h:Gh}{w:W}{v:V}{ws:List W}(R:Rel K μ H h)(r:Rep K H μ w v)(e:view h w=some ws):∃ p xs,v=.ref p/\(SqL K H p xs\/SqT K H p xs)/\aJ K H μ ws xs:=by
 cases w with
 | tup us=>
  rw [Rep] at r
  obtain ⟨p,xs,ev,hs,rs⟩:=r
  cases (show some us=some ws from e)
  exact ⟨p,xs,ev,.inr hs,rs⟩
 | lst us=>
  obtain ⟨p,xs,ev,hs,rs⟩:=cG (ws:=ws) R r e
  exact ⟨p,xs,ev,.inl hs,rs⟩
 | kls us=>
  obtain ⟨p,xs,ev,hs,rs⟩:=cG (ws:=ws) R r e
  exact ⟨p,xs,ev,.inl hs,rs⟩
 | loc n=>
  obtain ⟨p,xs,ev,hs,rs⟩:=cG (ws:=ws) R r e
  exact ⟨p,xs,ev,.inl hs,rs⟩
 | _=>cases e
theorem Qd:VN K (rIx K) kIx:=by
 intro H μ h x y wx wy Qw Q R rx ry m k
 unfold kIx at m
 split at m
 ·rename_i i
  split at m
  ·rename_i ws ev
   split at m
   ·rename_i w ew
    obtain ⟨p,xs,ex,hs,rs⟩:=m9 R rx ev
    obtain ⟨v,hv,rv⟩:=rs.at ew
    rw [Rep] at ry
    have fin:=k _ _ ⟨μ,w,h,.refl,R,rv,m⟩
    rcases hs with hs | hs
    ·exact .inl ⟨p,xs,i,v,ex,ry,hs,hv,fin⟩
    ·exact .inr (.inl ⟨p,xs,i,v,ex,ry,hs,hv,fin⟩)
   ·exact m.elim
  ·exact m.elim
 ·exact m.elim
theorem Di {a b:Expr}{ma mb:ME}{pos:Pos}(ha:DE X a ma)(hb:DE X b mb)(hs:zR b):DE X (.Subscript a b pos) (mOp kIx ma mb):=(Uz Ru ha hb hs).of fun Z H Q h=>two h fun R r1 r2 m k=>Qd R r1 r2 m k
abbrev MO:=Sw->Gh->(Option Int->Gh->Prop)->Prop
def tDO (K:Yh)(m:MO):TO:=fun Z H Q=>∃ μ h Zw Qw,Rel K μ H h/\Slots K H μ Zw Z/\m Zw h Qw/\∀ o H',(∃ μ' h',Ext K H μ H' μ'/\Rel K μ' H' h'/\Qw o h')->Q o H'
abbrev DO (X:Cx)(e:Option Expr)(m:MO):Prop:=PO X e (tDO X.K m)
theorem PO.of {e:Option Expr}{t t':TO}(h:PO X e t)(k:∀ Z H Q,t' Z H Q->t Z H Q):PO X e t':=by
 unfold PO at h |-
 intros
 apply h <;> first | assumption | (apply k;assumption)
def vI:MO:=fun _ h Q=>Q none h
def Km (m:ME):MO:=fun Z h Q=>m Z h fun w h1=>match w with
 | .int i=>Q (some i) h1
 | _=>False
theorem J6:DO X none vI:=PO.of KC fun Z H Q ⟨μ,h,Zw,Qw,R,S,m,k⟩=>k _ _ ⟨μ,h,.refl,R,m⟩
theorem Ld {e:Expr}{ma:ME}(he:DE X e ma):DO X (some e) (Km ma):=PO.of (Lb he) fun Z H Q ⟨μ,h,Zw,Qw,R,S,m,k⟩=>by
 refine ⟨μ,h,Zw,_,R,S,m,fun v H1 ⟨μ1,w,h1,e1,R1,r1,m1⟩=>?_⟩
 dsimp only at m1
 split at m1
 ·rw [Rep] at r1;exact ⟨_,r1,k _ _ ⟨μ1,h1,e1,R1,m1⟩⟩
 ·exact m1.elim
def HD (xs:List W)(lo hi:Option Int):List W:=(xs.drop (HT.sIx xs.length 0 lo)).take (HT.sIx xs.length xs.length hi - HT.sIx xs.length 0 lo)
def mSl (r:W->Option Int->Option Int->Gh->WK->Prop)(m:ME)(l u:MO):ME:=fun Z h Q=>m Z h fun x h1=>l Z h1 fun lo h2=>u Z h2 fun hi h3=>r x lo hi h3 Q
theorem aJ.cutv {H:Hp}{μ : Mu}{ws:List W}{xs:List V}(r:aJ K H μ ws xs)(lo hi:Option Int):aJ K H μ (HD ws lo hi) (Fd xs lo hi):=by
 unfold HD Fd
 rw [<-r.len]
 exact (r.drop _).take _
end
end L2
namespace L2
open PySem PySem.Spec PyProof.Rows
mutual
def eqW:W->W->Bool
 | .non,.non=>true
 | .bl a,.bl b=>a==b
 | .bl a,.int b=>(if a then 1 else 0)==b
 | .int a,.bl b=>a==(if b then 1 else 0)
 | .int a,.int b=>a==b
 | .str a,.str b=>a==b
 | .tup a,.tup b=>nQ a b
 | .lst a,.lst b=>nQ a b
 | _,_=>false
def nQ:List W->List W->Bool
 | [],[]=>true
 | a::as,b::bs=>eqW a b&&nQ as bs
 | _,_=>false
end
def plW:Nat->W->Bool
 | _,.non=>true
 | _,.bl _=>true
 | _,.int _=>true
 | _,.str _=>true
 | n+1,.tup ws=>ws.all (plW n)
 | n+1,.lst ws=>ws.all (plW n)
 | _,_=>false
mutual
def Dt (K:Yh)(H:Hp):W->V->Prop
 | .non,v=>v=.non
 | .bl b,v=>v=.bl b
 | .int i,v=>v=.int i
 | .str x,v=>v=.str x
 | .tup ws,v=>∃ p xs,v=.ref p/\SqT K H p xs/\Dts K H ws xs
 | .lst ws,v=>∃ p xs,v=.ref p/\SqL K H p xs/\Dts K H ws xs
 | .ty _,_=>False
 | .kls _,_=>False
 | .loc _,_=>False
 | .exc _,_=>False
 | .exa _ _,_=>False
 | .fnv _ _,_=>False
def Dts (K:Yh)(H:Hp):List W->List V->Prop
 | [],xs=>xs=[]
 | w::ws,xs=>∃ v vs,xs=v::vs/\Dt K H w v/\Dts K H ws vs
end
section
variable {X:Cx}{K:Yh}{H:Hp}{μ : Mu}{h:Gh}
theorem Dts.len:∀ {ws:List W} {xs:List V},Dts K H ws xs->ws.length=xs.length
 | [],xs,h=>by
  have e:xs=[]:=by rw [Dts] at h;exact h
  rw [e];rfl
 | w::ws,xs,h=>by
  rw [Dts] at h
  obtain ⟨v,vs,e,_,h⟩:=h
  rw [e,List.length_cons,List.length_cons,Dts.len h]
theorem Dts.get:∀ {ws:List W} {xs:List V} {i:Nat} {w:W},Dts K H ws xs->ws[i]?=some w->∃ v,xs[i]?=some v/\Dt K H w v
 | [],_,_,_,_,e=>by simp at e
 | a::ws,xs,0,w,h,e=>by
  rw [Dts] at h
  obtain ⟨v,vs,e1,r,_⟩:=h
  simp at e;subst e;subst e1
  exact ⟨v,rfl,r⟩
 | a::ws,xs,i+1,w,h,e=>by
  rw [Dts] at h
  obtain ⟨v,vs,e1,_,h⟩:=h
  subst e1
  obtain ⟨u,h1,h2⟩:=Dts.get (i:=i) (w:=w) h (by simpa using e)
  exact ⟨u,by simpa using h1,h2⟩
theorem vZ {n:Nat}(one:∀ {w:W} {v:V},Rep K H μ w v->plW n w=true->Dt K H w v):∀ {ws:List W} {xs:List V},aJ K H μ ws xs->ws.all (plW n)=true->Dts K H ws xs
 | [],_,h,_=>by rw [aJ] at h;rw [Dts];exact h
 | w::ws,_,h,p=>by
  rw [aJ] at h
  rw [Dts]
  obtain ⟨v,vs,e,r,h⟩:=h
  rw [List.all_cons,Bool.and_eq_true] at p
  exact ⟨v,vs,e,one r p.1,vZ one h p.2⟩
theorem R0:∀ (n:Nat) {w:W} {v:V},Rep K H μ w v->plW n w=true->Dt K H w v:=by
 intro n
 induction n with
 | zero=>
  intro w v r p
  cases w with
  | non=>rw [Rep] at r;rw [Dt];exact r
  | bl _=>rw [Rep] at r;rw [Dt];exact r
  | int _=>rw [Rep] at r;rw [Dt];exact r
  | str _=>rw [Rep] at r;rw [Dt];exact r
  | _=>simp [plW] at p
 | succ n ih=>
  intro w v r p
  cases w with
  | non=>rw [Rep] at r;rw [Dt];exact r
  | bl _=>rw [Rep] at r;rw [Dt];exact r
  | int _=>rw [Rep] at r;rw [Dt];exact r
  | str _=>rw [Rep] at r;rw [Dt];exact r
  | tup ws=>
   rw [Rep] at r;rw [Dt]
   obtain ⟨p',xs,e,hs,rs⟩:=r
   exact ⟨p',xs,e,hs,vZ ih rs (by simpa [plW] using p)⟩
  | lst ws=>
   rw [Rep] at r;rw [Dt]
   obtain ⟨p',xs,e,hs,rs⟩:=r
   exact ⟨p',xs,e,hs.sq,vZ ih rs (by simpa [plW] using p)⟩
  | _=>simp [plW] at p
theorem jd:∀ {a b:List W},a.length≠b.length->nQ a b=false
 | [],[],h=>absurd rfl h
 | [],_::_,_=>by simp [nQ]
 | _::_,[],_=>by simp [nQ]
 | a::as,b::bs,h=>by
  rw [nQ,jd (a:=as) (b:=bs) (by simpa using h),Bool.and_false]
def Og (a b:List W)(j:Nat):Bool:=eqW (a.getD j .non) (b.getD j .non)
theorem jq:∀ {a b:List W},a.length=b.length->(List.range a.length).all (Og a b)=nQ a b
 | [],[],_=>by simp [nQ]
 | [],_::_,h=>by simp at h
 | _::_,[],h=>by simp at h
 | a::as,b::bs,h=>by
  rw [nQ,<-jq (a:=as) (b:=bs) (by simpa using h),List.length_cons,List.range_succ_eq_map,List.all_cons,List.all_map]
  rfl
mutual
theorem qy {pins:List (Addr×Obj)}{s:Shared}{Z : St}(I:Inv X pins Z H s):∀ {w u:W} {v:V},Dt X.K H w v->Dt X.K H u v->eqW w u=true
 | .non,u,v,h,g=>by rw [Dt] at h;subst h;cases u <;> rw [Dt] at g <;> first | rfl | exact g.elim | (obtain ⟨_,_,g,_⟩:=g;cases g;done) | (cases g;done)
 | .bl b,u,v,h,g=>by rw [Dt] at h;subst h;cases u <;> rw [Dt] at g <;> first | (injection g with g;simp [eqW,g];done) | exact g.elim | (obtain ⟨_,_,g,_⟩:=g;cases g;done) | (cases g;done)
 | .int b,u,v,h,g=>by rw [Dt] at h;subst h;cases u <;> rw [Dt] at g <;> first | (injection g with g;simp [eqW,g];done) | exact g.elim | (obtain ⟨_,_,g,_⟩:=g;cases g;done) | (cases g;done)
 | .str b,u,v,h,g=>by rw [Dt] at h;subst h;cases u <;> rw [Dt] at g <;> first | (injection g with g;simp [eqW,g];done) | exact g.elim | (obtain ⟨_,_,g,_⟩:=g;cases g;done) | (cases g;done)
 | .tup ws,u,v,h,g=>by
  rw [Dt] at h
  obtain ⟨p,xs,e,hs,ds⟩:=h
  subst e
  cases u with
  | tup us=>
   rw [Dt] at g
   obtain ⟨p',xs',e',hs',ds'⟩:=g
   cases e'
   have:=I.tuple_inj hs hs'
   subst this
   rw [eqW]
   exact lW I ds ds'
  | lst us=>
   rw [Dt] at g
   obtain ⟨p',xs',e',hs',ds'⟩:=g
   cases e'
   obtain ⟨_,_,t,_⟩:=I.tuple hs
   obtain ⟨_,_,l,_⟩:=I.list hs'
   exact absurd rfl (SeqAt.ne_of_list_tuple l.isList (show s.heap.IsTuple _ _ from t))
  | ty _=>rw [Dt] at g;exact g.elim
  | loc _=>rw [Dt] at g;exact g.elim
  | kls _=>rw [Dt] at g;exact g.elim
  | _=>rw [Dt] at g;cases g
 | .lst ws,u,v,h,g=>by
  rw [Dt] at h
  obtain ⟨p,xs,e,hs,ds⟩:=h
  subst e
  cases u with
  | lst us=>
   rw [Dt] at g
   obtain ⟨p',xs',e',hs',ds'⟩:=g
   cases e'
   have:=I.list_inj hs hs'
   subst this
   rw [eqW]
   exact lW I ds ds'
  | tup us=>
   rw [Dt] at g
   obtain ⟨p',xs',e',hs',ds'⟩:=g
   cases e'
   obtain ⟨_,_,t,_⟩:=I.tuple hs'
   obtain ⟨_,_,l,_⟩:=I.list hs
   exact absurd rfl (SeqAt.ne_of_list_tuple l.isList (show s.heap.IsTuple _ _ from t))
  | ty _=>rw [Dt] at g;exact g.elim
  | loc _=>rw [Dt] at g;exact g.elim
  | kls _=>rw [Dt] at g;exact g.elim
  | _=>rw [Dt] at g;cases g
 | .ty _,_,_,h,_=>by rw [Dt] at h;exact h.elim
 | .loc _,_,_,h,_=>by rw [Dt] at h;exact h.elim
 | .exc _,_,_,h,_=>by rw [Dt] at h;exact h.elim
 | .exa _ _,_,_,h,_=>by rw [Dt] at h;exact h.elim
 | .kls _,_,_,h,_=>by rw [Dt] at h;exact h.elim
theorem lW {pins:List (Addr×Obj)}{s:Shared}{Z : St}(I:Inv X pins Z H s):∀ {ws us:List W} {vs:List V},Dts X.K H ws vs->Dts X.K H us vs->nQ ws us=true
 | [],us,vs,h,g=>by
  rw [Dts] at h;subst h
  cases us with
  | nil=>rfl
  | cons _ _=>rw [Dts] at g;obtain ⟨_,_,g,_⟩:=g;cases g
 | w::ws,us,vs,h,g=>by
  rw [Dts] at h
  obtain ⟨v,vs',e,h1,h2⟩:=h
  subst e
  cases us with
  | nil=>rw [Dts] at g;cases g
  | cons u us=>
   rw [Dts] at g
   obtain ⟨v',vs'',e',g1,g2⟩:=g
   cases e'
   rw [nQ,qy I h1 g1,lW I h2 g2]
   rfl
end
theorem in1_units {A:Around}:A.in1.units=A.units+1:=rfl
theorem qj {n:Nat}{ws:List W}(h:plW n (.tup ws)=true):∃ m,n=m+1/\ws.all (plW m)=true:=by
 cases n with
 | zero=>simp [plW] at h
 | succ m=>exact ⟨m,rfl,by simpa [plW] using h⟩
theorem mH {n:Nat}{ws:List W}(h:plW n (.lst ws)=true):∃ m,n=m+1/\ws.all (plW m)=true:=by
 cases n with
 | zero=>simp [plW] at h
 | succ m=>exact ⟨m,rfl,by simpa [plW] using h⟩
theorem gU {s:Shared}{A:Around}{n:Nat}{ws us:List W}{xs ys:List V}{its jts:List Value}(d1:Dts K H ws xs)(d2:Dts K H us ys)(p1:ws.all (plW n)=true)(p2:us.all (plW n)=true)(r1:Vals xs its)(r2:Vals ys jts)
  (one:∀ {w u:W} {v x:V} {a b:Value},Dt K H w v->Dt K H u x->plW n w=true->plW n u=true->RelV v a->RelV x b->SeqAt.EqAt A s a b (eqW w u)) :
  ∀ j (h1:j<its.toArray.size) (h2:j<jts.toArray.size),SeqAt.EqAt A s its.toArray[j] jts.toArray[j] (Og ws us j):=by
 intro j h1 h2
 have l1:j<ws.length:=by rw [d1.len,r1.length];simpa using h1
 have l2:j<us.length:=by rw [d2.len,r2.length];simpa using h2
 obtain ⟨v,ev,dv⟩:=d1.get (List.getElem?_eq_getElem l1)
 obtain ⟨x,ex,dx⟩:=d2.get (List.getElem?_eq_getElem l2)
 obtain ⟨a,ea,ra⟩:=r1.get ev
 obtain ⟨b,eb,rb⟩:=r2.get ex
 have ea':its.toArray[j]=a:=by simpa using (List.getElem?_eq_some_iff.mp ea).2
 have eb':jts.toArray[j]=b:=by simpa using (List.getElem?_eq_some_iff.mp eb).2
 have e:Og ws us j=eqW ws[j] us[j]:=by
  unfold Og
  rw [List.getD_eq_getElem?_getD,List.getD_eq_getElem?_getD,List.getElem?_eq_getElem l1,List.getElem?_eq_getElem l2]
  rfl
 rw [ea',eb',e]
 exact one dv dx (List.all_eq_true.mp p1 _ (List.getElem_mem l1)) (List.all_eq_true.mp p2 _ (List.getElem_mem l2)) ra rb
theorem size_of {ws:List W}{xs:List V}{its:List Value}(d:Dts K H ws xs)(r:Vals xs its):its.toArray.size=ws.length:=by
 rw [d.len,r.length];simp
theorem vp {ws us:List W}:((List.range (min ws.length us.length)).all (Og ws us)&&ws.length==us.length)=nQ ws us:=by
 by_cases e:ws.length=us.length
 ·rw [<-e,Nat.min_self,jq e];simp
 ·rw [jd e]
  have e2:(ws.length==us.length)=false:=beq_eq_false_iff_ne.mpr e
  rw [e2,Bool.and_false]
inductive Kd (s:Shared):W->Value->Prop where
 | non:Kd s .non .none
 | bl (b:Bool):Kd s (.bl b) (.bool b)
 | int (i:Int) (t:Tok):Kd s (.int i) (.int i t)
 | str (x:Str) (t:Tok):Kd s (.str x) (.str x t)
 | tup (ws:List W) {p:Addr} {its:Array Value} (q:s.heap.IsTuple p its):Kd s (.tup ws) (.ref p)
 | lst (ws:List W) {p:Addr} {its:Array Value} (q:s.heap.IsList p its):Kd s (.lst ws) (.ref p)
theorem yD {pins:List (Addr×Obj)}{s:Shared}{Z : St}(I:Inv X pins Z H s){w:W}{v:V}{a:Value}(d:Dt X.K H w v)(r:RelV v a):Kd s w a:=by
 cases w with
 | non=>rw [Dt] at d;subst d;cases r;exact .non
 | bl b=>rw [Dt] at d;subst d;cases r;exact .bl b
 | int b=>rw [Dt] at d;subst d;obtain ⟨t,rfl⟩:=r;exact .int b t
 | str b=>rw [Dt] at d;subst d;obtain ⟨t,rfl⟩:=r;exact .str b t
 | tup ws=>rw [Dt] at d;obtain ⟨p,xs,e,hs,_⟩:=d;subst e;cases r;obtain ⟨its,_,q,_⟩:=I.tuple hs;exact .tup ws q
 | lst ws=>rw [Dt] at d;obtain ⟨p,xs,e,hs,_⟩:=d;subst e;cases r;obtain ⟨its,_,q,_⟩:=I.list hs;exact .lst ws q.isList
 | _=>rw [Dt] at d;exact d.elim
def yF:W->W->Bool
 | .tup _,.tup _=>true
 | .lst _,.lst _=>true
 | _,_=>false
def Wm:W->W->Bool
 | .tup _,_=>false
 | .lst _,_=>false
 | _,.tup _=>false
 | _,.lst _=>false
 | _,_=>true
theorem O5 {s:Shared}{A:Around}{w u:W}{a b:Value}(hu:A.units<cLine)(k1:Kd s w a)(k2:Kd s u b)(h:yF w u=false)(f:Wm w u=false):SeqAt.EqAt A s a b (eqW w u):=by
 cases k1 with
 | non=>
  cases k2 with
  | non=>cases f
  | bl _=>cases f
  | int _ _=>cases f
  | str _ _=>cases f
  | tup _ q3=>apply SeqAt.EqAt.none_tuple <;> assumption
  | lst _ q4=>apply SeqAt.EqAt.none_list <;> assumption
 | bl _=>
  cases k2 with
  | non=>cases f
  | bl _=>cases f
  | int _ _=>cases f
  | str _ _=>cases f
  | tup _ q3=>apply SeqAt.EqAt.bool_tuple <;> assumption
  | lst _ q4=>apply SeqAt.EqAt.bool_list <;> assumption
 | int _ _=>
  cases k2 with
  | non=>cases f
  | bl _=>cases f
  | int _ _=>cases f
  | str _ _=>cases f
  | tup _ q3=>apply SeqAt.EqAt.int_tuple <;> assumption
  | lst _ q4=>apply SeqAt.EqAt.int_list <;> assumption
 | str _ _=>
  cases k2 with
  | non=>cases f
  | bl _=>cases f
  | int _ _=>cases f
  | str _ _=>cases f
  | tup _ q3=>apply SeqAt.EqAt.str_tuple <;> assumption
  | lst _ q4=>apply SeqAt.EqAt.str_list <;> assumption
 | tup _ q1=>
  cases k2 with
  | non=>apply SeqAt.EqAt.tuple_none <;> assumption
  | bl _=>apply SeqAt.EqAt.tuple_bool <;> assumption
  | int _ _=>apply SeqAt.EqAt.tuple_int <;> assumption
  | str _ _=>apply SeqAt.EqAt.tuple_str <;> assumption
  | tup _ q3=>cases h
  | lst _ q4=>apply SeqAt.EqAt.tuple_list <;> assumption
 | lst _ q2=>
  cases k2 with
  | non=>apply SeqAt.EqAt.list_none <;> assumption
  | bl _=>apply SeqAt.EqAt.list_bool <;> assumption
  | int _ _=>apply SeqAt.EqAt.list_int <;> assumption
  | str _ _=>apply SeqAt.EqAt.list_str <;> assumption
  | tup _ q3=>apply SeqAt.EqAt.list_tuple <;> assumption
  | lst _ q4=>cases h
theorem Q0 {s:Shared}{A:Around}{w u:W}{a b:Value}(hu:A.units<cLine)(k1:Kd s w a)(k2:Kd s u b)(h:yF w u=false):SeqAt.RcAt A s a b (eqW w u):=by
 cases k1 with
 | non=>
  cases k2 with
  | non=>apply SeqAt.RcAt.none_none <;> assumption
  | bl _=>apply SeqAt.RcAt.none_bool <;> assumption
  | int _ _=>apply SeqAt.RcAt.none_int <;> assumption
  | str _ _=>apply SeqAt.RcAt.none_str <;> assumption
  | tup _ q3=>apply SeqAt.RcAt.none_tuple <;> assumption
  | lst _ q4=>apply SeqAt.RcAt.none_list <;> assumption
 | bl _=>
  cases k2 with
  | non=>apply SeqAt.RcAt.bool_none <;> assumption
  | bl _=>apply SeqAt.RcAt.bool_bool <;> assumption
  | int _ _=>apply SeqAt.RcAt.bool_int <;> assumption
  | str _ _=>apply SeqAt.RcAt.bool_str <;> assumption
  | tup _ q3=>apply SeqAt.RcAt.bool_tuple <;> assumption
  | lst _ q4=>apply SeqAt.RcAt.bool_list <;> assumption
 | int _ _=>
  cases k2 with
  | non=>apply SeqAt.RcAt.int_none <;> assumption
  | bl _=>apply SeqAt.RcAt.int_bool <;> assumption
  | int _ _=>apply SeqAt.RcAt.int_int <;> assumption
  | str _ _=>apply SeqAt.RcAt.int_str <;> assumption
  | tup _ q3=>apply SeqAt.RcAt.int_tuple <;> assumption
  | lst _ q4=>apply SeqAt.RcAt.int_list <;> assumption
 | str _ _=>
  cases k2 with
  | non=>apply SeqAt.RcAt.str_none <;> assumption
  | bl _=>apply SeqAt.RcAt.str_bool <;> assumption
  | int _ _=>apply SeqAt.RcAt.str_int <;> assumption
  | str _ _=>apply SeqAt.RcAt.str_str <;> assumption
  | tup _ q3=>apply SeqAt.RcAt.str_tuple <;> assumption
  | lst _ q4=>apply SeqAt.RcAt.str_list <;> assumption
 | tup _ q1=>
  cases k2 with
  | non=>apply SeqAt.RcAt.tuple_none <;> assumption
  | bl _=>apply SeqAt.RcAt.tuple_bool <;> assumption
  | int _ _=>apply SeqAt.RcAt.tuple_int <;> assumption
  | str _ _=>apply SeqAt.RcAt.tuple_str <;> assumption
  | tup _ q3=>cases h
  | lst _ q4=>apply SeqAt.RcAt.tuple_list <;> assumption
 | lst _ q2=>
  cases k2 with
  | non=>apply SeqAt.RcAt.list_none <;> assumption
  | bl _=>apply SeqAt.RcAt.list_bool <;> assumption
  | int _ _=>apply SeqAt.RcAt.list_int <;> assumption
  | str _ _=>apply SeqAt.RcAt.list_str <;> assumption
  | tup _ q3=>apply SeqAt.RcAt.list_tuple <;> assumption
  | lst _ q4=>cases h
theorem QD {s:Shared}{A:Around}{w u:W}{a b:Value}(hu:A.units<cLine)(k1:Kd s w a)(k2:Kd s u b)(h:yF w u=false):SeqAt.RcNeAt A s a b (!eqW w u):=by
 cases k1 with
 | non=>
  cases k2 with
  | non=>apply SeqAt.RcNeAt.none_none <;> assumption
  | bl _=>apply SeqAt.RcNeAt.none_bool <;> assumption
  | int _ _=>apply SeqAt.RcNeAt.none_int <;> assumption
  | str _ _=>apply SeqAt.RcNeAt.none_str <;> assumption
  | tup _ q3=>apply SeqAt.RcNeAt.none_tuple <;> assumption
  | lst _ q4=>apply SeqAt.RcNeAt.none_list <;> assumption
 | bl _=>
  cases k2 with
  | non=>apply SeqAt.RcNeAt.bool_none <;> assumption
  | bl _=>apply SeqAt.RcNeAt.bool_bool <;> assumption
  | int _ _=>apply SeqAt.RcNeAt.bool_int <;> assumption
  | str _ _=>apply SeqAt.RcNeAt.bool_str <;> assumption
  | tup _ q3=>apply SeqAt.RcNeAt.bool_tuple <;> assumption
  | lst _ q4=>apply SeqAt.RcNeAt.bool_list <;> assumption
 | int _ _=>
  cases k2 with
  | non=>apply SeqAt.RcNeAt.int_none <;> assumption
  | bl _=>apply SeqAt.RcNeAt.int_bool <;> assumption
  | int _ _=>apply SeqAt.RcNeAt.int_int <;> assumption
  | str _ _=>apply SeqAt.RcNeAt.int_str <;> assumption
  | tup _ q3=>apply SeqAt.RcNeAt.int_tuple <;> assumption
  | lst _ q4=>apply SeqAt.RcNeAt.int_list <;> assumption
 | str _ _=>
  cases k2 with
  | non=>apply SeqAt.RcNeAt.str_none <;> assumption
  | bl _=>apply SeqAt.RcNeAt.str_bool <;> assumption
  | int _ _=>apply SeqAt.RcNeAt.str_int <;> assumption
  | str _ _=>apply SeqAt.RcNeAt.str_str <;> assumption
  | tup _ q3=>apply SeqAt.RcNeAt.str_tuple <;> assumption
  | lst _ q4=>apply SeqAt.RcNeAt.str_list <;> assumption
 | tup _ q1=>
  cases k2 with
  | non=>apply SeqAt.RcNeAt.tuple_none <;> assumption
  | bl _=>apply SeqAt.RcNeAt.tuple_bool <;> assumption
  | int _ _=>apply SeqAt.RcNeAt.tuple_int <;> assumption
  | str _ _=>apply SeqAt.RcNeAt.tuple_str <;> assumption
  | tup _ q3=>cases h
  | lst _ q4=>apply SeqAt.RcNeAt.tuple_list <;> assumption
 | lst _ q2=>
  cases k2 with
  | non=>apply SeqAt.RcNeAt.list_none <;> assumption
  | bl _=>apply SeqAt.RcNeAt.list_bool <;> assumption
  | int _ _=>apply SeqAt.RcNeAt.list_int <;> assumption
  | str _ _=>apply SeqAt.RcNeAt.list_str <;> assumption
  | tup _ q3=>apply SeqAt.RcNeAt.list_tuple <;> assumption
  | lst _ q4=>cases h
theorem Fo {pins:List (Addr×Obj)}{s:Shared}{Z : St}(I:Inv X pins Z H s):∀ (n:Nat) {A:Around} {w u:W} {v x:V} {a b:Value},A.units+n<cLine->Dt X.K H w v->Dt X.K H u x->plW n w=true->plW n u=true->RelV v a->RelV x b->SeqAt.EqAt A s a b (eqW w u):=by
 intro n
 induction n with
 | zero=>
  intro A w u v x a b hu dw du pw pu ra rb
  cases w <;> first | (simp [plW] at pw;done) | skip
  all_goals cases u <;> first | (simp [plW] at pu;done) | (rw [Dt] at dw;rw [Dt] at du;subst dw;subst du;exact Ay ra rb rfl rfl)
 | succ n ih=>
  intro A w u v x a b hu dw du pw pu ra rb
  have hu':A.units<cLine:=by omega
  have hu1:A.in1.units+n<cLine:=by rw [in1_units];omega
  by_cases h2:yF w u=true
  ·cases w <;> cases u <;> first | (cases h2;done) | skip
   ·rename_i ws us
    have dw0:=dw;have du0:=du
    rw [Dt] at dw;obtain ⟨p1,xs1,e1,hs1,ds1⟩:=dw;subst e1;cases ra;obtain ⟨its1,rv1,pl1,hz1⟩:=I.tuple hs1;have q1:s.heap.IsTuple p1 its1.toArray:=pl1
    rw [Dt] at du;obtain ⟨p2,xs2,e2,hs2,ds2⟩:=du;subst e2;cases rb;obtain ⟨its2,rv2,pl2,hz2⟩:=I.tuple hs2;have q2:s.heap.IsTuple p2 its2.toArray:=pl2
    have pw:ws.all (plW n)=true:=by simpa [plW] using pw
    have pu:us.all (plW n)=true:=by simpa [plW] using pu
    by_cases hp:p1=p2
    ·subst hp;rw [qy I dw0 du0];exact SeqAt.EqAt.same _
    ·refine SeqAt.EqAt.of_refs hp ?_
     have z:=SeqAt.RcAt.tuples q1 q2 hu' (gU ds1 ds2 pw pu rv1 rv2 (fun a b c d e f=>ih hu1 a b c d e f))
     rw [size_of ds1 rv1,size_of ds2 rv2,vp] at z
     rw [eqW];exact z
   ·rename_i ws us
    have dw0:=dw;have du0:=du
    rw [Dt] at dw;obtain ⟨p1,xs1,e1,hs1,ds1⟩:=dw;subst e1;cases ra;obtain ⟨its1,rv1,pl1,hz1⟩:=I.list hs1;have q1:=pl1.isList
    rw [Dt] at du;obtain ⟨p2,xs2,e2,hs2,ds2⟩:=du;subst e2;cases rb;obtain ⟨its2,rv2,pl2,hz2⟩:=I.list hs2;have q2:=pl2.isList
    have pw:ws.all (plW n)=true:=by simpa [plW] using pw
    have pu:us.all (plW n)=true:=by simpa [plW] using pu
    by_cases hp:p1=p2
    ·subst hp;rw [qy I dw0 du0];exact SeqAt.EqAt.same _
    ·refine SeqAt.EqAt.of_refs hp ?_
     rw [eqW]
     by_cases hl:ws.length=us.length
     ·have z:=SeqAt.RcAt.lists q1 q2 (by rw [size_of ds1 rv1,size_of ds2 rv2,hl]) hu' (gU ds1 ds2 pw pu rv1 rv2 (fun a b c d e f=>ih hu1 a b c d e f))
      rw [size_of ds1 rv1,jq hl] at z
      exact z
     ·rw [jd hl];exact SeqAt.RcAt.lists_lengths q1 q2 (by rw [size_of ds1 rv1,size_of ds2 rv2];simpa using hl) hu'
  ·by_cases hf:Wm w u=true
   ·cases w <;> cases u <;> first | (cases hf;done) | (simp [plW] at pw;done) | (simp [plW] at pu;done) | (rw [Dt] at dw;rw [Dt] at du;subst dw;subst du;exact Ay ra rb rfl rfl)
   ·exact O5 hu' (yD I dw ra) (yD I du rb) (by simpa using h2) (by simpa using hf)
theorem Tw {pins:List (Addr×Obj)}{s:Shared}{Z : St}(I:Inv X pins Z H s)(n:Nat){A:Around}{w u:W}{v x:V}{a b:Value}(hu:A.units+n<cLine)(dw:Dt X.K H w v)(du:Dt X.K H u x)(pw:plW n w=true)(pu:plW n u=true)(ra:RelV v a)(rb:RelV x b):SeqAt.RcAt A s a b (eqW w u):=by
 have hu':A.units<cLine:=by omega
 by_cases h2:yF w u=true
 ·cases w <;> cases u <;> first | (cases h2;done) | skip
  ·obtain ⟨m,hm,pw⟩:=qj pw
   subst hm
   obtain ⟨m',hm',pu⟩:=qj pu
   cases hm'
   have hu1:A.in1.units+m<cLine:=by rw [in1_units];omega
   rw [Dt] at dw;obtain ⟨p1,xs1,e1,hs1,ds1⟩:=dw;subst e1;cases ra;obtain ⟨its1,rv1,pl1,hz1⟩:=I.tuple hs1;have q1:s.heap.IsTuple p1 its1.toArray:=pl1
   rw [Dt] at du;obtain ⟨p2,xs2,e2,hs2,ds2⟩:=du;subst e2;cases rb;obtain ⟨its2,rv2,pl2,hz2⟩:=I.tuple hs2;have q2:s.heap.IsTuple p2 its2.toArray:=pl2
   rw [eqW]
   have z:=SeqAt.RcAt.tuples q1 q2 hu' (gU ds1 ds2 pw pu rv1 rv2 (fun a b c d e f=>Fo I m hu1 a b c d e f))
   rw [size_of ds1 rv1,size_of ds2 rv2,vp] at z
   exact z
  ·rename_i ws us
   obtain ⟨m,hm,pw⟩:=mH pw
   subst hm
   obtain ⟨m',hm',pu⟩:=mH pu
   cases hm'
   have hu1:A.in1.units+m<cLine:=by rw [in1_units];omega
   rw [Dt] at dw;obtain ⟨p1,xs1,e1,hs1,ds1⟩:=dw;subst e1;cases ra;obtain ⟨its1,rv1,pl1,hz1⟩:=I.list hs1;have q1:=pl1.isList
   rw [Dt] at du;obtain ⟨p2,xs2,e2,hs2,ds2⟩:=du;subst e2;cases rb;obtain ⟨its2,rv2,pl2,hz2⟩:=I.list hs2;have q2:=pl2.isList
   rw [eqW]
   by_cases hl:ws.length=us.length
   ·have z:=SeqAt.RcAt.lists q1 q2 (by rw [size_of ds1 rv1,size_of ds2 rv2,hl]) hu' (gU ds1 ds2 pw pu rv1 rv2 (fun a b c d e f=>Fo I m hu1 a b c d e f))
    rw [size_of ds1 rv1,jq hl] at z
    exact z
   ·rw [jd hl];exact SeqAt.RcAt.lists_lengths q1 q2 (by rw [size_of ds1 rv1,size_of ds2 rv2];simpa using hl) hu'
 ·exact Q0 hu' (yD I dw ra) (yD I du rb) (by simpa using h2)
theorem M4 {pins:List (Addr×Obj)}{s:Shared}{Z : St}(I:Inv X pins Z H s)(n:Nat){A:Around}{w u:W}{v x:V}{a b:Value}(hu:A.units+n<cLine)(dw:Dt X.K H w v)(du:Dt X.K H u x)(pw:plW n w=true)(pu:plW n u=true)(ra:RelV v a)(rb:RelV x b):SeqAt.RcNeAt A s a b (!eqW w u):=by
 have hu':A.units<cLine:=by omega
 by_cases h2:yF w u=true
 ·cases w <;> cases u <;> first | (cases h2;done) | skip
  ·obtain ⟨m,hm,pw⟩:=qj pw
   subst hm
   obtain ⟨m',hm',pu⟩:=qj pu
   cases hm'
   have hu1:A.in1.units+m<cLine:=by rw [in1_units];omega
   rw [Dt] at dw;obtain ⟨p1,xs1,e1,hs1,ds1⟩:=dw;subst e1;cases ra;obtain ⟨its1,rv1,pl1,hz1⟩:=I.tuple hs1;have q1:s.heap.IsTuple p1 its1.toArray:=pl1
   rw [Dt] at du;obtain ⟨p2,xs2,e2,hs2,ds2⟩:=du;subst e2;cases rb;obtain ⟨its2,rv2,pl2,hz2⟩:=I.tuple hs2;have q2:s.heap.IsTuple p2 its2.toArray:=pl2
   rw [eqW]
   have z:=SeqAt.RcNeAt.tuples q1 q2 hu' (gU ds1 ds2 pw pu rv1 rv2 (fun a b c d e f=>Fo I m hu1 a b c d e f))
   rw [size_of ds1 rv1,size_of ds2 rv2,vp] at z
   exact z
  ·rename_i ws us
   obtain ⟨m,hm,pw⟩:=mH pw
   subst hm
   obtain ⟨m',hm',pu⟩:=mH pu
   cases hm'
   have hu1:A.in1.units+m<cLine:=by rw [in1_units];omega
   rw [Dt] at dw;obtain ⟨p1,xs1,e1,hs1,ds1⟩:=dw;subst e1;cases ra;obtain ⟨its1,rv1,pl1,hz1⟩:=I.list hs1;have q1:=pl1.isList
   rw [Dt] at du;obtain ⟨p2,xs2,e2,hs2,ds2⟩:=du;subst e2;cases rb;obtain ⟨its2,rv2,pl2,hz2⟩:=I.list hs2;have q2:=pl2.isList
   rw [eqW]
   by_cases hl:ws.length=us.length
   ·have z:=SeqAt.RcNeAt.lists q1 q2 (by rw [size_of ds1 rv1,size_of ds2 rv2,hl]) hu' (gU ds1 ds2 pw pu rv1 rv2 (fun a b c d e f=>Fo I m hu1 a b c d e f))
    rw [size_of ds1 rv1,jq hl] at z
    exact z
   ·rw [jd hl];exact SeqAt.RcNeAt.lists_lengths q1 q2 (by rw [size_of ds1 rv1,size_of ds2 rv2];simpa using hl) hu'
 ·exact QD hu' (yD I dw ra) (yD I du rb) (by simpa using h2)
def KR (h:Gh):W->Option W
 | .loc n=>(match h.c n with
  | some (.lst ws)=>some (.lst ws)
  | _=>none)
 | w=>some w
theorem qR {w d:W}{v:V}{n:Nat}(R:Rel K μ H h)(r:Rep K H μ w v)(e:KR h w=some d)(p:plW n d=true):Dt K H d v:=by
 have other:KR h w=some w->Dt K H d v:=fun z=>by
  rw [z] at e;cases e;exact R0 n r p
 cases w with
 | loc m=>
  unfold KR at e
  dsimp only at e
  cases ec:h.c m with
  | none=>rw [ec] at e;cases e
  | some cl=>
   rw [ec] at e
   cases cl with
   | lst us=>
    cases (show some (W.lst us)=some d from e)
    obtain ⟨p',xs,hm',hx,rs⟩:=R.lstAt ec
    rw [Rep] at r
    obtain ⟨q,ev,hm⟩:=r
    have ep:p'=q:=by rw [hm] at hm';exact (Option.some.inj hm').symm
    subst ep
    obtain ⟨k,rfl,p⟩:=mH p
    rw [Dt]
    exact ⟨p',xs,ev,.of hx,vZ (R0 k) rs p⟩
   | _=>cases e
 | _=>exact other rfl
def Wq (K:Yh)(neg:Bool):R2:=fun x y H Q=>∃ w u,Dt K H w x/\Dt K H u y/\plW 30 w=true/\plW 30 u=true/\Q (.bl (if neg then !eqW w u else eqW w u)) H
theorem Qa (hu:X.A.units+30<cLine):OpR X (compareOp .Eq) (Wq X.K false):=by
 intro pins s Z H x y v u Q I rx ry ⟨w,w',d1,d2,p1,p2,q⟩
 exact Tw I 30 hu d1 d2 p1 p2 rx ry X.prog X.w X.xe _ (xM I q rfl)
theorem Rv (hu:X.A.units+30<cLine):OpR X (compareOp .NotEq) (Wq X.K true):=by
 intro pins s Z H x y v u Q I rx ry ⟨w,w',d1,d2,p1,p2,q⟩
 exact M4 I 30 hu d1 d2 p1 p2 rx ry X.prog X.w X.xe _ (xM I q rfl)
def kEq:M2:=fun x y h Q=>match KR h x,KR h y with
 | some a,some b=>by2 (plW 30 a&&plW 30 b) (Q (.bl (eqW a b)) h) False
 | _,_=>False
def kNe:M2:=fun x y h Q=>match KR h x,KR h y with
 | some a,some b=>by2 (plW 30 a&&plW 30 b) (Q (.bl (!eqW a b)) h) False
 | _,_=>False
theorem IV (hu:X.A.units+30<cLine):DOp X (compareOp .Eq) kEq:=⟨_,Qa hu,by
 intro H μ h x y wx wy Qw Q R rx ry m k
 unfold kEq at m
 split at m
 ·rename_i a b ea eb
  cases hp:(plW 30 a&&plW 30 b) with
  | true=>
   rw [hp] at m
   rw [Bool.and_eq_true] at hp
   exact ⟨a,b,qR R rx ea hp.1,qR R ry eb hp.2,hp.1,hp.2,k _ _ (.bl R m)⟩
  | false=>rw [hp] at m;exact (show False from m).elim
 ·exact m.elim⟩
theorem Ni (hu:X.A.units+30<cLine):DOp X (compareOp .NotEq) kNe:=⟨_,Rv hu,by
 intro H μ h x y wx wy Qw Q R rx ry m k
 unfold kNe at m
 split at m
 ·rename_i a b ea eb
  cases hp:(plW 30 a&&plW 30 b) with
  | true=>
   rw [hp] at m
   rw [Bool.and_eq_true] at hp
   exact ⟨a,b,qR R rx ea hp.1,qR R ry eb hp.2,hp.1,hp.2,k _ _ (.bl R m)⟩
  | false=>rw [hp] at m;exact (show False from m).elim
 ·exact m.elim⟩
theorem lO {A:Around}{k:Nat}(hr:j8 k A):A.units+30<cLine:=by have:=hr.units;omega
end
end L2
namespace L2
open PySem PySem.Spec PyProof.Rows
section
variable {X:Cx}{K:Yh}
theorem iH {H:Hp}{μ : Mu}{w:W}{vs:List V}(r:aJ K H μ [w] vs):∃ v,vs=[v]/\Rep K H μ w v:=by
 rw [aJ] at r
 obtain ⟨v,vr,ev,ra,r⟩:=r
 rw [aJ] at r
 subst r
 exact ⟨v,ev,ra⟩
theorem Cr {H:Hp}{μ : Mu}{w u:W}{vs:List V}(r:aJ K H μ [w,u] vs):∃ v x,vs=[v,x]/\Rep K H μ w v/\Rep K H μ u x:=by
 rw [aJ] at r
 obtain ⟨v,vr,ev,ra,r⟩:=r
 obtain ⟨x,e,rb⟩:=iH r
 subst e
 exact ⟨v,x,ev,ra,rb⟩
theorem oA.of {i j:Int}{m n:Nat}(hi:Sm m i)(hj:Sm n j)(hm:m<=1000000)(hn:n<=1000000):oA i j:=⟨m,n,hm,hn,hi,hj⟩
theorem Sm.lit {i:Int}(h:Nat.ble (i.natAbs+1) (2^64)=true):Sm 64 i:=by
 have:=Nat.le_of_ble_eq_true h
 unfold Sm
 omega
def kLen:MC:=fun ws h Q=>match ws with
 | [w]=>(match view h w with
  | some xs=>Q (.int (xs.length:Int)) h
  | none=>False)
 | _=>False
theorem jg:jM X (.builtin "len") kLen:=⟨_,tV,by
 intro H μ h vs ws Qw Q R r m k
 unfold kLen at m
 split at m
 ·split at m
  ·rename_i w _ xs ev
   obtain ⟨v,e,rv⟩:=iH r
   obtain ⟨p,ys,ex,hs,rs⟩:=m9 R rv ev
   subst e ex
   exact ⟨p,ys,rfl,hs,by rw [<-rs.len];exact k _ _ (.int R m)⟩
  ·exact m.elim
 ·exact m.elim⟩
def Xg:MC:=fun ws h Q=>match ws with
 | [.int i]=>Q (.int (if i<0 then -i else i)) h
 | _=>False
def Ei:List W->Option (List Bool)
 | []=>some []
 | .bl b::ws=>(Ei ws).map (b::·)
 | _=>none
theorem qI {H:Hp}{μ : Mu}:∀ {ws:List W} {xs:List V} {bs:List Bool},aJ K H μ ws xs->Ei ws=some bs->xs=bs.map V.bl
 | [],xs,bs,r,e=>by
  rw [aJ] at r
  cases (show some []=some bs from e)
  exact r
 | w::ws,xs,bs,r,e=>by
  rw [aJ] at r
  obtain ⟨v,vr,ev,ra,r⟩:=r
  cases w with
  | bl b=>
   rw [Rep] at ra
   rw [Ei] at e
   cases q:Ei ws with
   | none=>rw [q] at e;cases e
   | some cs=>
    rw [q] at e
    cases (show some (b::cs)=some bs from e)
    rw [ev,ra,qI r q]
    rfl
  | _=>cases e
def Qv:MC:=fun ws h Q=>match ws with
 | [w]=>(match dU h w with
  | some us=>(match Ei us with
   | some bs=>Q (.bl (bs.all id)) h
   | none=>False)
  | none=>False)
 | _=>False
theorem Ux (hc:X.calm=true):jM X (.builtin "all") Qv:=⟨_,Bl hc,by
 intro H μ h vs ws Qw Q R r m k
 unfold Qv at m
 split at m
 ·split at m
  ·split at m
   ·rename_i w _ us ev _ bs eb
    obtain ⟨v,e,rv⟩:=iH r
    obtain ⟨p,ys,ex,hs,rs⟩:=cG R rv ev
    subst e ex
    exact ⟨p,bs,rfl,by rw [<-qI rs eb];exact hs,k _ _ (.bl R m)⟩
   ·exact m.elim
  ·exact m.elim
 ·exact m.elim⟩
def Td (h:Gh)(w:W)(T:String):Option Bool:=match w with
 | .int _=>if T = "int" then some true else if T = "bool"\/T = "tuple"\/T = "list" then some false else none
 | .bl _=>if T = "int"\/T = "bool" then some true else if T = "tuple"\/T = "list" then some false else none
 | .str _=>if T = "int"\/T = "bool"\/T = "tuple"\/T = "list" then some false else none
 | .non=>if T = "int"\/T = "bool"\/T = "tuple"\/T = "list" then some false else none
 | .tup _=>if T = "tuple" then some true else if T = "int"\/T = "bool"\/T = "list" then some false else none
 | w=>(match dU h w with
  | some _=>if T = "list" then some true else if T = "int"\/T = "bool"\/T = "tuple" then some false else none
  | none=>none)
theorem JH {H:Hp}{μ : Mu}{h:Gh}{w:W}{v:V}{T:String}{b:Bool}(R:Rel K μ H h)(r:Rep K H μ w v)(e:Td h w T=some b):Wb K H v T b:=by
 unfold Td at e
 split at e
 ·rw [Rep] at r;subst r
  split at e
  ·rename_i t;subst t;cases e;exact .inl ⟨rfl,rfl⟩
  ·split at e
   ·rename_i t;cases e
    rcases t with t | t | t <;> subst t
    ·exact .inr (.inl ⟨rfl,rfl⟩)
    ·exact .inr (.inr (.inl ⟨rfl,rfl⟩))
    ·exact .inr (.inr (.inr ⟨rfl,rfl⟩))
   ·cases e
 ·rw [Rep] at r;subst r
  split at e
  ·rename_i t;cases e
   rcases t with t | t <;> subst t
   ·exact .inl ⟨rfl,rfl⟩
   ·exact .inr (.inl ⟨rfl,rfl⟩)
  ·split at e
   ·rename_i t;cases e
    rcases t with t | t <;> subst t
    ·exact .inr (.inr (.inl ⟨rfl,rfl⟩))
    ·exact .inr (.inr (.inr ⟨rfl,rfl⟩))
   ·cases e
 ·rw [Rep] at r;subst r
  split at e
  ·rename_i t;cases e
   rcases t with t | t | t | t <;> subst t
   ·exact .inl ⟨rfl,rfl⟩
   ·exact .inr (.inl ⟨rfl,rfl⟩)
   ·exact .inr (.inr (.inl ⟨rfl,rfl⟩))
   ·exact .inr (.inr (.inr ⟨rfl,rfl⟩))
  ·cases e
 ·rw [Rep] at r;subst r
  split at e
  ·rename_i t;cases e
   rcases t with t | t | t | t <;> subst t
   ·exact .inl ⟨rfl,rfl⟩
   ·exact .inr (.inl ⟨rfl,rfl⟩)
   ·exact .inr (.inr (.inl ⟨rfl,rfl⟩))
   ·exact .inr (.inr (.inr ⟨rfl,rfl⟩))
  ·cases e
 ·rw [Rep] at r
  obtain ⟨p,xs,ev,hs,_⟩:=r
  subst ev
  refine .inl ⟨xs,hs,?_⟩
  split at e
  ·rename_i t;subst t;cases e;exact .inr (.inr (.inl ⟨rfl,rfl⟩))
  ·split at e
   ·rename_i t;cases e
    rcases t with t | t | t <;> subst t
    ·exact .inl ⟨rfl,rfl⟩
    ·exact .inr (.inl ⟨rfl,rfl⟩)
    ·exact .inr (.inr (.inr ⟨rfl,rfl⟩))
   ·cases e
 ·split at e
  ·rename_i ws ev
   obtain ⟨p,xs,ex,hs,_⟩:=cG R r ev
   subst ex
   refine .inr ⟨xs,hs,?_⟩
   split at e
   ·rename_i t;subst t;cases e;exact .inr (.inr (.inr ⟨rfl,rfl⟩))
   ·split at e
    ·rename_i t;cases e
     rcases t with t | t | t <;> subst t
     ·exact .inl ⟨rfl,rfl⟩
     ·exact .inr (.inl ⟨rfl,rfl⟩)
     ·exact .inr (.inr (.inl ⟨rfl,rfl⟩))
    ·cases e
  ·cases e
def Fx:MC:=fun ws h Q=>match ws with
 | [w,.ty T]=>(match Td h w T with
  | some b=>Q (.bl b) h
  | none=>False)
 | _=>False
theorem Ca:jM X (.builtin "isinstance") Fx:=⟨_,Gu,by
 intro H μ h vs ws Qw Q R r m k
 unfold Fx at m
 split at m
 ·split at m
  ·rename_i w T _ b eb
   obtain ⟨v,x,e,rv,rx⟩:=Cr r
   have hi:=JH R rv eb
   rw [Rep] at rx
   subst e rx
   exact ⟨v,T,b,rfl,hi,k _ _ (.bl R m)⟩
  ·exact m.elim
 ·exact m.elim⟩
def gD:MC:=fun ws h Q=>match ws with
 | [.tup us]=>Q (.tup us) h
 | [w]=>(match dU h w with
  | some us=>Q (.tup us) h
  | none=>False)
 | _=>False
theorem jF:jM X (.type "tuple") gD:=⟨_,qH,by
 intro H μ h vs ws Qw Q R r m k
 unfold gD at m
 split at m
 ·obtain ⟨v,e,rv⟩:=iH r
  have rv':=rv
  rw [Rep] at rv
  obtain ⟨p,xs,ex,hs,rs⟩:=rv
  subst e ex
  exact ⟨p,xs,rfl,.inr ⟨hs,k _ _ ⟨μ,_,h,.refl,R,rv',m⟩⟩⟩
 ·split at m
  ·rename_i w _ _ us ev
   obtain ⟨v,e,rv⟩:=iH r
   obtain ⟨p,ys,ex,hs,rs⟩:=cG R rv ev
   subst e ex
   exact ⟨p,ys,rfl,.inl ⟨hs,fun l hl=>k _ _ ⟨μ,_,h,(Ex.laid hl).ext,R.laid hl,.tupNew hl rs,m⟩⟩⟩
  ·exact m.elim
 ·exact m.elim⟩
def Gv:MC:=fun ws h Q=>match ws with
 | [w]=>(match view h w with
  | some us=>Q (.lst us) h
  | none=>False)
 | _=>False
theorem Jv:jM X (.type "list") Gv:=⟨_,rC,by
 intro H μ h vs ws Qw Q R r m k
 unfold Gv at m
 split at m
 ·split at m
  ·rename_i w _ xs ev
   obtain ⟨v,e,rv⟩:=iH r
   obtain ⟨p,ys,ex,hs,rs⟩:=m9 R rv ev
   subst e ex
   exact ⟨p,ys,rfl,hs,fun l hl=>k _ _ ⟨μ,_,h,(Ex.laid hl).ext,R.laid hl,.lstNew R hl rs,m⟩⟩
  ·exact m.elim
 ·exact m.elim⟩
abbrev MM:=W->List W->Gh->WK->Prop
def V8 (K:Yh)(r:V->List V->Hp->VK->Prop)(mr:MM):Prop:=∀ {H:Hp} {μ : Mu} {h:Gh} {x:V} {vs:List V} {wx:W} {ws:List W} {Qw:WK} {Q:VK},Rel K μ H h->Rep K H μ wx x->aJ K H μ ws vs->mr wx ws h Qw->(∀ v H',DQ K H μ Qw v H'->Q v H')->r x vs H Q
def yC (h:Gh)(w:W)(P:Prop):Prop:=match w with
 | .loc n=>(match h.c n with
  | some (.lst _)=>P
  | _=>False)
 | _=>False
theorem wK {H:Hp}{μ : Mu}{h:Gh}{w:W}{v:V}{P:Prop}(R:Rel K μ H h)(r:Rep K H μ w v)(e:yC h w P):tyV K "list" v H/\P:=by
 unfold yC at e
 split at e
 ·split at e
  ·rename_i n _ ws ec
   rw [Rep] at r
   obtain ⟨p,ev,hm⟩:=r
   obtain ⟨p',xs,hm',hx,rs⟩:=R.lstAt ec
   have ep:p'=p:=by rw [hm] at hm';exact (Option.some.inj hm').symm
   subst ep ev
   exact ⟨.inl ⟨rfl,xs,.of hx⟩,e⟩
  ·exact e.elim
 ·exact e.elim
def JZ (r:MM)(mo:ME)(ma:MA):ME:=fun Z h Q=>mo Z h fun x h1=>yC h1 x (ma Z h1 fun xs h2=>r x xs h2 Q)
variable {o e:Expr}{es:List Expr}{mo:ME}{ma:MA}{name:Str}{apos cpos:Pos}{id:String}{r:V->List V->Hp->VK->Prop}{mr:MM}
theorem Xa (slot:Slot "list" name id)(hty:typeOf (.builtin id)=pure (.type "method_descriptor"))(hm:MtR X id r)(hs:V8 X.K r mr)(ho:DE X o mo)(ha:DAs X (e::es) ma)
  (hbase:attributeBase o name X.env (eval o X.env)=eval o X.env:=by rfl)
  (hfew:((backTo cpos (starEach (e::es) X.env)).all (fun x=>!x.1)&&(backToKw cpos (keywordEach [] X.env)).all (fun x=>x.1.isSome)
   && decide ((e::es).length+([]:List Keyword).length+(if ([]:List Keyword).isEmpty then 0 else 1)<30))=true:=by rfl)
  (hline:(apos.endLine==cpos.line)=true:=by rfl) (hst:starEach (e::es) X.env=(false,eval e X.env)::starEach es X.env:=by rfl) (hplain:(backTo cpos (starEach es X.env)).any (·.1)=false:=by rfl) :
  DE X (.Call (.Attribute o name apos) (e::es) [] cpos) (JZ mr mo ma):=(T8 PySem.F.plainAttrs_list slot hty hm ho ha hbase hfew hline hst hplain).of fun Z H Q ⟨μ,h,Zw,Qw,R,S,m,k⟩=>by
 refine ⟨μ,h,Zw,_,R,S,m,fun v H1 ⟨μ1,w,h1,e1,R1,r1,il⟩=>⟨(wK R1 r1 il).1,?_⟩⟩
 have m1:=(wK R1 r1 il).2
 exact ⟨μ1,h1,Zw,_,R1,S.ext e1,m1,fun vs H2 ⟨μ2,ws,h2,e2,R2,r2,m2⟩=>hs R2 (e2.r _ _ r1) r2 m2 fun v H' z=>k _ _ ((z.trans e2).trans e1)⟩
def fD:MM:=fun x ws h Q=>match x,ws with
 | .loc n,[w]=>(match h.c n with
  | some (.lst us)=>us.length<sizeLine/\Q .non (h.set n (.lst (us++[w])))
  | _=>False)
 | _,_=>False
theorem Pn {H:Hp}{μ : Mu}{h:Gh}{n:Nat}{v:V}{us:List W}(R:Rel K μ H h)(r:Rep K H μ (.loc n) v)(ec:h.c n=some (.lst us)):∃ p xs,v=.ref p/\μ.f n=some p/\H p=some (.lst xs)/\aJ K H μ us xs:=by
 rw [Rep] at r
 obtain ⟨p,ev,hm⟩:=r
 obtain ⟨p',xs,hm',hx,rs⟩:=R.lstAt ec
 have ep:p'=p:=by rw [hm] at hm';exact (Option.some.inj hm').symm
 subst ep
 exact ⟨p',xs,ev,hm,hx,rs⟩
theorem DQ.wrote {H:Hp}{μ : Mu}{h:Gh}{n:Nat}{p:Addr}{us:List W}{xs:List V}{Q:WK}{w:W}{v:V}(R:Rel K μ H h)(hm:μ.f n=some p)(rs:aJ K H μ us xs)(rw':Rep K H μ w v)(q:Q w (h.set n (.lst us))):DQ K H μ Q v (upd H p (.lst xs)):=
 ⟨μ,w,h.set n (.lst us),(Ex.write R hm).ext,R.write hm trivial ⟨xs,aV,(Ex.write R hm).ext.s rs⟩,(Ex.write R hm).ext.r _ _ rw',q⟩
theorem Hu:V8 K z6 fD:=by
 intro H μ h x vs wx ws Qw Q R rx rs m k
 unfold fD at m
 split at m
 ·split at m
  ·rename_i n w _ us ec
   obtain ⟨p,xs,ex,hm,hx,r1⟩:=Pn R rx ec
   obtain ⟨v,ev,rv⟩:=iH rs
   exact ⟨p,xs,v,ex,ev,hx,by rw [<-r1.len];exact m.1,k _ _ (.wrote R hm (r1.append (.one rv)) (by rw [Rep]) m.2)⟩
  ·exact m.elim
 ·exact m.elim
theorem lB (ho:DE X o mo)(ha:DAs X [e] ma)
  (hbase:attributeBase o "append" X.env (eval o X.env)=eval o X.env:=by rfl)
  (hfew:((backTo cpos (starEach [e] X.env)).all (fun x=>!x.1)&&(backToKw cpos (keywordEach [] X.env)).all (fun x=>x.1.isSome)
   && decide (([e]:List Expr).length+([]:List Keyword).length+(if ([]:List Keyword).isEmpty then 0 else 1)<30))=true:=by rfl)
  (hline:(apos.endLine==cpos.line)=true:=by rfl) (hst:starEach [e] X.env=(false,eval e X.env)::starEach [] X.env:=by rfl) (hplain:(backTo cpos (starEach [] X.env)).any (·.1)=false:=by rfl) :
  DE X (.Call (.Attribute o "append" apos) [e] [] cpos) (JZ fD mo ma):=Xa PySem.F.slot_list_append PySem.F.type_list_append sG Hu ho ha hbase hfew hline hst hplain
end
end L2
namespace L2
open PySem PySem.Spec PyProof.Rows
section
variable {X:Cx}{K:Yh}
theorem R6:OpR X (compareOp .Is) (fun x y H Q=>∃ c b,x=.bl c/\y=.bl b/\Q (.bl (c==b)) H):=by
 intro pins s Z H x y v u Q I rx ry ⟨c,b,ex,ey,q⟩
 subst ex ey
 cases rx
 cases ry
 exact is_bool (xM I q rfl)
def FT:W->Bool
 | .non=>true
 | _=>false
theorem K4 {H:Hp}{μ : Mu}{w:W}{v:V}(r:Rep K H μ w v):decide (v=.non)=FT w:=by
 cases w with
 | non=>rw [Rep] at r;subst r;rfl
 | bl _=>rw [Rep] at r;subst r;rfl
 | int _=>rw [Rep] at r;subst r;rfl
 | str _=>rw [Rep] at r;subst r;rfl
 | ty _=>rw [Rep] at r;subst r;rfl
 | tup _=>rw [Rep] at r;obtain ⟨_,_,e,_⟩:=r;subst e;rfl
 | lst _=>rw [Rep] at r;obtain ⟨_,_,e,_⟩:=r;subst e;rfl
 | kls _=>rw [Rep] at r;obtain ⟨_,_,e,_⟩:=r;subst e;rfl
 | loc _=>rw [Rep] at r;obtain ⟨_,e,_⟩:=r;subst e;rfl
 | exc _=>rw [Rep] at r;obtain ⟨_,_,_,e,_⟩:=r;subst e;rfl
 | exa _ _=>rw [Rep] at r;obtain ⟨_,_,_,_,_,_,e,_⟩:=r;subst e;rfl
 | fnv _ _=>rw [Rep] at r;subst r;rfl
def kIs:M2:=fun x y h Q=>match x,y with
 | .bl c,.bl b=>Q (.bl (c==b)) h
 | w,.non=>Q (.bl (FT w)) h
 | _,_=>False
def U9:M2:=fun x y h Q=>match x,y with
 | .bl c,.bl b=>Q (.bl (!(c==b))) h
 | w,.non=>Q (.bl (!FT w)) h
 | _,_=>False
theorem Xf:DOp X (compareOp .Is) kIs:=⟨_,R6.or O6,by
 intro H μ h x y wx wy Qw Q R rx ry m k
 unfold kIs at m
 split at m
 ·rw [Rep] at rx ry
  exact .inl ⟨_,_,rx,ry,k _ _ (.bl R m)⟩
 ·rw [<-K4 rx] at m
  rw [Rep] at ry
  exact .inr ⟨ry,k _ _ (.bl R m)⟩
 ·exact m.elim⟩
theorem oR (bs:List Bool):((List.range bs.length).any fun i=>(bs[i]?).getD true)=bs.any id:=by
 rw [Bool.eq_iff_iff,List.any_eq_true,List.any_eq_true]
 constructor
 ·rintro ⟨i,hi,e⟩
  have hi':=List.mem_range.mp hi
  exact ⟨bs[i],List.getElem_mem hi',by simpa [hi'] using e⟩
 ·rintro ⟨b,hb,e⟩
  obtain ⟨i,hi,rfl⟩:=List.mem_iff_getElem.mp hb
  exact ⟨i,List.mem_range.mpr hi,by simpa [hi] using e⟩
theorem Ae (hc:X.calm=true):iw X (.builtin "any") (fun xs H Q=>∃ (p:Addr) (bs:List Bool),xs=[.ref p]/\SqL X.K H p (bs.map V.bl)/\Q (.bl (bs.any id)) H):=by
 intro pins s Z H xs us Q I r ⟨p,bs,e,hS,q⟩
 subst e
 obtain ⟨u,rfl,ru⟩:=vals1 r
 cases ru
 obtain ⟨its,rv,pl,hz⟩:=I.list hS
 have hlen:its.length=bs.length:=by rw [<-rv.length,X6]
 have hl:=pl.isList
 have hlt:p<s.heap.objs.size:=by obtain ⟨_,e,_⟩:=hl;exact X4 e
 refine call_any_walk (wpAny_pyIter_list hl ?_)
 refine ⟨s.heap.objs.size,[s.heap.objs.size,p],[s.heap.objs.size],its.toArray.size,_,_,fun i=>(bs[i]?).getD true,rfl,Walks.list (A:=X.A.in1) (I.ok.hd hc) _ p (Yg hlt) its.toArray,
  ⟨⟨_,Heap.get?_push_size _ rfl,rfl,rfl⟩,hl.push _⟩,fun i v s' Q' E' hP hQ=>?_,fun h' tk hk=>?_⟩
 ·obtain ⟨b,e,rfl⟩:=iR rv (by simpa using hP)
  simp only [e,Option.getD_some] at hQ
  exact wpAny_truthy_bool hQ
 ·have e:((List.range its.toArray.size).any fun i=>(bs[i]?).getD true)=bs.any id:=by
   rw [Yb,hlen];exact oR bs
  rw [e]
  refine ⟨.bl (bs.any id),H,I.kept (h':=h') (t':=tk) (fun b x e=>?_),rfl,q⟩
  exact hk b x (fun hm=>by rw [List.mem_singleton.mp hm] at e;exact Nat.lt_irrefl _ (X4 e)) (Heap.get?_push_of_some _ e)
def Je:MC:=fun ws h Q=>match ws with
 | [w]=>(match dU h w with
  | some us=>(match Ei us with
   | some bs=>Q (.bl (bs.any id)) h
   | none=>False)
  | none=>False)
 | _=>False
theorem T6 (hc:X.calm=true):jM X (.builtin "any") Je:=⟨_,Ae hc,by
 intro H μ h vs ws Qw Q R r m k
 unfold Je at m
 split at m
 ·split at m
  ·split at m
   ·rename_i w _ us ev _ bs eb
    obtain ⟨v,e,rv⟩:=iH r
    obtain ⟨p,ys,ex,hs,rs⟩:=cG R rv ev
    subst e ex
    exact ⟨p,bs,rfl,by rw [<-qI rs eb];exact hs,k _ _ (.bl R m)⟩
   ·exact m.elim
  ·exact m.elim
 ·exact m.elim⟩
def oF:W->Bool
 | .non=>true
 | .bl _=>true
 | .int _=>true
 | .str _=>true
 | _=>false
theorem Ii {H:Hp}{μ : Mu}{w:W}{v:V}(r:Rep K H μ w v)(f:oF w=true):oh v=true:=by
 cases w <;> first | (rw [Rep] at r;subst r;rfl) | cases f
theorem Ab {H:Hp}{μ : Mu}:∀ {ws:List W} {vs:List V},aJ K H μ ws vs->ws.all oF=true->vs.all oh=true
 | [],_,r,_=>by rw [aJ] at r;subst r;rfl
 | w::ws,_,r,f=>by
  rw [aJ] at r
  obtain ⟨v,vs,e,r1,r2⟩:=r
  subst e
  rw [List.all_cons,Bool.and_eq_true] at f |-
  exact ⟨Ii r1 f.1,Ab r2 f.2⟩
theorem Xv {H:Hp}{μ : Mu}{w u:W}{v x:V}(r:Rep K H μ w v)(q:Rep K H μ u x)(f:oF w=true)(g:oF u=true):eqV v x=eqW w u:=by
 cases w <;> cases u <;> first
  | (rw [Rep] at r;rw [Rep] at q;subst r;subst q;rfl)
  | (cases f;done)
  | (cases g;done)
theorem QW {H:Hp}{μ : Mu}{u:W}{x:V}(q:Rep K H μ u x)(g:oF u=true):∀ {ws:List W} {vs:List V},aJ K H μ ws vs->ws.all oF=true->inV x vs=ws.any fun w=>eqW w u
 | [],_,r,_=>by rw [aJ] at r;subst r;rfl
 | w::ws,_,r,f=>by
  rw [aJ] at r
  obtain ⟨v,vs,e,r1,r2⟩:=r
  subst e
  rw [List.all_cons,Bool.and_eq_true] at f
  have:=QW q g r2 f.2
  unfold inV at this |-
  rw [List.any_cons,List.any_cons,this,Xv r1 q f.1 g]
def kIn:M2:=fun x y h Q=>match view h y with
 | some ws=>by2 (oF x&&ws.all oF) (Q (.bl (ws.any fun w=>eqW w x)) h) False
 | none=>False
theorem Wa:DOp X (compareOp .In) kIn:=⟨_,zH,by
 intro H μ h x y wx wy Qw Q R rx ry m k
 unfold kIn at m
 split at m
 ·rename_i ws ev
  obtain ⟨p,xs,ey,hs,rs⟩:=m9 R ry ev
  cases hp:(oF wx&&ws.all oF) with
  | true=>
   rw [hp] at m
   rw [Bool.and_eq_true] at hp
   exact ⟨p,xs,ey,hs,Ii rx hp.1,Ab rs hp.2,k _ _ (by rw [if_neg Bool.false_ne_true,QW rx hp.1 rs hp.2];exact .bl R m)⟩
  | false=>rw [hp] at m;exact (show False from m).elim
 ·exact m.elim⟩
theorem Gy:OpR X (binaryOp .Add) (fun x y H Q=>∃ a b ys,x=.ref a/\y=.ref b/\SqT X.K H a []/\SqT X.K H b ys/\Q (.ref b) H):=by
 intro pins s Z H x y v u Q I rx ry ⟨a,b,ys,ex,ey,ha,hb,q⟩
 subst ex ey
 cases rx
 cases ry
 obtain ⟨its,r1,p1,_⟩:=I.tuple ha
 obtain ⟨jts,r2,p2,_⟩:=I.tuple hb
 cases r1
 obtain ⟨⟨cls,dd,data,sl⟩,ho,hc,n,hd⟩:=id p1
 obtain ⟨⟨cls2,dd2,data2,sl2⟩,ho2,hc2,n2,hd2⟩:=id p2
 simp only at hc hd hc2 hd2
 subst hc hd hc2 hd2
 exact concat_meets ⟨_,ho,rfl⟩ ⟨_,ho2,rfl⟩ noFill_tuple_add seq_tuple_add PySem.F.slot_tuple_add PySem.F.entry_tuple_add (PySem.F.args_tuple_add_2 _ _)
  (tuple_addW0 a b _ _ n n2 dd dd2 sl sl2 (by simp)) ⟨ho,ho2,⟨.ref b,H,I,rfl,q⟩⟩
def SQ (h:Gh):W->Option (List W)
 | .lst ws=>some ws
 | .loc n=>(match h.c n with
  | some (.lst ws)=>some ws
  | _=>none)
 | _=>none
theorem Dd {H:Hp}{μ : Mu}{h:Gh}{w:W}{v:V}{ws:List W}(R:Rel K μ H h)(r:Rep K H μ w v)(e:SQ h w=some ws):∃ p xs,v=.ref p/\H p=some (.lst xs)/\aJ K H μ ws xs:=by
 cases w with
 | lst us=>
  rw [Rep] at r
  obtain ⟨p,xs,ev,hs,rs⟩:=r
  cases (show some us=some ws from e)
  exact ⟨p,xs,ev,hs.1,rs⟩
 | loc n=>
  unfold SQ at e
  dsimp only at e
  cases ec:h.c n with
  | none=>rw [ec] at e;cases e
  | some cl=>
   rw [ec] at e
   cases cl with
   | lst us=>
    cases (show some us=some ws from e)
    obtain ⟨p,xs,ev,_,hx,rs⟩:=Pn R r ec
    exact ⟨p,xs,ev,hx,rs⟩
   | _=>cases e
 | _=>cases e
def cg:M2:=fun x y h Q=>match x,y with
 | .int i,.int j=>Q (.int (i+j)) h
 | .tup [],.tup b=>Q (.tup b) h
 | .tup (a0::a),.tup b=>fW (a.length+1+b.length) (Q (.tup (a0::a++b)) h)
 | x,y=>(match SQ h x,SQ h y with
  | some a,some b=>fW (a.length+b.length) (Q (.lst (a++b)) h)
  | _,_=>False)
theorem bM:DOp X (binaryOp .Add) cg:=⟨_,(PK.or (Gy.or K6)).or NP,by
 intro H μ h x y wx wy Qw Q R rx ry m k
 unfold cg at m
 split at m
 ·rw [Rep] at rx ry
  exact .inl (.inl ⟨_,_,rx,ry,k _ _ (.int R m)⟩)
 ·rename_i b
  have ry':=ry
  rw [Rep] at rx ry
  obtain ⟨p,xs,ex,hx,r1⟩:=rx
  obtain ⟨q,ys,ey,hy,r2⟩:=ry
  rw [aJ] at r1
  subst r1
  rw [ey] at ry'
  exact .inl (.inr (.inl ⟨p,q,ys,ex,ey,hx,hy,k _ _ ⟨μ,_,h,.refl,R,ry',m⟩⟩))
 ·rename_i a0 a b
  have rx':=rx
  rw [Rep] at rx ry
  obtain ⟨p,xs,ex,hx,r1⟩:=rx
  obtain ⟨q,ys,ey,hy,r2⟩:=ry
  have sz:=m.ok.1
  refine .inl (.inr (.inr ⟨p,q,xs,ys,ex,ey,hx,hy,fun z=>(by have:=r1.ne_nil.mp z;cases this),by rw [<-r1.len,<-r2.len];exact sz,fun z=>?_,fun z l hl=>?_⟩))
  ·have eb:b=[]:=r2.ne_nil.mp z
   subst eb
   refine k _ _ ⟨μ,.tup (a0::a++[]),h,.refl,R,?_,m.ok.2⟩
   rw [List.append_nil,<-ex]
   exact rx'
  ·exact k _ _ ⟨μ,_,h,(Ex.laid hl).ext,R.laid hl,.tupNew hl (r1.append r2),m.ok.2⟩
 ·split at m
  ·rename_i a b ea eb
   obtain ⟨p,xs,ex,hx,r1⟩:=Dd R rx ea
   obtain ⟨q,ys,ey,hy,r2⟩:=Dd R ry eb
   have sz:=m.ok.1
   exact .inr ⟨p,q,xs,ys,ex,ey,hx,hy,by rw [<-r1.len,<-r2.len];exact sz,fun l hl=>k _ _ ⟨μ,_,h,(Ex.laid hl).ext,R.laid hl,.lstNew R hl (r1.append r2),m.ok.2⟩⟩
  ·exact m.elim⟩
variable {o e:Expr}{mo:ME}{ma:MA}{apos cpos:Pos}
end
end L2
namespace L2
open PySem PySem.Spec PyProof.Rows
def Hv (K:Yh):Sp:=fun vs H Q _=>∃ (a:Addr) (ns:List Int),vs=[.ref a]/\SqL K H a (ns.map V.int)/\Only H/\ns.length<=63/\∀ H',Q (.bl true) H'
def g0:Gh:=⟨0,fun _=>none⟩
def μ0:Mu:=⟨fun _=>none,fun _=>False⟩
theorem Wj {K:Yh}{H:Hp}:Rel K μ0 H g0 where
 inj:=fun m n p h=>by cases (show (none:Option Addr)=some p from h)
 dom:=fun n p h=>by cases (show (none:Option Addr)=some p from h)
 trk:=fun n p h=>by cases (show (none:Option Addr)=some p from h)
 cel:=fun n c h=>by cases (show (none:Option Cell)=some c from h)
 hd:=fun p h=>False.elim h
theorem nA {K:Yh}{H:Hp}{μ : Mu}:∀ ns:List Int,aJ K H μ (ns.map W.int) (ns.map V.int)
 | []=>.nil
 | n::ns=>.cons (by rw [Rep]) (nA ns)
theorem Li {P:Program}{w:World}{K:Yh}{mg:Str->Option Value}{base:Heap}{k:Nat}{f:Addr}{fd:FuncData}{ps:List Str}{ms:MSp}
  (hm:∀ ns:List Int,ns.length<=63->ms [.kls (ns.map W.int)] g0 (fun w _=>w=.bl true) EF) (F:d9 P w K mg base CX0 k f fd ps (lift K ms)):d9 P w K mg base CX0 k f fd ps (Hv K):=
 F.imp fun vs H Q E ⟨a,ns,e,hS,hO,hl,q⟩=>by
  subst e
  refine ⟨μ0,g0,[.kls (ns.map W.int)],_,Wj,.one ?_,hm ns hl,fun v H' ⟨μ',w',h',_,_,r,e⟩=>?_⟩
  ·rw [Rep]
   refine ⟨a,ns.map V.int,rfl,?_,nA ns⟩
   rcases hS with (hS | hS) | hS
   ·rcases hO a with z | ⟨o,xs,z⟩ <;> rw [hS] at z <;> cases z
   ·exact .inl hS
   ·exact .inr hS
  ·subst e
   rw [Rep] at r
   subst r
   exact q H'
end L2
namespace L2
open PySem PySem.Spec PyProof.Rows
inductive Sk where
 | l | t
def Sk.sq (k:Sk)(h:Heap)(a:Addr)(its:Array Value):Prop:=match k with
 | .l=>h.IsList a its
 | .t=>h.IsTuple a its
def Sk.it (k:Sk)(h:Heap)(i a:Addr)(n:Nat):Prop:=match k with
 | .l=>h.IsListIter i a n
 | .t=>h.IsTupleIter i a n
def Sk.nm:Sk->String
 | .l => "list_iterator"
 | .t => "tuple_iterator"
section
variable {P:Program}{w:World}{A:Around}{E:Value->Shared->Prop}{s:Shared}{k k1 k2:Sk}
theorem Sk.it_at {h h':Heap}{i a:Addr}{n:Nat}(x:k.it h i a n)(e:∀ o,h.get? i=some o->h'.get? i=some o):k.it h' i a n:=by
 cases k with
 | l=>obtain ⟨o,ho,r⟩:=x;exact ⟨o,e o ho,r⟩
 | t=>obtain ⟨o,ho,r⟩:=x;exact ⟨o,e o ho,r⟩
theorem Sk.sq_at {h h':Heap}{a:Addr}{its:Array Value}(x:k.sq h a its)(e:∀ o,h.get? a=some o->h'.get? a=some o):k.sq h' a its:=by
 cases k with
 | l=>obtain ⟨o,ho,r⟩:=x;exact ⟨o,e o ho,r⟩
 | t=>obtain ⟨o,ho,r⟩:=x;exact ⟨o,e o ho,r⟩
theorem Sk.it_obj {h:Heap}{i a:Addr}{n:Nat}(x:k.it h i a n):∃ o,h.get? i=some o/\o.cls=.type k.nm/\o.data=.fields #[.ref a,.int n 0]:=by
 cases k with
 | l=>exact x
 | t=>exact x
theorem Gq {it t:Addr}{i:Nat}{its:Array Value}{x:Value}{Q:Value->Shared->Prop}(hi:s.heap.IsTupleIter it t i)(ht:s.heap.IsTuple t its)(hx:its[i]?=some x)
  (q:∀ h',h'.IsTupleIter it t (i+1)->Heap.SameBut it s.heap h'->Q x { s with heap:=h' }):wpAny (model P w) A (Builtin.SmallTypes.nextOf (.ref it)) Q E s:=by
 obtain ⟨o,go,gc,gd⟩:=id hi
 obtain ⟨ol,gol,_,nl,gdl⟩:=ht
 unfold Builtin.SmallTypes.nextOf
 refine XS (wpAny_callSpecial?_slot (name:=Str.ofString "__next__") hi.typeIs PySem.F.slot_tuple_iterator_next
  (wpAny_call_entry PySem.F.slot_tuple_iterator_next hi.typeIs PySem.F.entry_tuple_iterator_next ?_ (PySem.F.args_tuple_iterator_next_1 _)))
 show wpAny _ _ (field (.ref it) 0 >>= _) _ _ s
 refine XS (wpAny_field go gd (x:=.ref t) rfl ?_)
 show wpAny _ _ (if (Value.ref t==Value.none)=true then _ else _) _ _ s
 rw [if_neg (by exact Bool.false_ne_true)]
 show wpAny _ _ (field (.ref it) 1 >>= _) _ _ s
 refine XS (wpAny_field go gd (x:=.int i 0) rfl ?_)
 show wpAny _ _ (seqItems? (.ref t) >>= _) _ _ s
 refine XS (wpAny_seqItems gol gdl ?_)
 simp only [Int.toNat_natCast,hx]
 refine XS (wpAny_setField go gd (by simp) (X3 ⟨x,rfl,X3 (q _ ?_ (Heap.SameBut.update ..))⟩))
 exact ⟨_,Heap.get?_update_self _ go (Obj.isFreed_of_fields (Obj.data_mapFields gd _)),(Obj.cls_mapFields ..).trans gc,by rw [Obj.data_mapFields gd];simp [rawInt]⟩
theorem sJ {it t:Addr}{i:Nat}{its:Array Value}{Q:Value->Shared->Prop}(hh:A.handled=none)(hi:s.heap.IsTupleIter it t i)(ht:s.heap.IsTuple t its)(hx:its[i]?=none)
  (q:∀ h' e,Heap.ExtBut it s.heap h'->(∃ o,h'.get? e=some o/\o.cls=.type "StopIteration")->E (.ref e) { s with heap:=h' }):wpAny (model P w) A (Builtin.SmallTypes.nextOf (.ref it)) Q E s:=by
 obtain ⟨o,go,gc,gd⟩:=id hi
 obtain ⟨ol,gol,_,nl,gdl⟩:=ht
 unfold Builtin.SmallTypes.nextOf
 refine XS (wpAny_callSpecial?_slot (name:=Str.ofString "__next__") hi.typeIs PySem.F.slot_tuple_iterator_next
  (wpAny_call_entry PySem.F.slot_tuple_iterator_next hi.typeIs PySem.F.entry_tuple_iterator_next ?_ (PySem.F.args_tuple_iterator_next_1 _)))
 show wpAny _ _ (field (.ref it) 0 >>= _) _ _ s
 refine XS (wpAny_field go gd (x:=.ref t) rfl ?_)
 show wpAny _ _ (if (Value.ref t==Value.none)=true then _ else _) _ _ s
 rw [if_neg (by exact Bool.false_ne_true)]
 show wpAny _ _ (field (.ref it) 1 >>= _) _ _ s
 refine XS (wpAny_field go gd (x:=.int i 0) rfl ?_)
 show wpAny _ _ (seqItems? (.ref t) >>= _) _ _ s
 refine XS (wpAny_seqItems gol gdl ?_)
 simp only [Int.toNat_natCast,hx]
 refine XS (wpAny_rule (XS (wpAny_setField go gd (by simp) ?_)))
 show wpAny _ _ (newExc (.type "StopIteration") [] >>= _) _ _ _
 refine XS ?_
 simp only [newExc,newTuple]
 refine XS (wpAny_newObj_type ?_ (by size_fits))
 refine XS (m:=firstArgMember _ _) (wpAny_of_eq (a:=Value.none) (by first | rfl | (simp only [firstArgMember];rfl)) ?_)
 refine wpAny_newObj_type ?_ (by size_fits)
 simp only [raiseNew]
 refine XS (wpAny_handled ?_)
 first | rw [show A.in1.handled=none from hh] | rw [hh]
 refine XS (X3 (wpAny_throw ?_))
 exact q _ _ (((Heap.SameBut.update ..).extBut.push _).push _) ⟨_,Heap.get?_push_size _ rfl,rfl⟩
theorem Sk.next {it a:Addr}{i:Nat}{its:Array Value}{x:Value}{Q:Value->Shared->Prop}(hi:k.it s.heap it a i)(hs:k.sq s.heap a its)(hx:its[i]?=some x)
  (q:∀ h',k.it h' it a (i+1)->Heap.SameBut it s.heap h'->Q x { s with heap:=h' }):wpAny (model P w) A (Builtin.SmallTypes.nextOf (.ref it)) Q E s:=by
 cases k with
 | l=>exact wpAny_nextOf_list_item hi hs hx q
 | t=>exact Gq hi hs hx q
theorem Sk.stop {it a:Addr}{i:Nat}{its:Array Value}{Q:Value->Shared->Prop}(hh:A.handled=none)(hi:k.it s.heap it a i)(hs:k.sq s.heap a its)(hx:its[i]?=none)
  (q:∀ h' e,Heap.ExtBut it s.heap h'->(∃ o,h'.get? e=some o/\o.cls=.type "StopIteration")->E (.ref e) { s with heap:=h' }):wpAny (model P w) A (Builtin.SmallTypes.nextOf (.ref it)) Q E s:=by
 cases k with
 | l=>exact wpAny_nextOf_list_end hh hi hs hx q
 | t=>exact sJ hh hi hs hx q
theorem Sk.iter {a:Addr}{its:Array Value}{Q:Value->Shared->Prop}(hs:k.sq s.heap a its)
  (q:Q (.ref s.heap.objs.size) { s with heap:=s.heap.push { cls:=.type k.nm,data:=.fields #[.ref a,.int 0 0] } }):wpAny (model P w) A (pyIter (.ref a)) Q E s:=by
 cases k with
 | l=>exact wpAny_pyIter_list hs q
 | t=>exact wpAny_pyIter_tuple hs q
structure Zap (z TI TO i1 i2:Addr):Prop where
 a1:TI≠z
 a2:TO≠z
 a3:i1≠z
 a4:i2≠z
 a5:TI≠TO
 a6:TI≠i1
 a7:TI≠i2
 a8:TO≠i1
 a9:TO≠i2
 b1:i1≠i2
structure Off (a z TO i1 i2:Addr):Prop where
 z:a≠z
 o:a≠TO
 i:a≠i1
 j:a≠i2
theorem HB {z TI TO i1 i2 l1 l2:Addr}{n1 n2:Nat}{xs ys:Array Value}{x y a b:Value}{Q:Option Value->Shared->Prop}(D:Zap z TI TO i1 i2)(o1:Off l1 z TO i1 i2)(o2:Off l2 z TO i1 i2)
  (gz:IsZip s.heap z TI TO .none) (gI:IsPair s.heap TI (.ref i1) (.ref i2)) (gO:IsPair s.heap TO a b) (g1:k1.it s.heap i1 l1 n1) (g2:k2.it s.heap i2 l2 n2) (gx:k1.sq s.heap l1 xs) (gy:k2.sq s.heap l2 ys)
  (hx:xs[n1]?=some x) (hy:ys[n2]?=some y)
  (q:∀ h',IsZip h' z TI TO (rawInt s.heap.objs.size)->IsPair h' TO x y->k1.it h' i1 l1 (n1+1)->k2.it h' i2 l2 (n2+1)->IsPair h' s.heap.objs.size x y->h'.objs.size=s.heap.objs.size+1 ->
   (∀ c o,c≠z->c≠TO->c≠i1->c≠i2->s.heap.get? c=some o->h'.get? c=some o)->Q (some (.ref s.heap.objs.size)) { s with heap:=h' }) :
  wpAny (model P w) A (pyNext (.ref z)) Q E s:=by
 have gT:s.TypeIs (.ref z) "zip":=⟨_,gz,rfl⟩
 unfold pyNext
 refine XS (wpAny_attempt (wpAny_callSpecial?_slot (name:=Str.ofString "__next__") gT PySem.F.slot_zip_next (wpAny_call_entry PySem.F.slot_zip_next gT PySem.F.entry_zip_next ?_ (PySem.F.args_zip_next_1 _))))
 show wpAny _ _ (field (.ref z) 2 >>= _) _ _ _
 refine XS (wpAny_field gz rfl (x:=.bool false) rfl ?_)
 show wpAny _ _ (field (.ref z) 3 >>= _) _ _ _
 refine XS (wpAny_field gz rfl (x:=.ref TI) rfl ?_)
 refine XS (wpAny_seqItems gI rfl ?_)
 show wpAny _ _ (Builtin.SmallTypes.ownedTupleIsFree (.ref z) >>= _) _ _ _
 refine XS ?_
 unfold Builtin.SmallTypes.ownedTupleIsFree
 refine XS (wpAny_field gz rfl (x:=.none) rfl (X3 ?_))
 simp only [if_true]
 refine XS (wpAny_rule ?_)
 refine XS (wpAny_field gz rfl (x:=.ref TO) rfl ?_)
 refine XS (wpAny_setField_rec gz (by simp) fun h₁ z₁ s₁=>?_)
 replace z₁ : IsZip h₁ z TI TO .ellipsis:=z₁
 refine XS ?_
 simp only [List.zipIdx_cons,List.zipIdx_nil,List.forIn_cons,List.forIn_nil]
 -- the first one
 refine XS (XS (wpAny_onRaise ?_))
 show wpAny _ _ (Builtin.SmallTypes.nextOf (.ref i1) >>= _) _ _ _
 refine XS (Sk.next (k:=k1) (s:={ s with heap:=h₁ }) (Sk.it_at g1 fun o e=>s₁.extBut _ o D.a3 e) (Sk.sq_at gx fun o e=>s₁.extBut _ o o1.z e) hx fun h₂ g1₂ s₂=>X3 ?_)
 have gO₂ : IsPair h₂ TO a b:=s₂.extBut _ _ D.a8 (s₁.extBut _ _ D.a2 gO)
 refine XS (wpAny_seqItems gO₂ rfl ?_)
 refine XS (wpAny_updateSeq_pair gO₂ fun h₃ gO₃ s₃=>?_)
 replace gO₃ : IsPair h₃ TO x b:=gO₃
 refine XS (wpAny_letGo (X3 ?_))
 -- the second one
 refine XS (XS (wpAny_onRaise ?_))
 show wpAny _ _ (Builtin.SmallTypes.nextOf (.ref i2) >>= _) _ _ _
 refine XS (Sk.next (k:=k2) (s:={ s with heap:=h₃ }) (Sk.it_at g2 fun o e=>s₃.extBut _ o D.a9.symm (s₂.extBut _ o D.b1.symm (s₁.extBut _ o D.a4 e)))
  (Sk.sq_at gy fun o e=>s₃.extBut _ o o2.o (s₂.extBut _ o o2.i (s₁.extBut _ o o2.z e))) hy fun h₄ g2₄ s₄=>X3 ?_)
 have gO₄ : IsPair h₄ TO x b:=s₄.extBut _ _ D.a9 gO₃
 refine XS (wpAny_seqItems gO₄ rfl ?_)
 refine XS (wpAny_updateSeq_pair gO₄ fun h₅ gO₅ s₅=>?_)
 replace gO₅ : IsPair h₅ TO x y:=gO₅
 refine XS (wpAny_letGo (X3 (X3 ?_)))
 -- the pair is handed out
 refine XS (wpAny_seqItems gO₅ rfl ?_)
 refine XS (wpAny_newTuple ?_)
 have size:h₅.objs.size=s.heap.objs.size:=by rw [s₅.1,s₄.1,s₃.1,s₂.1,s₁.1]
 have z₅ : IsZip h₅ z TI TO .ellipsis:=s₅.extBut _ _ D.a2.symm (s₄.extBut _ _ D.a4.symm (s₃.extBut _ _ D.a2.symm (s₂.extBut _ _ D.a3.symm z₁)))
 have all₅ : ∀ c o,c≠z->c≠TO->c≠i1->c≠i2->s.heap.get? c=some o->h₅.get? c=some o:=fun c o c1 c2 c3 c4 e=>s₅.extBut _ _ c2 (s₄.extBut _ _ c4 (s₃.extBut _ _ c2 (s₂.extBut _ _ c3 (s₁.extBut _ _ c1 e))))
 have g1₅ : k1.it h₅ i1 l1 (n1+1):=Sk.it_at g1₂ fun o e=>s₅.extBut _ o D.a8.symm (s₄.extBut _ o D.b1 (s₃.extBut _ o D.a8.symm e))
 have g2₅ : k2.it h₅ i2 l2 (n2+1):=Sk.it_at g2₄ fun o e=>s₅.extBut _ o D.a9.symm e
 have zlt:z<h₅.objs.size:=X4 z₅
 show wpAny _ _ (Builtin.SmallTypes.ownedTupleHandOut (.ref z) (.ref h₅.objs.size) >>= _) _ _ _
 refine XS ?_
 unfold Builtin.SmallTypes.ownedTupleHandOut
 have z₆ : IsZip (h₅.push { cls:=.type "tuple",data:=.seq #[x,y] }) z TI TO .ellipsis:=Heap.get?_push_of_some _ z₅
 refine XS (wpAny_setField_rec z₆ (by simp) fun h₇ z₇ s₇=>?_)
 replace z₇ : IsZip h₇ z TI TO (rawInt h₅.objs.size):=z₇
 refine wpAny_setField_rec z₇ (by simp) fun h₈ z₈ s₈=>?_
 replace z₈ : IsZip h₈ z TI TO (rawInt h₅.objs.size):=z₈
 have up:∀ c o,c≠z->h₅.get? c=some o->h₈.get? c=some o:=fun c o c1 e=>s₈.extBut _ _ c1 (s₇.extBut _ _ c1 (Heap.get?_push_of_some _ e))
 have T₈ : IsPair h₈ h₅.objs.size x y:=s₈.extBut _ _ (Nat.ne_of_gt zlt) (s₇.extBut _ _ (Nat.ne_of_gt zlt) (Heap.get?_push_size _ rfl))
 have size8:h₈.objs.size=h₅.objs.size+1:=by rw [s₈.1,s₇.1,Heap.size_push]
 rw [size] at z₈ T₈ size8
 refine X3 ⟨_,rfl,X3 ?_⟩
 show Q (some (.ref h₅.objs.size)) _
 rw [size]
 exact q h₈ z₈ (up _ _ D.a2 gO₅) (Sk.it_at g1₅ fun o e=>up _ o D.a3 e) (Sk.it_at g2₅ fun o e=>up _ o D.a4 e) T₈ size8 fun c o c1 c2 c3 c4 e=>up c o c1 (all₅ c o c1 c2 c3 c4 e)
theorem Em {z TI TO i1 i2 l1 l2:Addr}{n1 n2:Nat}{xs ys:Array Value}{a b:Value}{Q:Option Value->Shared->Prop}(hh:A.handled=none)(D:Zap z TI TO i1 i2)(o1:Off l1 z TO i1 i2)(o2:Off l2 z TO i1 i2)
  (gz:IsZip s.heap z TI TO .none) (gI:IsPair s.heap TI (.ref i1) (.ref i2)) (gO:IsPair s.heap TO a b) (g1:k1.it s.heap i1 l1 n1) (g2:k2.it s.heap i2 l2 n2) (gx:k1.sq s.heap l1 xs) (gy:k2.sq s.heap l2 ys)
  (hend:xs[n1]?=none\/ys[n2]?=none)
  (q:∀ h',(∀ c o,c≠z->c≠TO->c≠i1->c≠i2->s.heap.get? c=some o->h'.get? c=some o)->Q none { s with heap:=h' }):wpAny (model P w) A (pyNext (.ref z)) Q E s:=by
 have gT:s.TypeIs (.ref z) "zip":=⟨_,gz,rfl⟩
 have fin:∀ (h':Heap) (e:Addr),(∀ c o,c≠z->c≠TO->c≠i1->c≠i2->s.heap.get? c=some o->h'.get? c=some o)->(∃ o,h'.get? e=some o/\o.cls=.type "StopIteration") ->
   wpAny (model P w) A (do if <-isInstance (.ref e) (.type "StopIteration") then pure none else throw (.ref e)) Q E { s with heap:=h' }:=fun h' e all ⟨o,ho,hc⟩=>
  XS (wpAny_isInstance (T := "StopIteration") (b:=true) ⟨o,ho,hc⟩ isSubtype_stop (X3 (q _ all)))
 unfold pyNext
 refine XS (wpAny_attempt (wpAny_callSpecial?_slot (name:=Str.ofString "__next__") gT PySem.F.slot_zip_next (wpAny_call_entry PySem.F.slot_zip_next gT PySem.F.entry_zip_next ?_ (PySem.F.args_zip_next_1 _))))
 show wpAny _ _ (field (.ref z) 2 >>= _) _ _ _
 refine XS (wpAny_field gz rfl (x:=.bool false) rfl ?_)
 show wpAny _ _ (field (.ref z) 3 >>= _) _ _ _
 refine XS (wpAny_field gz rfl (x:=.ref TI) rfl ?_)
 refine XS (wpAny_seqItems gI rfl ?_)
 show wpAny _ _ (Builtin.SmallTypes.ownedTupleIsFree (.ref z) >>= _) _ _ _
 refine XS ?_
 unfold Builtin.SmallTypes.ownedTupleIsFree
 refine XS (wpAny_field gz rfl (x:=.none) rfl (X3 ?_))
 simp only [if_true]
 refine XS (wpAny_rule ?_)
 refine XS (wpAny_field gz rfl (x:=.ref TO) rfl ?_)
 refine XS (wpAny_setField_rec gz (by simp) fun h₁ z₁ s₁=>?_)
 replace z₁ : IsZip h₁ z TI TO .ellipsis:=z₁
 refine XS ?_
 simp only [List.zipIdx_cons,List.zipIdx_nil,List.forIn_cons,List.forIn_nil]
 refine XS (XS (wpAny_onRaise ?_))
 show wpAny _ _ (Builtin.SmallTypes.nextOf (.ref i1) >>= _) _ _ _
 have g1₁ : k1.it h₁ i1 l1 n1:=Sk.it_at g1 fun o e=>s₁.extBut _ o D.a3 e
 have gx₁ : k1.sq h₁ l1 xs:=Sk.sq_at gx fun o e=>s₁.extBut _ o o1.z e
 cases hx:xs[n1]? with
 | none=>
  refine XS (Sk.stop (k:=k1) (s:={ s with heap:=h₁ }) hh g1₁ gx₁ hx fun h₂ e s₂ he=>?_)
  obtain ⟨oe,hoe,hce⟩:=he
  have z₂ : IsZip h₂ z TI TO .ellipsis:=s₂ _ _ D.a3.symm z₁
  have ez:e≠z:=fun y=>by subst y;rw [z₂] at hoe;cases hoe;simp at hce
  refine wpAny_setField_rec z₂ (by simp) fun h₃ _ s₃=>fin h₃ e (fun c o c1 _ c3 _ y=>s₃.extBut _ _ c1 (s₂ _ _ c3 (s₁.extBut _ _ c1 y))) ⟨oe,s₃.extBut _ _ ez hoe,hce⟩
 | some x=>
  have hy:ys[n2]?=none:=by
   rcases hend with h | h
   ·rw [hx] at h;cases h
   ·exact h
  refine XS (Sk.next (k:=k1) (s:={ s with heap:=h₁ }) g1₁ gx₁ hx fun h₂ g1₂ s₂=>X3 ?_)
  have gO₂ : IsPair h₂ TO a b:=s₂.extBut _ _ D.a8 (s₁.extBut _ _ D.a2 gO)
  refine XS (wpAny_seqItems gO₂ rfl ?_)
  refine XS (wpAny_updateSeq_pair gO₂ fun h₃ gO₃ s₃=>?_)
  refine XS (wpAny_letGo (X3 ?_))
  refine XS (XS (wpAny_onRaise ?_))
  show wpAny _ _ (Builtin.SmallTypes.nextOf (.ref i2) >>= _) _ _ _
  refine XS (Sk.stop (k:=k2) (s:={ s with heap:=h₃ }) hh (Sk.it_at g2 fun o e=>s₃.extBut _ o D.a9.symm (s₂.extBut _ o D.b1.symm (s₁.extBut _ o D.a4 e)))
   (Sk.sq_at gy fun o e=>s₃.extBut _ o o2.o (s₂.extBut _ o o2.i (s₁.extBut _ o o2.z e))) hy fun h₄ e s₄ he=>?_)
  obtain ⟨oe,hoe,hce⟩:=he
  have z₄ : IsZip h₄ z TI TO .ellipsis:=s₄ _ _ D.a4.symm (s₃.extBut _ _ D.a2.symm (s₂.extBut _ _ D.a3.symm z₁))
  have ez:e≠z:=fun y=>by subst y;rw [z₄] at hoe;cases hoe;simp at hce
  refine wpAny_setField_rec z₄ (by simp) fun h₅ _ s₅=>fin h₅ e (fun c o c1 c2 c3 c4 y=>s₅.extBut _ _ c1 (s₄ _ _ c4 (s₃.extBut _ _ c2 (s₂.extBut _ _ c3 (s₁.extBut _ _ c1 y))))) ⟨oe,s₅.extBut _ _ ez hoe,hce⟩
abbrev zh1 (k1:Sk)(h:Heap)(l1:Addr):Heap:=h.push { cls:=.type k1.nm,data:=.fields #[.ref l1,.int 0 0] }
abbrev zh2 (k1 k2:Sk)(h:Heap)(l1 l2:Addr):Heap:=(zh1 k1 h l1).push { cls:=.type k2.nm,data:=.fields #[.ref l2,.int 0 0] }
abbrev zh3 (k1 k2:Sk)(h:Heap)(l1 l2:Addr):Heap:=(zh2 k1 k2 h l1 l2).push { cls:=.type "tuple",data:=.seq #[.ref h.objs.size,.ref (zh1 k1 h l1).objs.size] }
abbrev zh4 (k1 k2:Sk)(h:Heap)(l1 l2:Addr):Heap:=(zh3 k1 k2 h l1 l2).push { cls:=.type "tuple",data:=.seq #[.none,.none] }
abbrev zh5 (k1 k2:Sk)(h:Heap)(l1 l2:Addr):Heap:=(zh4 k1 k2 h l1 l2).push { cls:=.type "zip",data:=.fields #[.none,.bool false,.bool false,.ref (zh2 k1 k2 h l1 l2).objs.size,.ref (zh3 k1 k2 h l1 l2).objs.size] }
theorem Kw (l1 l2:Addr)(xs ys:Array Value):Meets (Builtin.«zip.__new__» ⟨[.type "zip",.ref l1,.ref l2],[]⟩) (fun _ R s=>k1.sq s.heap l1 xs/\k2.sq s.heap l2 ys /\
   R (.ok (.ret (.ref (zh4 k1 k2 s.heap l1 l2).objs.size))) { s with heap:=zh5 k1 k2 s.heap l1 l2 }):=
 .of_wp fun prog w A R s h=>by
  obtain ⟨hp,g,d,tk,os⟩:=s;obtain ⟨gl1,gl2,h⟩:=h
  have hsub:=sub_zip
  have L1:k1.sq (Shared.heap ⟨hp,g,d,tk,os⟩) l1 xs:=gl1
  have L2':k2.sq (Shared.heap ⟨hp.push { cls:=.type k1.nm,data:=.fields #[.ref l1,.int 0 0] },g,d,tk,os⟩) l2 ys:=Sk.sq_at gl2 fun o e=>Heap.get?_push_of_some _ e
  wp_walk using Sk.iter L1,Sk.iter L2'
  exact ⟨_,rfl,h⟩
theorem HN {l1 l2:Addr}{xs ys:Array Value}{Q:Value->Shared->Prop}(gl1:k1.sq s.heap l1 xs)(gl2:k2.sq s.heap l2 ys)
  (q:∀ h',IsZip h' (s.heap.objs.size+4) (s.heap.objs.size+2) (s.heap.objs.size+3) .none->IsPair h' (s.heap.objs.size+2) (.ref s.heap.objs.size) (.ref (s.heap.objs.size+1)) ->
   IsPair h' (s.heap.objs.size+3) .none .none->k1.it h' s.heap.objs.size l1 0->k2.it h' (s.heap.objs.size+1) l2 0->h'.objs.size=s.heap.objs.size+5 ->
   (∀ c o,s.heap.get? c=some o->h'.get? c=some o)->Q (.ref (s.heap.objs.size+4)) { s with heap:=h' }):wpAny (model P w) A (call (.type "zip") [.ref l1,.ref l2]) Q E s:=by
 refine callType_new PySem.F.called_zip (by decide) (PySem.F.typeCall_zip_2 _ _) (PySem.F.newCall_zip_2 _ _) (fun obj=>PySem.F.args_object_init_3 obj _ _) PySem.F.entry_zip_new (Kw (k1:=k1) (k2:=k2) l1 l2 xs ys) ⟨gl1,gl2,?_⟩
 have e1:(zh1 k1 s.heap l1).objs.size=s.heap.objs.size+1:=Heap.size_push ..
 have e2:(zh2 k1 k2 s.heap l1 l2).objs.size=s.heap.objs.size+2:=by rw [Heap.size_push,e1]
 have e3:(zh3 k1 k2 s.heap l1 l2).objs.size=s.heap.objs.size+3:=by rw [Heap.size_push,e2]
 have e4:(zh4 k1 k2 s.heap l1 l2).objs.size=s.heap.objs.size+4:=by rw [Heap.size_push,e3]
 have e5:(zh5 k1 k2 s.heap l1 l2).objs.size=s.heap.objs.size+5:=by rw [Heap.size_push,e4]
 have f5:(zh5 k1 k2 s.heap l1 l2).get? (zh4 k1 k2 s.heap l1 l2).objs.size=some _:=Heap.get?_push_size _ rfl
 have f4:(zh5 k1 k2 s.heap l1 l2).get? (zh3 k1 k2 s.heap l1 l2).objs.size=some _:=Heap.get?_push_of_some _ (Heap.get?_push_size _ rfl)
 have f3:(zh5 k1 k2 s.heap l1 l2).get? (zh2 k1 k2 s.heap l1 l2).objs.size=some _:=Heap.get?_push_of_some _ (Heap.get?_push_of_some _ (Heap.get?_push_size _ rfl))
 have f2:(zh5 k1 k2 s.heap l1 l2).get? (zh1 k1 s.heap l1).objs.size=some _:=Heap.get?_push_of_some _ (Heap.get?_push_of_some _ (Heap.get?_push_of_some _ (Heap.get?_push_size _ rfl)))
 have f1:(zh5 k1 k2 s.heap l1 l2).get? s.heap.objs.size=some _:=Heap.get?_push_of_some _ (Heap.get?_push_of_some _ (Heap.get?_push_of_some _ (Heap.get?_push_of_some _ (Heap.get?_push_size _ rfl))))
 show _/\_
 rw [e2,e3,e4] at f5
 rw [e1,e2] at f3
 rw [e3] at f4
 rw [e1] at f2
 rw [e4]
 refine ⟨⟨_,f5,rfl⟩,q _ f5 f3 f4 ?_ ?_ e5 fun c o x=>Heap.get?_push_of_some _ (Heap.get?_push_of_some _ (Heap.get?_push_of_some _ (Heap.get?_push_of_some _ (Heap.get?_push_of_some _ x))))⟩
 ·cases k1 with
  | l=>exact ⟨_,f1,rfl,rfl⟩
  | t=>exact ⟨_,f1,rfl,rfl⟩
 ·cases k2 with
  | l=>exact ⟨_,f2,rfl,rfl⟩
  | t=>exact ⟨_,f2,rfl,rfl⟩
end
end L2
namespace L2
open PySem PySem.Spec PyProof.Rows
section
variable {X:Cx}{pins:List (Addr×Obj)}{Z : St}{H:Hp}{s:Shared}{h':Heap}
theorem Inv.turnedL {t':Nat}{ch:List Addr}(I:Inv X pins Z H s)(k:∀ b o,b∉ch->s.heap.get? b=some o->h'.get? b=some o)(hf:∀ b∈ch,zq X pins H b):Inv X pins Z H { s with heap:=h',toks:=t' }:=by
 have nit:∀ b u,H b=some u->b∉ch:=fun b u e z=>by rw [(hf b z).1] at e;cases e
 refine I.step (g':=s.gens) (d':=s.drawn) (ch:=ch) (fun b hb=>?_) (fun b o _ _ hc e _=>k b o hc e) (fun b o _ _ hc e _=>⟨o.slots,k b o hc e⟩) (fun _ _ _ _ n=>n)
  (fun b o hc e=>⟨o,k b o hc e⟩) (fun _ _ e=>e) (fun _ _ _ e=>e) (fun b ps e=>⟨#[],by rw [e];simp⟩) (fun m hm=>?_) (fun b u e=>?_) I.bare
 ·obtain ⟨_,f1,_,f3,f4,f5⟩:=hf b hb
  exact ⟨f3,f1,f4,f5⟩
 ·obtain ⟨o,es,ep,ho,r⟩:=hm
  exact ⟨o,es,ep,k _ o (fun z=>(hf _ z).2.1 rfl) ho,r⟩
 ·refine (I.hok b u e).stay (fun c v hc q=>k c v ?_ q) (fun _ q=>q) fun _ _ q=>q
  rcases hc with z | z
  ·rw [z];exact nit b u e
  ·exact nit c _ z
end
def Sk.v (k:Sk)(K:Yh)(H:Hp)(a:Addr)(xs:List V):Prop:=match k with
 | .l=>SqL K H a xs
 | .t=>SqT K H a xs
theorem Inv.sk {X:Cx}{pins:List (Addr×Obj)}{Z : St}{H:Hp}{s:Shared}{k:Sk}{a:Addr}{xs:List V}(I:Inv X pins Z H s)(h:k.v X.K H a xs):∃ its:List Value,Vals xs its/\k.sq s.heap a its.toArray:=by
 cases k with
 | l=>obtain ⟨its,r,p,_⟩:=I.list h;exact ⟨its,r,p.isList⟩
 | t=>obtain ⟨its,r,p,_⟩:=I.tuple h;exact ⟨its,r,p⟩
theorem Inv.sk_inj {X:Cx}{pins:List (Addr×Obj)}{Z : St}{H:Hp}{s:Shared}{k:Sk}{a:Addr}{xs ys:List V}(I:Inv X pins Z H s)(h:k.v X.K H a xs)(g:k.v X.K H a ys):xs=ys:=by
 cases k with
 | l=>exact I.list_inj h g
 | t=>exact I.tuple_inj h g
def Itz (K:Yh)(k1 k2:Sk)(l1 l2:Addr):It:=
  ⟨fun i H=>∃ xs ys x y,k1.v K H l1 xs/\k2.v K H l2 ys/\xs[i]?=some x/\ys[i]?=some y,
   fun i H v H'=>∃ p x y,H p=none/\v=.ref p/\H'=upd H p (.tup [x,y])/\(∀ xs,k1.v K H l1 xs->xs[i]?=some x)/\∀ ys,k2.v K H l2 ys->ys[i]?=some y,
   fun i H=>∃ xs ys,k1.v K H l1 xs/\k2.v K H l2 ys/\(xs.length<=i\/ys.length<=i),true⟩
def Tj (k1 k2:Sk)(z TI TO i1 i2 l1 l2:Addr)(n:Nat)(h:Heap):Prop:=IsZip h z TI TO .none/\IsPair h TI (.ref i1) (.ref i2)/\(∃ a b,IsPair h TO a b)/\k1.it h i1 l1 n/\k2.it h i2 l2 n
theorem GQ {P:Program}{w:World}{K:Yh}{elts:List Expr}{kt:Nat}{pos:Pos}{k1 k2:Sk}{z TI TO i1 i2 l1 l2:Addr}(D:Zap z TI TO i1 i2)(o1:Off l1 z TO i1 i2)(o2:Off l2 z TO i1 i2) :
  Turn P w K (.Tuple elts kt pos) (Itz K k1 k2 l1 l2) [z,TI,TO,i1,i2] z (Tj k1 k2 z TI TO i1 i2 l1 l2) where
 mem:=by simp
 obj:=fun i h st b hb=>by
  obtain ⟨gz,gI,⟨a,b',gO⟩,g1,g2⟩:=st
  simp only [List.mem_cons,List.not_mem_nil,or_false] at hb
  rcases hb with rfl | rfl | rfl | rfl | rfl
  ·exact ⟨_,gz,fun v y=>by cases y⟩
  ·exact ⟨_,gI,fun v y=>by cases y⟩
  ·exact ⟨_,gO,fun v y=>by cases y⟩
  ·obtain ⟨o,e,_,d⟩:=Sk.it_obj g1;exact ⟨o,e,fun v y=>by rw [d] at y;cases y⟩
  ·obtain ⟨o,e,_,d⟩:=Sk.it_obj g2;exact ⟨o,e,fun v y=>by rw [d] at y;cases y⟩
 keep:=fun i h h' st k=>by
  obtain ⟨gz,gI,⟨a,b,gO⟩,g1,g2⟩:=st
  exact ⟨k z (by simp) _ gz,k TI (by simp) _ gI,⟨a,b,k TO (by simp) _ gO⟩,Sk.it_at g1 fun o e=>k i1 (by simp) o e,Sk.it_at g2 fun o e=>k i2 (by simp) o e⟩
 item:=by
  intro X hP hw hK hc i pins s Z H E I hf st hg
  subst hP hw hK
  obtain ⟨gz,gI,⟨a,b,gO⟩,g1,g2⟩:=st
  obtain ⟨xs,ys,x,y,hx,hy,ex,ey⟩:=hg
  obtain ⟨its,r1,p1⟩:=I.sk hx
  obtain ⟨jts,r2,p2⟩:=I.sk hy
  obtain ⟨u,hu,ru⟩:=r1.get ex
  obtain ⟨v,hv,rv⟩:=r2.get ey
  refine HB D o1 o2 gz gI gO g1 g2 p1 p2 (x:=u) (y:=v) (by simpa using hu) (by simpa using hv) fun h1 z1 O1 g1' g2' T1 size1 all1=>⟨_,rfl,?_⟩
  have pz:s.heap.objs.size≠z:=Nat.ne_of_gt (X4 gz)
  have lt:∀ b∈[z,TI,TO,i1,i2],s.heap.objs.size≠b:=fun b hb=>by
   simp only [List.mem_cons,List.not_mem_nil,or_false] at hb
   rcases hb with rfl | rfl | rfl | rfl | rfl
   ·exact pz
   ·exact Nat.ne_of_gt (X4 gI)
   ·exact Nat.ne_of_gt (X4 gO)
   ·obtain ⟨o,e,_⟩:=Sk.it_obj g1;exact Nat.ne_of_gt (X4 e)
   ·obtain ⟨o,e,_⟩:=Sk.it_obj g2;exact Nat.ne_of_gt (X4 e)
  have all:∀ c o,c∉[z,TI,TO,i1,i2]->s.heap.get? c=some o->h1.get? c=some o:=fun c o hc e=>
   all1 c o (fun q=>hc (by simp [q])) (fun q=>hc (by simp [q])) (fun q=>hc (by simp [q])) (fun q=>hc (by simp [q])) e
  refine wpAny_letOwnedTupleGo_zip (s:={ s with heap:=h1 }) z1 fun h2 z2 sb=>?_
  have fr:H s.heap.objs.size=none:=I.hok.fresh (Yc _)
  have I1:Inv X pins Z (upd H s.heap.objs.size (.tup [x,y])) { s with heap:=s.heap.push { cls:=.type "tuple",data:=.seq #[u,v] } }:=
   I.laid (t':=s.toks) (fun b o e=>Heap.get?_push_of_some _ e) (Yc _) ⟨(by show 2<=sizeLine;decide),[u,v],.cons ru (.cons rv .nil),⟨_,Heap.get?_push_size _ rfl,rfl,⟨_,rfl⟩,rfl⟩⟩
  have hf1:∀ b∈[z,TI,TO,i1,i2],zq X pins (upd H s.heap.objs.size (.tup [x,y])) b:=fun b hb=>⟨by rw [aH (Ne.symm (lt b hb))];exact (hf b hb).1,(hf b hb).2⟩
  have I2:Inv X pins Z (upd H s.heap.objs.size (.tup [x,y])) { s with heap:=h2 }:=by
   refine Inv.turnedL (s:={ s with heap:=s.heap.push { cls:=.type "tuple",data:=.seq #[u,v] } }) (h':=h2) (t':=s.toks) (ch:=[z,TI,TO,i1,i2]) I1 (fun b o hb e=>?_) hf1
   have bz:b≠z:=fun q=>hb (by simp [q])
   rcases Heap.get?_push_cases e with ⟨rfl,rfl⟩ | e'
   ·exact sb.extBut _ _ bz T1
   ·exact sb.extBut _ _ bz (all b o hb e')
  refine ⟨.ref s.heap.objs.size,_,I2,rfl,⟨s.heap.objs.size,x,y,fr,rfl,rfl,fun xs' q=>by rw [I.sk_inj q hx];exact ex,fun ys' q=>by rw [I.sk_inj q hy];exact ey⟩,?_,fun b hb=>(hf1 b hb).1⟩
  exact ⟨z2,sb.extBut _ _ D.a1 (all1 _ _ D.a1 D.a5 D.a6 D.a7 gI),⟨u,v,sb.extBut _ _ D.a2 O1⟩,Sk.it_at g1' fun o e=>sb.extBut _ o D.a3 e,Sk.it_at g2' fun o e=>sb.extBut _ o D.a4 e⟩
 done:=by
  intro X hP hw hK hc i pins s Z H E I hf st hg
  subst hP hw hK
  obtain ⟨gz,gI,⟨a,b,gO⟩,g1,g2⟩:=st
  obtain ⟨xs,ys,hx,hy,hend⟩:=hg
  obtain ⟨its,r1,p1⟩:=I.sk hx
  obtain ⟨jts,r2,p2⟩:=I.sk hy
  have l1:=r1.length
  have l2:=r2.length
  refine Em (I.ok.hd (hc rfl)) D o1 o2 gz gI gO g1 g2 p1 p2 (hend.imp (fun q=>by simp;omega) fun q=>by simp;omega) fun h1 all1=>⟨rfl,I.turnedL (t':=s.toks) (ch:=[z,TI,TO,i1,i2]) (fun c o hc e=>?_) hf⟩
  exact all1 c o (fun q=>hc (by simp [q])) (fun q=>hc (by simp [q])) (fun q=>hc (by simp [q])) (fun q=>hc (by simp [q])) e
 self:=fun _ _ _ _ _ st h=>wpAny_pyIter_zip st.1 h
section
variable {X:Cx}{K:Yh}
def sqk (K:Yh)(H:Hp)(x:V)(k:Sk)(a:Addr):Prop:=x=.ref a/\∃ xs,k.v K H a xs
def XM (K:Yh)(ta:TA):TI:=fun Z H R=>ta Z H fun vs H1=>∃ x y k1 k2 a b,vs=[x,y]/\sqk K H1 x k1 a/\sqk K H1 y k2 b/\R (Itz K k1 k2 a b) H1
theorem Sk.sq_lt {k:Sk}{h:Heap}{a:Addr}{its:Array Value}(x:k.sq h a its):a<h.objs.size:=by
 cases k with
 | l=>obtain ⟨o,e,_⟩:=x;exact X4 e
 | t=>obtain ⟨o,e,_⟩:=x;exact X4 e
theorem jc {a b:Nat}(h:a≠b):(show Addr from a)≠(show Addr from b):=h
theorem Pk (n:Nat):Zap (n+4) (n+2) (n+3) n (n+1) where
 a1:=jc (show n+2≠n+4 by omega)
 a2:=jc (show n+3≠n+4 by omega)
 a3:=jc (show n≠n+4 by omega)
 a4:=jc (show n+1≠n+4 by omega)
 a5:=jc (show n+2≠n+3 by omega)
 a6:=jc (show n+2≠n by omega)
 a7:=jc (show n+2≠n+1 by omega)
 a8:=jc (show n+3≠n by omega)
 a9:=jc (show n+3≠n+1 by omega)
 b1:=jc (show n≠n+1 by omega)
theorem Ji {a n:Nat}(h:a<n):Off a (n+4) (n+3) n (n+1) where
 z:=jc (show a≠n+4 by omega)
 o:=jc (show a≠n+3 by omega)
 i:=jc (show a≠n by omega)
 j:=jc (show a≠n+1 by omega)
theorem Vi {n c:Nat}(h:c∈([n+4,n+2,n+3,n,n+1]:List Nat)):n<=c:=by
 simp only [List.mem_cons,List.not_mem_nil,or_false] at h
 omega
theorem Sh {e1 e2:Expr}{ta:TA}{p pos tpos:Pos}{elts:List Expr}{kt:Nat}(hg:Gl X "zip")(hm:X.mg "zip" = none)(ha:PA X [e1,e2] ta)
  (hs:starEach [e1,e2] X.env=(false,eval e1 X.env)::starEach [e2] X.env:=by rfl) (hpl:(backTo pos (starEach [e2] X.env)).any (·.1)=false:=by rfl) :
  PI X (.Tuple elts kt tpos) (.Call (.Name "zip" p) [e1,e2] [] pos) (XM X.K ta):=by
 intro pins s Z H R I h
 refine wpAny_Call_Name_kw (iW I hg hm boot_zip ?_ (by decide) (by decide))
 refine PyProof.Rows.callWith_type1 (thn (ha pos pins s Z H _ I h) fun us s1 ⟨vs,H1,I1,r1,q1⟩=>?_) hs hpl
 obtain ⟨x,y,k1,k2,a,b,ev,⟨ex,xs,hx⟩,⟨ey,ys,hy⟩,q⟩:=q1
 subst ev ex ey
 obtain ⟨u1,u2,eu,ru1,ru2⟩:=vals2 r1
 subst eu
 cases ru1
 cases ru2
 obtain ⟨its,r1,p1⟩:=I1.sk hx
 obtain ⟨jts,r2,p2⟩:=I1.sk hy
 have la:=Sk.sq_lt p1
 have lb:=Sk.sq_lt p2
 refine HN p1 p2 fun h' gz gI gO g1 g2 size all=>?_
 refine wpAny_pyIter_zip gz ?_
 have I2:Inv X pins Z H1 { s1 with heap:=h' }:=I1.kept (t':=s1.toks) all
 generalize hn:s1.heap.objs.size=n at gz gI gO g1 g2 size la lb |-
 refine ⟨n+4,[n+4,n+2,n+3,n,n+1],_,_,H1,rfl,I2,GQ (Pk n) (Ji la) (Ji lb),⟨gz,gI,⟨_,_,gO⟩,g1,g2⟩,fun c hc=>?_,q⟩
 have hc':n<=c:=Vi hc
 exact I1.fpOk (by rw [hn];exact hc') (I1.hok.fresh (by rw [hn];exact hc'))
def kJ:List W->List W->List W
 | a::as,b::bs=>.tup [a,b]::kJ as bs
 | _,_=>[]
theorem qM:∀ {as bs:List W} {i:Nat} {w:W},(kJ as bs)[i]?=some w->∃ a b,as[i]?=some a/\bs[i]?=some b/\w=.tup [a,b]
 | [],_,_,_,e=>by simp [kJ] at e
 | _::_,[],_,_,e=>by simp [kJ] at e
 | a::as,b::bs,0,w,e=>by
  have e:some (W.tup [a,b])=some w:=e
  exact ⟨a,b,rfl,rfl,(Option.some.inj e).symm⟩
 | a::as,b::bs,i+1,w,e=>by
  obtain ⟨x,y,h1,h2,h3⟩:=qM (as:=as) (bs:=bs) (i:=i) (w:=w) (by simpa [kJ] using e)
  exact ⟨x,y,by simpa using h1,by simpa using h2,h3⟩
theorem xY:∀ {as bs:List W},(kJ as bs).length=min as.length bs.length
 | [],bs=>by simp [kJ]
 | _::_,[]=>by simp [kJ]
 | a::as,b::bs=>by rw [kJ,List.length_cons,xY,List.length_cons,List.length_cons];omega
def nO:W->Option (List W)
 | .tup ws=>some ws
 | .lst ws=>some ws
 | .kls ws=>some ws
 | _=>none
theorem xX {H:Hp}{μ : Mu}{w:W}{v:V}{ws:List W}(r:Rep K H μ w v)(e:nO w=some ws):∃ k a,v=.ref a/\∀ {H2:Hp} {μ2:Mu},Ext K H μ H2 μ2->∃ xs,Sk.v k K H2 a xs/\aJ K H2 μ2 ws xs:=by
 cases w with
 | tup us=>
  cases (show some us=some ws from e)
  have r0:=r
  rw [Rep] at r
  obtain ⟨p,xs,ev,hs,rs⟩:=r
  subst ev
  refine ⟨.t,p,rfl,fun {H2 μ2} x=>?_⟩
  have r2:=x.r _ _ r0
  rw [Rep] at r2
  obtain ⟨q,ys,ev,hs,rs⟩:=r2
  cases ev
  exact ⟨ys,hs,rs⟩
 | lst us=>
  cases (show some us=some ws from e)
  have r0:=r
  rw [Rep] at r
  obtain ⟨p,xs,ev,hs,rs⟩:=r
  subst ev
  refine ⟨.l,p,rfl,fun {H2 μ2} x=>?_⟩
  have r2:=x.r _ _ r0
  rw [Rep] at r2
  obtain ⟨q,ys,ev,hs,rs⟩:=r2
  cases ev
  exact ⟨ys,hs.sq,rs⟩
 | kls us=>
  cases (show some us=some ws from e)
  have r0:=r
  rw [Rep] at r
  obtain ⟨p,xs,ev,hs,rs⟩:=r
  subst ev
  refine ⟨.l,p,rfl,fun {H2 μ2} x=>?_⟩
  have r2:=x.r _ _ r0
  rw [Rep] at r2
  obtain ⟨q,ys,ev,hs,rs⟩:=r2
  cases ev
  exact ⟨ys,hs.sq,rs⟩
 | _=>cases e
def Jh (h:Gh)(x y:W):Option Src:=match nO x,nO y with
 | some as,some bs=>some ⟨kJ as bs,none⟩
 | none,some bs=>(match x with
  | .loc n=>(match h.c n with
   | some (.lst as)=>some ⟨kJ as bs,some (n,as)⟩
   | _=>none)
  | _=>none)
 | _,_=>none
theorem Kz {H:Hp}{μ : Mu}{h:Gh}{w:W}{v:V}{ws:List W}{o:Option (Nat×List W)}(R:Rel K μ H h)(r:Rep K H μ w v)(e:(nO w=some ws/\o=none)\/∃ n,w=.loc n/\h.c n=some (.lst ws)/\o=some (n,ws)) :
  ∃ k a,v=.ref a/\∀ {H2:Hp} {μ2:Mu} {h2:Gh},Ext K H μ H2 μ2->Rel K μ2 H2 h2->Src.chk ⟨ws,o⟩ h2->∃ xs,Sk.v k K H2 a xs/\aJ K H2 μ2 ws xs:=by
 rcases e with ⟨e,rfl⟩ | ⟨n,rfl,ec,rfl⟩
 ·obtain ⟨k,a,ev,f⟩:=xX r e
  exact ⟨k,a,ev,fun x _ _=>f x⟩
 ·have r0:=r
  rw [Rep] at r
  obtain ⟨p,ev,hm⟩:=r
  subst ev
  refine ⟨.l,p,rfl,fun {H2 μ2 h2} x R2 ck=>?_⟩
  have r2:=x.r _ _ r0
  rw [Rep] at r2
  obtain ⟨q,eq,hm2⟩:=r2
  cases eq
  obtain ⟨p',xs,hm',hx,rs⟩:=R2.lstAt (show h2.c n=some (.lst ws) from ck)
  have ep:p'=p:=by rw [hm2] at hm';exact (Option.some.inj hm').symm
  subst ep
  exact ⟨xs,.of hx,rs⟩
theorem JK {h:Gh}{x y:W}{s:Src}(e:Jh h x y=some s):∃ as bs o,s=⟨kJ as bs,o⟩/\((nO x=some as/\o=none)\/∃ n,x=.loc n/\h.c n=some (.lst as)/\o=some (n,as))/\nO y=some bs:=by
 unfold Jh at e
 split at e
 ·rename_i as bs ea eb
  exact ⟨as,bs,none,(Option.some.inj e).symm,.inl ⟨ea,rfl⟩,eb⟩
 ·rename_i bs ea eb
  split at e
  ·split at e
   ·rename_i n _ as ec
    exact ⟨as,bs,_,(Option.some.inj e).symm,.inr ⟨n,rfl,ec,rfl⟩,eb⟩
   ·cases e
  ·cases e
 ·cases e
def S9 (ma:MA):MI:=fun Z h R=>ma Z h fun ws h1=>match ws with
 | [x,y]=>(match Jh h1 x y with
  | some s=>R s h1
  | none=>False)
 | _=>False
theorem QT {e1 e2:Expr}{mr:MA}{p pos tpos:Pos}{elts:List Expr}{kt:Nat}(hg:Gl X "zip")(hm:X.mg "zip" = none)(ha:DAs X [e1,e2] mr)
  (hs:starEach [e1,e2] X.env=(false,eval e1 X.env)::starEach [e2] X.env:=by rfl) (hpl:(backTo pos (starEach [e2] X.env)).any (·.1)=false:=by rfl) :
  DIt X (.Tuple elts kt tpos) (.Call (.Name "zip" p) [e1,e2] [] pos) (S9 mr):=PI.of (Sh hg hm ha hs hpl) fun Z H Q ⟨μ,h,Zw,Rw,R,S,m,k⟩=>by
 refine ⟨μ,h,Zw,_,R,S,m,fun vs H1 ⟨μ1,ws,h1,e1,R1,r1,m1⟩=>?_⟩
 dsimp only at m1
 split at m1
 ·split at m1
  ·rename_i x y _ s es
   obtain ⟨as,bs,o,rfl,ea,eb⟩:=JK es
   obtain ⟨v,u,ev,rv,ru⟩:=Cr r1
   obtain ⟨ka,a,e3,fa⟩:=Kz R1 rv ea
   obtain ⟨kb,b,e4,fb⟩:=xX ru eb
   have ck1:Src.chk ⟨as,o⟩ h1:=by
    rcases ea with ⟨_,rfl⟩ | ⟨n,_,ec,rfl⟩
    ·exact trivial
    ·exact ec
   obtain ⟨xs,hxs,_⟩:=fa .refl R1 ck1
   obtain ⟨ys,hys,_⟩:=fb .refl
   refine ⟨v,u,ka,kb,a,b,ev,⟨e3,xs,hxs⟩,⟨e4,ys,hys⟩,k _ _ ⟨μ1,⟨kJ as bs,o⟩,h1,e1,R1,?_,m1⟩⟩
   intro H2 μ2 h2 i e2 R2 ck
   obtain ⟨xs2,hxs2,rxs⟩:=fa e2 R2 ck
   obtain ⟨ys2,hys2,rys⟩:=fb e2
   refine ⟨fun w ew=>?_,fun hl=>⟨xs2,ys2,hxs2,hys2,?_⟩⟩
   ·obtain ⟨p1,p2,ep1,ep2,rfl⟩:=qM ew
    obtain ⟨q1,eq1,rq1⟩:=rxs.get ep1
    obtain ⟨q2,eq2,rq2⟩:=rys.get ep2
    refine ⟨⟨xs2,ys2,q1,q2,hxs2,hys2,eq1,eq2⟩,fun x' H3 ⟨pa,x1,x2,hp,ex',eH3,f1,f2⟩=>?_⟩
    have g1:=f1 xs2 hxs2
    have g2:=f2 ys2 hys2
    rw [eq1] at g1
    rw [eq2] at g2
    cases g1
    cases g2
    subst ex' eH3
    exact ⟨μ2,(Ex.laid hp).ext,R2.laid hp,.tupNew hp (.cons rq1 (.one rq2))⟩
   ·have l1:=rxs.len
    have l2:=rys.len
    have:min as.length bs.length<=i:=by rw [<-xY];exact hl
    omega
  ·exact m1.elim
 ·exact m1.elim
end
end L2
namespace L2
open PySem PySem.Spec PyProof.Rows
section
variable {X:Cx}{K:Yh}
theorem pU:∀ {ns:List Int} {its:List Value} {i:Nat} {v:Value},Vals (ns.map V.int) its->its[i]?=some v->∃ t,v=.int (ns.getD i 0) t
 | [],_,_,_,.nil,e=>by simp at e
 | n::ns,_,0,_,.cons r _,e=>by
  simp at e
  subst e
  exact r
 | _::ns,_,i+1,v,.cons _ t,e=>by
  obtain ⟨t',h⟩:=pU (i:=i) (v:=v) t (by simpa using e)
  exact ⟨t',by simpa using h⟩
theorem mU (ns:List Int):∀ k,k<=ns.length->preSum (fun i=>ns.getD i 0) k=(ns.take k).sum
 | 0,_=>by simp [preSum]
 | k+1,h=>by
  rw [preSum,mU ns k (by omega),List.take_succ,List.sum_append,List.getElem?_eq_getElem (by omega),List.getD_eq_getElem?_getD,List.getElem?_eq_getElem (by omega)]
  show _=_+(ns[k]+0)
  rw [Int.add_zero]
  rfl
def kE:List W->Option (List Int)
 | []=>some []
 | .int i::ws=>(kE ws).map (i::·)
 | _=>none
theorem qp {H:Hp}{μ : Mu}:∀ {ws:List W} {xs:List V} {ns:List Int},aJ K H μ ws xs->kE ws=some ns->xs=ns.map V.int
 | [],xs,ns,r,e=>by
  rw [aJ] at r
  cases (show some []=some ns from e)
  exact r
 | w::ws,xs,ns,r,e=>by
  rw [aJ] at r
  obtain ⟨v,vr,ev,ra,r⟩:=r
  cases w with
  | int b=>
   rw [Rep] at ra
   rw [kE] at e
   cases q:kE ws with
   | none=>rw [q] at e;cases e
   | some cs=>
    rw [q] at e
    cases (show some (b::cs)=some ns from e)
    rw [ev,ra,qp r q]
    rfl
  | _=>cases e
def Ws:MC:=fun ws h Q=>match ws with
 | [w]=>(match dU h w with
  | some us=>(match kE us with
   | some ns=>Q (.int ns.sum) h
   | none=>False)
  | none=>False)
 | _=>False
end
end L2
namespace L2
open PySem PySem.Spec PyProof.Rows
end L2
namespace L2
open PySem PySem.Spec PyProof.Rows
section
variable {P:Program}{w:World}{A:Around}{E:Value->Shared->Prop}{s:Shared}
end
end L2
namespace L2
open PySem PySem.Spec PyProof.Rows
section
variable {X:Cx}{K:Yh}
end
end L2
namespace L2
open PySem PySem.Spec PyProof.Rows
section
variable {X:Cx}
def VD (i j k:Nat)(ta:MA):MS:=fun D Z h=>ta Z h fun ws h1=>match ws with
 | [a,b,c]=>D.nx (((Z.set i (some a)).set j (some b)).set k (some c)) h1
 | _=>False
end
end L2
namespace L2
open PySem PySem.Spec PyProof.Rows
section
variable {X:Cx}{K:Yh}
end
end L2
namespace L2
open PySem PySem.Spec PyProof.Rows
theorem TJ {K:Yh}{H:Hp}{μ : Mu}:aJ K H μ [] []:=by rw [aJ]
theorem Nr {K:Yh}{H:Hp}{μ : Mu}{i:Int}:Rep K H μ (.int i) (.int i):=by rw [Rep]
end L2
namespace L2
open PySem PySem.Spec PyProof.Rows
section
variable {prog:Program}{w:World}{A:Around}{E:Value->Shared->Prop}{s:Shared}
theorem sV {it t:Addr}{items:Array Value}(hne:t≠it):∀ (n i:Nat) (s:Shared) (Q:List Value->Shared->Prop),s.heap.IsListIter it t i->s.heap.IsList t items->i+n<=items.size ->
  (∀ h',h'.IsListIter it t (i+n)->Heap.SameBut it s.heap h'->Q ((items.toList.drop i).take n) { s with heap:=h' })->wpAny (model prog w) A (draw (.ref it) n) Q E s
 | 0,i,s,Q,hit,_,_,hQ=>by
  show wpAny _ _ (pure []) Q E s
  exact X3 (by simpa using hQ s.heap hit (Heap.SameBut.refl ..))
 | n+1,i,s,Q,hit,ht,hle,hQ=>by
  have hlt:i<items.size:=by omega
  show wpAny _ _ (pyNext (.ref it) >>= _) Q E s
  refine XS (wpAny_pyNext_list_item hit ht (x:=items[i]) (by simp [hlt]) fun h1 hit1 hs1=>?_)
  refine XS (wpAny_holding (sV hne n (i+1) _ _ hit1 (ht.at fun o e=>hs1.extBut _ o hne e) (by omega) fun h2 hit2 hs2=>X3 ?_))
  have hd:items.toList.drop i=items[i]::items.toList.drop (i+1):=by simp [List.drop_eq_getElem_cons,hlt]
  have:=hQ h2 (by rw [show i+(n+1)=i+1+n by omega];exact hit2) (hs1.trans hs2)
  rw [hd,List.take_succ_cons] at this
  exact this
theorem kO {t:Addr}{items:Array Value}{Q:List Value->Shared->Prop}(hh:A.handled=none)(ht:s.heap.IsList t items)
  (hQ:∀ h',Heap.ExtBut s.heap.objs.size s.heap h'->Q items.toList { s with heap:=h' }):wpAny (model prog w) A (unpackItems (.ref t) items.size none) Q E s:=by
 have hlt:t≠s.heap.objs.size:=by obtain ⟨o,ho,_⟩:=ht;exact Yg (X4 ho)
 unfold unpackItems
 refine XS ?_
 ·unfold notIterableAtAll
  refine XS (wpAny_specialOf ht.typeIs slot_list_iter.lookup ?_)
  refine X3 ?_
  simp only [Bool.false_eq_true,if_false]
  refine XS (wpAny_holding (wpAny_pyIter_list ht ?_))
  refine XS (wpAny_holding (sV hlt items.size 0 _ _ ⟨_,Heap.get?_push_size _ rfl,rfl,rfl⟩ (ht.at fun o e=>Heap.get?_push_of_some _ e) (by omega) fun h1 hit1 hs1=>?_))
  have hall:List.take items.size (List.drop 0 items.toList)=items.toList:=by
   rw [List.drop_zero];exact List.take_of_length_le (by simp)
  rw [hall]
  rw [if_neg (by simp)]
  have ht1:h1.IsList t items:=ht.at fun o e=>hs1.extBut _ o hlt (Heap.get?_push_of_some _ e)
  refine XS (wpAny_holding (wpAny_pyNext_list_end hh hit1 ht1 (by simp) fun h2 he2=>?_))
  simp only [Option.isSome_none,Bool.false_eq_true,if_false]
  refine X3 (hQ h2 fun b o hb e=>he2 b o hb (hs1.extBut b o hb (Heap.get?_push_of_some _ e)))
theorem jA {env:Env}{elts:List Expr}{x1}{pos:Pos}{t:Addr}{items:Array Value}{Q:Unit->Shared->Prop}(hh:A.handled=none)(ht:s.heap.IsList t items)
  (hn:(assignEach elts env).length=items.size) (hstar:(assignEach elts env).findIdx? (·.1)=none)
  (h:∀ h',Heap.ExtBut s.heap.objs.size s.heap h'->wpAny (model prog w) A (assignInOrder ((assignEach elts env).map (·.2)) items.toList) Q E { s with heap:=h' }) :
  wpAny (model prog w) A (assign (.Tuple elts x1 pos) env (.ref t)) Q E s:=by
 rw [assign_Tuple]
 refine XS (wpAny_standAt ?_)
 unfold unpack
 rw [hn,hstar]
 exact XS (wpAny_holding (kO hh ht h))
end
section
variable {X:Cx}{pos:Pos}
def Ur (K:Yh)(n:Nat)(t:TGs):TG:=fun v Z H Q=>∃ a xs,v=.ref a/\(SqT K H a xs\/SqL K H a xs)/\xs.length=n/\t xs Z H Q
theorem J8 {es:List Expr}{k:Nat}{t:TGs}{n:Nat}(hc:X.calm=true)(h:PGs X es t)
  (hn:(assignEach es X.env).length=n:=by rfl) (hst:(assignEach es X.env).findIdx? (·.1)=none:=by rfl):PG X (.Tuple es k pos) (Ur X.K n t):=by
 intro pins s Z H v u Q I r hw
 obtain ⟨a,xs,e1,hq,hl,hw⟩:=hw
 subst e1
 cases r
 rcases hq with hq | hq
 ·obtain ⟨its,rv,ht,hz⟩:=I.tuple hq
  refine assign_Tuple_tuple (I.ok.hd hc) ht (by simp [hn,<-hl,rv.length]) hst fun h' hx=>?_
  have I1:Inv X pins Z H { s with heap:=h' }:=I.kept (t':=s.toks) fun b o e=>hx b o (Yg (X4 e)) e
  exact h pins _ Z H xs _ Q I1 (by simpa using rv) hw
 ·obtain ⟨its,rv,ht,hz⟩:=I.list hq
  refine jA (I.ok.hd hc) ht.isList (by simp [hn,<-hl,rv.length]) hst fun h' hx=>?_
  have I1:Inv X pins Z H { s with heap:=h' }:=I.kept (t':=s.toks) fun b o e=>hx b o (Yg (X4 e)) e
  exact h pins _ Z H xs _ Q I1 (by simpa using rv) hw
def mQ (n:Nat)(g:MGs):MG:=fun w Z h N=>match w with
 | .tup ws=>by2 (Nat.beq ws.length n) (g ws Z h N) False
 | .lst ws=>by2 (Nat.beq ws.length n) (g ws Z h N) False
 | .loc j=>(match h.c j with
  | some (.lst ws)=>by2 (Nat.beq ws.length n) (g ws Z h N) False
  | _=>False)
 | _=>False
theorem jE {es:List Expr}{k:Nat}{g:MGs}{n:Nat}(hc:X.calm=true)(h:SM X es g)(hn:(assignEach es X.env).length=n:=by rfl)(hst:(assignEach es X.env).findIdx? (·.1)=none:=by rfl):DG X (.Tuple es k pos) (mQ n g):=
 (J8 (n:=n) hc h hn hst).of fun v Z H N ⟨μ,h,Zw,w,Nw,R,S,r,m,k⟩=>by
  cases w with
  | tup ws=>
   rw [Rep] at r
   obtain ⟨p,xs,e1,hs,hr⟩:=r
   have m:by2 (Nat.beq ws.length n) (g ws Zw h Nw) False:=m
   cases en:Nat.beq ws.length n with
   | true=>rw [en] at m;exact ⟨p,xs,e1,.inl hs,by rw [<-hr.len];exact Nat.eq_of_beq_eq_true en,μ,h,Zw,ws,Nw,R,S,hr,m,k⟩
   | false=>rw [en] at m;exact (show False from m).elim
  | lst ws=>
   rw [Rep] at r
   obtain ⟨p,xs,e1,hs,hr⟩:=r
   have m:by2 (Nat.beq ws.length n) (g ws Zw h Nw) False:=m
   cases en:Nat.beq ws.length n with
   | true=>rw [en] at m;exact ⟨p,xs,e1,.inr hs.sq,by rw [<-hr.len];exact Nat.eq_of_beq_eq_true en,μ,h,Zw,ws,Nw,R,S,hr,m,k⟩
   | false=>rw [en] at m;exact (show False from m).elim
  | loc j=>
   have m:(match h.c j with
    | some (.lst ws)=>by2 (Nat.beq ws.length n) (g ws Zw h Nw) False
    | _=>False):=m
   split at m
   ·rename_i ws ec
    obtain ⟨p,xs,e1,hs,hr⟩:=cG R r (show dU h (.loc j)=some ws by simp only [dU,ec])
    cases en:Nat.beq ws.length n with
    | true=>rw [en] at m;exact ⟨p,xs,e1,.inr hs,by rw [<-hr.len];exact Nat.eq_of_beq_eq_true en,μ,h,Zw,ws,Nw,R,S,hr,m,k⟩
    | false=>rw [en] at m;exact (show False from m).elim
   ·exact m.elim
  | _=>exact m.elim
end
end L2
namespace L2
open PySem PySem.Spec PyProof.Rows
section
variable {K:Yh}{H:Hp}{μ : Mu}{h:Gh}{p:Addr}{ws:List W}{xs:List V}
end
def Wc (Q:WK):WK:=fun w h=>match w with
 | .lst ws=>Q (.loc h.nx) (h.new (.lst ws))
 | _=>False
def Ww (own:W->Option (List W))(ix:List Nat)(mi:MI)(tt:MT)(te:ME):ME:=fun Z h Q=>mLC own ix mi tt te Z h (Wc Q)
section
variable {X:Cx}{tg iter elt:Expr}{ifs:List Expr}{pos:Pos}{scope:Scope}{xs:List Str}{mi:MI}{tt:MT}{te:ME}
end
end L2
namespace L2
open PySem PySem.Spec PyProof.Rows
def isStar:Expr->Bool
 | .Starred _ _=>true
 | _=>false
theorem aj {e:Expr}{es:List Expr}{env:Env}(h:isStar e=false):starEach (e::es) env=(false,eval e env)::starEach es env:=by
 cases e <;> first | rfl | cases h
theorem j4 {e:Expr}{env:Env}(h:isStar e=false):starEach [e] env=[(false,eval e env)]:=(aj h).trans rfl
def noStar:List Expr->Bool
 | []=>true
 | e::r=>!isStar e&&noStar r
theorem au {pos:Pos}{env:Env}:∀ {es:List Expr},noStar es=true->(backTo pos (starEach es env)).any (·.1)=false
 | [],_=>rfl
 | e::r,h=>by
  rw [noStar,Bool.and_eq_true,Bool.not_eq_true'] at h
  rw [aj h.1]
  show (false||(backTo pos (starEach r env)).any (·.1))=false
  rw [au h.2]
  rfl
theorem HX {cpos:Pos}{e:Expr}{env:Env}(h:isStar e=false):((backTo cpos (starEach [e] env)).all (fun x=>!x.1)&&(backToKw cpos (keywordEach [] env)).all (fun x=>x.1.isSome)
   && decide (([e]:List Expr).length+([]:List Keyword).length+(if ([]:List Keyword).isEmpty then 0 else 1)<30))=true:=by
 rw [j4 h];rfl
end L2
namespace L2
open PySem PySem.Spec PyProof.Rows
section
variable {prog:Program}{w:World}{A:Around}{E:Value->Shared->Prop}{s:Shared}
open HT in
theorem iC {t sl:Addr}{items:Array Value}{vl vu:Value}{lo hi:Option Int}{Q:Value->Shared->Prop}(ht:IsTup s.heap t items)(hs:s.heap.IsSliceOf sl vl vu .none)(pl:IsPart vl lo)(pu:IsPart vu hi)
  (h0:sIx items.size 0 lo=0) (h1:sIx items.size items.size hi=items.size) (h:Q (.ref t) s):wpAny (model prog w) A (getItem (.ref t) (.ref sl)) Q E s:=by
 obtain ⟨os,hos,hcs,hds⟩:=id hs
 have hTs:s.TypeIs (.ref sl) "slice":=⟨os,hos,hcs⟩
 unfold getItem
 try with_reducible refine wpAny_holding ?_
 first | refine XS (X3 ?_) | skip
 refine XS (wpAny_sequenceKey ht.typeIs (by decide) ?_)
 refine XS (wpAny_callSpecial?_slot (name:=Str.ofString "__getitem__") ht.typeIs PyProof.Rows.slot_tuple_getitem
  (wpAny_call_entry PyProof.Rows.slot_tuple_getitem ht.typeIs entry_tuple_getitem ?_ (args_tuple_getitem _ _)))
 show wpAny _ _ (Builtin.Tuple.tupleItemsOf (.ref t) >>= _) _ _ s
 refine XS (tupleItemsOf_ ht ?_)
 refine XS (wpAny_typeOf hTs ?_)
 rw [if_pos (by decide)]
 refine XS (fP hs pl pu ?_)
 have hyes:((((sIx items.size 0 lo:Nat):Int)==0&&(1:Int)==1&&(sIx items.size items.size hi - sIx items.size 0 lo)==items.size)=true):=by
  rw [h0,h1]
  simp
 show wpAny _ _ (if (((sIx items.size 0 lo:Nat):Int)==0&&(1:Int)==1&&(sIx items.size items.size hi - sIx items.size 0 lo)==items.size)=true then _ else _) _ _ s
 rw [if_pos hyes]
 unfold Builtin.Tuple.tupleIsExact
 refine XS (XS (wpAny_typeOf ht.typeIs (X3 ?_)))
 rw [if_pos (by decide)]
 refine XS (wpAny_rule ?_)
 first
  | exact X3 ⟨_,rfl,X3 h⟩
  | exact XS (X3 (X3 ⟨_,rfl,X3 h⟩))
end
section
variable {X:Cx}
def WD (K:Yh):V->Option Int->Option Int->Hp->VK->Prop:=fun x lo hi H Q=>∃ a xs,x=.ref a/\SqT K H a xs /\
 HT.sIx xs.length 0 lo=0/\HT.sIx xs.length xs.length hi=xs.length/\Q x H
theorem Hy:SlR X (WD X.K):=by
 intro pins s Z H x v vl vu lo hi sl Q I rx hs pl pu h
 obtain ⟨a,xs,rfl,hx,h0,h1,q⟩:=h
 cases rx
 obtain ⟨its,r,ht,hz⟩:=I.tuple hx
 have hlen:its.toArray.size=xs.length:=by rw [Yb];exact r.length.symm
 refine ⟨"tuple",_,PyProof.Rows.slot_tuple_getitem.lookup,ht.typeIs,?_⟩
 refine iC ht hs pl pu (by rw [hlen];exact h0) (by rw [hlen];exact h1) ?_
 exact ⟨.ref a,H,I,rfl,q⟩
def VP (x:W)(lo hi:Option Int)(h:Gh)(Q:WK):Prop:=match x with
 | .tup ws=>Q (.tup (HD ws lo hi)) h
 | x=>(match dU h x with
  | some ws=>Q (.lst (HD ws lo hi)) h
  | none=>False)
theorem Vl {e:Expr}{lo hi:Option Expr}{ma:ME}{ml mh:MO}{p2 pos:Pos}(he:DE X e ma)(hl:DO X lo ml)(hu:DO X hi mh):DE X (.Subscript e (.Slice lo hi none p2) pos) (mSl VP ma ml mh):=
 (Hz (SlR.or (SlR.or Mj Ow) Hy) he hl hu).of fun Z H Q ⟨μ,h,Zw,Qw,R,S,m,k⟩=>by
  refine ⟨μ,h,Zw,_,R,S,m,fun x H1 ⟨μ1,wx,h1,e1,R1,r1,m1⟩=>?_⟩
  refine ⟨μ1,h1,Zw,_,R1,S.ext e1,m1,fun lo H2 ⟨μ2,h2,e2,R2,m2⟩=>?_⟩
  refine ⟨μ2,h2,Zw,_,R2,(S.ext e1).ext e2,m2,fun hi H3 ⟨μ3,h3,e3,R3,m3⟩=>?_⟩
  have e13:=(e1.trans e2).trans e3
  have r3:=e3.r _ _ (e2.r _ _ r1)
  have oth:∀ wy,Rep X.K H3 μ3 wy x->(match dU h3 wy with
    | some ws=>Qw (.lst (HD ws lo hi)) h3
    | none=>False)->∃ p xs,x=.ref p/\SqL X.K H3 p xs/\∀ l,H3 l=none->Q (.ref l) (upd H3 l (.lst (Fd xs lo hi))):=by
   intro wy ry my
   split at my
   ·rename_i ws ev
    obtain ⟨p,xs,ex,hs,rs⟩:=cG R3 ry ev
    exact ⟨p,xs,ex,hs,fun l hl=>k _ _ ⟨μ3,_,h3,e13.trans (Ex.laid hl).ext,R3.laid hl,.lstNew R3 hl (rs.cutv lo hi),my⟩⟩
   ·exact my.elim
  cases wx with
  | tup ws=>
   have m3:Qw (.tup (HD ws lo hi)) h3:=m3
   have r30:=r3
   rw [Rep] at r3
   obtain ⟨p,xs,ex,hx,rs⟩:=r3
   have hl:=rs.len
   by_cases hw:HT.sIx xs.length 0 lo=0/\HT.sIx xs.length xs.length hi=xs.length
   ·have ec:HD ws lo hi=ws:=by
     unfold HD
     rw [hl,hw.1,hw.2,List.drop_zero,Nat.sub_zero,<-hl,List.take_length]
    rw [ec] at m3
    exact .inr ⟨p,xs,ex,hx,hw.1,hw.2,k _ _ ⟨μ3,.tup ws,h3,e13,R3,r30,m3⟩⟩
   ·exact .inl (.inr ⟨p,xs,ex,hx,hw,fun q hq=>k _ _ ⟨μ3,.tup (HD ws lo hi),h3,e13.trans (Ex.laid hq).ext,R3.laid hq,.tupNew hq (rs.cutv lo hi),m3⟩⟩)
  | _=>exact .inl (.inl (oth _ r3 m3))
end
end L2
namespace L2
open PySem PySem.Spec PyProof.Rows
section
variable {X:Cx}
def Xy:MC:=fun ws h Q=>match ws with
 | [.int i]=>Q (.int i) h
 | [.bl b]=>Q (.int (if b then 1 else 0)) h
 | _=>False
theorem nZ:fillsNumberSlot (.type "tuple") "mul" = pure false:=
 PySem.fillsNumberSlot_seq (id := "tuple.__mul__") (r:=some (.builtin "tuple.__rmul__")) F.slot_tuple_mul.lookup (by decide +kernel) F.slot_tuple_rmul.lookup (by decide +kernel)
theorem yR:seqRepeat? (.type "tuple")=pure (some (.builtin "tuple.__mul__")):=by
 unfold seqRepeat?
 rw [PySem.seqSlot_of (T := "tuple") (name := "__mul__") (id := "tuple.__mul__") F.slot_tuple_mul.lookup (by decide +kernel),PySem.seqSlot_of (T := "tuple") (name := "__rmul__") (id := "tuple.__rmul__") F.slot_tuple_rmul.lookup (by decide +kernel)]
 rfl
theorem sy (a:Int)(t:Tok)(l:Addr)(items:Array Value) :
  Meets (Builtin.«int.__rmul__» ⟨[.int a t,.ref l],[]⟩) (fun _ R s=>IsTup s.heap l items/\R (.ok (.ret Value.notImplemented)) s):=
 .of_wp fun prog w A R s h=>by
  obtain ⟨hp,g,d,tk,os⟩:=s
  obtain ⟨⟨o,ho,hc,n,hd⟩,h⟩:=h
  obtain ⟨cl,dd,da,sl⟩:=o
  simp only at hc hd
  subst hc hd
  wp_walk
  exact ⟨_,rfl,h⟩
theorem JT (l:Addr)(items:Array Value)(k:Int)(t:Tok)(h0:0<=k)(h1:k<2^63)(hz:items.size*k.toNat<=sizeLine) :
  Meets (Builtin.«tuple.__mul__» ⟨[.ref l,.int k t],[]⟩) (fun _ R s=>IsTup s.heap l items/\(if items.size=0\/k=1 then R (.ok (.ret (.ref l))) s else
   R (.ok (.ret (.ref s.heap.objs.size))) { s with heap:=s.heap.push { cls:=.type "tuple",data:=.seq (X7 k.toNat items.toList).flatten.toArray } })):=
 .of_wp fun prog w A R s h=>by
  obtain ⟨hp,g,d,tk,os⟩:=s
  obtain ⟨⟨o,ho,hc,n,hd⟩,h⟩:=h
  obtain ⟨cl,dd,da,sl⟩:=o
  simp only at hc hd
  subst hc hd
  have ht:IsTup hp l items:=⟨_,ho,rfl,n,rfl⟩
  wp_walk
  rw [if_neg (by simp;omega)]
  refine XS (tupleItemsOf_ (s:=⟨hp,g,d,tk,os⟩) ht ?_)
  dsimp only
  have hemp:items.isEmpty=decide (items.size=0):=rfl
  by_cases e:items.size=0\/k=1
  ·rw [if_pos e] at h
   rw [if_pos (by rcases e with e | e <;> simp [hemp,e])]
   unfold Builtin.Tuple.tupleIsExact
   refine XS (XS (wpAny_typeOf ⟨_,ho,rfl⟩ (X3 ?_)))
   rw [if_pos (by decide)]
   refine XS (wpAny_rule ?_)
   exact X3 ⟨_,rfl,h⟩
  ·rw [if_neg e] at h
   rw [not_or] at e
   rw [if_neg (by simp [hemp,e.1,e.2])]
   by_cases k0:k=0
   ·rw [if_pos (by simp [k0])]
    subst k0
    have ee:(X7 (0:Int).toNat items.toList).flatten.toArray = #[]:=rfl
    rw [ee] at h
    exact XS (m:=Builtin.Tuple.tupleExact _) (wpAny_newObj_type (X3 ⟨_,rfl,h⟩) (by show 0<=sizeLine;exact Nat.zero_le _))
   ·rw [if_neg (by simp [hemp,e.1];omega)]
    have hp8:((2:Int)^63 - 1) / 8=1152921504606846975:=by decide
    have hsz:(sizeLine:Nat)<=1152921504606846975:=by decide
    have hk:((items.size*k.toNat:Nat):Int)=(items.size:Int)*k:=by rw [Int.natCast_mul,Int.toNat_of_nonneg h0]
    rw [if_neg (by rw [hp8,<-hk];omega)]
    rw [if_neg (by unfold Builtin.Tuple.tupleTooMany;rw [<-hk,decide_eq_true_iff];omega)]
    have hnew:List.foldl (fun x1 x2=>x1++x2) #[] (X7 k.toNat items)=(X7 k.toNat items.toList).flatten.toArray:=by
     have:=foldl_rep items.toList k.toNat []
     rw [List.nil_append] at this
     simpa using this
    rw [hnew]
    refine XS (m:=Builtin.Tuple.tupleExact _) (wpAny_newObj_type (X3 ⟨_,rfl,h⟩) ?_)
    show (X7 k.toNat items.toList).flatten.toArray.size<=sizeLine
    rw [Yb,len_rep,Nat.mul_comm]
    simpa using hz
def Uk (K:Yh):R2:=fun x y H Q=>∃ a xs k,x=.ref a/\y=.int k/\SqT K H a xs/\0<=k/\k<2^63/\xs.length*k.toNat<=sizeLine /\
 ((xs.length=0\/k=1)->Q (.ref a) H)/\(¬ (xs.length=0\/k=1)->∀ p,H p=none->Q (.ref p) (upd H p (.tup (X7 k.toNat xs).flatten)))
theorem Nf:OpR X (binaryOp .Mult) (Uk X.K):=by
 intro pins s Z H x y v u Q I rx ry h
 obtain ⟨a,xs,k,rfl,rfl,hx,h0,h1,hz,q1,q2⟩:=h
 cases rx
 obtain ⟨t,rfl⟩:=ry
 obtain ⟨its,r,ht,hsz⟩:=I.tuple hx
 have hlen:its.toArray.size=xs.length:=by rw [Yb];exact r.length.symm
 refine wpAny_binaryOp_repeat_ref (T := "tuple") (U := "int") (by decide) ht.typeIs (fun s'=>typeIs_int s' k t) nZ F.fills_int_mul F.slot_int_rmul yR F.slot_int_index.lookup
  (call_meets F.slot_int_rmul (typeIs_int s k t) F.entry_int_rmul (F.args_int_rmul_2 _ _) (sy k t a its.toArray)
   ⟨ht,rfl,ht.typeIs,call_meets F.slot_tuple_mul ht.typeIs F.entry_tuple_mul (F.args_tuple_mul_2 _ _) (JT a its.toArray k t h0 h1 (by rw [hlen];exact hz)) ⟨ht,?_⟩⟩)
 rw [hlen]
 by_cases e:xs.length=0\/k=1
 ·rw [if_pos e]
  exact ⟨.ref a,H,I,rfl,q1 e⟩
 ·rw [if_neg e]
  refine ⟨.ref s.heap.objs.size,_,I.laid (t':=s.toks) (o:=.tup (X7 k.toNat xs).flatten) (fun b ob q=>Heap.get?_push_of_some _ q) (Yc _) ?_,rfl,q2 e _ (I.hok.fresh (Yc _))⟩
  exact ⟨by rw [len_rep,Nat.mul_comm];exact hz,_,r.rep k.toNat,zN.new _ _⟩
def Dl:M2:=fun x y h Q=>match x,y with
 | .int i,.int j=>oA i j/\Q (.int (i*j)) h
 | .tup ws,.int k=>(0<=k/\k<=1000/\ws.length*k.toNat<=1000)/\Q (.tup (X7 k.toNat ws).flatten) h
 | _,_=>False
theorem wH {K:Yh}{H:Hp}{μ : Mu}{ws:List W}{xs:List V}(r:aJ K H μ ws xs):∀ k:Nat,aJ K H μ (X7 k ws).flatten (X7 k xs).flatten
 | 0=>TJ
 | k+1=>by
  rw [List.replicate_succ,List.replicate_succ,List.flatten_cons,List.flatten_cons]
  exact aJ.append r (wH r k)
theorem rJ:DOp X (binaryOp .Mult) Dl:=⟨_,zJ.or Nf,by
  intro H μ h x y wx wy Qw Q R rx ry m k
  cases wx with
  | int i=>cases wy with
    | int j=>
      rw [Rep] at rx ry
      have m:oA i j/\Qw (.int (i*j)) h:=m
      exact .inl ⟨_,_,rx,ry,m.1,k _ _ (.int R m.2)⟩
    | _=>exact (show False from m).elim
  | tup ws=>cases wy with
    | int n=>
      have m:(0<=n/\n<=1000/\ws.length*n.toNat<=1000)/\Qw (.tup (X7 n.toNat ws).flatten) h:=m
      obtain ⟨⟨h0,h1,h2⟩,m⟩:=m
      have rx0:=rx
      rw [Rep] at rx
      rw [Rep] at ry
      obtain ⟨p,xs,ex,hx,rs⟩:=rx
      have hl:=rs.len
      have sz:(1000:Nat)<=sizeLine:=by decide
      have p63:(2:Int)^63=9223372036854775808:=by decide
      refine .inr ⟨p,xs,n,ex,ry,hx,h0,by omega,by rw [<-hl];omega,fun e=>?_,fun e q hq=>?_⟩
      . have ee:(X7 n.toNat ws).flatten=ws:=by
          rcases e with e | e
          . have:ws=[]:=List.eq_nil_of_length_eq_zero (by omega)
            subst this
            have:∀ k:Nat,(X7 k ([]:List W)).flatten=[]:=fun k=>by induction k with
              | zero=>rfl
              | succ k ih=>rw [List.replicate_succ,List.flatten_cons,ih];rfl
            exact this _
          . subst e
            show (X7 1 ws).flatten=ws
            simp
        rw [ee] at m
        rw [<-ex]
        exact k _ _ ⟨μ,.tup ws,h,.refl,R,rx0,m⟩
      . exact k _ _ ⟨μ,.tup (X7 n.toNat ws).flatten,h,(Ex.laid hq).ext,R.laid hq,.tupNew hq (wH rs _),m⟩
    | _=>exact (show False from m).elim
  | _=>exact (show False from by cases wy <;> exact m).elim⟩
theorem jJ {K:Yh}{H:Hp}{μ : Mu}:∀ {ns:List Int} {xs:List V},aJ K H μ (ns.map W.int) xs->xs=ns.map V.int
 | [],xs,r=>by rw [List.map_nil,aJ] at r;exact r
 | n::ns,xs,r=>by
  rw [X5,aJ] at r
  obtain ⟨v,vs,e,rv,r⟩:=r
  rw [Rep] at rv
  rw [e,rv,jJ r];rfl
end
end L2
namespace L2
open PySem PySem.Spec PyProof.Rows
section
variable {X:Cx}
end
end L2
namespace L2
open PySem PySem.Spec PyProof.Rows
section
variable {X:Cx}
def Tz:V->List V->Hp->VK->Prop:=fun x vs H Q=>∃ i:Int,x=.int i/\vs=[]/\Q (.int (Builtin.Int.intBits i:Nat)) H
theorem MP:MtR X "int.bit_length" Tz:=by
 intro pins s Z H x vs v us Q I rx rv h
 obtain ⟨i,rfl,rfl,q⟩:=h
 obtain ⟨t,rfl⟩:=rx
 have hus:=rv.zero
 subst hus
 exact call_int_bit_length ⟨.int (Builtin.Int.intBits i:Nat),H,I.tok _,⟨_,rfl⟩,q⟩
def Oc (mo:ME):ME:=fun Z h Q=>mo Z h fun x h1=>match x with
 | .int i=>Q (.int (Builtin.Int.intBits i:Nat)) h1
 | _=>False
theorem Sg {o:Expr}{mo:ME}{apos cpos:Pos}(ho:DE X o mo)(hbase:attributeBase o "bit_length" X.env (eval o X.env)=eval o X.env:=by rfl)(hline:(apos.endLine==cpos.line)=true:=by rfl) :
  DE X (.Call (.Attribute o "bit_length" apos) [] [] cpos) (Oc mo):=(O8 PySem.F.plainAttrs_int slot_int_bit_length type_int_bit_length MP ho hbase hline).of fun Z H Q ⟨μ,h,Zw,Qw,R,S,m,k⟩=>by
 refine ⟨μ,h,Zw,_,R,S,m,fun v H1 ⟨μ1,w,h1,e1,R1,r1,m1⟩=>?_⟩
 cases w with
 | int i=>
  rw [Rep] at r1
  subst r1
  have z:DQ X.K H1 μ1 Qw (.int (Builtin.Int.intBits i:Nat)) H1:=.int R1 m1
  exact ⟨rfl,i,rfl,rfl,k _ _ (z.trans e1)⟩
 | _=>exact (show False from m1).elim
end
end L2
namespace L2
open PySem PySem.Spec PyProof.Rows
def XO (h:Heap)(P:Addr->Prop)(e C:Addr)(od:Option Addr):Prop:=P e/\∃ (oe:Obj) (vs:Array Value),h.get? e=some oe/\oe.cls=.ref C/\oe.dict=od/\oe.data=.fields vs/\vs.size<=1000/\vs[2]?=some .none /\
 (vs[1]?=some .none\/∃ (T:Addr) (oT:Obj) (ts:Array Value),vs[1]?=some (.ref T)/\T≠e/\P T/\h.get? T=some oT/\oT.data=.fields ts/\3<ts.size)
def XN (h:Heap)(P:Addr->Prop)(e C:Addr)(od:Option Addr):Prop:=P e/\∃ (oe:Obj) (vs:Array Value),h.get? e=some oe/\oe.cls=.ref C/\oe.dict=od/\oe.data=.fields vs/\vs.size<=1000/\vs[2]?=some .none /\
 ∃ (T:Addr) (oT:Obj) (ts:Array Value),vs[1]?=some (.ref T)/\T≠e/\P T/\h.get? T=some oT/\oT.data=.fields ts/\3<ts.size
theorem XN.xo {h:Heap}{P:Addr->Prop}{e C:Addr}{od:Option Addr}(x:XN h P e C od):XO h P e C od:=by
 obtain ⟨p,oe,vs,a,b,c,d,f,g,k⟩:=x
 exact ⟨p,oe,vs,a,b,c,d,f,g,.inr k⟩
theorem XO.mono {h:Heap}{P P':Addr->Prop}{e C:Addr}{od:Option Addr}(x:XO h P e C od)(k:∀ b,P b->P' b):XO h P' e C od:=by
 obtain ⟨p,oe,vs,a,b,c,d,f,g,z⟩:=x
 refine ⟨k _ p,oe,vs,a,b,c,d,f,g,?_⟩
 rcases z with z | ⟨T,oT,ts,z1,z2,z3,z4⟩
 ·exact .inl z
 ·exact .inr ⟨T,oT,ts,z1,z2,k _ z3,z4⟩
theorem XN.mono {h:Heap}{P P':Addr->Prop}{e C:Addr}{od:Option Addr}(x:XN h P e C od)(k:∀ b,P b->P' b):XN h P' e C od:=by
 obtain ⟨p,oe,vs,a,b,c,d,f,g,T,oT,ts,z1,z2,z3,z4⟩:=x
 exact ⟨k _ p,oe,vs,a,b,c,d,f,g,T,oT,ts,z1,z2,k _ z3,z4⟩
structure Stp (P:Addr->Prop) (fs:List Addr) (h h':Heap):Prop where
 keep:∀ b o,¬ P b->b∉fs->h.get? b=some o->h'.get? b=some o
 slot:∀ b o,¬ P b->h.get? b=some o->∃ sl,h'.get? b=some { o with slots:=sl }
 there:∀ b o,h.get? b=some o->∃ o',h'.get? b=some o'
theorem Stp.refl {P:Addr->Prop}{fs:List Addr}{h:Heap}:Stp P fs h h:=⟨fun _ _ _ _ e=>e,fun _ o _ e=>⟨o.slots,e⟩,fun _ o e=>⟨o,e⟩⟩
theorem Stp.trans {P:Addr->Prop}{fs:List Addr}{h h1 h2:Heap}(a:Stp P fs h h1)(b:Stp P fs h1 h2):Stp P fs h h2:=
 ⟨fun c o n m e=>b.keep c o n m (a.keep c o n m e),fun c o n e=>let ⟨_,e1⟩:=a.slot c o n e;let ⟨sl,e2⟩:=b.slot c _ n e1;⟨sl,e2⟩,fun c o e=>let ⟨o1,e1⟩:=a.there c o e;b.there c o1 e1⟩
section
variable {M:Model}{A:Around}{E:Value->Shared->Prop}{s:Shared}{P:Addr->Prop}{e C:Addr}{od:Option Addr}
theorem CT {fl:Option Addr}{fs:List Addr}{Q:Unit->Shared->Prop}(x:XN s.heap P e C od)(h:∀ h',XN h' P e C od->Stp P fs s.heap h'->Q () { s with heap:=h' }):wpAny M A (setFlight (.ref e) fl) Q E s:=by
 obtain ⟨p,oe,vs,he,hc,hdd,hd,hz,h2,T,oT,ts,h1,hne,pT,hT,hdT,h3⟩:=x
 unfold setFlight
 refine XS (wpAny_field he hd h1 ?_)
 rw [if_pos (show (Value.ref T != Value.none)=true from by simp)]
 refine wpAny_setField hT hdT h3 (h _ ?_ ?_)
 ·have hd3:=Obj.data_mapFields hdT (·.setIfInBounds 3 (fl.elim Value.none fun f=>rawInt f))
  refine ⟨p,oe,vs,?_,hc,hdd,hd,hz,h2,T,_,_,h1,hne,pT,Heap.get?_update_self _ hT (Obj.isFreed_of_fields hd3),hd3,by simpa using h3⟩
  rw [Heap.get?_update_other _ _ hne];exact he
 ·have ne:∀ b,¬ P b->T≠b:=fun b n q=>n (q ▸ pT)
  refine ⟨fun b o n _ q=>by rw [Heap.get?_update_other _ _ (ne b n)];exact q,fun b o n q=>⟨o.slots,by rw [Heap.get?_update_other _ _ (ne b n)];exact q⟩,fun b o q=>?_⟩
  by_cases hb:T=b
  ·subst hb
   exact ⟨_,Heap.get?_update_self _ hT (Obj.isFreed_of_fields (Obj.data_mapFields hdT _))⟩
  ·exact ⟨o,by rw [Heap.get?_update_other _ _ hb];exact q⟩
theorem vP {base:Heap}{env:Env}{outer:List Env}{L:Addr}{oe:Obj}{vs:Array Value}{head:Value}{hadNext:Bool}{Q:Unit->Shared->Prop}
  (hfr:A.frames=some (env::outer)) (hl:s.heap.FunFrames base (env::outer)) (hf:env.frame=some L) (pe:P e) (he:s.heap.get? e=some oe) (hc:oe.cls=.ref C) (hdd:oe.dict=od) (hd:oe.data=.fields vs) (hz:vs.size<=1000) (h2:vs[2]?=some .none)
  (pn:∀ b,s.heap.get? b=none->P b) (h:∀ h',XN h' P e C od->Stp P (frs (env::outer)) s.heap h'->Q () { s with heap:=h' }) :
  wpAny M A (do let a <-frameOf env;let pl <-entryPlaceOf L hadNext;let b <-EntryCells.newEntry head a .none (rawInt L) .none pl;setField (.ref e) 1 b) Q E s:=by
 have hsz:1<vs.size:=Nat.lt_trans (by decide) (Array.getElem?_eq_some_iff.mp h2).1
 have hene:e∉(env::outer).filterMap (·.frame):=fun hm=>by
  obtain ⟨_,o,ho,hnf⟩:=hl.mem hm
  rw [he] at ho;injection ho with ho;subst ho;exact hnf vs hd
 refine XS (wpAny_frameOf_fun hfr hl hf fun h₁ hs₁=>?_)
 refine XS (wpAny_entryPlaceOf fun pl hpl=>?_)
 unfold EntryCells.newEntry newFields
 refine XS (wpAny_newObj_type ?_ (hpl.sizeOk5 _ _ _ _ _))
 have he₁ : h₁.get? e=some oe:=(hs₁.2.1 e hene).trans he
 have he₂:=Heap.get?_push_of_some (h:=h₁) { cls:=.type "traceback",dict:=none,data:=.fields ([head,.ref L,.none,rawInt L,.none]++(if pl.isEmpty then X7 6 Value.none else pl)).toArray } he₁
 refine wpAny_setField he₂ hd hsz (h _ ?_ ?_)
 ·have hTe:h₁.objs.size≠e:=Nat.ne_of_gt (X4 he₁)
  have hd₃:=Obj.data_mapFields hd (·.setIfInBounds 1 (Value.ref h₁.objs.size))
  refine ⟨pe,_,_,Heap.get?_update_self _ he₂ (Obj.isFreed_of_fields hd₃),by rw [Obj.cls_mapFields];exact hc,?_,hd₃,by simpa using hz,by rw [Array.getElem?_setIfInBounds_ne (by decide)];exact h2,h₁.objs.size,_,_,by simp [hsz],hTe,
   pn _ (Heap.get?_none_of_le (by rw [hs₁.1];exact Yc _)),(Heap.get?_update_other _ _ (Ne.symm hTe)).trans (Heap.get?_push_size h₁ rfl),rfl,by simp only [Yb,List.length_append,List.length_cons,List.length_nil] <;> omega⟩
  obtain ⟨c,dd,dt,sl⟩:=oe
  cases hd
  exact hdd
 ·have ne:∀ b,¬ P b->e≠b:=fun b n q=>n (q ▸ pe)
  refine ⟨fun b o n m q=>?_,fun b o n q=>?_,fun b o q=>?_⟩
  ·rw [Heap.get?_update_other _ _ (ne b n)]
   exact Heap.get?_push_of_some _ ((hs₁.2.1 b m).trans q)
  ·obtain ⟨sl,e1⟩:=hs₁.2.2 b o q
   exact ⟨sl,by rw [Heap.get?_update_other _ _ (ne b n)];exact Heap.get?_push_of_some _ e1⟩
  ·obtain ⟨sl,e1⟩:=hs₁.2.2 b o q
   by_cases hb:e=b
   ·subst hb
    exact ⟨_,Heap.get?_update_self _ he₂ (Obj.isFreed_of_fields (Obj.data_mapFields hd _))⟩
   ·exact ⟨_,by rw [Heap.get?_update_other _ _ hb];exact Heap.get?_push_of_some _ e1⟩
theorem Ng {base:Heap}{env:Env}{outer:List Env}{L:Addr}{Q:Unit->Shared->Prop}(hfr:A.frames=some (env::outer))(hl:s.heap.FunFrames base (env::outer))(hf:env.frame=some L)(x:XO s.heap P e C od)
  (pn:∀ b,s.heap.get? b=none->P b) (pf:∀ b∈frs (env::outer),¬ P b) (h:∀ h',XN h' P e C od->Stp P (frs (env::outer)) s.heap h'->Q () { s with heap:=h' }):wpAny M A (noteFrame (.ref e) env) Q E s:=by
 obtain ⟨p,oe,vs,he,hc,hdd,hd,hz,h2,z⟩:=x
 unfold noteFrame
 simp only [hf]
 rcases z with h1 | ⟨T,oT,ts,h1,hne,pT,hT,hdT,h3⟩
 ·refine XS (wpAny_field he hd h1 ?_)
  rw [if_neg (by decide)]
  exact vP hfr hl hf p he hc hdd hd hz h2 pn h
 ·refine XS (wpAny_field he hd h1 ?_)
  rw [if_pos (show (Value.ref T != Value.none)=true from by simp)]
  refine XS (wpAny_field hT hdT (x:=ts[3]) (by simp [h3]) ?_)
  by_cases q:(ts[3]==rawInt L)=true
  ·rw [if_pos q]
   exact X3 (h s.heap ⟨p,oe,vs,he,hc,hdd,hd,hz,h2,T,oT,ts,h1,hne,pT,hT,hdT,h3⟩ .refl)
  ·rw [if_neg q]
   refine XS (wpAny_setField hT hdT h3 ?_)
   have other:∀ b,b≠T->(s.heap.update T (Obj.mapFields (·.setIfInBounds 3 Value.none))).get? b=s.heap.get? b:=fun b hb=>Heap.get?_update_other _ _ (Ne.symm hb)
   have nT:∀ b,¬ P b->b≠T:=fun b n q=>n (q ▸ pT)
   have st:Stp P (frs (env::outer)) s.heap (s.heap.update T (Obj.mapFields (·.setIfInBounds 3 Value.none))):=by
    refine ⟨fun b o n _ q=>(other b (nT b n)).trans q,fun b o n q=>⟨o.slots,(other b (nT b n)).trans q⟩,fun b o q=>?_⟩
    by_cases hb:T=b
    ·subst hb
     exact ⟨_,Heap.get?_update_self _ hT (Obj.isFreed_of_fields (Obj.data_mapFields hdT _))⟩
    ·exact ⟨o,(other b (Ne.symm hb)).trans q⟩
   refine vP (s:={ s with heap:=s.heap.update T (Obj.mapFields (·.setIfInBounds 3 Value.none)) }) hfr (hl.of_keeps fun b o hb hnf=>⟨o,(other b fun q=>?_).trans hb,rfl⟩) hf p ((other e (Ne.symm hne)).trans he) hc hdd hd hz h2 (fun b q=>?_) fun h' x1 x2=>h h' x1 (st.trans x2)
   ·rw [q,hT] at hb;injection hb with hb;subst hb;exact hnf ts hdT
   ·by_cases hb:b=T
    ·rw [hb];exact pT
    ·exact pn b ((other b hb).symm.trans q)
end
end L2
namespace L2
open PySem PySem.Spec PyProof.Rows
theorem cZ.obj {P:Program}{w:World}{H:Hp}{h:Heap}{a:Addr}{o:HO}(x:cZ P w H h a o):∃ ob,h.get? a=some ob:=by
 cases o with
 | lst xs=>obtain ⟨_,_,_,_,e⟩:=x;exact ⟨_,e⟩
 | tup xs=>obtain ⟨_,_,_,ob,e,_⟩:=x;exact ⟨_,e⟩
 | dK kvs=>obtain ⟨_,_,_,_,o,_,_,e,_⟩:=x;exact ⟨_,e⟩
 | dT kvs=>obtain ⟨_,_,_,_,o,_,_,e,_⟩:=x;exact ⟨_,e⟩
 | set S n=>obtain ⟨o,_,_,_,e,_⟩:=x;exact ⟨_,e⟩
 | ins C dx fs=>obtain ⟨_,_,_,e,_⟩:=x;exact ⟨_,e⟩
 | own y=>obtain ⟨_,e⟩:=x;exact ⟨_,e⟩
 | xd fs=>obtain ⟨_,⟨_,_,_,e,_⟩,_⟩:=x;exact ⟨_,e⟩
 | rng lo hi=>obtain ⟨_,_,_,e⟩:=x;exact ⟨_,e⟩
 | frz ob u=>obtain ⟨e,_⟩:=x;exact ⟨_,e⟩
 | tbl ps=>exact ⟨_,show h.get? a=some _ from x⟩
 | met f y=>exact ⟨_,show h.get? a=some _ from x⟩
 | ext φ=>obtain ⟨_,⟨_,e⟩,_⟩:=x;exact ⟨_,e⟩
section
variable {X:Cx}{pins:List (Addr×Obj)}{Z : St}{H H':Hp}{s s':Shared}{b e C:Addr}{od:Option Addr}
structure New (X:Cx) (pins:List (Addr×Obj)) (H:Hp) (b:Addr):Prop where
 h:H b=none
 s:b∈X.ex\/X.s₀.heap.get? b=none
 l:b≠X.env.locals
 c:∀ x c,X.env.cells.lookup x=some c->c≠b
 p:∀ p∈X.pn++pins,p.1≠b
 f:b∉X.fs
theorem Inv.newOf (I:Inv X pins Z H s)(hb:s.heap.get? b=none):New X pins H b where
 h:=by
  cases q:H b with
  | none=>rfl
  | some u=>obtain ⟨ob,e⟩:=(I.hok b u q).obj;rw [hb] at e;cases e
 s:=by
  by_cases hx:b∈X.ex
  ·exact .inl hx
  ·cases q:X.s₀.heap.get? b with
   | none=>exact .inr rfl
   | some o=>obtain ⟨o',e⟩:=I.base.there b o q hx;rw [hb] at e;cases e
 l:=fun z=>by obtain ⟨m,⟨o,_,_,ho,_⟩,_⟩:=I.loc;rw [<-z,hb] at ho;cases ho
 c:=fun x c e z=>by obtain ⟨v,o,ho,_⟩:=I.cell x c e;rw [z,hb] at ho;cases ho
 p:=fun p hp z=>by have ho:=(I.pin p hp).1;rw [z,hb] at ho;cases ho
 f:=fun hm=>by obtain ⟨_,o,ho,_⟩:=I.funs.mem hm;rw [hb] at ho;cases ho
open Classical in
theorem Inv.stp {h':Heap}(I:Inv X pins Z H s)(st:Stp (New X pins H) (frs X.stack) s.heap h'):Inv X pins Z H { s with heap:=h' }:=by
 have inCh:∀ b o,s.heap.get? b=some o->b∉(List.range s.heap.objs.size).filter (fun b=>decide (New X pins H b))->¬ New X pins H b:=fun b o e n z=>
  n (List.mem_filter.mpr ⟨List.mem_range.mpr (X4 e),decide_eq_true z⟩)
 refine I.stepG (g':=s.gens) (t':=s.toks) (d':=s.drawn) (ch:=(List.range s.heap.objs.size).filter (fun b=>decide (New X pins H b))) (fun b hb=>?_) (fun b o hL hf hc e n=>?_) (fun b o _ _ hc e _=>st.slot b o (inCh b o e hc) e) (fun _ _ _ _ n=>n)
  (fun b o _ e=>st.there b o e) (fun _ _ q=>q) (fun _ _ _ q=>q) (fun _ ps q=>⟨#[],by rw [q];simp⟩) (fun m hm=>?_) (fun b u q=>?_) I.bare
 ·have z:=of_decide_eq_true (List.mem_filter.mp hb).2
  exact ⟨z.s,z.l,z.c,z.p⟩
 ·exact st.keep b o (inCh b o e hc) (fun z=>(List.mem_cons.mp (I.stkSub b z)).elim hL hf) e
 ·obtain ⟨o,es,ep,ho,r⟩:=hm
  obtain ⟨sl,q⟩:=st.slot _ o (fun z=>z.l rfl) ho
  exact ⟨_,es,ep,q,r⟩
 ·refine (I.hok b u q).stay (fun c v hc r=>?_) (fun _ q=>q) fun _ _ q=>q
  have hH:H c≠none:=by
   rcases hc with z | z
   ·rw [z,q];simp
   ·rw [z];simp
  exact st.keep c v (fun z=>hH z.h) (fun z=>hH (I.stkFree c z)) r
structure FX (X:Cx) (pins:List (Addr×Obj)) (Z : St) (H:Hp) (s:Shared) (e C:Addr) (od:Option Addr):Prop where
 inv:Inv X pins Z H s
 xo:XO s.heap (New X pins H) e C od
structure FN (X:Cx) (pins:List (Addr×Obj)) (Z : St) (H:Hp) (s:Shared) (e C:Addr) (od:Option Addr):Prop where
 inv:Inv X pins Z H s
 xn:XN s.heap (New X pins H) e C od
theorem FN.fx (F:FN X pins Z H s e C od):FX X pins Z H s e C od:=⟨F.inv,F.xn.xo⟩
def Top (X:Cx):Prop:=X.stack=X.env::X.outer/\X.env.frame=some X.env.locals
theorem FX.note {M:Model}{A:Around}{E:Value->Shared->Prop}{Q:Unit->Shared->Prop}(F:FX X pins Z H s e C od)(ht:Top X)(hA:A.frames=some X.stack)(h:∀ h',FN X pins Z H { s with heap:=h' } e C od->Q () { s with heap:=h' }) :
  wpAny M A (noteFrame (.ref e) X.env) Q E s:=by
 have hst:=F.inv.stack
 rw [ht.1] at hst hA
 refine Ng (P:=New X pins H) hA hst ht.2 F.xo (fun b hb=>F.inv.newOf hb) (fun b hb z=>?_) fun h' x st=>h h' ⟨F.inv.stp (by rw [ht.1];exact st),x⟩
 have hb':b∈frs X.stack:=by rw [ht.1];exact hb
 rcases List.mem_cons.mp (F.inv.stkSub b hb') with q | q
 ·exact z.l q
 ·exact z.f q
theorem FN.flight {M:Model}{A:Around}{E:Value->Shared->Prop}{Q:Unit->Shared->Prop}{fl:Option Addr}(F:FN X pins Z H s e C od)(h:∀ h',FN X pins Z H { s with heap:=h' } e C od->Q () { s with heap:=h' }) :
  wpAny M A (setFlight (.ref e) fl) Q E s:=CT (fs:=frs X.stack) F.xn fun h' x st=>h h' ⟨F.inv.stp st,x⟩
def CXX (P:Program)(w:World):CXT:=fun outer H s E e s'=>∃ (a C:Addr) (od:Option Addr) (H':Hp),e=.ref a/\s'.os=s.os/\AllBare s'.gens/\Un (frs outer) [] H H' s.heap s'.heap/\HOk P w H' s'.heap /\
 XN s'.heap (fun b=>H' b=none/\s.heap.get? b=none) a C od/\E (.ref C) od H'
theorem FX.leave {M:Model}{E':Value->Shared->Prop}{E:XK}(F:FX X pins Z H s e C od)(ht:Top X)(hx:X.ex=[])(he:E (.ref C) od H) :
  wpAny M X.A (leaving X.env (.ref e)) (fun _ s3=>CXX X.prog X.w X.outer X.H₀ X.s₀ E (.ref e) s3) E' s:=by
 unfold leaving
 refine XS (F.note ht F.inv.ok.frames fun h1 F1=>F1.flight fun h2 F2=>?_)
 have I:=F2.inv
 refine ⟨e,C,od,H,rfl,I.os,I.bare,by have:=I.base;rw [hx] at this;exact this,I.hok,F2.xn.mono fun b z=>⟨z.h,?_⟩,he⟩
 rcases z.s with q | q
 ·rw [hx] at q;cases q
 ·exact q
theorem Inv.cxx {E:XK}{ev:Value}(I:Inv X pins Z H s)(h:CXX X.prog X.w X.stack H s E ev s'):∃ (a C:Addr) (od:Option Addr) (H':Hp),ev=.ref a/\FN X pins Z H' s' a C od/\E (.ref C) od H':=by
 obtain ⟨a,C,od,H',e1,os,bare,un,hok,x,he⟩:=h
 refine ⟨a,C,od,H',e1,⟨I.call' os un hok bare (ch:=[]) (fun b z=>absurd z (by simp)),x.mono fun b z=>?_⟩,he⟩
 have n:=I.newOf z.2
 exact ⟨z.1,n.s,n.l,n.c,n.p,n.f⟩
end
theorem JG {K:Yh}{h:Heap}{C:Addr}{bm:List Value}{newId:String}(X:K.In h)(q:PySem.W.excIn K C bm newId=true) :
  ∃ (tl:List Value) (N:Addr) (nm qn:Str) (bs:List Value) (hd:Bool) (sn:List Str) (sub:List Value) (ab:Bool) (col:Option Bool) (dd:Option Addr) (k0 k1 k2 k3 k5:Option Value) (mN:Str->Option Value),
   K.lookup C=some (excClassObj nm qn C N bs tl hd sn sub ab col dd k0 k1 k2 k3 k5 newId)/\h.Ns N mN/\mN "__init__" = none/\OwnTail h bm tl:=by
 unfold PySem.W.excIn at q
 split at q
 ·rename_i dd cd sl ho
  split at q
  ·rename_i C' bm' k0 k1 k2 k3 n k5 hm hs
   simp only [Bool.and_eq_true,beq_iff_eq,Bool.not_eq_true'] at q
   obtain ⟨⟨⟨⟨⟨rfl,rfl⟩,hdel⟩,ht⟩,hok⟩,hni⟩:=q
   obtain ⟨nm,bs,mro,ns,qn,hd,sn,sub,ab,col,del⟩:=cd
   dsimp only at hm hdel hok hni
   subst hm hdel
   have hsl:sl = #[k0,k1,k2,k3,some (.builtin n),k5]:=by
    obtain ⟨l⟩:=sl
    simp only at hs
    rw [hs]
   subst hsl
   exact ⟨bm',ns,nm,qn,bs,hd,sn,sub,ab,col,dd,k0,k1,k2,k3,k5,_,ho,.of_isNs (PySem.W.isNs_of_in X hok),PySem.W.nsMap_none_of_in X hok hni,PySem.W.tail_of_in X ht⟩
  ·cases q
 ·cases q
section
variable {X:Cx}{pins:List (Addr×Obj)}{Z : St}{H:Hp}{s:Shared}{C:Addr}{x:Str}{np cpos pos:Pos}{e:Expr}{es:List Expr}{t:TA}
theorem yp {Q:Flow->Shared->Prop}{R:Hp->Prop}(hc:X.calm=true)(hg:Gl X x)(hm:X.mg x=some (.ref C))(hq:PySem.W.excIn X.K C vmB "ValueError.__new__" = true)(ha:PA X (e::es) t)
  (I:Inv X pins Z H s) (h:t Z H fun vs H1=>vs.length<=sizeLine/\R H1) (hx:∀ a H1 s',FX X pins Z H1 s' a C none->R H1->X.xe (.ref a) s')
  (hdb:(x==("__debug__" : Str))=false:=by decide) (he:starEach (e::es) X.env=(false,eval e X.env)::starEach es X.env:=by rfl) (hpl:(backTo cpos (starEach es X.env)).any (·.1)=false:=by rfl) :
  wpAny (model X.prog X.w) X.A (exec (.Raise (some (.Call (.Name x np) (e::es) [] cpos)) none pos) X.env) Q X.xe s:=by
 obtain ⟨tl,N,nm,qn,bs,hd,sn,sub,ab,col,dd,k0,k1,k2,k3,k5,mN,hC,hN,hni,T⟩:=JG I.mod.kin hq
 refine wpAny_Raise_call_subT (C:=C) (nm:=nm) (q:=qn) (N:=N) (bs:=bs) (bm:=tl) (hdct:=hd) (sn:=sn) (sub:=sub) (ab:=ab) (col:=col) (dd:=dd) (k0:=k0) (k1:=k1) (k2:=k2) (k3:=k3) (k5:=k5)
  PySem.F.excBase_ValueError (mN:=mN) (T.hasType PySem.F.excBase_ValueError.hasBase) (I.ok.hd hc) (by rw [he];show (false||(backTo cpos (starEach es X.env)).any (·.1))=false;rw [hpl];rfl) hni (pR I hg hm ⟨rfl,?_⟩ hdb)
 have g:=ha cpos pins s Z H _ I h
 rw [he] at g |-
 refine Calls.evalArgs_plain (thn g fun us s2 ⟨vs,H2,I2,r,z,k⟩=>⟨rfl,?_,I2.kIn _ _ hC,hN.keeps I2.bk,T.keeps I2.bk,fun h' a M=>hx a H2 _ ⟨I2.kept (t':=s2.toks) M.keeps,?_⟩ k⟩)
 ·show us.length<=sizeLine
  rw [<-r.length];exact z
 ·obtain ⟨tt,h1,h2,h3⟩:=M.there
  exact ⟨I2.newOf M.new,_,_,h1,rfl,rfl,rfl,by simp,rfl,.inl rfl⟩
end
end L2
namespace L2
open PySem PySem.Spec PyProof.Rows
def SN (K:Yh)(H:Hp)(μ : Mu)(C:Addr)(n:Str)(od:Option Addr)(fs:List (Str×W)):Prop:=
 (od=none/\fs=[])\/∃ dd ws xs,od=some dd/\Vf K C n=true/\fs=(Cu n).zip ws/\ws.length=(Cu n).length/\(Cu n).length=xs.length/\H dd=some (.xd ((Cu n).zip xs))/\aJ K H μ ws xs
def XT (X:Cx)(H:Hp)(μ : Mu)(Γ : St->Prop)(E:XWK):Value->Shared->Prop:=fun ev s=>∃ (a C:Addr) (n:Str) (od:Option Addr) (fs:List (Str×W)) (pins:List (Addr×Obj)) (Z : St) (H':Hp) (μ':Mu) (h':Gh),ev=.ref a/\FX X pins Z H' s a C od/\rF X.K C n=true/\Γ Z /\
 Ext X.K H μ H' μ'/\Rel X.K μ' H' h'/\SN X.K H' μ' C n od fs/\E ⟨n,fs⟩ h'
theorem XT.trans {X:Cx}{H H1:Hp}{μ μ1:Mu}{Γ : St->Prop}{E:XWK}{ev:Value}{s:Shared}(x:XT X H1 μ1 Γ E ev s)(e:Ext X.K H μ H1 μ1):XT X H μ Γ E ev s:=by
 obtain ⟨a,C,n,od,fs,pins,Z,H',μ',h',h1,h2,h3,h4,h5,h6⟩:=x
 exact ⟨a,C,n,od,fs,pins,Z,H',μ',h',h1,h2,h3,h4,e.trans h5,h6⟩
def tDX (X:Cx)(Γ : St->Prop)(m:XWK->ME):TE:=fun Z H Q=>Γ Z/\∃ μ h Zw Qw E,Rel X.K μ H h/\Slots X.K H μ Zw Z/\m E Zw h Qw/\(∀ v H',DQ X.K H μ Qw v H'->Q v H')/\∀ ev s',XT X H μ Γ E ev s'->X.xe ev s'
def V5 (X:Cx)(Γ : St->Prop)(m:XWK->MS):TS:=fun D Z H=>Γ Z/\∃ μ h Zw Dw E,Rel X.K μ H h/\Slots X.K H μ Zw Z/\m E Dw Zw h/\rZ X.K H μ Dw D/\∀ ev s',XT X H μ Γ E ev s'->X.xe ev s'
abbrev DEx (X:Cx)(Γ : St->Prop)(e:Expr)(m:XWK->ME):Prop:=PE X e (tDX X Γ m)
abbrev DSx (X:Cx)(Γ : St->Prop)(st:Stmt)(m:XWK->MS):Prop:=PS X st (V5 X Γ m)
abbrev FZ (X:Cx)(Γ : St->Prop)(st:List Stmt)(m:XWK->MS):Prop:=PSs X st (V5 X Γ m)
def sE (K:Yh)(ms:MSp):Sp:=fun vs H Q E=>∃ μ h ws Qw Ew,Rel K μ H h/\aJ K H μ ws vs/\ms ws h Qw Ew/\(∀ v H',DQ K H μ Qw v H'->Q v H') /\
 ∀ (C:Addr) (n:Str) (od:Option Addr) (fs:List (Str×W)) (H':Hp),rF K C n=true->(∃ μ' h',Ext K H μ H' μ'/\Rel K μ' H' h'/\SN K H' μ' C n od fs/\Ew ⟨n,fs⟩ h')->E (.ref C) od H'
theorem d9.tame {P:Program}{w:World}{K:Yh}{mg:Str->Option Value}{base:Heap}{k:Nat}{f:Addr}{fd:FuncData}{ps:List Str}{ms:MSp}(F:d9 P w K mg base (CXX P w) k f fd ps (sE K ms)):d9 P w K mg base CX0 k f fd ps (lift K ms):=by
 have up:∀ vs H Q E,lift K ms vs H Q E->sE K ms vs H Q E0:=fun vs H Q E ⟨μ,h,ws,Qw,R,r,m,q⟩=>⟨μ,h,ws,Qw,EF,R,r,m,q,fun _ _ _ _ _ _ ⟨_,_,_,_,_,z⟩=>z⟩
 refine ⟨fun vs H Q E q=>F.len vs H Q E0 (up _ _ _ _ q),fun A outer s H args us vs Q E hr e0 hb hv hs=>codeAny_mono (F.run A outer s H args us vs Q E0 hr e0 hb hv (up _ _ _ _ hs)) fun r s' h=>?_⟩
 cases r with
 | error e=>obtain ⟨_,_,_,_,_,_,_,_,_,_,z⟩:=h;exact z
 | ok fl=>cases fl <;> exact h
section
variable {X:Cx}{Γ : St->Prop}{e c:Expr}{es:List Expr}{mr:MA}{pos:Pos}{st:Stmt}{rest:List Stmt}
theorem vd {k:Nat}{f:Addr}{fd:FuncData}{ps:List Str}{ms:MSp}{x:Str}{p:Pos}(F:d9 X.prog X.w X.K X.mg X.base (CXX X.prog X.w) k f fd ps (sE X.K ms))(hr:j8 k X.A)(hg:Gl X x)(hm:X.mg x=some (.ref f))(hk:PySem.W.keepIn X.K (.ref f)=true)
  (hb:Binds X.K fd ps []) (ha:DAs X (e::es) mr) (hdb:(x==("__debug__" : Str))=false:=by decide) (he:starEach (e::es) X.env=(false,eval e X.env)::starEach es X.env:=by rfl) (hpl:(backTo pos (starEach es X.env)).any (·.1)=false:=by rfl) :
  DEx X Γ (.Call (.Name x p) (e::es) [] pos) (fun E=>bD ms E mr):=by
 intro pins s Z H Q I ⟨hZ,μ,h,Zw,Qw,E,R,S,m,q,kx⟩
 refine wpAny_Call_Name_kw (pR I hg hm ?_ hdb)
 refine PySem.W.callWith_K (h₀:=X.base) I.ok.mod.kin hk (thn (ha pos pins s Z H (fun vs H1=>DA X.K H μ (fun ws h1=>ms ws h1 Qw E) vs H1) I ⟨μ,h,Zw,_,R,S,m,fun _ _ z=>z⟩) fun us s1 ⟨vs,H1,I1,r,μ1,ws,h1,e1,R1,r1,m1⟩=>⟨I1.kIn,?_⟩) he hpl
 have sp:sE X.K ms (vs++[]) H1 Q (fun Cv od H'=>∃ (C:Addr) (n:Str) (fs:List (Str×W)) (μ':Mu) (h':Gh),Cv=.ref C/\rF X.K C n=true/\Ext X.K H1 μ1 H' μ'/\Rel X.K μ' H' h'/\SN X.K H' μ' C n od fs/\E ⟨n,fs⟩ h'):=by
  rw [List.append_nil]
  exact ⟨μ1,h1,ws,Qw,E,R1,r1,m1,fun v H' z=>q _ _ (z.trans e1),fun C n od fs H' hx ⟨μ',h',z⟩=>⟨C,n,fs,μ',h',rfl,hx,z⟩⟩
 have r2:Vals (vs++[]) (us++[]):=r.append .nil
 have hl:(us++[]).length=ps.length:=by rw [<-r2.length];exact F.len _ _ _ _ sp
 refine wpAny_call (codeAny_mono (F.run X.A X.stack s1 H1 ⟨us,[]⟩ (us++[]) (vs++[]) Q _ hr I1.env0 (hb s1 us I1.kIn hl) r2 sp) fun r s' hq=>?_)
 cases r with
 | error ev=>
  obtain ⟨a,C,od,H',e2,F2,C',n,fs,μ',h',e3,hx,e4,R4,k4⟩:=I1.cxx (E:=fun Cv od H'=>∃ (C:Addr) (n:Str) (fs:List (Str×W)) (μ':Mu) (h':Gh),Cv=.ref C/\rF X.K C n=true/\Ext X.K H1 μ1 H' μ'/\Rel X.K μ' H' h'/\SN X.K H' μ' C n od fs/\E ⟨n,fs⟩ h') hq
  cases e3
  exact kx ev s' ⟨a,C,n,od,fs,pins,Z,H',μ',h',e2,F2.fx,hx,hZ,e1.trans e4,R4,k4⟩
 | ok fl=>
  cases fl with
  | ret u=>exact I1.after hq
  | next=>exact False.elim hq
  | brk=>exact False.elim hq
  | cont=>exact False.elim hq
theorem ji {m:MS}(h:DS X st m):DSx X Γ st (fun _=>m):=h.of fun D Z H ⟨_,μ,h,Zw,Dw,_,R,S,m,k,_⟩=>⟨μ,h,Zw,Dw,R,S,m,k⟩
theorem XF {m:MS}(h:DS X.nox st m):DS X st m:=fun pins s Z H D I q=>wpAny_mono (h pins s Z H D (I.wish _) q) (fun f s' z=>by
 cases f with
 | next=>obtain ⟨a,b,c,d⟩:=z;exact ⟨a,b,c.unwish,d⟩
 | brk=>obtain ⟨a,b,c,d⟩:=z;exact ⟨a,b,c.unwish,d⟩
 | cont=>obtain ⟨a,b,c,d⟩:=z;exact ⟨a,b,c.unwish,d⟩
 | ret v=>obtain ⟨a,b,c,d,e⟩:=z;exact ⟨a,b,c,d.unwish,e⟩) fun _ _ z=>z.elim
theorem q9:FZ X Γ [] (fun _=>eF):=bR.of fun D Z H ⟨_,μ,h,Zw,Dw,_,R,S,m,k,_⟩=>⟨μ,h,Zw,Dw,R,S,m,k⟩
theorem dX {m:XWK->MS}(h:DSx X Γ st m):FZ X Γ [st] m:=zQ h
theorem cu {m1 m2:XWK->MS}(hΓ : ∀ Z,Γ Z)(h1:DSx X Γ st m1)(h2:FZ X Γ rest m2):FZ X Γ (st::rest) (fun E=>bY (m1 E) (m2 E)):=(xP h1 h2).of fun D Z H ⟨g,μ,h,Zw,Dw,E,R,S,m,k,kx⟩=>by
 refine ⟨g,μ,h,Zw,_,E,R,S,m,⟨?_,k.rt,k.bk,k.ct⟩,kx⟩
 intro Z' H' ⟨μ1,Zw1,h1,e1,R1,S1,m1⟩
 exact ⟨hΓ _,μ1,h1,Zw1,Dw,E,R1,S1,m1,k.trans e1,fun ev s' z=>kx ev s' (z.trans e1)⟩
theorem xO {ma:XWK->ME}(he:DEx X Γ e ma)(hs:swapsWith e none pos.line X.env=pure false:=by rfl):DSx X Γ (.Expr e pos) (fun E=>qm (ma E)):=(Ar he hs).of fun D Z H ⟨g,μ,h,Zw,Dw,E,R,S,m,k,kx⟩=>
 ⟨g,μ,h,Zw,_,E,R,S,m,fun v H1 ⟨μ1,w,h1,e1,R1,_,m1⟩=>k.nx _ _ ⟨μ1,Zw,h1,e1,R1,S.ext e1,m1⟩,kx⟩
theorem zA {a b:List Stmt}{t:MT}{m1 m2:XWK->MS}(hc:DT X c t)(ha:FZ X Γ a m1)(hb:FZ X Γ b m2):DSx X Γ (.If c a b pos) (fun E=>nW t (m1 E) (m2 E)):=(Q8 hc ha hb).of fun D Z H ⟨g,μ,h,Zw,Dw,E,R,S,m,k,kx⟩=>by
 refine ⟨μ,h,Zw,_,R,S,m,fun b H1 ⟨μ1,h1,e1,R1,q⟩=>?_⟩
 cases b with
 | true=>rw [if_pos rfl];exact ⟨g,μ1,h1,Zw,Dw,E,R1,S.ext e1,q.1 rfl,k.trans e1,fun ev s' z=>kx ev s' (z.trans e1)⟩
 | false=>rw [if_neg Bool.false_ne_true];exact ⟨g,μ1,h1,Zw,Dw,E,R1,S.ext e1,q.2 rfl,k.trans e1,fun ev s' z=>kx ev s' (z.trans e1)⟩
theorem Lp {ma:XWK->ME}{i:Nat}{x:Str}{pos':Pos}(hN:X.N.Nodup)(hi:X.N[i]?=some x)(hx:Loc X.env.scope x)(he:DEx X Γ e ma)(hs:swapsWith e (some (.Name x pos')) pos.line X.env=pure false:=by rfl)
  (hf:X.fn x=true\/X.env.scope.names.lookup x=some .local:=by first | exact .inl rfl | exact .inr rfl | assumption):DSx X Γ (.Assign [.Name x pos'] e pos) (fun E=>cY (ma E) (nName i)):=
 (Ik hN hi hx he hs hf).of fun D Z H ⟨g,μ,h,Zw,Dw,E,R,S,m,k,kx⟩=>
  ⟨g,μ,h,Zw,_,E,R,S,m,fun v H1 ⟨μ1,w,h1,e1,R1,r1,m1⟩=>k.nx _ _ ⟨μ1,Zw.set i (some w),h1,e1,R1,(S.ext e1).set r1 i,m1⟩,kx⟩
theorem lY {C:Addr}{x v:Str}{j}{np cpos p1:Pos}(hc:X.calm=true)(hg:Gl X x)(hm:X.mg x=some (.ref C))(hq:PySem.W.excIn X.K C vmB "ValueError.__new__" = true)(hx:rF X.K C x=true)(hdb:(x==("__debug__" : Str))=false:=by decide) :
  DSx X Γ (.Raise (some (.Call (.Name x np) [.Constant (.str v) j p1] [] cpos)) none pos) (fun E=>tE x E):=by
 intro pins s Z H D I ⟨g,μ,h,Zw,Dw,E,R,S,m,k,kx⟩
 refine yp (R:=fun H1=>∃ μ1 h1,Ext X.K H μ H1 μ1/\Rel X.K μ1 H1 h1/\E ⟨x,[]⟩ h1) hc hg hm hq (ak Vp aB rfl) I ⟨μ,h,Zw,fun ws h1=>ws.length=1/\E ⟨x,[]⟩ h1,R,S,⟨rfl,m⟩,fun vs H' ⟨μ1,ws,h1,e1,R1,r1,l1,m1⟩=>⟨by rw [<-r1.len,l1];decide,μ1,h1,e1,R1,m1⟩⟩ (fun a H1 s' F ⟨μ1,h1,e1,R1,m1⟩=>?_) hdb rfl rfl
 exact kx _ s' ⟨a,C,x,none,[],pins,Z,H1,μ1,h1,rfl,F,hx,g,e1,R1,.inl ⟨rfl,rfl⟩,m1⟩
end
theorem Mr {P:Program}{w:World}{K:Yh}{mg:Str->Option Value}{base:Heap}{x qual:Str}{st:Stmt}{f:Addr}{fd:FuncData}{N ps:List Str}{k:Nat}{pure:Bool}{body:XWK->MS}(F:Fun K x qual st f fd)(S:bB N ps (aQ st))
  (hb:∀ (cdv:Value) (A:Around) (outer:List Env) (s:Shared) (H:Hp) (E:XK),j8 k (A.deeper (envOfC qual (aQ st) s.heap.objs.size f cdv)) ->
   FZ (Jx (CXX P w) P w K mg base N qual (aQ st) f cdv A outer s H E) (fun _=>True) (gF st) body):d9 P w K mg base (CXX P w) (k+1) f fd ps (sE K (mFn ps.length N.length pure body)):=by
 obtain ⟨oc,od,kV,doc,pm,an,cdv,ct,osl,rfl,lk,hcd⟩:=F.ex
 refine Ss lk hcd S (fun vs H Q E ⟨μ,h,ws,Qw,Ew,R,r,m,_,_⟩=>by rw [<-r.len];exact (wL m).1) fun A outer s H vs Q E hr ⟨μ,h,ws,Qw,Ew,R,r,m0,k,kx⟩=>?_
 obtain ⟨hl,m⟩:=wL m0
 refine ⟨_,hb cdv A outer s H E hr,trivial,μ,h,_,_,Ew,R,nG r,m,⟨?_,?_,?_,?_⟩,?_⟩
 ·rintro Z' H' ⟨μ1,Zw1,h1,e1,R1,S1,m1⟩
  exact k _ _ (pO (w:=.non) R e1 R1 (by rw [Rep]) m1)
 ·rintro v H' ⟨μ1,w1,h1,e1,R1,r1,m1⟩
  exact k _ _ (pO R e1 R1 r1 m1)
 ·rintro Z' H' ⟨μ1,Zw1,h1,e1,R1,S1,m1⟩
  exact m1.elim
 ·rintro Z' H' ⟨μ1,Zw1,h1,e1,R1,S1,m1⟩
  exact m1.elim
 ·rintro ev s' ⟨a,C,n,od,fs,pins,Z',H',μ',h',rfl,F',hx,_,e1,R1,m1⟩
  exact F'.leave ⟨rfl,rfl⟩ rfl (kx C n od fs H' hx ⟨μ',h',e1,R1,m1⟩)
end L2
namespace L2
open PySem PySem.Spec PyProof.Rows
abbrev Cx.tr (X:Cx)(pins:List (Addr×Obj))(xe:Value->Shared->Prop):Cx:={ X with pn:=X.pn++pins,xe:=xe }
abbrev Cx.hnd (X:Cx)(a:Addr)(o:Obj)(u:HO):Cx:={ X with A:=X.A.mark (some (.ref a)),H₀:=upd X.H₀ a (.frz o u),calm:=false }
def eN (a:Addr)(o:Obj):HO:=.ext fun h=>h.get? a=some o
section
variable {X:Cx}{pins pins':List (Addr×Obj)}{Z : St}{H:Hp}{s:Shared}{xe:Value->Shared->Prop}{a C:Addr}{o:Obj}{u:HO}
theorem Cx.Ok.tr (ok:X.Ok)(pins:List (Addr×Obj))(xe:Value->Shared->Prop):(X.tr pins xe).Ok:=
 ⟨ok.mod,ok.kind,ok.glob,ok.blt,ok.above,ok.inj,ok.has,ok.cab,ok.hd,ok.qt,ok.frames,ok.stk,ok.exf,ok.bs,ok.bsz,ok.noex,ok.exfs,ok.funs,ok.frf⟩
theorem Cx.Ok.untr (ok:(X.tr pins xe).Ok):X.Ok:=
 ⟨ok.mod,ok.kind,ok.glob,ok.blt,ok.above,ok.inj,ok.has,ok.cab,ok.hd,ok.qt,ok.frames,ok.stk,ok.exf,ok.bs,ok.bsz,ok.noex,ok.exfs,ok.funs,ok.frf⟩
theorem Inv.tr (I:Inv X pins Z H s):Inv (X.tr pins xe) [] Z H s:=⟨I.ok.tr pins xe,I.os,I.bare,I.base,I.loc,I.cell,I.free,I.freeC,fun p hp=>I.pin p (by
 have hp':p∈(X.pn++pins)++[]:=hp
 rw [List.append_nil] at hp'
 exact hp'),I.hok,I.len⟩
theorem Inv.untr (I:Inv (X.tr pins xe) pins' Z H s):Inv X pins Z H s:=⟨I.ok.untr,I.os,I.bare,I.base,I.loc,I.cell,I.free,I.freeC,fun p hp=>I.pin p (List.mem_append_left _ hp),I.hok,I.len⟩
theorem New.untr {b:Addr}(n:New (X.tr pins xe) pins' H b):New X pins H b:=⟨n.h,n.s,n.l,n.c,fun p hp=>n.p p (List.mem_append_left _ hp),n.f⟩
theorem FX.untr {e:Addr}{od:Option Addr}(F:FX (X.tr pins xe) pins' Z H s e C od):FX X pins Z H s e C od:=⟨F.inv.untr,F.xo.mono fun _ n=>n.untr⟩
theorem SP.untr {D:Ends}{f:Flow}{s':Shared}(h:SP (X.tr pins xe) [] D f s'):SP X pins D f s':=by
 cases f with
 | next=>obtain ⟨Z',H',I,q⟩:=h;exact ⟨Z',H',I.untr,q⟩
 | brk=>obtain ⟨Z',H',I,q⟩:=h;exact ⟨Z',H',I.untr,q⟩
 | cont=>obtain ⟨Z',H',I,q⟩:=h;exact ⟨Z',H',I.untr,q⟩
 | ret v=>obtain ⟨v,Z',H',I,r,q⟩:=h;exact ⟨v,Z',H',I.untr,r,q⟩
theorem Inv.hnd {vs:Array Value}(I:Inv X pins Z H s)(n:New X pins H a)(hx:X.ex=[])(ho:s.heap.get? a=some o)(hd:o.data=.fields vs)(h2:vs[2]?=some .none):Inv (X.hnd a o (eN a o)) pins Z (upd H a (.frz o (eN a o))) s:=by
 have s0:X.s₀.heap.get? a=none:=by
  rcases n.s with q | q
  ·rw [hx] at q;cases q
  ·exact q
 have ne:∀ b ob,X.s₀.heap.get? b=some ob->b≠a:=fun b ob e z=>by rw [z,s0] at e;cases e
 have nf:∀ b∈X.fs,b≠a:=fun b hb z=>n.f (by rw [<-z];exact hb)
 have ok:(X.hnd a o (eN a o)).Ok:=by
  have k:=I.ok
  refine ⟨k.mod,k.kind,k.glob,k.blt,k.above,k.inj,k.has,k.cab,fun z=>(nomatch z),fun v e=>?_,k.frames,k.stk,k.exf,fun b ob e=>?_,k.bsz,k.noex,k.exfs,k.funs,fun b hb=>?_⟩
  ·have e:some (Value.ref a)=some v:=e
   cases e
   exact ⟨a,o,eN a o,vs,rfl,aV,hd,h2⟩
  ·obtain ⟨e1,e2⟩:=k.bs b ob e
   exact ⟨e1,(aH (ne b ob e1)).trans e2⟩
  ·exact (aH (nf b hb)).trans (k.frf b hb)
 have up:∀ b ob,X.s₀.heap.get? b=some ob->upd X.H₀ a (.frz o (eN a o)) b=none->X.H₀ b=none:=fun b ob e z=>by rw [aH (ne b ob e)] at z;exact z
 refine ⟨ok,I.os,I.bare,⟨fun b ob e z hf hx=>I.base.keep b ob e (up b ob e z) hf hx,fun b ob e z hf hx=>I.base.slot b ob e (up b ob e z) hf hx,fun b ob e z hx=>?_,I.base.there,fun b xs z=>?_,fun b ob v z=>?_,fun b ps z=>?_⟩,I.loc,I.cell,?_,fun x c e=>?_,fun p hp=>?_,fun b v z=>?_,I.len⟩
 ·rw [aH (ne b ob e)];exact I.base.free b ob e (up b ob e z) hx
 ·have z:upd X.H₀ a (.frz o (eN a o)) b=some (.tup xs):=z
  by_cases hb:b=a
  ·subst hb;rw [aV] at z;cases z
  ·rw [aH hb] at z |-;exact I.base.tups b xs z
 ·have z:upd X.H₀ a (.frz o (eN a o)) b=some (.frz ob v):=z
  by_cases hb:b=a
  ·subst hb;rw [aV] at z |-;exact z
  ·rw [aH hb] at z |-;exact I.base.frzs b ob v z
 ·have z:upd X.H₀ a (.frz o (eN a o)) b=some (.tbl ps):=z
  by_cases hb:b=a
  ·subst hb;rw [aV] at z;cases z
  ·rw [aH hb] at z |-;exact I.base.tbls b ps z
 ·rw [aH (Ne.symm n.l)];exact I.free
 ·rw [aH (n.c x c e)];exact I.freeC x c e
 ·obtain ⟨h1,h3,h4⟩:=I.pin p hp
  exact ⟨h1,(aH (n.p p hp)).trans h3,h4⟩
 ·by_cases hb:b=a
  ·subst hb
   rw [aV] at z
   cases z
   exact ⟨ho,ho,⟨o,ho⟩,fun h1 h2 q k=>k o q⟩
  ·rw [aH hb] at z
   exact (I.hok b v z).stay (fun _ _ _ q=>q) (fun c q=>by rw [aH (aN q n.h)];exact q) fun c xs q=>by rw [aH (aN q n.h)];exact q
theorem Inv.unhnd {Z0:St}{H0:Hp}{s0:Shared}(I0:Inv X pins Z0 H0 s0)(n:New X pins H0 a)(hx:X.ex=[])(I:Inv (X.hnd a o u) pins' Z H s):Inv X pins' Z H s:=by
 have e0:X.s₀.heap.get? a=none:=by
  rcases n.s with q | q
  ·rw [hx] at q;cases q
  ·exact q
 have ne:∀ b ob,X.s₀.heap.get? b=some ob->b≠a:=fun b ob e z=>by rw [z,e0] at e;cases e
 have up:∀ b ob,X.s₀.heap.get? b=some ob->X.H₀ b=none->(X.hnd a o u).H₀ b=none:=fun b ob e z=>(aH (ne b ob e)).trans z
 refine ⟨I0.ok,I.os,I.bare,⟨fun b ob e z hf hx=>I.base.keep b ob e (up b ob e z) hf hx,fun b ob e z hf hx=>I.base.slot b ob e (up b ob e z) hf hx,fun b ob e z hx=>I.base.free b ob e (up b ob e z) hx,I.base.there,fun b xs z=>?_,fun b ob v z=>?_,fun b ps z=>?_⟩,I.loc,I.cell,I.free,I.freeC,I.pin,I.hok,I.len⟩
 ·refine I.base.tups b xs ((aH fun hb=>?_).trans z)
  subst hb
  have:=I0.base.tups b xs z
  rw [n.h] at this;cases this
 ·refine I.base.frzs b ob v ((aH fun hb=>?_).trans z)
  subst hb
  have:=I0.base.frzs b ob v z
  rw [n.h] at this;cases this
 ·refine I.base.tbls b ps ((aH fun hb=>?_).trans z)
  subst hb
  obtain ⟨_,this⟩:=I0.base.tbls b ps z
  rw [n.h] at this;cases this
def qX (Z : St):St:=Z.map fun _=>none
theorem Inv.lost {m':Str->Option Value}{h':Heap}{t':Nat}(I:Inv X pins Z H s)(hn:h'.Ns X.env.locals m')(sb:Heap.SameBut X.env.locals s.heap h'):Inv X pins (qX Z) H { s with heap:=h',toks:=t' }:=by
 have neL:∀ b o,X.s₀.heap.get? b=some o->b≠X.env.locals:=fun b o e=>Yg (Yd (X4 e) I.ok.above)
 have k:∀ b o,b≠X.env.locals->s.heap.get? b=some o->h'.get? b=some o:=fun b o hb e=>(sb.2 b hb).trans e
 refine ⟨I.ok,I.os,I.bare,⟨fun b o e z hf hx=>k b o (neL b o e) (I.base.keep b o e z hf hx),fun b o e z hf hx=>?_,I.base.free,fun b o e hx=>?_,I.base.tups,I.base.frzs,I.base.tbls⟩,⟨m',hn,fun i x v _ e2 _=>?_⟩,fun x c e=>?_,I.free,I.freeC,fun p hp=>?_,fun b v z=>?_,?_⟩
 ·obtain ⟨sl,e1⟩:=I.base.slot b o e z hf hx
  exact ⟨sl,k b _ (neL b o e) e1⟩
 ·obtain ⟨o',e1⟩:=I.base.there b o e hx
  exact ⟨o',k b _ (neL b o e) e1⟩
 ·unfold qX at e2
  rw [List.getElem?_map] at e2
  cases q:Z[i]? with
  | none=>rw [q] at e2;cases e2
  | some w=>rw [q] at e2;cases e2
 ·obtain ⟨v,oc,ho,hd⟩:=I.cell x c e
  exact ⟨v,oc,k c oc (I.cne x c e) ho,hd⟩
 ·obtain ⟨h1,h2,h3,h4⟩:=I.pin p hp
  exact ⟨k _ _ h3 h1,h2,h3,h4⟩
 ·have nL:∀ c w,H c=some w->c≠X.env.locals:=fun c w e q=>by rw [q,I.free] at e;cases e
  refine (I.hok b v z).stay (fun c w hc q=>k c w ?_ q) (fun _ q=>q) fun _ _ q=>q
  rcases hc with r | r
  ·rw [r];exact nL b _ z
  ·exact nL c _ r
 ·unfold qX
  rw [X6];exact I.len
end
end L2
namespace L2
open PySem PySem.Spec PyProof.Rows
section
variable {prog:Program}{w:World}{A:Around}{E:Value->Shared->Prop}{s:Shared}{K:Yh}{x D:Addr}{ox:Obj}
theorem Bd {Q:Option Value->Shared->Prop}{od:Option Obj}(X:K.In s.heap)(I:PySem.W.InstAt s.heap x ox D od)(hga:PySem.W.findIn K (.ref D) "__getattribute__" = some (some (.builtin "BaseException.__getattribute__")))(hk:PySem.W.findIn K (.ref D) "__getattr__" = some none)
  (hf:PySem.W.findObj K D od "__class__" = some (.bind (.builtin "getset_descriptor.__get__") (.builtin "object.__class__"))) (hm:PySem.W.mroIn K D (.type "object")=some true) (hB:PySem.W.mroIn K D (.type "BaseException")=some true)
  (h:Q (some (.ref D)) { s with toks:=s.toks+1 }):wpAny (model prog w) A (getAttr? (.ref x) "__class__") Q E s:=by
 obtain ⟨hh,g,d,t,os⟩:=s
 have L0:=I.type (M:=model prog w)
 have L1:=PySem.W.looks_findIn (M:=model prog w) X hga
 have L2:=PySem.W.looks_findIn (M:=model prog w) X hk
 have L3:=PySem.W.looks_find (M:=model prog w) X I hf
 have L4:=PySem.W.looks_mroIn (M:=model prog w) X hB
 unfold getAttr? getAttrBy? getAttrBy
 refine XS (wpAny_mkText (XS (wpAny_attempt (wpAny_holding (XS (PySem.W.Looks.at L0 (XS (PySem.W.Looks.at L1 ?_))))))))
 show wpAny _ _ (if (onTheHeap (Value.ref D)&&(Value.builtin "BaseException.__getattribute__"==Value.builtin "object.__getattribute__"))=true then _ else getAttrByItsOwn _ _ _ _ _ _) _ _ _
 have hx2:(Value.builtin "BaseException.__getattribute__"==Value.builtin "object.__getattribute__")=false:=by decide +kernel
 rw [hx2,Bool.and_false,if_neg Bool.false_ne_true]
 unfold getAttrByItsOwn
 refine XS (show wpAny _ _ (typeLookup (Value.ref D) "__getattr__") _ _ _ from PySem.W.Looks.at L2 ?_)
 refine XS (wpAny_attempt (wpAny_holding ?_))
 show wpAny _ _ (boundAndCalled _ _ _) _ _ _
 unfold boundAndCalled
 rw [PySem.F.attrBase_ValueError.ga.bind (.ref x)]
 refine XS (X3 ?_)
 dsimp only
 refine wpAny_call (codeAny_call_builtin PySem.F.attrBase_ValueError.ga.plain F.entry_bexc_ga ?_)
 have hk:builtinKind "BaseException.__getattribute__" = some .slot:=by decide +kernel
 have hsplit:splitId "BaseException.__getattribute__" = some ("BaseException", "__getattribute__"):=by decide +kernel
 have ha:=F.args_bexc_ga (.ref x) (.str "__class__" t)
 simp only [checkBuiltinCall,hk,hsplit]
 show wpAny (model prog w) A.in1 (isInstance (Value.ref x) (Value.type "BaseException") >>= _) _ _ _
 refine XS ?_
 unfold isInstance
 refine XS (PySem.W.Looks.at L0 (PySem.W.Looks.at L4 ?_))
 rw [if_neg (by decide)]
 change wpAny (model prog w) A.in1 (match Manifest.signature? "BaseException.__getattribute__" with
  | some sig=>Bind.checkArgs "BaseException.__getattribute__" sig ⟨[Value.ref x,Value.str (Str.ofString "__class__") t],[]⟩
  | x=>pure ()) _ _ _
 repeat (any_goals (first | assumption | (with_reducible refine wpAny_loadPart_at I.at_ ?_;rw [I.cls]) | with_reducible refine PySem.W.Looks.at L3 ?_ | wp_step))
 refine PySem.W.class_get (s:=⟨hh,g,d,t+1,os⟩) (ox:=ox) (od:=od) X I hm ?_
 refine X3 ?_
 exact PySem.W.handed_on rfl (X3 h)
end
def isX (n d:Str):Bool:=n==d||d == "EaselError"
section
variable {K:Yh}{C D:Addr}{n d:Str}
theorem yX (h:qU K D d=true):PySem.W.nsIn K mainGlobals d=some (some (.ref D))/\PySem.W.typeIn K (.ref D)=some (.type "type")/\∃ cd,PySem.W.clsIn K D=some cd/\cd.name=d/\cd.mro.contains (.type "BaseException")=true:=by
 unfold qU at h
 simp only [Bool.and_eq_true,beq_iff_eq] at h
 obtain ⟨⟨h1,h2⟩,h3⟩:=h
 refine ⟨h1,h2,?_⟩
 split at h3
 ·rename_i cd hc
  simp only [Bool.and_eq_true,beq_iff_eq] at h3
  exact ⟨cd,hc,h3.1,h3.2⟩
 ·cases h3
theorem Gd (h:rF K C n=true):qU K C n=true/\(∃ cd R,PySem.W.clsIn K C=some cd/\cd.mro=.ref C::.ref R::vmB/\PySem.W.nsIn K mainGlobals "EaselError" = some (some (.ref R))/\∃ cr,PySem.W.clsIn K R=some cr/\cr.name = "EaselError") /\
  PySem.W.findIn K (.ref C) "__getattribute__" = some (some (.builtin "BaseException.__getattribute__"))/\PySem.W.findIn K (.ref C) "__getattr__" = some none/\PySem.W.findIn K (.ref C) "__class__" = some (some (.builtin "object.__class__"))/\PySem.W.specialIn K (.builtin "object.__class__") "__get__" = some (some (.builtin "getset_descriptor.__get__"))/\PySem.W.takesIn K (.builtin "object.__class__")=some true:=by
 unfold rF at h
 simp only [Bool.and_eq_true,beq_iff_eq] at h
 obtain ⟨⟨⟨⟨⟨⟨h1,h2⟩,h3⟩,h3'⟩,h4⟩,h5⟩,h6⟩:=h
 refine ⟨h1,?_,h3,h3',h4,h5,h6⟩
 split at h2
 ·rename_i cd hc
  split at h2
  ·rename_i C' R a b c d hm
   simp only [Bool.and_eq_true,beq_iff_eq] at h2
   obtain ⟨⟨⟨e1,e2⟩,e3⟩,e4⟩:=h2
   obtain ⟨cr,e5,e6⟩:=PySem.W.any_some e4
   exact ⟨cd,R,hc,by rw [hm,e1,<-e2],e3,cr,e5,beq_iff_eq.mp e6⟩
  ·cases h2
 ·cases h2
theorem Jw (h:rF K C n=true)(hd:qU K D d=true):PySem.W.mroIn K C (.ref D)=some (isX n d):=by
 obtain ⟨hx,⟨cd,R,hc,hm,hR,cr,hcr,hnr⟩,_⟩:=Gd h
 obtain ⟨n1,_,cd',hc',nm,_⟩:=yX hx
 obtain ⟨d1,_,dd,hdd,dm,_⟩:=yX hd
 rw [hc] at hc';cases hc'
 unfold PySem.W.mroIn
 rw [hc,Option.bind_some,hm]
 show some ((Value.ref C::Value.ref R::vmB).contains (.ref D))=some (isX n d)
 congr 1
 unfold isX
 have e1:(Value.ref C::Value.ref R::vmB).contains (.ref D)=((Value.ref D==Value.ref C)||((Value.ref D==Value.ref R)||false)):=by
  rw [List.contains_cons,List.contains_cons];rfl
 rw [e1,Bool.or_false]
 have a1:(Value.ref D==Value.ref C)=(n==d):=by
  rw [Bool.eq_iff_iff,beq_iff_eq,beq_iff_eq]
  constructor
  ·intro q
   cases q
   rw [hc] at hdd;cases hdd
   rw [<-nm,<-dm]
  ·intro q
   subst q
   rw [n1] at d1
   injection d1 with d1;injection d1 with d1;injection d1 with d1
   rw [d1]
 have a2:(Value.ref D==Value.ref R)=(d == "EaselError"):=by
  rw [Bool.eq_iff_iff,beq_iff_eq,beq_iff_eq]
  constructor
  ·intro q
   cases q
   rw [hcr] at hdd;cases hdd
   rw [<-hnr,<-dm]
  ·intro q
   subst q
   rw [hR] at d1
   injection d1 with d1;injection d1 with d1;injection d1 with d1
   rw [d1]
 rw [a1,a2]
def zu (K:Yh)(v:V)(f:Str->Bool):Prop:=∀ (u:Value),RelV v u->∀ (C:Addr) (n:Str),rF K C n=true->PySem.W.kitOne K (.ref C) u=some (f n)
theorem zu.own (hd:qU K D d=true):zu K (.ref D) (fun n=>isX n d):=by
 intro u r C n h
 cases (show u=Value.ref D from r)
 have e:=Jw h hd
 obtain ⟨_,ht,dd,hdd,_⟩:=yX hd
 unfold PySem.W.kitOne
 by_cases q:(Value.ref C==Value.ref D)=true
 ·rw [if_pos q]
  have q:=beq_iff_eq.mp q
  cases q
  obtain ⟨n1,_,cd,hc,nm,_⟩:=yX (Gd h).1
  rw [hc] at hdd;cases hdd
  obtain ⟨_,_,cd',hc',dm,_⟩:=yX hd
  rw [hc] at hc';cases hc'
  unfold isX
  rw [<-nm,<-dm]
  simp
 ·rw [if_neg q]
  unfold PySem.W.kitCls
  dsimp only
  rw [if_pos (by rw [hdd,ht];rfl)]
  exact e
theorem zu.val:zu K (.ty "ValueError") (fun _=>true):=by
 intro u r C n h
 cases (show u=Value.type "ValueError" from r)
 obtain ⟨_,⟨cd,R,hc,hm,_⟩,_⟩:=Gd h
 unfold PySem.W.kitOne
 rw [if_neg (by intro q;cases beq_iff_eq.mp q)]
 unfold PySem.W.kitCls
 dsimp only
 rw [if_pos (by decide +kernel)]
 show PySem.W.mroIn K C (.type "ValueError")=some true
 unfold PySem.W.mroIn
 rw [hc,Option.bind_some,hm]
 rfl
theorem Gs {x:Addr}{ox:Obj}(h:rF K D n=true):PySem.W.KitX K (.ref x) (.ref D) (fun h=>∃ od,PySem.W.InstAt h x ox D od):=by
 obtain ⟨hx,⟨cd,R,hc,hm,_⟩,hg,hg',ha,hn,htk⟩:=Gd h
 have hmo:PySem.W.mroIn K D (.type "object")=some true:=by
  unfold PySem.W.mroIn
  rw [hc,Option.bind_some,hm]
  rfl
 have hf:∀ od,PySem.W.findObj K D od "__class__" = some (.bind (.builtin "getset_descriptor.__get__") (.builtin "object.__class__")):=by
  intro od
  unfold PySem.W.findObj
  rw [hc,Option.bind_some,ha,Option.bind_some]
  simp [hn,htk]
 have hcl:∃ c' d' sl',K.lookup D=some ⟨c',d',.cls cd,sl'⟩:=by
  unfold PySem.W.clsIn at hc
  split at hc
  ·rename_i c' d' cd' sl' ho
   cases hc
   exact ⟨c',d',sl',ho⟩
  ·cases hc
 obtain ⟨c',d',sl',ho⟩:=hcl
 refine ⟨fun _ _ _ ⟨_,I⟩=>I.type,fun _ _ X _=>?_,fun h tp dd its n sl X htp=>?_,fun {prog w A E Q s} X ⟨od,I⟩ k=>?_⟩
 ·intro A' Q' E' s' k q
  unfold isType loadHead
  exact XS (wpAny_loadPart (k _ _ (X _ _ ho)) (X3 q))
 ·refine Bool.eq_false_iff.mpr fun q=>?_
  have e:D=tp:=Value.ref.inj (beq_iff_eq.mp q)
  subst e
  have z:=(X _ _ ho).symm.trans htp
  cases z
 ·refine Bd X I hg hg' (hf od) hmo ?_ k
  unfold PySem.W.mroIn
  rw [hc,Option.bind_some,hm]
  rfl
theorem vL {M:Model}{A:Around}{E:Value->Shared->Prop}{s:Shared}{e:Addr}{oe:Obj}{Q:Bool->Shared->Prop}(X:K.In s.heap)(he:s.heap.get? e=some oe)(hcls:oe.cls=.ref C)(h:rF K C n=true)(hd:qU K D d=true)(hq:Q (isX n d) s) :
  wpAny M A (excMatches (.ref e) (.ref D)) Q E s:=by
 obtain ⟨_,ht,dd,hdd,_,hB⟩:=yX hd
 have L1:PySem.W.Looks M s.heap (typeOf (.ref D)) (.type "type"):=PySem.W.looks_typeIn X ht
 have L2:PySem.W.Looks M s.heap (isSubtype (.ref C) (.ref D)) (isX n d):=PySem.W.looks_mroIn X (Jw h hd)
 have L3:PySem.W.Looks M s.heap (isSubtype (.ref D) (.type "BaseException")) true:=PySem.W.looks_mroIn X (by
  unfold PySem.W.mroIn
  rw [hdd,Option.bind_some,hB,if_neg]
  intro q
  rw [List.isEmpty_iff] at q
  rw [q] at hB;cases hB)
 have hcl:∃ c' d' sl',K.lookup D=some ⟨c',d',.cls dd,sl'⟩:=by
  unfold PySem.W.clsIn at hdd
  split at hdd
  ·rename_i c' d' cd' sl' ho
   cases hdd
   exact ⟨c',d',sl',ho⟩
  ·cases hdd
 obtain ⟨c',d',sl',ho⟩:=hcl
 have L4:PySem.W.Looks M s.heap (isType (.ref D)) true:=by
  intro A' Q' E' s' k q
  unfold isType loadHead
  exact XS (wpAny_loadPart (k _ _ (X _ _ ho)) (X3 q))
 have L5:PySem.W.Looks M s.heap (typeOf (.ref e)) (.ref C):=hcls ▸ (PySem.W.Looks.ld he).andThen .now
 have f:=tc_notTuple
 obtain ⟨hh,g,dr,tk,os⟩:=s
 unfold excMatches
 refine XS ?_
 unfold isInstance
 refine XS (PySem.W.Looks.at L1 ?_)
 rw [f]
 refine X3 ?_
 rw [if_neg Bool.false_ne_true]
 refine XS (X3 ?_)
 dsimp only
 rw [List.forIn_cons]
 refine XS (XS ?_)
 unfold isExcClass
 refine XS (XS (PySem.W.Looks.at L4 ?_))
 rw [if_pos rfl]
 refine PySem.W.Looks.at L3 ?_
 rw [if_neg (by decide)]
 refine X3 ?_
 dsimp only
 rw [List.forIn_nil]
 refine X3 ?_
 refine XS (PySem.W.Looks.at L5 ?_)
 rw [List.forIn_cons]
 refine XS (XS (XS (PySem.W.Looks.at L2 ?_)))
 cases hb:isX n d with
 | true=>
  rw [hb] at hq
  rw [if_pos rfl]
  exact X3 (X3 (X3 hq))
 | false=>
  rw [hb] at hq
  rw [if_neg Bool.false_ne_true]
  refine X3 ?_
  dsimp only
  rw [List.forIn_nil]
  exact X3 (X3 hq)
end
end L2
namespace L2
open PySem PySem.Spec PyProof.Rows
theorem Bp {prog:Program}{w:World}{A:Around}{E:Value->Shared->Prop}{s:Shared}{env:Env}{K:Yh}{e C D:Addr}{n d y:Str}{t:Expr}{b₀ : Stmt}{suite:List Stmt}{pos:Pos}{rest:List ExceptHandler}{Q:Flow->Shared->Prop}
  (hx:rF K C n=true) (hd:qU K D d=true) (hi:isX n d=true)
  (h:wpAny (model prog w) (A.mark (some (.ref e))) (eval t env) (fun c s₁=>c=.ref D/\K.In s₁.heap/\(∃ oe,s₁.heap.get? e=some oe/\oe.cls=.ref C) /\
   wpAny (model prog w) (A.mark (some (.ref e))) (setFlight (.ref e) none) (fun _ s₂=>
     wpAny (model prog w) (A.mark (some (.ref e))) (storeName env y (.ref e)) (fun _ s₃=>
      wpAny (model prog w) (A.mark (some (.ref e))) (execs (b₀::suite) env)
       (fun f s₄=>wpAny (model prog w) A (do bindName env y .none;unbindBehindTheSuite env y pos) (fun _ s₅=>Q f s₅) E s₄) (fun _ _=>False) s₃) (fun _ _=>False) s₂) (fun _ _=>False) s₁) (fun _ _=>False) s) :
  wpAny (model prog w) A (handleBy (.ref e) env (.ExceptHandler (some t) (some y) (b₀::suite) pos::rest)) Q E s:=by
 refine wpAny_handleBy_cons (codeAny_handlers_test (wpAny_mono h (fun c s₁ h₁=>?_) fun _ _ z=>z.elim)) (by intro q;cases q)
 obtain ⟨rfl,X,⟨oe,he,hcls⟩,hk⟩:=h₁
 refine vL X he hcls hx hd ?_
 rw [hi]
 exact codeAny_handlers_suite_as (wpAny_mono hk (fun _ s₂ h₂=>wpAny_mono h₂ (fun _ s₃ h₃=>wpAny_mono h₃ (fun _ _ z=>z) fun _ _ z=>z.elim) fun _ _ z=>z.elim) fun _ _ z=>z.elim)
def bL.lost (D:bL):bL:={ D with nx:=fun Z h=>D.nx (Z.map fun _=>none) h,bk:=fun Z h=>D.bk (Z.map fun _=>none) h,ct:=fun Z h=>D.ct (Z.map fun _=>none) h }
def Ej (x:Xw):W:=match x.fs with
 | []=>.exc x.cls
 | f::fs=>.exa x.cls ((f::fs).map (·.2))
theorem zX {α β : Type}:∀ {l:List α} {m:List β},m.length=l.length->(l.zip m).map (·.2)=m
 | [],[],_=>rfl
 | [],_::_,h=>by cases h
 | _::_,[],h=>by cases h
 | a::l,b::m,h=>by rw [List.zip_cons_cons,X5,zX (by simpa using h)]
theorem NZ {n:Str}{ws:List W}(h:ws.length=(Cu n).length):Ej ⟨n,(Cu n).zip ws⟩=.exa n ws:=by
 have e:=zX h
 unfold Ej
 have ne:Cu n≠[]:=by unfold Cu;split <;> simp
 cases q:(Cu n).zip ws with
 | nil=>
  rw [q] at e
  cases ws with
  | nil=>exact absurd (List.eq_nil_of_length_eq_zero h.symm) ne
  | cons _ _=>cases e
 | cons f fs=>
  rw [q] at e
  dsimp only
  rw [e]
def Vg (i:Nat)(d:Str)(mb:XWK->MS)(mh:MS):MS:=fun D Z h=>mb (fun x h'=>by2 (isX x.cls d) (mh D.lost (Z.set i (some (Ej x))) h') False) D Z h
theorem Slots.lost {K:Yh}{H:Hp}{μ : Mu}{Zw:Sw}{Z : St}(S:Slots K H μ Zw Z):Slots K H μ (Zw.map fun _=>none) (qX Z):=by
 refine ⟨by unfold qX;rw [X6,X6,S.len],fun i w q=>?_⟩
 rw [List.getElem?_map] at q
 cases e:Zw[i]? with
 | none=>rw [e] at q;cases q
 | some z=>rw [e] at q;cases q
section
variable {X:Cx}{body:List Stmt}{b₀ : Stmt}{suite:List Stmt}{y d:Str}{np hpos pos:Pos}{i:Nat}{D:Addr}{mb:XWK->MS}{mh:MS}
theorem Rq (hN:X.N.Nodup)(hi:X.N[i]?=some y)(hy:X.env.scope.names.lookup y=some .local)(hg:Gl X d)(hm:X.mg d=some (.ref D))(hxd:qU X.K D d=true)(ht:Top X)(hx:X.ex=[])
  (hb:∀ pins xe Z0,FZ (X.tr pins xe) (fun Z=>Z = Z0) body mb) (hh:∀ a o u,DSs (X.hnd a o u).nox (b₀::suite) mh) (hdb:(d==("__debug__" : Str))=false:=by decide) :
  DS X (.Try body [.ExceptHandler (some (.Name d np)) (some y) (b₀::suite) hpos] [] [] pos) (Vg i d mb mh):=by
 intro pins s Z H De I ⟨μ,h,Zw,Dw,R,S,m,k⟩
 refine wpAny_Try_except (thn (hb pins _ Z [] s Z H De I.tr ⟨rfl,μ,h,Zw,Dw,_,R,S,m,k,fun ev s' xt=>?_⟩) fun f s' q=>?_)
 ·obtain ⟨a,C,n,od,fs,pins',Z',H',μ',h',rfl,F,hxc,rfl,e1,R1,xd,q⟩:=xt
  have F:=F.untr
  cases hix:isX n d with
  | false =>
   have q:by2 (isX n d) _ False:=q
   rw [hix] at q;exact q.elim
  | true=>
  have q:by2 (isX n d) (mh Dw.lost (Zw.set i (some (Ej ⟨n,fs⟩))) h') False:=q
  rw [hix] at q
  have q:mh Dw.lost (Zw.set i (some (Ej ⟨n,fs⟩))) h':=q
  refine F.note ht F.inv.ok.frames fun h1 F1=>F1.flight fun h2 F2=>?_
  obtain ⟨_,oe0,vs0,he0,hc0,_⟩:=F2.xn
  refine Bp hxc hxd hix ?_
  refine Calls.Name_function_global F2.inv.ok.kind hg (Calls.loadGlobal_global (by rw [F2.inv.ok.glob];exact F2.inv.mod.glob.keeps F2.inv.bk) hm ⟨rfl,F2.inv.kIn,⟨oe0,he0,hc0⟩,?_⟩) hdb
  refine F2.flight fun h3 F3=>?_
  obtain ⟨nw,oe,vs,he,hc,hdd,hdt,_,hv2,_⟩:=F3.xn
  have Ih:=F3.inv.hnd nw hx he hdt hv2
  have Hn:H' a=none:=nw.h
  refine pW (X:=X.hnd a oe (eN a oe)) (v:=.ref a) Ih hN hi (.inl hy) rfl (fun s4 I4=>?_) (.inr hy)
  have e2:Ext X.K H μ (upd H' a (.frz oe (eN a oe))) μ':=e1.trans (Ex.laid Hn).ext
  have rx:Rep X.K (upd H' a (.frz oe (eN a oe))) μ' (Ej ⟨n,fs⟩) (.ref a):=by
   have nc:PySem.W.notCls oe=true:=by
    unfold PySem.W.notCls
    rw [hdt]
   rcases xd with ⟨rfl,rfl⟩ | ⟨dd,ws,xs,rfl,hxa,rfl,hl1,hl2,hdx,rs⟩
   ·show Rep X.K _ μ' (.exc n) (.ref a)
    rw [Rep]
    exact ⟨a,oe,_,rfl,aV,C,hc,hdd,nc,hxc⟩
   ·rw [NZ hl1,Rep]
    exact ⟨a,oe,_,dd,_,xs,rfl,aV,⟨C,hc,hdd,nc,hxa⟩,by rw [aH (aN hdx Hn)];exact hdx,rfl,hl2,(Ex.laid Hn).ext.s rs⟩
  refine wpAny_mono (hh a oe (eN a oe) pins s4 _ _ ⟨fun Z5 H5=>De.nx (qX Z5) H5,De.rt,fun Z5 H5=>De.bk (qX Z5) H5,fun Z5 H5=>De.ct (qX Z5) H5⟩ (I4.wish _)
   ⟨μ',h',Zw.set i (some (Ej ⟨n,fs⟩)),Dw.lost,R1.laid Hn,(S.ext e2).set rx i,q,⟨?_,?_,?_,?_⟩⟩) (fun f s5 q5=>?_) fun _ _ z=>z.elim
  ·rintro Z5 H5 ⟨μ5,Zw5,h5,e5,R5,S5,m5⟩
   exact k.nx _ _ ⟨μ5,_,h5,e2.trans e5,R5,S5.lost,m5⟩
  ·rintro v H5 ⟨μ5,w5,h5,e5,R5,r5,m5⟩
   exact k.rt _ _ ⟨μ5,w5,h5,e2.trans e5,R5,r5,m5⟩
  ·rintro Z5 H5 ⟨μ5,Zw5,h5,e5,R5,S5,m5⟩
   exact k.bk _ _ ⟨μ5,_,h5,e2.trans e5,R5,S5.lost,m5⟩
  ·rintro Z5 H5 ⟨μ5,Zw5,h5,e5,R5,S5,m5⟩
   exact k.ct _ _ ⟨μ5,_,h5,e2.trans e5,R5,S5.lost,m5⟩
  ·have gone:∀ {Z5:St} {H5:Hp} {Q5:Unit->Shared->Prop},Inv (X.hnd a oe (eN a oe)).nox pins Z5 H5 s5->(∀ s6,Inv X pins (qX Z5) H5 s6->Q5 () s6)->wpAny (model X.prog X.w) X.A (do bindName X.env y .none;unbindBehindTheSuite X.env y hpos) Q5 X.xe s5:=fun {Z5 H5 Q5} I5 h5=>by
    have I5':=I5.unwish
    obtain ⟨mm,hns,_⟩:=I5'.loc
    refine wpAny_nameGoes hy hns (by rw [show X.env.scope.kind=.function from F.inv.ok.kind];rfl) fun h6 m6 hn6 sb6=>h5 _ (F3.inv.unhnd nw hx (I5'.lost hn6 sb6))
   cases f with
   | next=>obtain ⟨Z5,H5,I5,z⟩:=q5;exact gone I5 fun s6 I6=>⟨_,H5,I6,z⟩
   | brk=>obtain ⟨Z5,H5,I5,z⟩:=q5;exact gone I5 fun s6 I6=>⟨_,H5,I6,z⟩
   | cont=>obtain ⟨Z5,H5,I5,z⟩:=q5;exact gone I5 fun s6 I6=>⟨_,H5,I6,z⟩
   | ret v=>obtain ⟨x5,Z5,H5,I5,r5,z⟩:=q5;exact gone I5 fun s6 I6=>⟨x5,_,H5,I6,r5,z⟩
 ·have q:=SP.untr q
  cases f with
  | next=>exact wpAny_execs_nil q
  | brk=>exact q
  | cont=>exact q
  | ret v=>exact q
end
theorem G5 {k:Nat}{A:Around}{a:Addr}(r:j8 k A)(h:8<=k):j8 8 (A.mark (some (.ref a))):=⟨fun z=>absurd z (by decide),by have:=r.dp;show A.depth+_<_;omega,by have:=r.un;show A.units+_<_;omega⟩
end L2
namespace L2
open PySem PySem.Spec PyProof.Rows
section
variable {X:Cx}{a:Expr}{ma:ME}{pos p:Pos}
def Ks (f:Str->Bool)(m:ME):ME:=fun Z h Q=>m Z h fun w h1=>match w with
 | .exc n=>Q (.bl (f n)) h1
 | .exa n _=>Q (.bl (f n)) h1
 | _=>False
def O7 (K:Yh)(H:Hp)(o:Obj)(n:Str):Prop:=Xob K o n\/∃ dd fs,Xoa K o n dd/\H dd=some (.xd fs)
theorem Mw {pins:List (Addr×Obj)}{Z : St}{H:Hp}{s:Shared}{q:Addr}{o:Obj}{u:HO}{n:Str}(I:Inv X pins Z H s)(e:H q=some (.frz o u))(x:O7 X.K H o n):∃ C,rF X.K C n=true/\∃ od,PySem.W.InstAt s.heap q o C od:=by
 rcases x with ⟨C,hc,hd,hn,hx⟩ | ⟨dd,fs,⟨C,hc,hd,hn,hx⟩,hdd⟩
 ·exact ⟨C,hx,none,(I.hok q _ e).1,hc,hn,by rw [hd];trivial⟩
 ·obtain ⟨ob,ho⟩:=(I.hok dd _ hdd).obj
  unfold Vf at hx
  simp only [Bool.and_eq_true] at hx
  exact ⟨C,hx.1.1,some ob,(I.hok q _ e).1,hc,hn,by rw [hd];exact ho⟩
theorem FJ {v:V}{f:Str->Bool}(hf:zu X.K v f):iw X (.builtin "isinstance") (fun xs H Q=>∃ q o u n,xs=[.ref q,v]/\H q=some (.frz o u)/\O7 X.K H o n/\Q (.bl (f n)) H):=by
 intro pins s Z H xs us Q I r ⟨q,o,u,n,ex,eq,xo,hQ⟩
 subst ex
 obtain ⟨C,hx,J⟩:=Mw I eq xo
 cases r with
 | cons r1 r2=>
  cases r2 with
  | cons r2 r3=>
   cases r3
   rename_i u1 u2
   cases (show u1=Value.ref q from r1)
   exact PySem.W.kia_one (Gs hx) I.kIn J (hf u2 r2 C n hx) (fun z=>nomatch z) fun tk=>⟨.bl (f n),H,I.kept (t':=tk) fun _ _ e=>e,rfl,hQ⟩
theorem tY {b:Expr}{v:V}{f:Str->Bool}(hg:Gl X "isinstance")(hm:X.mg "isinstance" = none)(ha:DE X a ma)(hb:PE X b (tC v))(hf:zu X.K v f)(h1:starEach [a,b] X.env=(false,eval a X.env)::starEach [b] X.env:=by rfl)(h2:starEach [b] X.env=(false,eval b X.env)::starEach [] X.env:=by rfl)
  (hpl:(backTo pos (starEach [b] X.env)).any (·.1)=false:=by rfl):DE X (.Call (.Name "isinstance" p) [a,b] [] pos) (Ks f ma):=
 (wA (FJ hf) hg hm boot_isinstance (uO ha (uO hb Io h2) h1) (by decide) (by decide) h1 hpl).of fun Z H Q ⟨μ,h,Zw,Qw,R,S,m,k⟩=>by
  refine ⟨μ,h,Zw,_,R,S,m,fun x H1 ⟨μ1,w,h1,e1,R1,r1,m1⟩=>?_⟩
  cases w with
  | exc n=>
   rw [Rep] at r1
   obtain ⟨q,o,u,ev,eq,hx⟩:=r1
   subst ev
   exact ⟨q,o,u,n,rfl,eq,.inl hx,k _ _ ⟨μ1,.bl (f n),h1,e1,R1,by rw [Rep],m1⟩⟩
  | exa n ws=>
   rw [Rep] at r1
   obtain ⟨q,o,u,dd,ns,xs,ev,eq,hx,hdd,_⟩:=r1
   subst ev
   exact ⟨q,o,u,n,rfl,eq,.inr ⟨dd,_,hx,hdd⟩,k _ _ ⟨μ1,.bl (f n),h1,e1,R1,by rw [Rep],m1⟩⟩
  | _=>exact m1.elim
inductive PCs (X:Cx):List Expr->List V->(Str->Bool)->Prop
 | nil:PCs X [] [] (fun _=>false)
 | cons {e:Expr} {es:List Expr} {v:V} {vs:List V} {f g:Str->Bool}:PE X e (tC v)->zu X.K v f->PCs X es vs g->starEach (e::es) X.env=(false,eval e X.env)::starEach es X.env->PCs X (e::es) (v::vs) (fun n=>f n||g n)
end
section
variable {X:Cx}{tg elt:Expr}{ifs:List Expr}{scope:Scope}{xs:List Str}{tt:MT}{te:ME}{pos p ppos:Pos}
end
end L2
namespace L2
open PySem PySem.Spec PyProof.Rows
theorem fB.keep {A:Around}{h h':Heap}(q:fB A h)(k:∀ a o,A.handled=some (.ref a)->h.get? a=some o->h'.get? a=some o):fB A h':=fun v e=>by
 obtain ⟨a,o,vs,h1,h2,h3⟩:=q v e
 subst h1
 exact ⟨a,o,vs,rfl,k a o e h2,h3⟩
section
variable {prog:Program}{w:World}{A:Around}{E:Value->Shared->Prop}{s:Shared}
theorem Aj {it l:Addr}{i:Nat}{items}{Q:Option Value->Shared->Prop}(hh:fB A s.heap)(hne:A.handled≠some (.ref it))
  (hit:s.heap.IsListIter it l i) (hl:s.heap.IsList l items) (hx:items[i]?=none)
  (hQ:∀ h',Heap.ExtBut it s.heap h'->Q none { s with heap:=h' }):wpAny (model prog w) A (pyNext (.ref it)) Q E s:=by
 obtain ⟨o,ho,hc,hd⟩:=id hit
 obtain ⟨ol,hol,_,nl,hdl⟩:=hl
 unfold pyNext
 refine XS (wpAny_attempt (wpAny_callSpecial?_slot (name:=Str.ofString "__next__") hit.typeIs slot_listiter_next
  (wpAny_call_entry slot_listiter_next hit.typeIs entry_listiter_next ?_ (args_listiter_next _))))
 show wpAny _ _ (field (.ref it) 0 >>= _) _ _ s
 refine XS (wpAny_field ho hd (x:=.ref l) rfl ?_)
 show wpAny _ _ (if (Value.ref l==Value.none)=true then _ else _) _ _ s
 rw [if_neg (show ¬ ((Value.ref l==Value.none)=true) from Bool.false_ne_true)]
 show wpAny _ _ (field (.ref it) 1 >>= _) _ _ s
 refine XS (wpAny_field ho hd (x:=.int i 0) rfl ?_)
 show wpAny _ _ (seqItems? (.ref l) >>= _) _ _ s
 refine XS (wpAny_seqItems hol hdl ?_)
 simp only [Int.toNat_natCast,hx]
 refine XS (wpAny_rule (XS (wpAny_setField ho hd (by simp) ?_)))
 show wpAny _ _ (newExc (.type "StopIteration") [] >>= _) _ _ _
 refine XS ?_
 simp only [newExc,newTuple]
 refine XS (wpAny_newObj_type ?_ (by size_fits))
 refine XS (m:=firstArgMember _ _) (wpAny_of_eq (a:=Value.none) (by first | rfl | (simp only [firstArgMember];rfl)) ?_)
 refine wpAny_newObj_type ?_ (by size_fits)
 have up:∀ a o,A.handled=some (.ref a)->s.heap.get? a=some o->(s.heap.update it (Obj.mapFields (·.setIfInBounds 0 Value.none))).get? a=some o:=fun a o e q=>by
  rw [Heap.get?_update_other _ _ (fun z=>hne (by rw [z];exact e))];exact q
 refine oN (A:=A.in1) (fun v e=>?_) (Heap.get?_push_size _ rfl) rfl (by simp;omega) (fun v e=>?_) fun h' h1 ⟨o',h2,h3⟩=>?_
 ·obtain ⟨a,o,vs,r1,r2,r3⟩:=hh v e
  subst r1
  exact ⟨a,o,vs,rfl,Heap.get?_push_of_some _ (Heap.get?_push_of_some _ (up a o e r2)),r3⟩
 ·obtain ⟨a,o,vs,r1,r2,r3⟩:=hh v e
  rw [r1]
  intro q
  have q:a=_:=Value.ref.inj q
  have:=X4 r2
  rw [q] at this
  exact absurd this (Nat.not_lt.mpr (by simp [Heap.push]))
 refine XS (wpAny_isInstance (T := "StopIteration") (b:=true) ⟨_,h2,h3⟩ isSubtype_stop ?_)
 refine X3 (hQ _ fun b o hb e=>?_)
 have e':(s.heap.update it (Obj.mapFields (·.setIfInBounds 0 Value.none))).get? b=some o:=by rw [Heap.get?_update_other _ _ (Ne.symm hb)];exact e
 rw [h1 b ?_]
 ·exact Heap.get?_push_of_some _ (Heap.get?_push_of_some _ e')
 ·have:=X4 e
  exact Yg (Yd this (by simp [Heap.push]))
def hdA (A:Around):List Addr:=match A.handled with
 | some (.ref a)=>[a]
 | _=>[]
theorem Kc {A:Around}{a:Addr}(h:A.handled=some (.ref a)):a∈hdA A:=by unfold hdA;rw [h];simp
theorem vH (I ax:Addr)(hne:ax≠I)(hI:A.handled≠some (.ref I))(items:Array Value) :
  Walks prog w A I (I::ax::hdA A) [I] items.size (fun i v=>items[i]?=some v) (fun i h=>h.IsListIter I ax i/\h.IsList ax items/\fB A h) where
 sub:=fun b hb=>by simp at hb;simp [hb]
 frame:=fun _ _ _ st hk=>⟨st.1.at fun o e=>hk I (by simp) o e,st.2.1.at fun o e=>hk ax (by simp) o e,st.2.2.keep fun a o e q=>hk a (by simp [Kc e]) o q⟩
 item:=fun i s Q E hi st hQ=>by
  refine wpAny_pyNext_list_item st.1 st.2.1 (x:=items[i]) (by simp [hi]) fun h' hit' hs'=>?_
  exact hQ _ h' s.toks (by simp [hi]) ⟨hit',st.2.1.extBut hs'.extBut hne,st.2.2.keep fun a o e q=>hs'.extBut a o (fun z=>hI (by rw [<-z];exact e)) q⟩ fun b o hb e=>hs'.extBut b o (fun h=>hb (by simp [h])) e
 done:=fun s Q E st hQ=>Aj st.2.2 hI st.1 st.2.1 (by simp) fun h' he'=>hQ h' s.toks fun b o hb e=>he' b o (fun h=>hb (by simp [h])) e
 self:=fun _ _ _ _ st hQ=>wpAny_pyIter_listiter st.1 hQ
end
section
variable {X:Cx}
theorem z8:iw X (.builtin "any") (fun xs H Q=>∃ (p:Addr) (bs:List Bool),xs=[.ref p]/\SqL X.K H p (bs.map V.bl)/\Q (.bl (bs.any id)) H):=by
 intro pins s Z H xs us Q I r ⟨p,bs,e,hS,q⟩
 subst e
 obtain ⟨u,rfl,ru⟩:=vals1 r
 cases ru
 obtain ⟨its,rv,pl,hz⟩:=I.list hS
 have hlen:its.length=bs.length:=by rw [<-rv.length,X6]
 have hl:=pl.isList
 have hlt:p<s.heap.objs.size:=by obtain ⟨_,e,_⟩:=hl;exact X4 e
 have hq:fB X.A.in1 s.heap:=oJ I.qt0 I.hok
 refine call_any_walk (wpAny_pyIter_list hl ?_)
 refine ⟨s.heap.objs.size,_,[s.heap.objs.size],its.toArray.size,_,_,fun i=>(bs[i]?).getD true,rfl,vH (A:=X.A.in1) _ p (Yg hlt) (fun z=>?_) its.toArray,
  ⟨⟨_,Heap.get?_push_size _ rfl,rfl,rfl⟩,hl.push _,hq.keep fun a o _ e=>Heap.get?_push_of_some _ e⟩,fun i v s' Q' E' hP hQ=>?_,fun h' tk hk=>?_⟩
 ·obtain ⟨a,o,vs,h1,h2,_⟩:=hq _ z
  have h1:s.heap.objs.size=a:=Value.ref.inj h1
  have:=X4 h2
  rw [<-h1] at this
  exact Nat.lt_irrefl _ this
 ·obtain ⟨b,e,rfl⟩:=iR rv (by simpa using hP)
  simp only [e,Option.getD_some] at hQ
  exact wpAny_truthy_bool hQ
 ·have e:((List.range its.toArray.size).any fun i=>(bs[i]?).getD true)=bs.any id:=by
   rw [Yb,hlen];exact oR bs
  rw [e]
  refine ⟨.bl (bs.any id),H,I.kept (h':=h') (t':=tk) (fun b x e=>?_),rfl,q⟩
  exact hk b x (fun hm=>by rw [List.mem_singleton.mp hm] at e;exact Nat.lt_irrefl _ (X4 e)) (Heap.get?_push_of_some _ e)
theorem Qt:jM X (.builtin "any") Je:=⟨_,z8,by
 intro H μ h vs ws Qw Q R r m k
 unfold Je at m
 split at m
 ·split at m
  ·split at m
   ·rename_i w _ us ev _ bs eb
    obtain ⟨v,e,rv⟩:=iH r
    obtain ⟨p,ys,ex,hs,rs⟩:=cG R rv ev
    subst e ex
    exact ⟨p,bs,rfl,by rw [<-qI rs eb];exact hs,k _ _ (.bl R m)⟩
   ·exact m.elim
  ·exact m.elim
 ·exact m.elim⟩
end
end L2
namespace L2
open PySem PySem.Spec PyProof.Rows
section
variable {X:Cx}{K:Yh}{o e:Expr}{mo:ME}{ma:MA}{apos cpos:Pos}
variable {H:Hp}{pins:List (Addr×Obj)}{s:Shared}{Z : St}
mutual
theorem LK (I:Inv X pins Z H s):∀ {w u:W} {v:V},Dt X.K H w v->Dt X.K H u v->w=u
 | .non,u,v,h,g=>by rw [Dt] at h;subst h;cases u <;> rw [Dt] at g <;> first | rfl | exact g.elim | (obtain ⟨_,_,g,_⟩:=g;cases g;done) | (cases g;done)
 | .bl b,u,v,h,g=>by rw [Dt] at h;subst h;cases u <;> rw [Dt] at g <;> first | (injection g with g;rw [g];done) | exact g.elim | (obtain ⟨_,_,g,_⟩:=g;cases g;done) | (cases g;done)
 | .int b,u,v,h,g=>by rw [Dt] at h;subst h;cases u <;> rw [Dt] at g <;> first | (injection g with g;rw [g];done) | exact g.elim | (obtain ⟨_,_,g,_⟩:=g;cases g;done) | (cases g;done)
 | .str b,u,v,h,g=>by rw [Dt] at h;subst h;cases u <;> rw [Dt] at g <;> first | (injection g with g;rw [g];done) | exact g.elim | (obtain ⟨_,_,g,_⟩:=g;cases g;done) | (cases g;done)
 | .tup ws,u,v,h,g=>by
  rw [Dt] at h
  obtain ⟨p,xs,e,hs,ds⟩:=h
  subst e
  cases u with
  | tup us=>
   rw [Dt] at g
   obtain ⟨p',xs',e',hs',ds'⟩:=g
   cases e'
   have:=I.tuple_inj hs hs'
   subst this
   rw [pP I ds ds']
  | lst us=>
   rw [Dt] at g
   obtain ⟨p',xs',e',hs',ds'⟩:=g
   cases e'
   obtain ⟨_,_,t,_⟩:=I.tuple hs
   obtain ⟨_,_,l,_⟩:=I.list hs'
   exact absurd rfl (SeqAt.ne_of_list_tuple l.isList (show s.heap.IsTuple _ _ from t))
  | ty _=>rw [Dt] at g;exact g.elim
  | loc _=>rw [Dt] at g;exact g.elim
  | kls _=>rw [Dt] at g;exact g.elim
  | exc _=>rw [Dt] at g;exact g.elim
  | exa _ _=>rw [Dt] at g;exact g.elim
  | _=>rw [Dt] at g;cases g
 | .lst ws,u,v,h,g=>by
  rw [Dt] at h
  obtain ⟨p,xs,e,hs,ds⟩:=h
  subst e
  cases u with
  | lst us=>
   rw [Dt] at g
   obtain ⟨p',xs',e',hs',ds'⟩:=g
   cases e'
   have:=I.list_inj hs hs'
   subst this
   rw [pP I ds ds']
  | tup us=>
   rw [Dt] at g
   obtain ⟨p',xs',e',hs',ds'⟩:=g
   cases e'
   obtain ⟨_,_,t,_⟩:=I.tuple hs'
   obtain ⟨_,_,l,_⟩:=I.list hs
   exact absurd rfl (SeqAt.ne_of_list_tuple l.isList (show s.heap.IsTuple _ _ from t))
  | ty _=>rw [Dt] at g;exact g.elim
  | loc _=>rw [Dt] at g;exact g.elim
  | kls _=>rw [Dt] at g;exact g.elim
  | exc _=>rw [Dt] at g;exact g.elim
  | exa _ _=>rw [Dt] at g;exact g.elim
  | _=>rw [Dt] at g;cases g
 | .ty _,_,_,h,_=>by rw [Dt] at h;exact h.elim
 | .kls _,_,_,h,_=>by rw [Dt] at h;exact h.elim
 | .loc _,_,_,h,_=>by rw [Dt] at h;exact h.elim
 | .exc _,_,_,h,_=>by rw [Dt] at h;exact h.elim
 | .exa _ _,_,_,h,_=>by rw [Dt] at h;exact h.elim
theorem pP (I:Inv X pins Z H s):∀ {ws us:List W} {vs:List V},Dts X.K H ws vs->Dts X.K H us vs->ws=us
 | [],us,vs,h,g=>by
  have e:vs=[]:=by rw [Dts] at h;exact h
  subst e
  cases us with
  | nil=>rfl
  | cons u us=>rw [Dts] at g;obtain ⟨_,_,e,_⟩:=g;cases e
 | w::ws,us,vs,h,g=>by
  rw [Dts] at h
  obtain ⟨v,vs',e,d,ds⟩:=h
  subst e
  cases us with
  | nil=>
   have e:v::vs'=[]:=by rw [Dts] at g;exact g
   cases e
  | cons u us=>
   rw [Dts] at g
   obtain ⟨v2,vs2,e2,d2,ds2⟩:=g
   cases e2
   rw [LK I d d2,pP I ds ds2]
end
end
section
variable {X:Cx}{elt iter tg:Expr}{ifs:List Expr}{scope:Scope}{pos:Pos}{xs:List Str}{mi:MI}{tt:MT}{te:ME}
end
end L2
namespace L2
open PySem PySem.Spec PyProof.Rows
section
variable {X:Cx}{Γ : St->Prop}{e:Expr}{es:List Expr}{pos:Pos}
variable {mr:XWK->MA}
end
end L2
namespace L2
open PySem PySem.Spec PyProof.Rows
section
variable {X:Cx}{K:Yh}{H:Hp}{pins:List (Addr×Obj)}{s:Shared}{Z : St}
end
end L2
namespace L2
open PySem PySem.Spec PyProof.Rows
section
variable {X:Cx}{K:Yh}{H:Hp}{μ : Mu}{h:Gh}
end
end L2
namespace L2
open PySem PySem.Spec PyProof.Rows
section
variable {X:Cx}{K:Yh}{o e e':Expr}{mo:ME}{ma:MA}{apos cpos:Pos}
theorem Qy {cpos:Pos}{e e':Expr}{env:Env}(h:isStar e=false)(h':isStar e'=false):((backTo cpos (starEach [e,e'] env)).all (fun x=>!x.1)&&(backToKw cpos (keywordEach [] env)).all (fun x=>x.1.isSome)
   && decide (([e,e']:List Expr).length+([]:List Keyword).length+(if ([]:List Keyword).isEmpty then 0 else 1)<30))=true:=by
 rw [aj h,aj h']
 rfl
end
end L2
namespace L2
open PySem PySem.Spec PyProof.Rows
def plL (m:Nat):List Nat:=(List.range 8).filter fun j=>m.testBit j
def rk (m j:Nat):Nat:=((List.range j).filter fun i=>m.testBit i).length
def pq (h:Int):Nat->Nat×Nat
 | 0=>(SetTable.bits h % 8,SetTable.bits h)
 | n+1=>SetTable.leap 7 (pq h n).1 (pq h n).2
def pb (h:Int)(n:Nat):SetTable.Probe:=⟨(pq h n).1,0,(pq h n).1,(pq h n).2,none⟩
theorem Vd (h:Int):∀ n,(pq h n).1<8
 | 0=>Nat.mod_lt _ (by decide)
 | n+1=>Nat.mod_lt _ (by decide)
theorem Eb (h:Int):∀ n,(pq h n).2=SetTable.bits h / 32^n
 | 0=>by simp [pq]
 | n+1=>by
  show (pq h n).2 / 32=_
  rw [Eb h n,Nat.div_div_eq_div_mul,Nat.pow_succ]
theorem Lk (h:Int)(n:Nat)(hn:13<=n):(pq h n).2=0:=by
 rw [Eb]
 apply Nat.div_eq_of_lt
 have h1:SetTable.bits h<2^64:=by
  unfold SetTable.bits
  have a:=Int.emod_lt_of_pos h (show (0:Int)<2^64 by decide)
  have b:=Int.emod_nonneg h (show (2^64:Int)≠0 by decide)
  omega
 have h2:32^13<=32^n:=Nat.pow_le_pow_right (by decide) hn
 have h3:(2:Nat)^64<32^13:=by decide
 omega
def lcg:Nat->Nat->Nat
 | i,0=>i
 | i,k+1=>(lcg i k*5+1) % 8
theorem Ir (h:Int):∀ k,(pq h (13+k)).1=lcg (pq h 13).1 k
 | 0=>rfl
 | k+1=>by
  show ((pq h (13+k)).1*5+1+(pq h (13+k)).2 / 32) % (7+1)=_
  rw [Lk h _ (by omega),Ir h k]
  rfl
theorem MF:∀ i:Fin 8,∀ j:Fin 8,∃ k:Fin 8,lcg i k=j.val:=by decide +kernel
theorem Oq (h:Int){j:Nat}(hj:j<8):∃ n,n<21/\(pq h n).1=j:=by
 obtain ⟨k,e⟩:=MF ⟨(pq h 13).1,Vd h 13⟩ ⟨j,hj⟩
 exact ⟨13+k.val,by omega,by rw [Ir];exact e⟩
theorem least {P:Nat->Bool}:∀ (B:Nat),(∃ n,n<B/\P n=true)->∃ N,N<B/\P N=true/\∀ n,n<N->P n=false
 | 0,⟨n,h,_⟩=>absurd h (Nat.not_lt_zero _)
 | B+1,⟨n,h,e⟩=>by
  by_cases q:∃ n,n<B/\P n=true
  ·obtain ⟨N,a,b,c⟩:=least B q
   exact ⟨N,by omega,b,c⟩
  ·refine ⟨n,h,e,fun i hi=>?_⟩
   cases r:P i with
   | false=>rfl
   | true=>exact absurd ⟨i,by omega,r⟩ q
theorem road {m:Nat}(h:Int)(hf:∃ j,j<8/\m.testBit j=false):∃ N,N<21/\m.testBit (pq h N).1=false/\∀ n,n<N->m.testBit (pq h n).1=true:=by
 obtain ⟨j,hj,e⟩:=hf
 obtain ⟨n,hn,en⟩:=Oq h hj
 obtain ⟨N,a,b,c⟩:=least (P:=fun n=>!m.testBit (pq h n).1) 21 ⟨n,hn,by simp [en,e]⟩
 exact ⟨N,a,by simpa using b,fun n hn=>by simpa using c n hn⟩
end L2
namespace L2
open PySem PySem.Spec PyProof.Rows
section
variable {prog:Program}{w:World}{A:Around}{E:Value->Shared->Prop}{s:Shared}{m:Nat}{ka:Nat->List Int}{ad:Nat->Addr}{t:SetTable}{a b:Addr}{k:List Int}
abbrev TK (prog:Program)(w:World)(h:Heap)(k:List Int)(a:Addr):Prop:=IsTupleKey (intKind prog w) h k a
def hT (prog:Program)(w:World)(k:List Int):Int:=tupleKeyHash (intKind prog w) k
def elL (prog:Program)(w:World)(m:Nat)(ka:Nat->List Int)(ad:Nat->Addr):List (Int×Value):=(plL m).map fun j=>(hT prog w (ka j),Value.ref (ad j))
structure W5 (prog:Program) (w:World) (h:Heap) (m:Nat) (ka:Nat->List Int) (ad:Nat->Addr) (t:SetTable):Prop where
 mask:t.mask=7
 place:t.place=(plL m).toArray
 dum:t.dummies = #[]
 m8:m<256
 few:(plL m).length<=4
 key:∀ j,j∈plL m->TK prog w h (ka j) (ad j)
 way:∀ j,j∈plL m->∃ n,(pq (hT prog w (ka j)) n).1=j/\∀ i,i<n->m.testBit (pq (hT prog w (ka j)) i).1=true
def Xo (es:Array (Int×Value))(ep:Nat)(t:SetTable):Obj:={ cls:=.type "set",dict:=none,data:=.set es ep t }
def Rx (prog:Program)(w:World)(h:Heap)(a:Addr)(m:Nat)(ka:Nat->List Int)(ad:Nat->Addr):Prop:=∃ ep t,h.get? a=some (Xo (elL prog w m ka ad).toArray ep t)/\W5 prog w h m ka ad t
end
end L2
namespace L2
open PySem PySem.Spec PyProof.Rows
section
variable {prog:Program}{w:World}{A:Around}{E:Value->Shared->Prop}{R:Result->Shared->Prop}
structure Xh (prog:Program) (w:World) (z:Nat) (h:Heap) (S:Addr) (seen:List (List Int)) (m:Nat) (ka:Nat->List Int) (ad:Nat->Addr):Prop where
 set:Rx prog w h S m ka ad
 low:∀ j,j∈plL m->ad j<z
 mem:∀ k,k∈seen↔∃ j,j∈plL m/\ka j=k
 len:(plL m).length=seen.length
end
end L2
namespace L2
open PySem PySem.Spec PyProof.Rows
section
variable {prog:Program}{w:World}{A:Around}{E:Value->Shared->Prop}{s:Shared}
end
end L2
namespace L2
open PySem PySem.Spec PyProof.Rows
section
variable {X:Cx}{K:Yh}
theorem xG {prog:Program}{w:World}:∀ {k:List Int} {us:List Value},Vals (k.map V.int) us->ItemsAre (intKind prog w) k us
 | [],_,.nil=>.nil
 | i::k,_,.cons r t=>by
  obtain ⟨tk,rfl⟩:=r
  exact .cons (intKind_is _ _ _ _) (xG t)
end
end L2
namespace L2
open PySem PySem.Spec PyProof.Rows
section
variable {X:Cx}{K:Yh}
end
end L2
namespace L2
open PySem PySem.Spec PyProof.Rows
section
variable {κ : Type} [DecidableEq κ]
def Ag (kvs:List (κ×V))(k:κ):Option V:=(kvs.find? fun kv=>decide (kv.1=k)).map (·.2)
def putK (kvs:List (κ×V))(k:κ)(v:V):List (κ×V):=
 if (kvs.any fun kv=>decide (kv.1=k))=true then kvs.map (fun kv=>if kv.1=k then (kv.1,v) else kv) else kvs++[(k,v)]
theorem wG {p:κ×V}{r:List (κ×V)}{k:κ}(e:p.1=k):Ag (p::r) k=some p.2:=by simp [Ag,List.find?_cons,e]
theorem wB {p:κ×V}{r:List (κ×V)}{k:κ}(e:¬ p.1=k):Ag (p::r) k=Ag r k:=by simp [Ag,List.find?_cons,e]
theorem vM (kvs:List (κ×V))(k:κ)(v:V):(putK kvs k v).length<=kvs.length+1:=by
 unfold putK
 split
 ·rw [X6];omega
 ·rw [List.length_append,List.length_cons,List.length_nil];omega
theorem Jb.getD {o:Option V}{u:Option Value}{d:V}{d':Value}(r:Jb o u)(rd:RelV d d'):RelV (o.getD d) (u.getD d'):=by
 cases o with
 | none=>cases u with
  | none=>exact rd
  | some _=>exact (show False from r).elim
 | some _=>cases u with
  | none=>exact (show False from r).elim
  | some _=>exact r
theorem KV.val {kvs:List (κ×V)}{vs:List (κ×Value)}(r:KV kvs vs)(k:κ):Jb (Ag kvs k) (valueAt vs k):=by
 unfold KV at r
 induction r with
 | nil=>exact True.intro
 | @cons p q ps qs h t ih=>
  obtain ⟨h1,h2⟩:=h
  by_cases e:p.1=k
  ·have e':q.1=k:=h1.symm.trans e
   have b:valueAt (q::qs) k=some q.2:=by simp [valueAt,List.find?_cons,e']
   rw [wG e,b];exact h2
  ·have e':¬ q.1=k:=fun z=>e (h1.trans z)
   have b:valueAt (q::qs) k=valueAt qs k:=by simp [valueAt,List.find?_cons,e']
   rw [wB e,b];exact ih
theorem KV.any {kvs:List (κ×V)}{vs:List (κ×Value)}(r:KV kvs vs)(k:κ):(kvs.any fun kv=>decide (kv.1=k))=vs.any fun kv=>decide (kv.1=k):=by
 unfold KV at r
 induction r with
 | nil=>rfl
 | cons h t ih=>rw [List.any_cons,List.any_cons,ih,h.1]
theorem KV.repl {kvs:List (κ×V)}{vs:List (κ×Value)}(r:KV kvs vs)(k:κ){y:V}{u:Value}(ry:RelV y u) :
  KV (kvs.map fun kv=>if kv.1=k then (kv.1,y) else kv) (vs.map fun kv=>if kv.1=k then (kv.1,u) else kv):=by
 unfold KV at r |-
 induction r with
 | nil=>exact .nil
 | @cons p q ps qs h t ih=>
  rw [X5,X5]
  refine .cons ?_ ih
  obtain ⟨h1,h2⟩:=h
  by_cases e:p.1=k
  ·rw [if_pos e,if_pos (h1.symm.trans e)];exact ⟨h1,ry⟩
  ·rw [if_neg e,if_neg (fun z=>e (h1.trans z))];exact ⟨h1,h2⟩
theorem KV.put {kvs:List (κ×V)}{vs:List (κ×Value)}(r:KV kvs vs)(k:κ){y:V}{u:Value}(ry:RelV y u):KV (putK kvs k y) (stored vs k u):=by
 unfold putK stored
 rw [r.any k]
 by_cases e:(vs.any fun kv=>decide (kv.1=k))=true
 ·rw [if_pos e,if_pos e];exact r.repl k ry
 ·rw [if_neg e,if_neg e];exact Paired.snoc r ⟨rfl,ry⟩
theorem KV.length {kvs:List (κ×V)}{vs:List (κ×Value)}(r:KV kvs vs):kvs.length=vs.length:=Paired.length r
end
theorem Ka {P:Program}{w:World}{k:Key}{u:Value}(r:RelV (kV k) u):(dG P w).is k u=true:=by
 cases k with
 | inl i=>obtain ⟨t,e⟩:=(show ∃ t,u=Value.int i t from r);subst e;exact uU P w i t
 | inr x=>obtain ⟨t,e⟩:=(show ∃ t,u=Value.str x t from r);subst e;exact vA P w x t
section
variable {P:Program}{w:World}{H:Hp}{h:Heap}{a:Addr}
theorem Va {u:HO}(ok:HOk P w H h)(e:Rd H a u):cZ P w H h a u:=e.ok ok
theorem Nz {kvs:List (Key×V)}(ok:HOk P w H h)(e:Rd H a (.dK kvs)):kvs.length<=sizeLine/\(a==sysModules)=false/\∃ vs,KV kvs vs/\h.DictOf (dG P w) a vs:=
 show cZ P w H h a (.dK kvs) from Va ok e
theorem Fi {kvs:List (Key×V)}(ok:HOk P w H h)(e:H a=some (.dK kvs)):kvs.length<=sizeLine/\(a==sysModules)=false/\∃ vs,KV kvs vs/\h.DictOf (dG P w) a vs:=Nz ok (.inl e)
end
section
variable {X:Cx}{pins:List (Addr×Obj)}{Z : St}{H:Hp}{s:Shared}{a:Addr}{y v:V}{u r:Value}{o:Option V}{A:Around}{E:Value->Shared->Prop}
theorem Inv.big (I:Inv X pins Z H s):sysModules<s.heap.objs.size:=by
 have h:mainGlobals<s.heap.objs.size:=(I.mod.glob.keeps I.bk).lt
 exact Nat.lt_trans (by decide) h
theorem Dp {h':Heap}{t':Nat}{ob:HO}(I:Inv X pins Z H s)(mu:Mut (H a))(hs:Heap.SameBut a s.heap h')(he:∃ q,h'.get? a=some q)(new:cZ X.prog X.w (upd H a ob) h' a ob) :
  Inv X pins Z (upd H a ob) { s with heap:=h',toks:=t' }:=
 I.write (x:=a) (e:=a) mu (.inl rfl) (fun b q hb z=>(hs.2 b hb).trans z) he new
theorem Oo {P:Program}{w:World}{H':Hp}{h':Heap}{kvs:List (Key×V)}{vs:List (Key×Value)}(z:kvs.length<=sizeLine)(hd:(a==sysModules)=false)(rel:KV kvs vs)(dd:h'.DictOf (dG P w) a vs) :
  cZ P w H' h' a (.dK kvs):=⟨z,hd,vs,rel,dd⟩
end
section
variable {X:Cx}{pins:List (Addr×Obj)}{Z : St}{H:Hp}{s:Shared}{a:Addr}{kvs:List (Key×V)}{k:Key}{u:Value}{A:Around}{E:Value->Shared->Prop}
end
def Ry (i:Expr):Prop:=∀ ov iv,subscripted i false ov iv=operate [ov,iv] (getItem ov iv)
theorem Bx {prog:Program}{w:World}{A:Around}{E:Value->Shared->Prop}{s:Shared}{env:Env}{value slice:Expr}{pos:Pos}{T id:String}{Q:Value->Shared->Prop}
  (hl:typeLookup (.type T) "__getitem__" = pure (some (.builtin id))) (hs:Ry slice)
  (h:wpAny (model prog w) A (eval value env) (fun o s₁=>wpAny (model prog w) A (eval slice env) (fun i s₂=>s₂.TypeIs o T/\wpAny (model prog w) A (getItem o i) Q E s₂) E s₁) E s) :
  wpAny (model prog w) A (eval (.Subscript value slice pos) env) Q E s:=by
 refine Subscript_ (wpAny_mono h (fun o s₁ h₁=>wpAny_mono h₁ (fun i s₂ h₂=>?_) fun _ _ x=>x) fun _ _ x=>x)
 obtain ⟨hT,h₂⟩:=h₂
 unfold subscriptTail
 refine XS ?_
 rw [getitemInPython_of_ne hT.not_modules]
 refine XS (wpAny_specialOf hT hl ?_)
 have fin:wpAny (model prog w) A (subscripted slice false o i) (fun r s₃=>wpAny (model prog w) A (letTemporaryGo value o r >>= fun _=>pure r) Q E s₃) E s₂:=by
  rw [hs o i]
  exact wpAny_operating (wpAny_mono h₂ (fun r s₃ h₃=>XS (wpAny_letTemporaryGo (X3 h₃))) fun _ _ x=>x)
 first
  | exact X3 (XS fin)
  | exact XS (X3 (XS fin))
  | exact XS fin
section
variable {X:Cx}{o i e value:Expr}{pos pos' tpos:Pos}{td ty tv:TE}
end
theorem FQ {P:Program}{w:World}{H:Hp}(h:Heap)(hb:sysModules<h.objs.size):cZ P w H (h.push { cls:=.type "dict",data:=.dict #[] }) h.objs.size (.dK []):=
 ⟨Nat.zero_le _,beq_eq_false_iff_ne.mpr (Ne.symm (Yg hb)),[],.nil,Heap.DictOf.new h⟩
theorem wu {P:Program}{w:World}{H:Hp}(h:Heap)(hb:sysModules<h.objs.size):cZ P w H (h.push { cls:=.type "dict",data:=.dict #[] }) h.objs.size (.dT []):=
 ⟨Nat.zero_le _,beq_eq_false_iff_ne.mpr (Ne.symm (Yg hb)),[],.nil,_,#[],0,Heap.get?_push_size _ rfl,⟨rfl,rfl,rfl⟩,rfl,rfl,List.nodup_nil⟩
def Qo:TE:=fun _ H Q=>∀ p,H p=none->Q (.ref p) (upd H p (.dK []))
section
variable {X:Cx}{pos:Pos}
theorem Hr:PE X (.Dict [] [] pos) Qo:=fun pins s Z H Q I h=>
 wpAny_Dict_empty ⟨.ref s.heap.objs.size,_,I.laid (a:=s.heap.objs.size) (o:=.dK []) (t':=s.toks) (fun _ _ q=>Heap.get?_push_of_some _ q) (Yc _) (FQ s.heap I.big),rfl,h _ (I.hok.fresh (Yc _))⟩
end
end L2
namespace L2
open PySem PySem.Spec PyProof.Rows
def Sy:W->Option Key
 | .int i=>some (.inl i)
 | .str x=>some (.inr x)
 | _=>none
def pB (kvs:List (Key×W))(k:Key):Option W:=(kvs.find? fun kv=>decide (kv.1=k)).map (·.2)
def MN (kvs:List (Key×W))(k:Key)(w:W):List (Key×W):=
 if (kvs.any fun kv=>decide (kv.1=k))=true then kvs.map (fun kv=>if kv.1=k then (kv.1,w) else kv) else kvs++[(k,w)]
section
variable {K:Yh}{H:Hp}{μ : Mu}{kvs:List (Key×W)}{kvv:List (Key×V)}{k:Key}{w:W}{v:V}
theorem qL (r:Rep K H μ w v)(e:Sy w=some k):v=kV k:=by
 cases w with
 | int i=>rw [Rep] at r;cases e;exact r
 | str x=>rw [Rep] at r;cases e;exact r
 | _=>cases e
theorem nR.val (r:nR K H μ kvs kvv)(e:pB kvs k=some w):∃ v,Ag kvv k=some v/\Rep K H μ w v:=by
 unfold nR at r
 induction r with
 | nil=>cases e
 | @cons p q ps qs h t ih=>
  by_cases z:p.1=k
  ·have e1:pB (p::ps) k=some p.2:=by simp [pB,List.find?_cons,z]
   rw [e1] at e
   cases e
   exact ⟨q.2,wG (h.1.symm.trans z),h.2⟩
  ·have e1:pB (p::ps) k=pB ps k:=by simp [pB,List.find?_cons,z]
   rw [e1] at e
   obtain ⟨v,a,b⟩:=ih e
   exact ⟨v,by rw [wB (fun y=>z (h.1.trans y))];exact a,b⟩
theorem nR.any (r:nR K H μ kvs kvv)(k:Key):(kvs.any fun kv=>decide (kv.1=k))=(kvv.any fun kv=>decide (kv.1=k)):=by
 unfold nR at r
 induction r with
 | nil=>rfl
 | @cons p q ps qs h t ih=>rw [List.any_cons,List.any_cons,ih,h.1]
theorem nR.repl (r:nR K H μ kvs kvv)(rv:Rep K H μ w v)(k:Key):nR K H μ (kvs.map fun kv=>if kv.1=k then (kv.1,w) else kv) (kvv.map fun kv=>if kv.1=k then (kv.1,v) else kv):=by
 unfold nR at r |-
 induction r with
 | nil=>exact .nil
 | @cons p q ps qs h t ih=>
  rw [X5,X5]
  refine .cons ?_ ih
  by_cases z:p.1=k
  ·rw [if_pos z,if_pos (h.1.symm.trans z)];exact ⟨h.1,rv⟩
  ·rw [if_neg z,if_neg (fun y=>z (h.1.trans y))];exact h
theorem nR.put (r:nR K H μ kvs kvv)(rv:Rep K H μ w v)(k:Key):nR K H μ (MN kvs k w) (putK kvv k v):=by
 unfold MN putK
 rw [<-r.any k]
 by_cases e:(kvs.any fun kv=>decide (kv.1=k))=true
 ·rw [if_pos e,if_pos e];exact r.repl rv k
 ·rw [if_neg e,if_neg e];exact Paired.snoc r ⟨rfl,rv⟩
theorem Rel.dctAt {h:Gh}{n:Nat}(R:Rel K μ H h)(e:h.c n=some (.dct kvs)):∃ p kvv,μ.f n=some p/\H p=some (.dK kvv)/\nR K H μ kvs kvv:=by
 obtain ⟨p,e1,xs,e2,r⟩:=R.cel n _ e
 exact ⟨p,xs,e1,e2,r⟩
end
section
variable {X:Cx}{a b:Expr}{ma mb:ME}{pos:Pos}
def JC:M2:=fun x y h Q=>match x,Sy y with
 | .loc n,some k=>(match h.c n with
  | some (.dct kvs)=>(match pB kvs k with
   | some w=>Q w h
   | none=>False)
  | _=>False)
 | _,_=>False
theorem G8 {o i:Expr}{td ty:TE}(ho:PE X o td)(hi:PE X i ty)(hs:Ry i):PE X (.Subscript o i pos) (fun Z H Q=>td Z H fun x H1=>ty Z H1 fun y H2=>∃ a kvs k v,x=.ref a/\Rd H2 a (.dK kvs)/\y=kV k/\Ag kvs k=some v/\Q v H2):=by
 intro pins s Z H Q I h
 refine Bx PySem.F.slot_dict_getitem.lookup hs (thn (ho pins s Z H _ I h) fun u s1 ⟨x,H1,I1,rx,q1⟩=>thn (hi pins s1 Z H1 _ I1 q1) fun iv s2 ⟨y,H2,I2,ry,a,kvs,k,v,ex,e,ey,l,q2⟩=>?_)
 subst ex ey
 obtain rfl:u=Value.ref a:=rx
 obtain ⟨z,hd,vs,rel,dd⟩:=Nz I2.hok e
 obtain ⟨w',hw,rw'⟩:=Jb.some_of (v:=v) (o:=valueAt vs k) (by rw [<-l];exact rel.val k)
 exact ⟨dd.typeIs,wpAny_getItem_of (Ka ry) dd.mapOf hw ⟨v,H2,I2.tok _,rw',q2⟩⟩
theorem Sq (ha:DE X a ma)(hb:DE X b mb)(hs:Ry b):DE X (.Subscript a b pos) (mOp JC ma mb):=(G8 ha hb hs).of fun Z H Q h=>two h fun {H2 μ2 h2 x y wx wy Qw} R r1 r2 m k=>by
 unfold JC at m
 split at m
 ·rename_i n kk e
  split at m
  ·rename_i kvs ec
   split at m
   ·rename_i w ev
    obtain ⟨p,kvv,hp,hx,rf⟩:=R.dctAt ec
    rw [Rep] at r1
    obtain ⟨p',e1,hp'⟩:=r1
    have ep:p'=p:=by rw [hp] at hp';exact (Option.some.inj hp').symm
    subst ep
    obtain ⟨v,e2,rv⟩:=rf.val ev
    exact ⟨p',kvv,kk,v,e1,.inl hx,qL r2 e,e2,k _ _ ⟨μ2,w,h2,.refl,R,rv,m⟩⟩
   ·exact m.elim
  ·exact m.elim
 ·exact m.elim
def Q9:JV:=fun o i v H N=>∃ a kvs k,o=.ref a/\H a=some (.dK kvs)/\i=kV k/\kvs.length<sizeLine/\N (upd H a (.dK (putK kvs k v)))
theorem set_dict:SX X Q9:=by
 intro pins s Z H o i v ov iv u Q I ro ri rv ⟨a,kvs,k,eo,e,ei,l,q⟩
 subst eo ei
 obtain rfl:ov=Value.ref a:=ro
 obtain ⟨z,hd,vs,rel,dd⟩:=Fi I.hok e
 have hz:vs.length<=sizeLine:=by rw [<-rel.length];exact z
 have hl:(putK kvs k v).length<=sizeLine:=by have:=vM kvs k v;omega
 refine wpAny_setItem_pairs (hsz:=hz) (Ka ri) dd fun h' dd' hs=>⟨_,?_,q⟩
 have he:∃ q,h'.get? a=some q:=let ⟨q,_,_,hq,_⟩:=dd';⟨q,hq⟩
 exact Dp I (by rw [e];exact True.intro) hs he (Oo hl hd (rel.put k rv) dd')
def Fl:J7:=fun o i w h N=>match o,Sy i with
 | .loc n,some k=>(match h.c n with
  | some (.dct kvs)=>fW (kvs.length+1) (N (h.set n (.dct (MN kvs k w))))
  | _=>False)
 | _,_=>False
theorem Ft {K:Yh}:Al K Q9 Fl:=by
 intro H μ h o i v wo wi w Nw N R ro ri r m k
 unfold Fl at m
 split at m
 ·rename_i n kk e
  split at m
  ·rename_i kvs ec
   obtain ⟨p,kvv,hp,hx,rf⟩:=R.dctAt ec
   rw [Rep] at ro
   obtain ⟨p',e1,hp'⟩:=ro
   have ep:p'=p:=by rw [hp] at hp';exact (Option.some.inj hp').symm
   subst ep
   refine ⟨p',kvv,kk,e1,hx,qL ri e,?_,k _ ⟨μ,_,(Ex.write R hp).ext,R.write (c:=.dct (MN kvs kk w)) hp trivial ⟨_,aV,?_⟩,m.ok.2⟩⟩
   ·have:=m.ok.1
    rw [Paired.length rf] at this
    omega
   ·refine nR.put ?_ ((Ex.write R hp).ext.r _ _ r) kk
    exact Paired.mapP rf fun _ _ z=>⟨z.1,(Ex.write R hp).ext.r _ _ z.2⟩
  ·exact m.elim
 ·exact m.elim
inductive DDs (X:Cx):List (Option Expr)->List Expr->List (Key×ME)->Prop
 | nil:DDs X [] [] []
 | cons {x:Str} {j pos} {v:Expr} {m:ME} {ks:List (Option Expr)} {vs:List Expr} {r:List (Key×ME)} (h:DE X v m) (t:DDs X ks vs r):DDs X (some (.Constant (.str x) j pos)::ks) (v::vs) ((.inr x,m)::r)
end
inductive Vz (w:World) (K:Yh):List DictEntry->List (Key×W)->Prop
 | nil:Vz w K [] []
 | cons {x:Str} {t} {v:V} {u:Value} {d:W} {es:List DictEntry} {tbl:List (Key×W)} (r:RelV v u) (q:∀ H μ,Rep K H μ d v) (h:Vz w K es tbl):Vz w K (⟨PyData.keyHash w.params x,.str x t,u⟩::es) ((.inr x,d)::tbl)
section
variable {X:Cx}{b:Expr}{mb:ME}{pos p:Pos}{x:Str}{a:Addr}{tbl:List (Key×W)}
end
end L2
namespace L2
open PySem PySem.Spec PyProof.Rows
section
variable {X:Cx}{pos p p':Pos}{x:Str}{a:Addr}{tbl:List (Key×W)}
end
end L2
namespace L2
open PySem PySem.Spec PyProof.Rows
section
variable {X:Cx}
end
end L2
namespace L2
open PySem PySem.Spec PyProof.Rows
section
variable {X:Cx}{K:Yh}{H:Hp}{μ : Mu}{h:Gh}
end
end L2
namespace L2
open PySem PySem.Spec PyProof.Rows
section
variable {X:Cx}{a b c:Expr}{ma mb mc:ME}{pos:Pos}
end
end L2
namespace L2
open PySem PySem.Spec PyProof.Rows
section
variable {K:Yh}{H:Hp}{μ : Mu}{fs:List (Str×W)}{fvs:List (Str×V)}{f:Str}{w:W}{v:V}
end
section
variable {X:Cx}{e o value:Expr}{es:List Expr}{ma mo mv:ME}{mr:MA}{f:Str}{C:Addr}{pos pos' apos:Pos}
end
end L2
namespace L2
open PySem PySem.Spec PyProof.Rows
section
variable {prog:Program}{w:World}{A:Around}{E:Value->Shared->Prop}{s:Shared}
theorem Kl:typeLookup (.type "list_reverseiterator") "__len__" = pure none:=by rw [typeLookup_type,builtinLookup_eq_fast];kernel_rfl
theorem GF:typeLookup (.type "list_reverseiterator") "__length_hint__" = pure (some (.builtin "list_reverseiterator.__length_hint__")):=by rw [typeLookup_type,builtinLookup_eq_fast];kernel_rfl
theorem Hj {r:Addr}{Q:Bool->Shared->Prop}(hT:s.TypeIs (.ref r) "list_reverseiterator")(h:Q false s):wpAny (model prog w) A (Builtin.List.listLengthHint (.ref r)) Q E s:=by
 unfold Builtin.List.listLengthHint
 refine XS (wpAny_specialOf hT Kl ?_)
 dsimp only
 refine wpAny_ite_split (fun hab=>absurd hab (by decide)) (fun _=>?_)
 refine wpAny_ite_split (fun hab=>absurd hab (by decide)) (fun _=>?_)
 refine XS (wpAny_specialOf hT GF ?_)
 generalize hid:("list_reverseiterator.__length_hint__" : String)=id0
 wp_delta
 rw [show splitId id0=some ("list_reverseiterator", "__length_hint__") from by subst hid;decide +kernel]
 subst hid
 refine XS (wpAny_isInstance (T := "list_reverseiterator") (b:=true) hT (by rw [isSubtype_type];kernel_rfl) ?_)
 refine wpAny_ite_split (fun hab=>absurd hab (by decide)) (fun _=>?_)
 refine wpAny_ite_split (fun _=>?_) (fun hab=>absurd (by decide +kernel) hab)
 refine wpAny_ite_split (fun hab=>absurd hab (by decide +kernel)) (fun _=>?_)
 exact X3 h
theorem zc {R:Result->Shared->Prop}{r l:Addr}{items:Array Value}(hh:A.handled=none)(hit:s.heap.IsRevIter r l ((items.size:Int) - 1))(hl:s.heap.IsList l items)(hne:l≠r)(S:Addr)(hSr:S≠r)(hSl:S≠l)(res:Value)(c₀ : Nat)(hS:s.heap.get? S=some { cls:=.type "list",data:=.seq #[] c₀ })
  (hR:∀ h' tk acc' c',(∀ b o,b≠S->b≠r->s.heap.get? b=some o->h'.get? b=some o)->h'.get? S=some { cls:=.type "list",dict:=none,data:=.seq acc' c',slots:=#[] }->ItemsOf (fun i v=>items[items.size - 1 - i]?=some v) acc' items.size->R (.ok (.ret res)) { s with heap:=h',toks:=tk }) (hn:items.size<=sizeLine) :
  wpAny (model prog w) A.in1 (Builtin.List.listExtendWith (.ref S) (.ref r) res)
   (fun fin s'=>match fin with | .done f=>R (.ok f) s' | .again c'=>c'.quiet=true/\codeAny (model prog w) A c' R s') (fun e s'=>R (.error e) s') s:=by
 have hSf:S∉[r,l]:=by simp only [List.mem_cons,List.not_mem_nil,or_false,not_or];exact ⟨hSr,hSl⟩
 have W:=Walks.listRev (prog:=prog) (w:=w) (A:=A.in1) hh r l hne items
 have st:(fun (i:Nat) (h:Heap)=>i<=items.size/\h.IsRevIter r l ((items.size:Int) - 1 - (i:Int))/\h.IsList l items) 0 s.heap:=⟨Nat.zero_le _,by simpa using hit,hl⟩
 have key:∀ (h:Heap) (c₁ tk:Nat),(fun (i:Nat) (h:Heap)=>i<=items.size/\h.IsRevIter r l ((items.size:Int) - 1 - (i:Int))/\h.IsList l items) 0 h->(∀ b o,b≠S->s.heap.get? b=some o->h.get? b=some o) ->
   h.get? S=some { cls:=.type "list",data:=.seq #[] c₁ }->codeAny (model prog w) A (.builtin "list.extend.loop" ⟨[.ref S,.ref r,res],[]⟩) R { s with heap:=h,toks:=tk }:=by
  intro h c₁ tk hst hk hS₁
  refine codeAny_extend_loopS W.toS hn S hSf res items.size 0 _ #[] c₁ rfl (Nat.zero_le _) hst hS₁ (ItemsOf.nil _) fun s' acc' c' hm hS' hacc=>?_
  rw [Moved.eq_with hm]
  refine hR s'.heap s'.toks acc' c' (fun b o hb hr e=>hm.heap b o (fun hmem=>?_) (hk b o hb e)) hS' hacc
  rcases List.mem_cons.mp hmem with e' | hmem
  ·exact hb e'
  ·exact hr (List.mem_singleton.mp hmem)
 unfold Builtin.List.listExtendWith
 refine XS (wpAny_typeOf (T := "list_reverseiterator") hit.typeIs ?_)
 have h1:Builtin.List.listSameRef (.ref S) (.ref r)=false:=by simp [Builtin.List.listSameRef,hSr]
 have n1:(Value.type "list_reverseiterator"==Value.type "list")=false:=by decide +kernel
 have n2:(Value.type "list_reverseiterator"==Value.type "tuple")=false:=by decide +kernel
 simp only [h1,n1,n2,Bool.or_false,Bool.false_eq_true,if_false]
 refine XS (wpAny_pyIter_revIter hit ?_)
 refine XS (wpAny_holding (Hj hit.typeIs ?_))
 refine wpAny_ite_split (fun _=>?_) (fun _=>X3 ⟨plainId_quiet PySem.F.plain_extend_loop _,key _ c₀ _ st (fun b o _ e=>e) hS⟩)
 refine XS (wpAny_rule ?_)
 refine XS ?_
 show wpAny _ _ (updateSeq S (·.push .none) >>= fun _=>updateSeq S (·.pop)) _ _ _
 refine XS (wpAny_updateSeq hS rfl ?_)
 have hS₂:=Heap.get?_update_self (Obj.mapSeq (·.push Value.none)) hS rfl
 refine wpAny_updateSeq (hz:=by seq_fits) hS₂ rfl ?_
 have hS₃:=Heap.get?_update_self (Obj.mapSeq (·.pop)) hS₂ rfl
 refine X3 ⟨plainId_quiet PySem.F.plain_extend_loop _,key _ _ _ ?_ (fun b o hb e=>?_) hS₃⟩
 ·refine W.frame 0 _ _ st fun b hb o e=>?_
  have hbS:b≠S:=fun h=>hSf (h ▸ hb)
  exact (Heap.get?_update_other _ _ (Ne.symm hbS)).trans ((Heap.get?_update_other _ _ (Ne.symm hbS)).trans e)
 ·exact (Heap.get?_update_other _ _ (Ne.symm hb)).trans ((Heap.get?_update_other _ _ (Ne.symm hb)).trans e)
end
theorem Fq:∀ {xs:List V} {us:List Value},Vals xs us->Vals xs.reverse us.reverse:=by
 intro xs us r
 induction r with
 | nil=>exact .nil
 | cons h t ih=>
  rw [List.reverse_cons,List.reverse_cons]
  exact Vals.append ih (.cons h .nil)
theorem yc {K:Yh}{H:Hp}{μ : Mu}:∀ {ws:List W} {vs:List V},aJ K H μ ws vs->aJ K H μ ws.reverse vs.reverse
 | [],vs,r=>by rw [aJ] at r;subst r;exact aJ.nil
 | w::ws,vs,r=>by
  rw [aJ] at r
  obtain ⟨v,vs',e,rv,r⟩:=r
  subst e
  rw [List.reverse_cons,List.reverse_cons]
  exact aJ.append (yc r) (aJ.cons rv aJ.nil)
section
variable {X:Cx}
end
section
variable {X:Cx}{e:Expr}{me:ME}{x:Str}{a:Addr}{tbl:List (Key×W)}{p pos:Pos}
end
end L2
namespace L2
open PySem PySem.Spec PyProof.Rows
section
variable {X:Cx}{Γ : St->Prop}{C:Addr}{o e:Expr}{es:List Expr}{mo:ME}{mr:MA}{pos apos:Pos}
end
end L2
namespace L2
open PySem PySem.Spec PyProof.Rows
def vq (kvs:List (List Int×W))(k:List Int):Option W:=(kvs.find? fun x=>decide (x.1=k)).map (·.2)
def Nv (kvs:List (List Int×W))(k:List Int)(w:W):List (List Int×W):=if (vq kvs k).isSome then kvs.map (fun x=>if x.1=k then (x.1,w) else x) else kvs++[(k,w)]
section
variable {X:Cx}{pins:List (Addr×Obj)}{Z : St}{H:Hp}{s:Shared}{K:Yh}{μ : Mu}
def zE (K:Yh)(H:Hp)(xs:List (List Int×Addr×Value)):Prop:=∀ x∈xs,SqT K H x.2.1 (x.1.map V.int)
theorem tZ {b:Addr}{k:List Int}(I:Inv X pins Z H s)(hb:SqT X.K H b (k.map V.int)):(tupleKind (intKind X.prog X.w)).is s.heap k b:=by
 obtain ⟨its2,r2,⟨o,ho,hcl,n,hd⟩,_⟩:=I.tuple hb
 exact ⟨o,_,_,ho,hcl,hd,xG r2⟩
theorem uN {a:Addr}{xs:List (List Int×Addr×Value)}(I:Inv X pins Z H s)(e:H a=some (.ext (vO a xs)))(hk:zE X.K H xs):xs.length<=sizeLine/\(a==sysModules)=false/\s.heap.DictOfH (tupleKind (intKind X.prog X.w)) a xs:=by
 obtain ⟨⟨z,y,nd,o,es,ep,h1,h2,h3,h4⟩,_⟩:=I.hok a _ e
 exact ⟨z,y,o,es,ep,h1,h2,h3,h4,fun x hx=>tZ I (hk x hx),nd⟩
theorem uQ {P:Program}{w:World}{H':Hp}{a:Addr}{xs:List (List Int×Addr×Value)}{h:Heap}(z:xs.length<=sizeLine)(y:(a==sysModules)=false)(d:h.DictOfH (tupleKind (intKind P w)) a xs):cZ P w H' h a (.ext (vO a xs)):=by
 obtain ⟨o,es,ep,h1,h2,h3,h4,_,h5⟩:=d
 exact ⟨⟨z,y,h5,o,es,ep,h1,h2,h3,h4⟩,⟨o,h1⟩,fun g1 g2 ⟨z,y,nd,o,es,ep,a1,a2,a3,a4⟩ k=>⟨z,y,nd,o,es,ep,k o a1,a2,a3,a4⟩⟩
theorem K9 {x:List Int×Addr×Value}{xs:List (List Int×Addr×Value)}{k:List Int}:atKey (x::xs) k=if x.1=k then some x.2 else atKey xs k:=by
 unfold atKey
 rw [List.find?_cons]
 by_cases e:x.1=k
 ·rw [if_pos e];simp [e]
 ·rw [if_neg e];simp [e]
theorem xu {x:List Int×W}{kvs:List (List Int×W)}{k:List Int}:vq (x::kvs) k=if x.1=k then some x.2 else vq kvs k:=by
 unfold vq
 rw [List.find?_cons]
 by_cases e:x.1=k
 ·rw [if_pos e];simp [e]
 ·rw [if_neg e];simp [e]
theorem qW:∀ {kvs:List (List Int×W)} {xs:List (List Int×Addr×Value)} {vs:List V},kvs.map (·.1)=xs.map (·.1)->Vals vs (xs.map (·.2.2))->aJ K H μ (kvs.map (·.2)) vs->∀ k:List Int,
  (∀ w,vq kvs k=some w->∃ p v,atKey xs k=some p/\RelV v p.2/\Rep K H μ w v)/\(vq kvs k).isSome=(atKey xs k).isSome
 | [],[],_,_,_,_,k=>⟨fun w e=>by simp [vq] at e,rfl⟩
 | [],_::_,_,e,_,_,_=>by simp at e
 | _::_,[],_,e,_,_,_=>by simp at e
 | x::kvs,y::xs,vs,e,hv,hr,k=>by
  rw [X5,X5] at e
  obtain ⟨e1,e2⟩:=List.cons.inj e
  rw [X5,aJ] at hr
  obtain ⟨v,vs',rfl,r1,r2⟩:=hr
  rw [X5] at hv
  cases hv with
  | cons a b=>
   obtain ⟨i1,i2⟩:=qW e2 b r2 k
   rw [xu,K9,e1]
   by_cases z:y.1=k
   ·rw [if_pos z,if_pos z]
    exact ⟨fun w ew=>by cases ew;exact ⟨_,v,rfl,a,r1⟩,rfl⟩
   ·rw [if_neg z,if_neg z]
    exact ⟨i1,i2⟩
theorem Rel.dttAt {h:Gh}{n:Nat}{kvs:List (List Int×W)}(R:Rel K μ H h)(e:h.c n=some (.dtt kvs)):∃ p xs vs,μ.f n=some p/\H p=some (.ext (vO p xs))/\kvs.map (·.1)=xs.map (·.1)/\Vals vs (xs.map (·.2.2))/\aJ K H μ (kvs.map fun x=>W.tup (x.1.map W.int)) (xs.map fun x=>V.ref x.2.1)/\aJ K H μ (kvs.map (·.2)) vs:=by
 obtain ⟨p,e1,xs,vs,a,b,c,d,f⟩:=R.cel n _ e
 exact ⟨p,xs,vs,e1,a,b,c,d,f⟩
theorem xR:∀ {k:List Int} {vs:List V},aJ K H μ (k.map W.int) vs->vs=k.map V.int
 | [],_,h=>by rw [List.map_nil,aJ] at h;exact h
 | i::k,_,h=>by
  rw [X5,aJ] at h
  obtain ⟨v,vs,rfl,r,t⟩:=h
  rw [Rep] at r
  rw [r,xR t]
  rfl
theorem Lq {k:List Int}{b:Addr}(r:Rep K H μ (.tup (k.map .int)) (.ref b)):SqT K H b (k.map V.int):=by
 rw [Rep] at r
 obtain ⟨p,xs,e,hs,hr⟩:=r
 cases e
 rw [xR hr] at hs
 exact hs
theorem gH:∀ {kvs:List (List Int×W)} {xs:List (List Int×Addr×Value)},kvs.map (·.1)=xs.map (·.1)->aJ K H μ (kvs.map fun x=>W.tup (x.1.map W.int)) (xs.map fun x=>V.ref x.2.1)->zE K H xs
 | [],[],_,_=>fun x hx=>nomatch hx
 | [],_::_,e,_=>by simp at e
 | _::_,[],e,_=>by simp at e
 | x::kvs,y::xs,e,hr=>by
  rw [X5,X5] at e
  obtain ⟨e1,e2⟩:=List.cons.inj e
  rw [X5,X5,aJ] at hr
  obtain ⟨v,vs',ev,r1,r2⟩:=hr
  obtain ⟨rfl,rfl⟩:=List.cons.inj ev
  intro z hz
  rcases List.mem_cons.mp hz with rfl | hz
  ·rw [e1] at r1
   exact Lq r1
  ·exact gH e2 r2 z hz
end
section
variable {X:Cx}{a b o i:Expr}{ma mb:ME}{td ty:TE}{pos:Pos}
def Jo:W->Option (List Int)
 | .tup ws=>kE ws
 | _=>none
def Fj:M2:=fun x y h Q=>match x,Jo y with
 | .loc n,some k=>(match h.c n with
  | some (.dtt kvs)=>(match vq kvs k with
   | some w=>Q w h
   | none=>False)
  | _=>False)
 | _,_=>False
theorem Er (hu:X.A.units+30<cLine)(ho:PE X o td)(hi:PE X i ty)(hs:Ry i):PE X (.Subscript o i pos) (fun Z H Q=>td Z H fun x H1=>ty Z H1 fun y H2=>∃ a xs k b p v,x=.ref a/\H2 a=some (.ext (vO a xs))/\zE X.K H2 xs/\y=.ref b/\SqT X.K H2 b (k.map V.int)/\atKey xs k=some p/\RelV v p.2/\Q v H2):=by
 intro pins s Z H Q I h
 refine Bx PySem.F.slot_dict_getitem.lookup hs (thn (ho pins s Z H _ I h) fun u s1 ⟨x,H1,I1,rx,q1⟩=>thn (hi pins s1 Z H1 _ I1 q1) fun iv s2 ⟨y,H2,I2,ry,a,xs,k,b,p,v,ex,e,hk,ey,hb,l,rv,q2⟩=>?_)
 subst ex ey
 obtain rfl:u=Value.ref a:=rx
 obtain rfl:iv=Value.ref b:=ry
 obtain ⟨z,hd,dd⟩:=uN I2 e hk
 exact ⟨dd.typeIs,wpAny_getItem_heap (tupleKind_room_in1 (by omega)) (tZ I2 hb) dd l ⟨v,H2,I2.tok _,rv,q2⟩⟩
theorem lH {K:Yh}{H:Hp}{μ : Mu}{y:W}{v:V}{k:List Int}(r:Rep K H μ y v)(e:Jo y=some k):∃ b,v=.ref b/\SqT K H b (k.map V.int):=by
 unfold Jo at e
 split at e
 ·rw [Rep] at r
  obtain ⟨p,xs,e1,hs,hr⟩:=r
  rw [qp hr e] at hs
  exact ⟨p,e1,hs⟩
 ·cases e
theorem NQ (hu:X.A.units+30<cLine)(ha:DE X a ma)(hb:DE X b mb)(hs:Ry b):DE X (.Subscript a b pos) (mOp Fj ma mb):=(Er hu ha hb hs).of fun Z H Q h=>two h fun {H2 μ2 h2 x y wx wy Qw} R r1 r2 m k=>by
 unfold Fj at m
 split at m
 ·rename_i n kk e
  split at m
  ·rename_i kvs ec
   split at m
   ·rename_i w ev
    obtain ⟨p,xs,vs,hp,hx,e1,e2,r3,r4⟩:=R.dttAt ec
    rw [Rep] at r1
    obtain ⟨p',ex,hp'⟩:=r1
    have ep:p'=p:=by rw [hp] at hp';exact (Option.some.inj hp').symm
    subst ep
    obtain ⟨b',eb,hb'⟩:=lH r2 e
    obtain ⟨q,v,h3,h4,h5⟩:=(qW e1 e2 r4 kk).1 w ev
    exact ⟨p',xs,kk,b',q,v,ex,hx,gH e1 r3,eb,hb',h3,h4,k _ _ ⟨μ2,w,h2,.refl,R,h5,m⟩⟩
   ·exact m.elim
  ·exact m.elim
 ·exact m.elim
theorem tu {k:List Int}{v:Value}:∀ {xs:List (List Int×Addr×Value)},(xs.map (putAt k v)).map (·.1)=xs.map (·.1)
 | []=>rfl
 | x::xs=>by
  rw [X5,X5,X5,tu]
  congr 1
  unfold putAt
  by_cases e:x.1=k
  ·rw [if_pos e]
  ·rw [if_neg e]
theorem rA {k:List Int}{v:Value}:∀ {xs:List (List Int×Addr×Value)},(xs.map (putAt k v)).map (fun x=>V.ref x.2.1)=xs.map (fun x=>V.ref x.2.1)
 | []=>rfl
 | x::xs=>by
  rw [X5,X5,X5,rA]
  congr 1
  unfold putAt
  by_cases e:x.1=k
  ·rw [if_pos e]
  ·rw [if_neg e]
def QK (K:Yh):JV:=fun o i v H N=>∃ a xs k b,o=.ref a/\H a=some (.ext (vO a xs))/\zE K H xs/\i=.ref b/\SqT K H b (k.map V.int)/\xs.length<sizeLine/\∀ u,RelV v u->N (upd H a (.ext (vO a (storedH xs k b u))))
theorem yw {xs:List (List Int×Addr×Value)}{k:List Int}{b:Addr}{u:Value}:(storedH xs k b u).length<=xs.length+1:=by
 unfold storedH
 split
 ·rw [X6];omega
 ·rw [List.length_append];exact Yc _
theorem mj (hu:X.A.units+30<cLine):SX X (QK X.K):=by
 intro pins s Z H o i v ov iv u Q I ro ri rv ⟨a,xs,k,b,eo,e,hk,ei,hb,l,q⟩
 subst eo ei
 obtain rfl:ov=Value.ref a:=ro
 obtain rfl:iv=Value.ref b:=ri
 obtain ⟨z,hd,dd⟩:=uN I e hk
 refine wpAny_setItem_heap (hsz:=z) (tupleKind_room_in1 (by omega)) (tZ I hb) dd fun h' dd' hs=>⟨_,?_,q u rv⟩
 have he:∃ q,h'.get? a=some q:=let ⟨q,_,_,hq,_⟩:=dd';⟨q,hq⟩
 exact Dp I (by rw [e];exact True.intro) hs he (uQ (by have:=yw (xs:=xs) (k:=k) (b:=b) (u:=u);omega) hd dd')
def zT:ME:=fun _ h Q=>Q (.loc h.nx) (h.new (.dtt []))
theorem Bt:PE X (.Dict [] [] pos) (fun _ H Q=>∀ p,H p=none->Q (.ref p) (upd H p (.ext (vO p [])))):=fun pins s Z H Q I h=>
 wpAny_Dict_empty ⟨.ref s.heap.objs.size,_,I.laid (a:=s.heap.objs.size) (o:=.ext (vO s.heap.objs.size [])) (t':=s.toks) (fun _ _ q=>Heap.get?_push_of_some _ q) (Yc _) (by
  obtain ⟨_,y,_⟩:=wu (P:=X.prog) (w:=X.w) (H:=H) s.heap I.big
  exact uQ (P:=X.prog) (w:=X.w) (Nat.zero_le _) y ⟨_,#[],0,Heap.get?_push_size _ rfl,⟨rfl,rfl,rfl⟩,rfl,rfl,(fun x hx=>absurd hx List.not_mem_nil),List.nodup_nil⟩),rfl,h _ (I.hok.fresh (Yc _))⟩
theorem oM:DE X (.Dict [] [] pos) zT:=Bt.of fun Z H Q ⟨μ,g,Zw,Qw,R,S,m,q⟩ p hp=>by
 have R1:Rel X.K (μ.put g.nx p) (upd H p (.ext (vO p []))) (g.new (.dtt [])):=R.newCell hp trivial ⟨[],[],aV,rfl,.nil,by rw [List.map_nil,List.map_nil,aJ],by rw [List.map_nil,aJ]⟩
 exact q _ _ ⟨_,.loc g.nx,_,(Ex.newCell R hp).ext,R1,by rw [Rep];exact ⟨p,rfl,Mu.put_same⟩,m⟩
def ou:J7:=fun o i w h N=>match o,Jo i with
 | .loc n,some k=>(match h.c n with
  | some (.dtt kvs)=>fW (kvs.length+1) (N (h.set n (.dtt (Nv kvs k w))))
  | _=>False)
 | _,_=>False
theorem Bw {K:Yh}{H:Hp}{μ : Mu}{k:List Int}{w:W}{v:V}{u:Value}(rv:RelV v u)(r:Rep K H μ w v):∀ {kvs:List (List Int×W)} {xs:List (List Int×Addr×Value)} {vs:List V},kvs.map (·.1)=xs.map (·.1)->Vals vs (xs.map (·.2.2))->aJ K H μ (kvs.map (·.2)) vs ->
  ∃ vs',Vals vs' ((xs.map (putAt k u)).map (·.2.2))/\aJ K H μ ((kvs.map (fun x=>if x.1=k then (x.1,w) else x)).map (·.2)) vs'
 | [],[],_,_,_,_=>⟨[],.nil,by rw [List.map_nil,List.map_nil,aJ]⟩
 | [],_::_,_,e,_,_=>by simp at e
 | _::_,[],_,e,_,_=>by simp at e
 | x::kvs,y::xs,vs,e,hv,hr=>by
  rw [X5,X5] at e
  obtain ⟨e1,e2⟩:=List.cons.inj e
  rw [X5,aJ] at hr
  obtain ⟨v1,vs',rfl,r1,r2⟩:=hr
  rw [X5] at hv
  cases hv with
  | cons a b=>
   obtain ⟨vs2,i1,i2⟩:=Bw rv r e2 b r2
   by_cases z:y.1=k
   ·refine ⟨v::vs2,?_,?_⟩
    ·rw [X5,X5]
     refine .cons ?_ i1
     unfold putAt
     rw [if_pos z]
     exact rv
    ·rw [X5,X5,aJ]
     refine ⟨v,vs2,rfl,?_,i2⟩
     rw [if_pos (e1.trans z)]
     exact r
   ·refine ⟨v1::vs2,?_,?_⟩
    ·rw [X5,X5]
     refine .cons ?_ i1
     unfold putAt
     rw [if_neg z]
     exact a
    ·rw [X5,X5,aJ]
     refine ⟨v1,vs2,rfl,?_,i2⟩
     rw [if_neg (fun q=>z (e1.symm.trans q))]
     exact r1
theorem Br {k:List Int}{w:W}:∀ {kvs:List (List Int×W)},(kvs.map (fun x=>if x.1=k then (x.1,w) else x)).map (·.1)=kvs.map (·.1)
 | []=>rfl
 | x::kvs=>by
  rw [X5,X5,X5,Br]
  congr 1
  by_cases e:x.1=k
  ·rw [if_pos e]
  ·rw [if_neg e]
theorem Ai {k:List Int}{w:W}:∀ {kvs:List (List Int×W)},(kvs.map (fun x=>if x.1=k then (x.1,w) else x)).map (fun x=>W.tup (x.1.map W.int))=kvs.map (fun x=>W.tup (x.1.map W.int))
 | []=>rfl
 | x::kvs=>by
  rw [X5,X5,X5,Ai]
  congr 1
  by_cases e:x.1=k
  ·rw [if_pos e]
  ·rw [if_neg e]
theorem aJ.snoc {K:Yh}{H:Hp}{μ : Mu}{w:W}{v:V}(r:Rep K H μ w v):∀ {ws:List W} {vs:List V},aJ K H μ ws vs->aJ K H μ (ws++[w]) (vs++[v])
 | [],_,h=>by
  rw [aJ] at h
  rw [h,List.nil_append,List.nil_append,aJ]
  exact ⟨v,[],rfl,r,by rw [aJ]⟩
 | a::ws,_,h=>by
  rw [aJ] at h
  obtain ⟨b,bs,rfl,h1,h2⟩:=h
  rw [List.cons_append,List.cons_append,aJ]
  exact ⟨b,bs++[v],rfl,h1,aJ.snoc r h2⟩
theorem lQ {K:Yh}{H:Hp}{μ : Mu}:∀ k:List Int,aJ K H μ (k.map W.int) (k.map V.int)
 | []=>by rw [List.map_nil,List.map_nil,aJ]
 | i::k=>by
  rw [X5,X5,aJ]
  exact ⟨_,_,rfl,by rw [Rep],lQ k⟩
theorem qN {K:Yh}:Al K (QK K) ou:=by
 intro H μ h o i v wo wi w Nw N R ro ri r m k
 unfold ou at m
 split at m
 ·rename_i n kk e
  split at m
  ·rename_i kvs ec
   obtain ⟨p,xs,vs,hp,hx,e1,e2,r3,r4⟩:=R.dttAt ec
   rw [Rep] at ro
   obtain ⟨p',ex,hp'⟩:=ro
   have ep:p'=p:=by rw [hp] at hp';exact (Option.some.inj hp').symm
   subst ep
   obtain ⟨b,eb,hb⟩:=lH ri e
   have hlen:kvs.length=xs.length:=by have:=congrArg List.length e1;rwa [X6,X6] at this
   have we:=fun (o:HO)=>(Ex.write (o:=o) R hp).ext
   have rk:Rep K H μ (.tup (kk.map W.int)) (.ref b):=by rw [Rep];exact ⟨b,_,rfl,hb,lQ kk⟩
   refine ⟨p',xs,kk,b,ex,hx,gH e1 r3,eb,hb,by have:=m.ok.1;omega,fun u ru=>k _ ⟨μ,_,we _,R.write (c:=.dtt (Nv kvs kk w)) hp trivial ?_,m.ok.2⟩⟩
   have hs:=(qW e1 e2 r4 kk).2
   cases ea:atKey xs kk with
   | some q=>
    rw [ea] at hs
    obtain ⟨vs',i1,i2⟩:=Bw (k:=kk) ru r e1 e2 r4
    rw [storedH_old ea]
    unfold Nv
    rw [if_pos (show (vq kvs kk).isSome=true from hs)]
    exact ⟨_,vs',aV,Br.trans (e1.trans tu.symm),i1,by rw [Ai,rA];exact (we _).s r3,(we _).s i2⟩
   | none=>
    rw [ea] at hs
    rw [storedH_new ea]
    unfold Nv
    rw [if_neg (show ¬ (vq kvs kk).isSome=true from by rw [hs];decide)]
    refine ⟨_,vs++[v],aV,?_,?_,?_,?_⟩
    ·rw [List.map_append,List.map_append,e1];rfl
    ·rw [List.map_append];exact Vals.append e2 (.cons ru .nil)
    ·rw [List.map_append,List.map_append];exact (we _).s (aJ.snoc rk r3)
    ·rw [List.map_append];exact (we _).s (aJ.snoc r r4)
  ·exact m.elim
 ·exact m.elim
end
section
variable {prog:Program}{w:World}{A:Around}{E:Value->Shared->Prop}{s:Shared}
end
section
variable {X:Cx}
end
end L2
namespace L2
open PySem PySem.Spec PyProof.Rows
def ps (h:Int):Nat->Nat×Nat
 | 0=>(SetTable.bits h % 32,SetTable.bits h)
 | n+1=>SetTable.leap 31 (ps h n).1 (ps h n).2
def liv (o:Array (Option Nat)):List (Nat×Nat):=(List.range 32).filterMap fun j=>(o.getD j none).map (j,·)
structure Lay (o:Array (Option Nat)) (k:Nat):Prop where
 sz:o.size=32
 len:(liv o).length=k
 low:∀ p,p∈liv o->p.2<k
section
variable {prog:Program}{w:World}{A:Around}{E:Value->Shared->Prop}{s:Shared}{a:Addr}
end
end L2
namespace L2
open PySem PySem.Spec PyProof.Rows
section
variable {prog:Program}{w:World}{A:Around}{E:Value->Shared->Prop}{s:Shared}{m:Nat}{ka:Nat->List Int}{ad:Nat->Addr}{t:SetTable}{a b:Addr}{k:List Int}
end
end L2
namespace L2
open PySem PySem.Spec PyProof.Rows
section
variable {prog:Program}{w:World}{A:Around}{E:Value->Shared->Prop}{R:Result->Shared->Prop}
end
end L2
namespace L2
open PySem PySem.Spec PyProof.Rows
section
variable {prog:Program}{w:World}{A:Around}{E:Value->Shared->Prop}{s:Shared}
end
end L2
namespace L2
open PySem PySem.Spec PyProof.Rows
section
variable {X:Cx}{K:Yh}
end
end L2
namespace L2
open PySem PySem.Spec PyProof.Rows
section
variable {X:Cx}{K:Yh}{o e:Expr}{mo:ME}{apos cpos:Pos}
end
end L2
namespace L2
open PySem PySem.Spec PyProof.Rows
section
variable {prog:Program}{w:World}{A:Around}{s:Shared}{K:Yh}{x C:Addr}{R:Result->Shared->Prop}
end
end L2
namespace L2
open PySem PySem.Spec PyProof.Rows
section
variable {prog:Program}{w:World}{A:Around}{E:Value->Shared->Prop}{s:Shared}{K:Yh}{x dx C f:Addr}{mA:Str->Option Value}{name:Str}{v:Value}
end
section
variable {prog:Program}{w:World}{A:Around}{E:Value->Shared->Prop}{s:Shared}{K:Yh}{x D:Addr}{ox:Obj}
end
end L2
namespace L2
open PySem PySem.Spec PyProof.Rows
section
variable {prog:Program}{w:World}{A:Around}{E:Value->Shared->Prop}{h:Heap}{g:Array GenState}{d:Drawn}{t:Nat}{os:OsState}
variable {nm q:Str}{C N:Addr}{bs bm bmB:List Value}{hdct:Bool}{sn:List Str}{sub:List Value}{ab:Bool}{col:Option Bool}{dd:Option Addr}{k0 k1 k2 k3 k5:Option Value}{B newId initId:String}{K:Yh}{f:Addr}
end
end L2
namespace L2
open PySem PySem.Spec PyProof.Rows
section
variable {prog:Program}{w:World}{M:Model}{A:Around}{E:Value->Shared->Prop}{s:Shared}{env:Env}{K:Yh}{f:Addr}
variable {nm q:Str}{C N:Addr}{bs bm bmB:List Value}{hdct:Bool}{sn:List Str}{sub:List Value}{ab:Bool}{col:Option Bool}{dd:Option Addr}{k0 k1 k2 k3 k5:Option Value}{B newId initId:String}
end
end L2
namespace L2
open PySem PySem.Spec PyProof.Rows
section
variable {X:Cx}{o value:Expr}{f:Str}{C:Addr}{pos pos':Pos}{ta tv:TE}
end
section
variable {X:Cx}{pins:List (Addr×Obj)}{Z : St}{H:Hp}{s:Shared}{e:Addr}
end
end L2
namespace L2
open PySem PySem.Spec PyProof.Rows
section
variable {X:Cx}{pins:List (Addr×Obj)}{Z : St}{H:Hp}{s:Shared}{C fi:Addr}{x f:Str}{np cpos pos:Pos}{e:Expr}{t:TA}{k:Nat}{fd:FuncData}{ps:List Str}
end
section
variable {X:Cx}{Γ : St->Prop}{e:Expr}{pos:Pos}{ma:ME}
end
section
variable {X:Cx}{e:Expr}{f:Str}{pos:Pos}{ma:ME}
end
end L2
namespace L2
open PySem PySem.Spec PyProof.Rows
section
variable {X:Cx}
end
end L2
namespace L2
open PySem PySem.Spec PyProof.Rows
section
variable {X:Cx}{Γ : St->Prop}{tg:Expr}
theorem KN {iter:Expr}{body:List Stmt}{mi:MI}{g:MG}{mb0:XWK->MS}{pos:Pos}(hp:PassesOwn (model X.prog X.w) X.A X.env X.xe)(hc:X.calm=true)(hΓ : ∀ Z,Γ Z)(hi:DIt X tg iter mi)(hg:DG X tg g)(hb:FZ X Γ body mb0)
  (hs:∀ x,foldedSetIterable iter X.env x=pure x:=by intro _;rfl):DSx X Γ (.For tg iter body [] pos) (fun E=>oX mi g (mb0 E)):=(Jc hp hc hi hg hb hs).of fun D Z H ⟨_,μ,h,Zw,Dw,E,R,S,m,k,kx⟩=>by
 refine ⟨μ,h,Zw,_,R,S,m,fun J H1 ⟨μ1,src,h1,e1,R1,ok,m1⟩=>?_⟩
 refine ⟨fun i n Z' H'=>n=src.ws.length - i/\i<=src.ws.length/\DN X.K H1 μ1 (eO src g (mb0 E) Dw (src.ws.drop i)) Z' H',⟨src.ws.length,by simp,Nat.zero_le _,μ1,Zw,h1,.refl,R1,S.ext e1,by rw [List.drop_zero];exact m1⟩,?_⟩
 rintro i n Z2 H2 ⟨hn,hle,μ2,Zw2,h2,e2,R2,S2,m2⟩
 by_cases hlt:i<src.ws.length
 ·rw [List.drop_eq_getElem_cons hlt] at m2
  obtain ⟨ck,m2⟩:=Src.go_ok m2
  obtain ⟨hgo,hy⟩:=(ok e2 R2 ck).1 src.ws[i] (List.getElem?_eq_getElem hlt)
  refine .inr ⟨hgo,fun Z' H'=>DN X.K H2 μ2 (eO src g (mb0 E) Dw (src.ws.drop (i+1))) Z' H',fun Z' H' z=>⟨src.ws.length - (i+1),by omega,rfl,hlt,z.trans e2⟩,fun x H3 y=>?_⟩
  obtain ⟨μ3,e3,R3,rx⟩:=hy x H3 y
  refine ⟨μ3,h2,Zw2,src.ws[i],_,R3,S2.ext e3,rx,m2,fun Z4 H4 ⟨μ4,Zw4,h4,e4,R4,S4,m4⟩=>?_⟩
  have e24:=e3.trans e4
  have e14:=(e1.trans e2).trans e24
  exact ⟨hΓ _,μ4,h4,Zw4,_,E,R4,S4,m4,⟨fun Z' H' z=>z.trans e24,fun v H' z=>k.rt _ _ (z.trans e14),fun Z' H' z=>k.nx _ _ (z.trans e14),fun Z' H' z=>z.trans e24⟩,fun ev s' z=>kx ev s' (z.trans e14)⟩
 ·have ei:i=src.ws.length:=by omega
  subst ei
  rw [List.drop_length] at m2
  obtain ⟨ck,m2⟩:=Src.go_ok m2
  exact .inl ⟨(ok e2 R2 ck).2 (Yc _),k.nx _ _ ⟨μ2,Zw2,h2,e1.trans e2,R2,S2,m2⟩⟩
end
end L2
namespace L2
open PySem PySem.Spec PyProof.Rows
section
variable {X:Cx}{K:Yh}
end
end L2
namespace L2
open PySem PySem.Spec PyProof.Rows
section
variable {X:Cx}{mr:MA}{pos p:Pos}{e:Expr}{es:List Expr}{k:Nat}{fs:List (Addr×MSp)}
inductive VFs (X:Cx) (k:Nat):List (Addr×MSp)->Prop
 | nil:VFs X k []
 | cons {f:Addr} {fd:FuncData} {ps:List Str} {ms:MSp} {fs:List (Addr×MSp)} (F:d9 X.prog X.w X.K X.mg X.base CX0 k f fd ps (lift X.K ms)) (hk:PySem.W.keepIn X.K (.ref f)=true) (hb:Binds X.K fd ps []) (r:VFs X k fs):VFs X k ((f,ms)::fs)
end
end L2
namespace L2
open PySem PySem.Spec PyProof.Rows
def Cmp (P:Program)(w:World)(A:Around)(s:Shared)(kd:SortKind)(rk:Value->Nat)(good:Value->Prop):Prop:=
 ∀ (E:Value->Shared->Prop) (Q:Bool->Shared->Prop) (x y:Value),good x->good y->Q (decide (rk x<rk y)) s->wpAny (model P w) A (keyLt' kd x y) Q E s
section
variable {P:Program}{w:World}{A:Around}{E:Value->Shared->Prop}{s:Shared}{kd:SortKind}{rk:Value->Nat}{good:Value->Prop}
def Rk (rk:Value->Nat)(a:Array Keyed)(i:Nat):Nat:=match a[i]? with
 | some p=>rk p.1
 | none=>0
def aY (rk:Value->Nat)(a:Array Keyed)(i j:Nat):Prop:=∀ p q,i<=p->p<q->q<j->Rk rk a p<Rk rk a q
structure Keys (rk:Value->Nat) (good:Value->Prop) (a:Array Keyed):Prop where
 good:∀ p∈a.toList,good p.1
 nd:(a.toList.map fun p=>rk p.1).Nodup
theorem uG {a b:Array Keyed}{i j:Nat}(h:a[i]?=b[j]?):Rk rk a i=Rk rk b j:=by unfold Rk;rw [h]
theorem Keys.perm {a b:Array Keyed}(h:Keys rk good a)(p:b.Perm a):Keys rk good b:=by
 have pl:=Array.perm_iff_toList_perm.mp p
 exact ⟨fun x hx=>h.good x (pl.mem_iff.mp hx),(pl.map _).nodup_iff.mpr h.nd⟩
theorem Keys.ne {a:Array Keyed}(h:Keys rk good a){i j:Nat}(hi:i<a.size)(hj:j<a.size)(e:Rk rk a i=Rk rk a j):i=j:=by
 have e1:∀ k (hk:k<a.size),Rk rk a k=rk (a.toList[k]'(by simpa using hk)).1:=fun k hk=>by
  unfold Rk
  rw [Array.getElem?_eq_getElem hk]
  rfl
 rw [e1 i hi,e1 j hj] at e
 refine (List.getElem_inj h.nd).mp (?_:(a.toList.map fun p=>rk p.1)[i]'(by simpa using hi)=(a.toList.map fun p=>rk p.1)[j]'(by simpa using hj))
 simpa using e
structure SOk (kd:SortKind) (rk:Value->Nat) (good:Value->Prop) (st:SortSt):Prop where
 kind:kindOf st=kd
 failed:failedOf st=none
 keys:Keys rk good (arrOf st)
theorem SOk.arr {st:SortSt}(h:SOk kd rk good st){b:Array Keyed}(p:b.Perm (arrOf st)):SOk kd rk good (setArr st b):=⟨h.kind,h.failed,h.keys.perm p⟩
theorem bW {a:Array Keyed}{i:Nat}{st:SortSt}{Q:Keyed->SortSt->Prop}(hi:i<a.size)(q:Q a[i] st):wpS (model P w) A E s (elem' a i) Q st:=by
 rw [elem'_eq,Array.getElem?_eq_getElem hi]
 exact wpS_pure q
theorem w_lt (C:Cmp P w A s kd rk good){x y:Keyed}{st:SortSt}{Q:Option Bool->SortSt->Prop}(hk:kindOf st=kd)(hx:good x.1)(hy:good y.1)(q:Q (some (decide (rk x.1<rk y.1))) st):wpS (model P w) A E s (lt' x y) Q st:=by
 rw [lt'_eq]
 refine wpS_bind (wpS_get ?_)
 rw [hk]
 exact wpS_bind (wpS_lift (wpAny_attempt (C _ _ _ _ hx hy ⟨rfl,wpS_pure q⟩)))
theorem dN {a:Array Keyed}{i:Nat}(hi:i<a.size):Rk rk a i=rk a[i].1:=by
 unfold Rk
 rw [Array.getElem?_eq_getElem hi]
theorem oG (C:Cmp P w A s kd rk good){i j:Nat}{st:SortSt}{Q:Option Bool->SortSt->Prop}(ok:SOk kd rk good st)(hi:i<(arrOf st).size)(hj:j<(arrOf st).size)(q:Q (some (decide (Rk rk (arrOf st) i<Rk rk (arrOf st) j))) st):wpS (model P w) A E s (ltAt' i j) Q st:=by
 rw [ltAt'_eq]
 refine wpS_bind (wpS_get (wpS_bind (bW hi (wpS_bind (bW hj (w_lt C ok.kind ?_ ?_ ?_))))))
 ·exact ok.keys.good _ (by simp)
 ·exact ok.keys.good _ (by simp)
 ·rw [<-dN (rk:=rk) hi,<-dN (rk:=rk) hj]
  exact q
structure Within (a b:Array Keyed) (lo hi:Nat):Prop where
 perm:b.Perm a
 out:∀ k,k<lo\/hi<=k->b[k]?=a[k]?
theorem Within.size {a b:Array Keyed}{lo hi:Nat}(h:Within a b lo hi):b.size=a.size:=h.perm.size_eq
theorem Within.refl (a:Array Keyed)(lo hi:Nat):Within a a lo hi:=⟨Array.Perm.refl _,fun _ _=>rfl⟩
theorem Within.trans {a b c:Array Keyed}{lo hi:Nat}(h:Within a b lo hi)(g:Within b c lo hi):Within a c lo hi:=⟨g.perm.trans h.perm,fun k hk=>(g.out k hk).trans (h.out k hk)⟩
theorem Within.wide {a b:Array Keyed}{lo hi lo' hi':Nat}(h:Within a b lo hi)(h1:lo'<=lo)(h2:hi<=hi'):Within a b lo' hi':=⟨h.perm,fun k hk=>h.out k (by omega)⟩
theorem iD (st:SortSt):setArr st (arrOf st)=st:=by cases st;rfl
theorem mW {a:Array Keyed}{lo n:Nat}(h:aY rk a lo (lo+n))(h1:1<=n)(g:Rk rk a (lo+n - 1)<Rk rk a (lo+n)):aY rk a lo (lo+n+1):=fun p q h2 h3 h4=>by
 by_cases c:q<lo+n
 ·exact h p q h2 h3 c
 ·have e:q=lo+n:=by omega
  subst e
  by_cases c2:p=lo+n - 1
  ·rw [c2];exact g
  ·exact Nat.lt_trans (h p (lo+n - 1) h2 (by omega) (by omega)) g
theorem w_count (C:Cmp P w A s kd rk good){lo nrem:Nat}{st:SortSt}{Q:Option Nat->SortSt->Prop}(ok:SOk kd rk good st)(h1:1<=nrem)(hz:lo+nrem<=(arrOf st).size)
  (q:∀ (n:Nat) (b:Array Keyed),1<=n->n<=nrem->Within (arrOf st) b lo (lo+nrem)->aY rk b lo (lo+n)->(aY rk (arrOf st) lo (lo+nrem)->n=nrem/\b=arrOf st)->Q (some n) (setArr st b)) :
  wpS (model P w) A E s (countRun' lo nrem) Q st:=by
 rw [countRun'_eq]
 have ne:∀ {i j:Nat},i<(arrOf st).size->j<(arrOf st).size->i≠j->Rk rk (arrOf st) i≠Rk rk (arrOf st) j:=fun hi hj c e=>c (ok.keys.ne hi hj e)
 refine wpS_bind (wpS_mono (wpS_forRange
  (I:=fun x c st'=>st'=st/\c=(none,x)/\aY rk (arrOf st) lo (lo+x)/\x<=nrem)
  (Q:=fun c st'=>st'=st/\∃ n,c=(none,n)/\1<=n/\n<=nrem/\aY rk (arrOf st) lo (lo+n)/\(n=nrem\/Rk rk (arrOf st) (lo+n)<Rk rk (arrOf st) (lo+n - 1))) ?_ ?_ ⟨rfl,rfl,fun p q a b c=>by omega,h1⟩) ?_)
 ·rintro x c st' hx1 hx2 ⟨rfl,rfl,hr,_⟩
  dsimp only
  refine wpS_bind (oG C ok (by omega) (by omega) ?_)
  by_cases c:Rk rk (arrOf st') (lo+x)<Rk rk (arrOf st') (lo+x - 1)
  ·rw [decide_eq_true c]
   exact wpS_pure ⟨rfl,x,rfl,hx1,by omega,hr,.inr c⟩
  ·rw [decide_eq_false c]
   have:=ne (i:=lo+x) (j:=lo+x - 1) (by omega) (by omega) (by omega)
   exact wpS_pure ⟨rfl,rfl,mW hr hx1 (by omega),by omega⟩
 ·rintro c st' ⟨rfl,rfl,hr,hx⟩
  have e:max 1 nrem=nrem:=by omega
  rw [e] at hr |-
  exact ⟨rfl,nrem,rfl,h1,Yc _,hr,.inl rfl⟩
 ·rintro c st' ⟨rfl,n,rfl,n1,n2,hr,hd⟩
  dsimp only
  by_cases en:n=nrem
  ·subst en
   simp only [beq_self_eq_true,if_true]
   have:=q n (arrOf st') n1 (Yc _) (.refl _ _ _) hr fun _=>⟨rfl,rfl⟩
   rw [iD] at this
   exact wpS_pure this
  ·have hd:=hd.resolve_left en
   have not:¬ aY rk (arrOf st') lo (lo+nrem):=fun r=>by
    have:=r (lo+n - 1) (lo+n) (by omega) (by omega) (by omega)
    omega
   rw [if_neg (by simpa using en)]
   by_cases c1:n>1
   ·rw [if_pos c1]
    have hrise:=hr lo (lo+n - 1) (Yc _) (by omega) (by omega)
    refine wpS_bind (oG C ok (by omega) (by omega) ?_)
    rw [decide_eq_true hrise]
    have:=q n (arrOf st') n1 n2 (.refl _ _ _) hr fun r=>absurd r not
    rw [iD] at this
    exact wpS_pure this
   ·rw [if_neg c1]
    have e1:n=1:=by omega
    subst e1
    refine wpS_bind (wpS_lift (wpAny_rule ⟨rfl,?_⟩))
    refine wpS_bind (wpS_mono (wpS_forRange
     (I:=fun x c st2=>st2=st'/\c=(none,x,0)/\(∀ u v,lo<=u->u<v->v<lo+x->Rk rk (arrOf st') v<Rk rk (arrOf st') u)/\x<=nrem)
     (Q:=fun c st2=>st2=st'/\∃ m,c=(none,m,0)/\2<=m/\m<=nrem/\∀ u v,lo<=u->u<v->v<lo+m->Rk rk (arrOf st') v<Rk rk (arrOf st') u) ?_ ?_ ⟨rfl,rfl,fun u v h2 h3 h4=>?_,by omega⟩) ?_)
    ·rintro x c st2 hx1 hx2 ⟨rfl,rfl,hf,_⟩
     dsimp only
     refine wpS_bind (oG C ok (by omega) (by omega) ?_)
     by_cases c:Rk rk (arrOf st2) (lo+x)<Rk rk (arrOf st2) (lo+x - 1)
     ·rw [decide_eq_true c]
      refine wpS_pure ⟨rfl,rfl,fun u v h2 h3 h4=>?_,by omega⟩
      by_cases c2:v<lo+x
      ·exact hf u v h2 h3 c2
      ·have ev:v=lo+x:=by omega
       subst ev
       by_cases c3:u=lo+x - 1
       ·rw [c3];exact c
       ·exact Nat.lt_trans c (hf u (lo+x - 1) h2 (by omega) (by omega))
     ·rw [decide_eq_false c]
      have:=ne (i:=lo+x) (j:=lo+x - 1) (by omega) (by omega) (by omega)
      refine wpS_bind (oG C ok (by omega) (by omega) ?_)
      rw [decide_eq_true (show Rk rk (arrOf st2) (lo+x - 1)<Rk rk (arrOf st2) (lo+x) by omega)]
      exact wpS_pure ⟨rfl,x,rfl,by omega,by omega,hf⟩
    ·rintro c st2 ⟨rfl,rfl,hf,hx⟩
     have e:max (1+1) nrem=nrem:=by omega
     rw [e] at hf |-
     exact ⟨rfl,nrem,rfl,by omega,Yc _,hf⟩
    ·have eu:u=lo+1 - 1:=by omega
     have ev:v=lo+1:=by omega
     rw [eu,ev]
     exact hd
    ·rintro c st2 ⟨rfl,m,rfl,m1,m2,hf⟩
     dsimp only
     rw [if_neg (Nat.lt_irrefl 0)]
     refine wpS_bind (wpS_reverse ?_)
     have hb:∀ k,Rk rk (mirror (arrOf st2) lo (lo+m) ((lo+m - lo) / 2)) k=if lo<=k/\k<lo+m then Rk rk (arrOf st2) (lo+(lo+m) - 1 - k) else Rk rk (arrOf st2) k:=fun k=>by
      have e:=getElem?_mirror_all (xs:=arrOf st2) (i:=lo) (j:=lo+m) (by omega) k
      split
      ·rename_i c;rw [if_pos c] at e;exact uG e
      ·rename_i c;rw [if_neg c] at e;exact uG e
     have hw:Within (arrOf st2) (mirror (arrOf st2) lo (lo+m) ((lo+m - lo) / 2)) lo (lo+nrem):=⟨mirror_perm _ _ _ _,fun k hk=>by
      rw [getElem?_mirror_all (by omega),if_neg (by omega)]⟩
     have hrb:aY rk (mirror (arrOf st2) lo (lo+m) ((lo+m - lo) / 2)) lo (lo+m):=fun u v h2 h3 h4=>by
      rw [hb,hb,if_pos (by omega),if_pos (by omega)]
      exact hf _ _ (by omega) (by omega) (by omega)
     generalize mirror (arrOf st2) lo (lo+m) ((lo+m - lo) / 2)=b at hb hw hrb
     have ok2:SOk kd rk good (setArr st2 b):=ok.arr hw.perm
     have hz2:(arrOf (setArr st2 b)).size=(arrOf st2).size:=hw.size
     refine wpS_bind (wpS_mono (wpS_forRange
      (I:=fun x c st3=>st3=setArr st2 b/\c=(none,x)/\aY rk b lo (lo+x)/\x<=nrem)
      (Q:=fun c st3=>st3=setArr st2 b/\∃ n,c=(none,n)/\1<=n/\n<=nrem/\aY rk b lo (lo+n)) ?_ ?_ ⟨rfl,rfl,hrb,m2⟩) ?_)
     ·rintro x c st3 hx1 hx2 ⟨rfl,rfl,hr3,_⟩
      dsimp only
      refine wpS_bind (oG C ok2 (by omega) (by omega) ?_)
      by_cases c:Rk rk (arrOf (setArr st2 b)) (lo+x)<Rk rk (arrOf (setArr st2 b)) (lo+x - 1)
      ·rw [decide_eq_true c]
       exact wpS_pure ⟨rfl,x,rfl,by omega,by omega,hr3⟩
      ·rw [decide_eq_false c]
       have:Rk rk b (lo+x)≠Rk rk b (lo+x - 1):=fun e=>absurd (ok2.keys.ne (i:=lo+x) (j:=lo+x - 1) (by omega) (by omega) e) (by omega)
       have c:¬ Rk rk b (lo+x)<Rk rk b (lo+x - 1):=c
       exact wpS_pure ⟨rfl,rfl,mW hr3 (by omega) (by omega),by omega⟩
     ·rintro c st3 ⟨rfl,rfl,hr3,hx⟩
      have e:max m nrem=nrem:=by omega
      rw [e] at hr3 |-
      exact ⟨rfl,nrem,rfl,h1,Yc _,hr3⟩
     ·rintro c st3 ⟨rfl,n,rfl,n1,n2,hr3⟩
      exact wpS_pure (q n b n1 n2 hw hr3 fun r=>absurd r not)
end
end L2
namespace L2
open PySem PySem.Spec PyProof.Rows
section
variable {P:Program}{w:World}{A:Around}{E:Value->Shared->Prop}{s:Shared}{kd:SortKind}{rk:Value->Nat}{good:Value->Prop}
theorem R7 (C:Cmp P w A s kd rk good){lo n ok':Nat}{st:SortSt}{Q:Bool->SortSt->Prop}(ok:SOk kd rk good st)(h1:1<=ok')(hn:ok'<=n)(hz:lo+n<=(arrOf st).size)(hr:aY rk (arrOf st) lo (lo+ok'))
  (q:∀ b,Within (arrOf st) b lo (lo+n)->aY rk b lo (lo+n)->Q true (setArr st b)):wpS (model P w) A E s (binarySort' lo n ok') Q st:=by
 rw [binarySort'_eq]
 refine wpS_bind (wpS_mono (wpS_forRange
  (I:=fun x c st'=>c=(none,())/\∃ b,st'=setArr st b/\Within (arrOf st) b lo (lo+n)/\aY rk b lo (lo+x)/\x<=n)
  (Q:=fun c st'=>c=(none,())/\∃ b,st'=setArr st b/\Within (arrOf st) b lo (lo+n)/\aY rk b lo (lo+n)) ?_ ?_ ⟨rfl,arrOf st,(iD st).symm,.refl _ _ _,by rw [Nat.max_eq_left h1];exact hr,by omega⟩) ?_)
 ·rintro x c st' hx1 hx2 ⟨rfl,b,rfl,hw,hb,_⟩
  have okb:SOk kd rk good (setArr st b):=ok.arr hw.perm
  have zb:(arrOf (setArr st b)).size=(arrOf st).size:=hw.size
  have zb':b.size=(arrOf st).size:=hw.size
  have ne:∀ {i j:Nat},i<b.size->j<b.size->i≠j->Rk rk b i≠Rk rk b j:=fun hi hj c e=>c (okb.keys.ne hi hj e)
  refine wpS_bind (wpS_mono (wpS_forRange
   (I:=fun y c st2=>st2=setArr st b/\∃ l r,c=(none,l,r)/\l<=r/\r<=x/\r - l<=x - y/\(∀ p,lo<=p->p<lo+l->Rk rk b p<Rk rk b (lo+x))/\∀ p,lo+r<=p->p<lo+x->Rk rk b (lo+x)<Rk rk b p)
   (Q:=fun c st2=>st2=setArr st b/\∃ l,c=(none,l,l)/\l<=x/\(∀ p,lo<=p->p<lo+l->Rk rk b p<Rk rk b (lo+x))/\∀ p,lo+l<=p->p<lo+x->Rk rk b (lo+x)<Rk rk b p) ?_ ?_ ⟨rfl,0,x,rfl,Nat.zero_le _,Yc _,by omega,fun p h2 h3=>by omega,fun p h2 h3=>by omega⟩) ?_)
  ·rintro y c st2 hy1 hy2 ⟨rfl,l,r,rfl,a1,a2,a3,a4,a5⟩
   dsimp only
   by_cases c:l>=r
   ·rw [if_pos c]
    have e:l=r:=by omega
    subst e
    exact wpS_pure ⟨rfl,l,rfl,a2,a4,a5⟩
   ·rw [if_neg c]
    refine wpS_bind (oG C okb (by omega) (by omega) ?_)
    by_cases c2:Rk rk (arrOf (setArr st b)) (lo+x)<Rk rk (arrOf (setArr st b)) (lo+(l+r) / 2)
    ·rw [decide_eq_true c2]
     refine wpS_pure ⟨rfl,l,(l+r) / 2,rfl,by omega,by omega,by omega,a4,fun p h2 h3=>?_⟩
     have c2:Rk rk b (lo+x)<Rk rk b (lo+(l+r) / 2):=c2
     by_cases c3:p=lo+(l+r) / 2
     ·rw [c3];exact c2
     ·exact Nat.lt_trans c2 (hb _ p (by omega) (by omega) (by omega))
    ·rw [decide_eq_false c2]
     have c2:¬ Rk rk b (lo+x)<Rk rk b (lo+(l+r) / 2):=c2
     have:=ne (i:=lo+x) (j:=lo+(l+r) / 2) (by omega) (by omega) (by omega)
     refine wpS_pure ⟨rfl,(l+r) / 2+1,r,rfl,by omega,by omega,by omega,fun p h2 h3=>?_,a5⟩
     by_cases c3:p=lo+(l+r) / 2
     ·rw [c3];omega
     ·have:=hb p (lo+(l+r) / 2) (by omega) (by omega) (by omega)
      omega
  ·rintro c st2 ⟨rfl,l,r,rfl,a1,a2,a3,a4,a5⟩
   have e:l=r:=by omega
   subst e
   exact ⟨rfl,l,rfl,a2,a4,a5⟩
  ·rintro c st2 ⟨rfl,l,rfl,a2,a4,a5⟩
   dsimp only
   rw [moveDown'_eq]
   refine wpS_bind (wpS_modify ?_)
   have hbu:∀ k,(bubble b (lo+x) (lo+x - (lo+l)))[k]?=if k=lo+l then b[lo+x]? else if lo+l<k/\k<=lo+x then b[k - 1]? else b[k]?:=fun k=>by
    have:=getElem?_bubble (xs:=b) (src:=lo+x) (by omega) (lo+x - (lo+l)) (by omega) k
    rw [show lo+x - (lo+x - (lo+l))=lo+l by omega] at this
    exact this
   have hR:∀ k,Rk rk (bubble b (lo+x) (lo+x - (lo+l))) k=if k=lo+l then Rk rk b (lo+x) else if lo+l<k/\k<=lo+x then Rk rk b (k - 1) else Rk rk b k:=fun k=>by
    have e:=hbu k
    split
    ·rename_i c;rw [if_pos c] at e;exact uG e
    ·rename_i c
     rw [if_neg c] at e
     split
     ·rename_i c2;rw [if_pos c2] at e;exact uG e
     ·rename_i c2;rw [if_neg c2] at e;exact uG e
   refine wpS_pure ⟨rfl,bubble b (lo+x) (lo+x - (lo+l)),rfl,hw.trans ⟨bubble_perm _ _ _,fun k hk=>?_⟩,fun u v h2 h3 h4=>?_,by omega⟩
   ·rw [hbu,if_neg (by omega),if_neg (by omega)]
   ·rw [hR,hR]
    by_cases c1:u=lo+l
    ·rw [if_pos c1]
     by_cases c2:v=lo+l
     ·omega
     ·rw [if_neg c2,if_pos (by omega)]
      exact a5 _ (by omega) (by omega)
    ·rw [if_neg c1]
     by_cases c3:lo+l<u/\u<=lo+x
     ·rw [if_pos c3,if_neg (by omega),if_pos (by omega)]
      exact hb _ _ (by omega) (by omega) (by omega)
     ·rw [if_neg c3]
      by_cases c2:v=lo+l
      ·rw [if_pos c2]
       exact a4 _ (by omega) (by omega)
      ·rw [if_neg c2]
       by_cases c4:lo+l<v/\v<=lo+x
       ·rw [if_pos c4]
        by_cases c5:u=v - 1
        ·omega
        ·exact hb _ _ (by omega) (by omega) (by omega)
       ·rw [if_neg c4]
        exact hb _ _ (by omega) (by omega) (by omega)
 ·rintro c st' ⟨rfl,b,rfl,hw,hb,hx⟩
  rw [show max (max ok' 1) n=n by omega] at hb
  exact ⟨rfl,b,rfl,hw,hb⟩
 ·rintro c st' ⟨rfl,b,rfl,hw,hb⟩
  exact wpS_pure (q b hw hb)
end
end L2
namespace L2
open PySem PySem.Spec PyProof.Rows
section
variable {P:Program}{w:World}{A:Around}{E:Value->Shared->Prop}{s:Shared}{kd:SortKind}{rk:Value->Nat}{good:Value->Prop}
end
end L2
namespace L2
open PySem PySem.Spec PyProof.Rows
def za (h:Heap)(d:Addr)(es:Array DictEntry)(ep:Nat):Prop:=∃ o,h.get? d=some o/\o.ExactDict/\o.data=.dict es ep
theorem za.of {h h':Heap}{d:Addr}{es:Array DictEntry}{ep:Nat}(x:za h d es ep)(e:∀ o,h.get? d=some o->h'.get? d=some o):za h' d es ep:=by
 obtain ⟨o,g,r⟩:=x
 exact ⟨o,e o g,r⟩
theorem za.ty {s:Shared}{d:Addr}{es:Array DictEntry}{ep:Nat}(x:za s.heap d es ep):s.TypeIs (.ref d) "dict":=by
 obtain ⟨o,g,r,_⟩:=x
 exact ⟨o,g,r.1⟩
section
variable {P:Program}{w:World}{A:Around}{E:Value->Shared->Prop}{s:Shared}{d it:Addr}{es:Array DictEntry}{ep i:Nat}
theorem GJ {Q:Value->Shared->Prop}(nd:(d==sysModules)=false)(x:za s.heap d es ep)
  (q:Q (.ref s.heap.objs.size) { s with heap:=s.heap.push { cls:=.type "dict_keyiterator",data:=.fields #[.ref d,.int 0 0,.int es.size 0,.int ep 0] } }):wpAny (model P w) A (pyIter (.ref d)) Q E s:=by
 have gT:=x.ty
 obtain ⟨o,g,gc,gd⟩:=x
 refine wpAny_pyIter_slot gT F.slot_dict_iter (wpAny_call_entry F.slot_dict_iter gT F.entry_dict_iter ?_ (F.args_dict_iter_1 _))
 unfold Builtin.«dict.__iter__» Builtin.Dict.dictSlotNone
 refine XS (XS (wpAny_notOrdered_dict gT ?_))
 show wpAny _ _ (pure (Value.ref d)) _ _ s
 refine X3 ?_
 show wpAny _ _ (Builtin.Dict.showsAll d >>= _) _ _ s
 unfold Builtin.Dict.showsAll
 rw [nd,if_neg Bool.false_ne_true]
 refine XS (X3 (XS (wpAny_dictEntries g gd (XS (wpAny_dictEpoch g gd ?_)))))
 refine XS (wpAny_newObj_type (X3 ⟨_,rfl, "dict_keyiterator",_,⟨_,Heap.get?_push_size _ rfl,rfl⟩,F.slot_dict_keyiterator_next.lookup,?_⟩))
 simpa [rawInt] using q
theorem FP {Q:Option Value->Shared->Prop}(gi:s.heap.IsKeyIter it d i es.size ep)(x:za s.heap d es ep)(hi:i<es.size)
  (q:∀ h',h'.IsKeyIter it d (i+1) es.size ep->Heap.SameBut it s.heap h'->Q (some es[i].key) { s with heap:=h' }):wpAny (model P w) A (pyNext (.ref it)) Q E s:=by
 obtain ⟨u,gu,gc,gd⟩:=id gi
 obtain ⟨o,g,_,ge⟩:=x
 unfold pyNext
 refine XS (wpAny_attempt (wpAny_callSpecial?_slot (name:=Str.ofString "__next__") gi.typeIs F.slot_dict_keyiterator_next (wpAny_call_entry F.slot_dict_keyiterator_next gi.typeIs F.entry_dict_keyiterator_next ?_ (F.args_dict_keyiterator_next_1 _))))
 refine XS (X3 (XS (XS ?_)))
 first
  | refine XS (wpAny_typeNameOfWhole_keyiter gi.typeIs (X3 ?_))
  | refine XS (wpAny_typeNameOf_keyiter gi.typeIs (X3 ?_))
 refine XS (wpAny_fieldsOf gu gd ?_)
 have ow:Builtin.Dict_items.ownsTuple "dict_keyiterator" = false:=by decide
 simp only [ow,Bool.false_eq_true,if_false]
 show wpAny _ _ (if (Value.ref d==Value.none)=true then _ else _) _ _ s
 rw [if_neg (by exact Bool.false_ne_true)]
 refine XS (X3 (XS (wpAny_dictEntries g ge ?_)))
 rw [if_neg (by simp)]
 refine XS (X3 (XS (wpAny_dictEpoch g ge ?_)))
 rw [if_neg (by simp)]
 refine X3 ?_
 simp only [show ¬ ((i:Int)<0) from by omega,if_false,Int.toNat_natCast,Array.getElem?_eq_getElem hi]
 refine XS ?_
 first
  | refine XS (wpAny_typeNameOfWhole_keyiter gi.typeIs (X3 ?_))
  | refine XS (wpAny_typeNameOf_keyiter gi.typeIs (X3 ?_))
 refine XS (wpAny_isOneOf_keyiter gi.typeIs ?_)
 show wpAny _ _ (setField (.ref it) 1 (rawInt ((i:Int)+1)) >>= _) _ _ s
 refine XS (wpAny_setField gu gd (by simp) ?_)
 have g2:(s.heap.update it (Obj.mapFields (·.setIfInBounds 1 (rawInt ((i:Int)+1))))).IsKeyIter it d (i+1) es.size ep:=by
  refine ⟨_,Heap.get?_update_self _ gu (Obj.isFreed_of_fields (Obj.data_mapFields gd _)),(Obj.cls_mapFields ..).trans gc,?_⟩
  rw [Obj.data_mapFields gd]
  simp [rawInt]
 refine XS (wpAny_holding (XS (wpAny_isOneOf_keyiter (s:={ s with heap:=s.heap.update it (Obj.mapFields (·.setIfInBounds 1 (rawInt ((i:Int)+1)))) }) g2.typeIs ?_)))
 show wpAny _ _ (pure es[i].key) _ _ _
 exact X3 (X3 ⟨_,rfl,X3 (q _ g2 (Heap.SameBut.update ..))⟩)
theorem GK {Q:Option Value->Shared->Prop}(hh:A.handled=none)(gi:s.heap.IsKeyIter it d es.size es.size ep)(x:za s.heap d es ep)(q:∀ h',Heap.ExtBut it s.heap h'->Q none { s with heap:=h' }):wpAny (model P w) A (pyNext (.ref it)) Q E s:=by
 obtain ⟨u,gu,gc,gd⟩:=id gi
 obtain ⟨o,g,_,ge⟩:=x
 unfold pyNext
 refine XS (wpAny_attempt (wpAny_callSpecial?_slot (name:=Str.ofString "__next__") gi.typeIs F.slot_dict_keyiterator_next (wpAny_call_entry F.slot_dict_keyiterator_next gi.typeIs F.entry_dict_keyiterator_next ?_ (F.args_dict_keyiterator_next_1 _))))
 refine XS (X3 (XS (XS ?_)))
 first
  | refine XS (wpAny_typeNameOfWhole_keyiter gi.typeIs (X3 ?_))
  | refine XS (wpAny_typeNameOf_keyiter gi.typeIs (X3 ?_))
 refine XS (wpAny_fieldsOf gu gd ?_)
 have ow:Builtin.Dict_items.ownsTuple "dict_keyiterator" = false:=by decide
 simp only [ow,Bool.false_eq_true,if_false]
 show wpAny _ _ (if (Value.ref d==Value.none)=true then _ else _) _ _ s
 rw [if_neg (by exact Bool.false_ne_true)]
 refine XS (X3 (XS (wpAny_dictEntries g ge ?_)))
 rw [if_neg (by simp)]
 refine XS (X3 (XS (wpAny_dictEpoch g ge ?_)))
 rw [if_neg (by simp)]
 refine X3 ?_
 simp only [show ¬ ((es.size:Int)<0) from by omega,if_false,Int.toNat_natCast,Array.getElem?_eq_none (Yc es.size)]
 refine XS ?_
 first
  | refine XS (wpAny_typeNameOfWhole_keyiter gi.typeIs (X3 ?_))
  | refine XS (wpAny_typeNameOf_keyiter gi.typeIs (X3 ?_))
 show wpAny _ _ (setField (.ref it) 0 .none >>= _) _ _ s
 refine XS (wpAny_setField gu gd (by simp) ?_)
 show wpAny _ _ (newExc (.type "StopIteration") [] >>= _) _ _ _
 refine XS ?_
 simp only [newExc,newTuple]
 refine XS (wpAny_newObj_type ?_ (by size_fits))
 refine XS (m:=firstArgMember _ _) (wpAny_of_eq (a:=Value.none) (by first | rfl | (simp only [firstArgMember];rfl)) ?_)
 refine wpAny_newObj_type ?_ (by size_fits)
 simp only [raiseNew]
 refine XS (wpAny_handled ?_)
 rw [show A.in1.handled=none from hh]
 refine XS (X3 (wpAny_throw ?_))
 refine XS (wpAny_isInstance (b:=true) (T := "StopIteration") ⟨_,Heap.get?_push_size _ rfl,rfl⟩ isSubtype_stop ?_)
 exact X3 (q _ (((Heap.SameBut.update ..).extBut.push _).push _))
theorem Cz (hh:A.handled=none)(I d:Addr)(ne:d≠I)(es:Array DictEntry)(ep:Nat) :
  Walks P w A I [I,d] [I] es.size (fun i v=>∃ h:i<es.size,v=es[i].key) (fun i h=>h.IsKeyIter I d i es.size ep/\za h d es ep) where
 sub:=fun b hb=>by simp at hb;simp [hb]
 frame:=fun i h h' st k=>⟨by obtain ⟨⟨o,g,r⟩,_⟩:=st;exact ⟨o,k I (by simp) o g,r⟩,st.2.of fun o e=>k d (by simp) o e⟩
 item:=fun i s Q E hi st q=>FP st.1 st.2 hi fun h' g sb=>q _ h' s.toks ⟨hi,rfl⟩ ⟨g,st.2.of fun o e=>sb.extBut d o ne e⟩ fun b o hb e=>sb.extBut b o (fun z=>hb (by simp [z])) e
 done:=fun s Q E st q=>GK hh st.1 st.2 fun h' eb=>q h' s.toks fun b o hb e=>eb b o (fun z=>hb (by simp [z])) e
 self:=fun _ _ _ _ st q=>wpAny_pyIter_keyiter st.1 q
theorem JW (nd:(d==sysModules)=false):PySem.W.KdlSrc P w "dict" d d es.size (fun i v=>∃ h:i<es.size,v=es[i].key) (fun h=>za h d es ep) where
 type:=fun _ x=>x.ty
 there:=fun _ x=>by obtain ⟨o,g,_⟩:=x;exact ⟨X4 g,X4 g⟩
 keep:=fun _ _ x k=>x.of fun o e=>k d (.inl rfl) o e
 notList:=by decide
 notTuple:=by decide
 hint:=fun _ _ _ _ x q=>PySem.W.kdl_hint_dict x.ty q
 iter:=fun _ s hh x=>by
  have lt:d<s.heap.objs.size:=by obtain ⟨o,g,_⟩:=x;exact X4 g
  exact ⟨_,_,fun _ _ q=>GJ nd x q,Cz hh _ d (Yg lt) es ep,⟨_,Heap.get?_push_size _ rfl,rfl,rfl⟩,x.of fun o e=>Heap.get?_push_of_some _ e⟩
theorem lR {Q:List Value->Shared->Prop}(hh:A.handled=none)(nd:(d==sysModules)=false)(x:za s.heap d es ep)(hz:es.size<=sizeLine)
  (q:∀ h' tk,(∀ b o,s.heap.get? b=some o->h'.get? b=some o)->s.heap.objs.size<h'.objs.size->Q (es.toList.map (·.key)) { s with heap:=h',toks:=tk }):wpAny (model P w) A (collect (.ref d)) Q E s:=by
 have lt:d<s.heap.objs.size:=by obtain ⟨o,g,_⟩:=x;exact X4 g
 unfold collect
 refine XS (wpAny_runValue (codeAny_builtin F.entry_proto_collect ?_))
 rw [Around.under_plainId F.plain_proto_collect _]
 show wpAny _ A.in1 (newList [] >>= fun l=>again (.builtin "list.__iadd__" ⟨[l,.ref d],[]⟩)) _ _ s
 refine XS (wpAny_newObj_type (X3 ⟨plainId_quiet F.plain_list_iadd _,codeAny_builtin F.entry_list_iadd ?_⟩))
 rw [Around.under_plainId F.plain_list_iadd _]
 have g0:(s.heap.push { cls:=.type "list",data:=.seq ([]:List Value).toArray }).get? s.heap.objs.size=some { cls:=.type "list",data:=.seq ([]:List Value).toArray }:=Heap.get?_push_size _ rfl
 show wpAny _ A.in1 (Builtin.List.listExtendWith (.ref s.heap.objs.size) (.ref d) (.ref s.heap.objs.size)) _ _ _
 have fin:∀ (f:Flow) (s':Shared),(f=.ret (.ref s.heap.objs.size)/\∃ h' tk acc c,s' = { s with heap:=h',toks:=tk }/\(∀ b o,b≠s.heap.objs.size->(s.heap.push { cls:=.type "list",data:=.seq ([]:List Value).toArray }).get? b=some o->h'.get? b=some o)/\h'.get? s.heap.objs.size=some { cls:=.type "list",dict:=none,data:=.seq acc c,slots:=#[] }/\ItemsOf (fun i v=>∃ h:i<es.size,v=es[i].key) acc es.size) ->
   ∃ v,f=.ret v/\wpAny (model P w) A (match v with
    | Value.ref a=>do
     let u <-load a
     match u.data with
     | Data.seq xs _=>pure xs.toList
     | _=>unsupported "internal:collect"
    | _=>unsupported "internal:collect") Q E s':=by
  rintro f s' ⟨rfl,h',tk,acc,c,rfl,k,e,it⟩
  refine ⟨_,rfl,?_⟩
  show wpAny _ A (load s.heap.objs.size >>= _) _ _ _
  refine XS (wpAny_load e ?_)
  have ea:acc.toList=es.toList.map (·.key):=by
   refine List.ext_getElem? fun j=>?_
   rw [List.getElem?_map,Array.getElem?_toList,Array.getElem?_toList]
   by_cases hj:j<es.size
   ·have hj':j<acc.size:=by rw [it.1];exact hj
    obtain ⟨_,ev⟩:=it.2 j acc[j] (Array.getElem?_eq_getElem hj')
    rw [Array.getElem?_eq_getElem hj',Array.getElem?_eq_getElem hj,ev]
    rfl
   ·rw [Array.getElem?_eq_none (by rw [it.1];omega),Array.getElem?_eq_none (by omega)]
    rfl
  refine X3 ?_
  rw [ea]
  exact q h' tk (fun b o g=>k b o (Yg (X4 g)) (Heap.get?_push_of_some _ g)) (X4 e)
 refine wpAny_mono (PySem.W.kdl_extend (s:={ s with heap:=s.heap.push { cls:=.type "list",data:=.seq ([]:List Value).toArray } }) (R:=fun r s'=>match r with
  | .ok f=>f=.ret (.ref s.heap.objs.size)/\∃ h' tk acc c,s' = { s with heap:=h',toks:=tk }/\(∀ b o,b≠s.heap.objs.size->(s.heap.push { cls:=.type "list",data:=.seq ([]:List Value).toArray }).get? b=some o->h'.get? b=some o)/\h'.get? s.heap.objs.size=some { cls:=.type "list",dict:=none,data:=.seq acc c,slots:=#[] }/\ItemsOf (fun i v=>∃ h:i<es.size,v=es[i].key) acc es.size
  | .error _=>False) (JW (es:=es) (ep:=ep) nd) hh (x.of fun o e=>Heap.get?_push_of_some _ e) s.heap.objs.size (Nat.ne_of_gt lt) (Nat.ne_of_gt lt) _ 0 g0 (fun h' tk acc c k e it=>⟨rfl,h',tk,acc,c,rfl,k,e,it⟩) hz) (fun r s' hr=>?_) fun e s' hr=>hr.elim
 cases r with
 | done f=>
  obtain ⟨v,rfl,q'⟩:=fin f s' hr
  exact q'
 | again c=>
  refine ⟨hr.1,codeAny_mono hr.2 fun r s' hr=>?_⟩
  cases r with
  | error e=>exact hr.elim
  | ok f=>
   obtain ⟨v,rfl,q'⟩:=fin f s' hr
   exact q'
end
end L2
namespace L2
open PySem PySem.Spec PyProof.Rows
def gal:Bool->Keyed->Array Keyed->Nat->Nat->Nat->StateT SortSt Sem (Option Nat):=sortPriv% PySem.Builtin.gallop
section
variable {P:Program}{w:World}{A:Around}{E:Value->Shared->Prop}{s:Shared}{kd:SortKind}{rk:Value->Nat}{good:Value->Prop}
def Bey (rk:Value->Nat)(left:Bool)(key:Keyed)(a:Array Keyed)(i:Nat):Bool:=if left then decide (Rk rk a i<rk key.1) else !decide (rk key.1<Rk rk a i)
def Xc (left:Bool)(key:Keyed)(a:Array Keyed)(base i:Nat):StateT SortSt Sem (Option Bool):=elem' a (base+i) >>= fun x=>if left=true then lt' x key else lt' key x >>= fun r=>pure (r.map (! ·))
theorem BK (C:Cmp P w A s kd rk good){left:Bool}{key:Keyed}{a:Array Keyed}{base i:Nat}{st:SortSt}{Q:Option Bool->SortSt->Prop}(hk:kindOf st=kd)(ka:∀ p∈a.toList,good p.1)(kg:good key.1)(hi:base+i<a.size)(q:Q (some (Bey rk left key a (base+i))) st):wpS (model P w) A E s (Xc left key a base i) Q st:=by
 refine wpS_bind (bW hi ?_)
 have gi:good a[base+i].1:=ka _ (by simp)
 unfold Bey at q
 rw [dN hi] at q
 cases left with
 | true=>exact w_lt C hk gi kg q
 | false=>exact wpS_bind (w_lt C hk kg gi (wpS_pure q))
set_option maxHeartbeats 1000000 in
theorem yL (C:Cmp P w A s kd rk good){left:Bool}{key:Keyed}{a:Array Keyed}{base n hint:Nat}{st:SortSt}{Q:Option Nat->SortSt->Prop}(hk:kindOf st=kd)(ka:∀ p∈a.toList,good p.1)(kg:good key.1)(hz:base+n<=a.size)(hh:hint<n)
  (mono:∀ i j,i<=j->j<n->Bey rk left key a (base+j)=true->Bey rk left key a (base+i)=true)
  (q:∀ m,m<=n->(∀ i,i<m->Bey rk left key a (base+i)=true)->(∀ i,m<=i->i<n->Bey rk left key a (base+i)=false)->Q (some m) st):wpS (model P w) A E s (gal left key a base n hint) Q st:=by
 have anti:∀ i j,i<=j->j<n->Bey rk left key a (base+i)=false->Bey rk left key a (base+j)=false:=fun i j h1 h2 h3=>by
  cases e:Bey rk left key a (base+j) with
  | false=>rfl
  | true=>rw [mono i j h1 h2 e] at h3;cases h3
 refine wpS_bind (BK C hk ka kg (by omega) ?_)
 dsimp only
 cases hB:Bey rk left key a (base+hint) with
 | true=>
  rw [if_pos rfl]
  refine wpS_bind (wpS_mono (wpS_forRange
   (I:=fun x c st'=>st'=st/\∃ l o,c=(none,l,o)/\l<o/\x<o/\hint+l<n/\Bey rk left key a (base+(hint+l))=true)
   (Q:=fun c st'=>st'=st/\∃ l o,c=(none,l,o)/\l<o/\hint+l<n/\Bey rk left key a (base+(hint+l))=true/\(n - hint<=o\/Bey rk left key a (base+(hint+o))=false)) ?_ ?_ ⟨rfl,0,1,rfl,by decide,by decide,by omega,hB⟩) ?_)
  ·rintro x c st' _ hx ⟨rfl,l,o,rfl,a1,a2,a3,a4⟩
   dsimp only
   by_cases c:o>=n - hint
   ·rw [if_pos c]
    exact wpS_pure ⟨rfl,l,o,rfl,a1,a3,a4,.inl c⟩
   ·rw [if_neg c]
    refine wpS_bind (BK C hk ka kg (by omega) ?_)
    cases hm:Bey rk left key a (base+(hint+o)) with
    | true=>exact wpS_pure ⟨rfl,o,2*o+1,rfl,by omega,by omega,by omega,hm⟩
    | false=>exact wpS_pure ⟨rfl,l,o,rfl,a1,a3,a4,.inr hm⟩
  ·rintro c st' ⟨rfl,l,o,rfl,a1,a2,a3,a4⟩
   exact ⟨rfl,l,o,rfl,a1,a3,a4,.inl (by omega)⟩
  ·rintro c st' ⟨rfl,l,o,rfl,a1,a3,a4,a5⟩
   dsimp only
   have b1:hint+l+1<=hint+min o (n - hint):=by omega
   have b2:hint+min o (n - hint)<=n:=by omega
   have b3:∀ i,i<hint+l+1->Bey rk left key a (base+i)=true:=fun i hi=>mono i (hint+l) (by omega) a3 a4
   have b4:∀ i,hint+min o (n - hint)<=i->i<n->Bey rk left key a (base+i)=false:=fun i h1 h2=>by
    rcases a5 with c | c
    ·omega
    ·exact anti (hint+o) i (by omega) h2 c
   refine wpS_bind (wpS_mono (wpS_forRange
     (I:=fun x c st2=>st2=st'/\∃ l r,c=(none,l,r)/\l<=r/\r<=n/\r - l<=n - x/\(∀ i,i<l->Bey rk left key a (base+i)=true)/\∀ i,r<=i->i<n->Bey rk left key a (base+i)=false)
     (Q:=fun c st2=>st2=st'/\∃ m,c=(none,m,m)/\m<=n/\(∀ i,i<m->Bey rk left key a (base+i)=true)/\∀ i,m<=i->i<n->Bey rk left key a (base+i)=false) ?_ ?_ ⟨rfl,_,_,rfl,b1,b2,(Ye (Nat.sub_le _ _) b2:_<=n - 0),b3,b4⟩) ?_)
   ·rintro x c st2 _ hx ⟨rfl,l,r,rfl,a1,a2,a3,a4,a5⟩
    dsimp only
    by_cases c:l>=r
    ·rw [if_pos c]
     have e:l=r:=by omega
     subst e
     exact wpS_pure ⟨rfl,l,rfl,a2,a4,a5⟩
    ·rw [if_neg c]
     refine wpS_bind (BK C hk ka kg (by omega) ?_)
     cases hm:Bey rk left key a (base+(l+(r - l) / 2)) with
     | true=>exact wpS_pure ⟨rfl,l+(r - l) / 2+1,r,rfl,by omega,a2,by omega,fun i hi=>mono i (l+(r - l) / 2) (by omega) (by omega) hm,a5⟩
     | false=>exact wpS_pure ⟨rfl,l,l+(r - l) / 2,rfl,by omega,by omega,by omega,a4,fun i h2 h3=>anti (l+(r - l) / 2) i h2 h3 hm⟩
   ·rintro c st2 ⟨rfl,l,r,rfl,a1,a2,a3,a4,a5⟩
    have e:l=r:=by omega
    subst e
    exact ⟨rfl,l,rfl,a2,a4,a5⟩
   ·rintro c st2 ⟨rfl,m,rfl,a1,a2,a3⟩
    exact wpS_pure (q m a1 a2 a3)
 | false=>
  rw [if_neg Bool.false_ne_true]
  refine wpS_bind (wpS_mono (wpS_forRange
   (I:=fun x c st'=>st'=st/\∃ l o,c=(none,l,o)/\l<o/\x<o/\l<=hint/\Bey rk left key a (base+(hint - l))=false)
   (Q:=fun c st'=>st'=st/\∃ l o,c=(none,l,o)/\l<o/\l<=hint/\Bey rk left key a (base+(hint - l))=false/\(hint+1<=o\/Bey rk left key a (base+(hint - o))=true)) ?_ ?_ ⟨rfl,0,1,rfl,by decide,by decide,by omega,hB⟩) ?_)
  ·rintro x c st' _ hx ⟨rfl,l,o,rfl,a1,a2,a3,a4⟩
   dsimp only
   by_cases c:o>=hint+1
   ·rw [if_pos c]
    exact wpS_pure ⟨rfl,l,o,rfl,a1,a3,a4,.inl c⟩
   ·rw [if_neg c]
    refine wpS_bind (BK C hk ka kg (by omega) ?_)
    cases hm:Bey rk left key a (base+(hint - o)) with
    | true=>exact wpS_pure ⟨rfl,l,o,rfl,a1,a3,a4,.inr hm⟩
    | false=>exact wpS_pure ⟨rfl,o,2*o+1,rfl,by omega,by omega,by omega,hm⟩
  ·rintro c st' ⟨rfl,l,o,rfl,a1,a2,a3,a4⟩
   exact ⟨rfl,l,o,rfl,a1,a3,a4,.inl (by omega)⟩
  ·rintro c st' ⟨rfl,l,o,rfl,a1,a3,a4,a5⟩
   dsimp only
   have b1:hint+1 - min o (hint+1)<=hint - l:=by omega
   have b2:hint - l<=n:=by omega
   have b3:∀ i,i<hint+1 - min o (hint+1)->Bey rk left key a (base+i)=true:=fun i hi=>by
    rcases a5 with c | c
    ·omega
    ·exact mono i (hint - o) (by omega) (by omega) c
   have b4:∀ i,hint - l<=i->i<n->Bey rk left key a (base+i)=false:=fun i h1 h2=>anti (hint - l) i h1 h2 a4
   refine wpS_bind (wpS_mono (wpS_forRange
     (I:=fun x c st2=>st2=st'/\∃ l r,c=(none,l,r)/\l<=r/\r<=n/\r - l<=n - x/\(∀ i,i<l->Bey rk left key a (base+i)=true)/\∀ i,r<=i->i<n->Bey rk left key a (base+i)=false)
     (Q:=fun c st2=>st2=st'/\∃ m,c=(none,m,m)/\m<=n/\(∀ i,i<m->Bey rk left key a (base+i)=true)/\∀ i,m<=i->i<n->Bey rk left key a (base+i)=false) ?_ ?_ ⟨rfl,_,_,rfl,b1,b2,(Ye (Nat.sub_le _ _) b2:_<=n - 0),b3,b4⟩) ?_)
   ·rintro x c st2 _ hx ⟨rfl,l,r,rfl,a1,a2,a3,a4,a5⟩
    dsimp only
    by_cases c:l>=r
    ·rw [if_pos c]
     have e:l=r:=by omega
     subst e
     exact wpS_pure ⟨rfl,l,rfl,a2,a4,a5⟩
    ·rw [if_neg c]
     refine wpS_bind (BK C hk ka kg (by omega) ?_)
     cases hm:Bey rk left key a (base+(l+(r - l) / 2)) with
     | true=>exact wpS_pure ⟨rfl,l+(r - l) / 2+1,r,rfl,by omega,a2,by omega,fun i hi=>mono i (l+(r - l) / 2) (by omega) (by omega) hm,a5⟩
     | false=>exact wpS_pure ⟨rfl,l,l+(r - l) / 2,rfl,by omega,by omega,by omega,a4,fun i h2 h3=>anti (l+(r - l) / 2) i h2 h3 hm⟩
   ·rintro c st2 ⟨rfl,l,r,rfl,a1,a2,a3,a4,a5⟩
    have e:l=r:=by omega
    subst e
    exact ⟨rfl,l,rfl,a2,a4,a5⟩
   ·rintro c st2 ⟨rfl,m,rfl,a1,a2,a3⟩
    exact wpS_pure (q m a1 a2 a3)
end
end L2
namespace L2
open PySem PySem.Spec PyProof.Rows
def mLo:Array Keyed->Array Keyed->StateT SortSt Sem (Array Keyed):=sortPriv% PySem.Builtin.mergeLo
def mHi:Array Keyed->Array Keyed->StateT SortSt Sem (Array Keyed):=sortPriv% PySem.Builtin.mergeHi
def Lr:Nat->StateT SortSt Sem Unit:=sortPriv% PySem.Builtin.setMinGallop
section
variable {rk:Value->Nat}
def SL (rk:Value->Nat)(l:List Keyed):Prop:=l.Pairwise fun x y=>rk x.1<rk y.1
def Be (rk:Value->Nat)(xs ys:List Keyed):Prop:=∀ x∈xs,∀ y∈ys,rk x.1<rk y.1
def ML (rk:Value->Nat)(A B out al bl:List Keyed):Prop:=∃ a1 b1,A=a1++al/\B=b1++bl/\out.Perm (a1++b1)/\SL rk out/\Be rk out al/\Be rk out bl
def Mrg (rk:Value->Nat)(A B r:List Keyed):Prop:=r.Perm (A++B)/\SL rk r
theorem ML.swap {A B out al bl:List Keyed}(h:ML rk A B out al bl):ML rk B A out bl al:=by
 obtain ⟨a1,b1,e1,e2,p,s,q1,q2⟩:=h
 exact ⟨b1,a1,e2,e1,p.trans List.perm_append_comm,s,q2,q1⟩
theorem ML.a {A B out xs al bl:List Keyed}(sa:SL rk A)(h:ML rk A B out (xs++al) bl)(hx:Be rk xs bl):ML rk A B (out++xs) al bl:=by
 obtain ⟨a1,b1,e1,e2,p,s,q1,q2⟩:=h
 have sx:SL rk (xs++al):=by
  unfold SL at sa
  rw [e1,List.pairwise_append] at sa
  exact sa.2.1
 unfold SL at sx
 rw [List.pairwise_append] at sx
 refine ⟨a1++xs,b1,by rw [e1,List.append_assoc],e2,?_,?_,?_,?_⟩
 ·refine (p.append_right xs).trans ?_
  rw [List.append_assoc,List.append_assoc]
  exact List.Perm.append_left _ List.perm_append_comm
 ·unfold SL
  rw [List.pairwise_append]
  exact ⟨s,sx.1,fun x hx y hy=>q1 x hx y (List.mem_append_left _ hy)⟩
 ·intro x hx y hy
  rcases List.mem_append.mp hx with hx | hx
  ·exact q1 x hx y (List.mem_append_right _ hy)
  ·exact sx.2.2 x hx y hy
 ·intro x hx' y hy
  rcases List.mem_append.mp hx' with hx' | hx'
  ·exact q2 x hx' y hy
  ·exact hx x hx' y hy
theorem ML.b {A B out xs al bl:List Keyed}(sb:SL rk B)(h:ML rk A B out al (xs++bl))(hx:Be rk xs al):ML rk A B (out++xs) al bl:=(h.swap.a sb hx).swap
theorem ML.fin {A B out al:List Keyed}(sa:SL rk A)(h:ML rk A B out al []):Mrg rk A B (out++al):=by
 have h:ML rk A B out (al++[]) []:=by rw [List.append_nil];exact h
 obtain ⟨a1,b1,e1,e2,p,s,_⟩:=h.a sa fun _ _ _ h=>(nomatch h)
 rw [List.append_nil] at e1 e2
 rw [e1,e2]
 exact ⟨p,s⟩
theorem ML.fin2 {A B out al bl:List Keyed}(sa:SL rk A)(sb:SL rk B)(h:ML rk A B out al bl)(hx:Be rk bl al):Mrg rk A B (out++bl++al):=by
 have h:ML rk A B out al (bl++[]):=by rw [List.append_nil];exact h
 exact (h.b sb hx).fin sa
end
section
variable {P:Program}{w:World}{A:Around}{E:Value->Shared->Prop}{s:Shared}{kd:SortKind}{rk:Value->Nat}{good:Value->Prop}
def dJ (st st':SortSt):Prop:=arrOf st'=arrOf st/\kindOf st'=kindOf st/\failedOf st'=failedOf st/\pendingOf st'=pendingOf st
theorem dJ.refl (st:SortSt):dJ st st:=⟨rfl,rfl,rfl,rfl⟩
theorem dJ.trans {a b c:SortSt}(h:dJ a b)(g:dJ b c):dJ a c:=⟨g.1.trans h.1,g.2.1.trans h.2.1,g.2.2.1.trans h.2.2.1,g.2.2.2.trans h.2.2.2⟩
theorem pL {g:Nat}{st:SortSt}{Q:Unit->SortSt->Prop}(q:∀ st',dJ st st'->Q () st'):wpS (model P w) A E s (Lr g) Q st:=wpS_modify (q _ (by cases st;exact ⟨rfl,rfl,rfl,rfl⟩))
structure Two (rk:Value->Nat) (good:Value->Prop) (a b:Array Keyed):Prop where
 sa:SL rk a.toList
 sb:SL rk b.toList
 ga:∀ p∈a.toList,good p.1
 gb:∀ p∈b.toList,good p.1
 ne:∀ x∈a.toList,∀ y∈b.toList,rk x.1≠rk y.1
theorem KJ {a:Array Keyed}{i:Nat}(h:i<a.size):a.toList.drop i=a[i]::a.toList.drop (i+1):=by
 rw [List.drop_eq_getElem_cons (by simpa using h)]
 simp
theorem Vn (a:Array Keyed)(i k:Nat)(h:i+k<=a.size):a.toList.drop i=(a.extract i (i+k)).toList++a.toList.drop (i+k):=by
 rw [Array.toList_extract]
 have e:i+k - i=k:=by omega
 simp only [List.extract_eq_drop_take,e]
 rw [<-List.drop_drop,List.take_append_drop]
theorem qJ (a:Array Keyed)(i:Nat):(a.extract i a.size).toList=a.toList.drop i:=by
 rw [Array.toList_extract,List.extract_eq_drop_take,List.take_of_length_le (by simp)]
theorem ext_get {a:Array Keyed}{i k:Nat}{x:Keyed}(h:i+k<=a.size)(hx:x∈(a.extract i (i+k)).toList):∃ j,j<k/\∃ hj:i+j<a.size,x=a[i+j]:=by
 obtain ⟨j,hj,e⟩:=Array.mem_iff_getElem.mp (Array.mem_def.mpr hx)
 have hj':j<k:=by simp at hj;omega
 exact ⟨j,hj',by omega,by rw [<-e];simp⟩
theorem fJ {a:Array Keyed}{i:Nat}{x:Keyed}(hx:x∈a.toList.drop i):∃ j,i<=j/\∃ hj:j<a.size,x=a[j]:=by
 obtain ⟨k,hk,e⟩:=List.mem_iff_getElem.mp hx
 rw [List.length_drop] at hk
 refine ⟨i+k,by omega,by simp at hk;omega,?_⟩
 rw [<-e,List.getElem_drop]
 simp
theorem SL.lt {a:Array Keyed}(h:SL rk a.toList){i j:Nat}(hij:i<j)(hj:j<a.size):rk (a[i]'(by omega)).1<rk a[j].1:=by
 have:=List.pairwise_iff_getElem.mp h i j (by simp;omega) (by simpa using hj) hij
 simpa using this
theorem SL.le {a:Array Keyed}(h:SL rk a.toList){i j:Nat}(hij:i<=j)(hj:j<a.size):rk (a[i]'(by omega)).1<=rk a[j].1:=by
 rcases Nat.lt_or_ge i j with c | c
 ·exact Nat.le_of_lt (h.lt c hj)
 ·have:i=j:=by omega
  subst this
  exact Yc _
structure LI (rk:Value->Nat) (a b out:Array Keyed) (ia ib:Nat):Prop where
 ml:ML rk a.toList b.toList out.toList (a.toList.drop ia) (b.toList.drop ib)
 ia:ia+1<a.size
 ib:ib<b.size
def yI (rk:Value->Nat)(a b:Array Keyed):Prop:=∀ (h:0<a.size),∀ y∈b.toList,rk y.1<rk (a[a.size - 1]).1
theorem jm (out:Array Keyed)(x:Keyed):(out.push x).toList=out.toList++[x]:=by simp
theorem QL {a b out:Array Keyed}{ia ib:Nat}(T:Two rk good a b)(h:ML rk a.toList b.toList out.toList (a.toList.drop ia) (b.toList.drop ib))(hi:ia<a.size)(hx:∀ y∈b.toList.drop ib,rk a[ia].1<rk y.1):ML rk a.toList b.toList (out.push a[ia]).toList (a.toList.drop (ia+1)) (b.toList.drop ib):=by
 rw [jm]
 refine ML.a T.sa (xs:=[a[ia]]) ?_ fun x h y hy=>?_
 ·rw [List.singleton_append,<-KJ hi];exact h
 ·rw [List.mem_singleton.mp h];exact hx y hy
theorem Nk {a b out:Array Keyed}{ia ib:Nat}(T:Two rk good a b)(h:ML rk a.toList b.toList out.toList (a.toList.drop ia) (b.toList.drop ib))(hi:ib<b.size)(hx:∀ y∈a.toList.drop ia,rk b[ib].1<rk y.1):ML rk a.toList b.toList (out.push b[ib]).toList (a.toList.drop ia) (b.toList.drop (ib+1)):=by
 rw [jm]
 refine ML.b T.sb (xs:=[b[ib]]) ?_ fun x h y hy=>?_
 ·rw [List.singleton_append,<-KJ hi];exact h
 ·rw [List.mem_singleton.mp h];exact hx y hy
theorem Vt {a b out:Array Keyed}{ia ib k:Nat}(T:Two rk good a b)(h:ML rk a.toList b.toList out.toList (a.toList.drop ia) (b.toList.drop ib))(hi:ia+k<=a.size)(hx:Be rk (a.extract ia (ia+k)).toList (b.toList.drop ib)):ML rk a.toList b.toList (out++a.extract ia (ia+k)).toList (a.toList.drop (ia+k)) (b.toList.drop ib):=by
 rw [Array.toList_append]
 refine ML.a T.sa ?_ hx
 rw [<-Vn a ia k hi];exact h
theorem T7 {a b out:Array Keyed}{ia ib k:Nat}(T:Two rk good a b)(h:ML rk a.toList b.toList out.toList (a.toList.drop ia) (b.toList.drop ib))(hi:ib+k<=b.size)(hx:Be rk (b.extract ib (ib+k)).toList (a.toList.drop ia)):ML rk a.toList b.toList (out++b.extract ib (ib+k)).toList (a.toList.drop ia) (b.toList.drop (ib+k)):=by
 rw [Array.toList_append]
 refine ML.b T.sb ?_ hx
 rw [<-Vn b ib k hi];exact h
theorem mz {a b out:Array Keyed}{ia ib:Nat}(T:Two rk good a b)(h:ML rk a.toList b.toList out.toList (a.toList.drop ia) (b.toList.drop ib))(e:ib=b.size):Mrg rk a.toList b.toList (out++a.extract ia a.size++b.extract ib b.size).toList:=by
 have eb:b.toList.drop ib=[]:=by rw [e];simp
 rw [Array.toList_append,Array.toList_append,qJ,qJ,eb,List.append_nil]
 rw [eb] at h
 exact h.fin T.sa
theorem qx {a b out:Array Keyed}{ia ib:Nat}(T:Two rk good a b)(hL:yI rk a b)(h:ML rk a.toList b.toList out.toList (a.toList.drop ia) (b.toList.drop ib))(e:ia+1=a.size):Mrg rk a.toList b.toList (out++b.extract ib b.size++a.extract ia a.size).toList:=by
 rw [Array.toList_append,Array.toList_append,qJ,qJ]
 refine h.fin2 T.sa T.sb fun x hx y hy=>?_
 rw [KJ (by omega)] at hy
 have hn:a.toList.drop (ia+1)=[]:=by rw [e];simp
 rw [hn,List.mem_singleton] at hy
 rw [hy]
 have:=hL (by omega) x (List.mem_of_mem_drop hx)
 have ei:a.size - 1=ia:=by omega
 simpa only [ei] using this
theorem iI {α : Type}{c:Prop} [Decidable c] {m1 m2:StateT SortSt Sem α} {Q:α->SortSt->Prop} {st:SortSt} (h1:wpS (model P w) A E s m1 Q st) (h2:wpS (model P w) A E s m2 Q st):wpS (model P w) A E s (if c then m1 else m2) Q st:=by
 split
 ·exact h1
 ·exact h2
theorem vg {key:Keyed}{a:Array Keyed}{i:Nat}(hi:i<a.size):Bey rk true key a i=decide (rk a[i].1<rk key.1):=by unfold Bey;rw [if_pos rfl,dN hi]
theorem uo {key:Keyed}{a:Array Keyed}{i:Nat}(hi:i<a.size):Bey rk false key a i = !decide (rk key.1<rk a[i].1):=by unfold Bey;rw [if_neg Bool.false_ne_true,dN hi]
theorem bI {a:Array Keyed}{i:Nat}(h:i<a.size):a[i]∈a.toList:=by simp
theorem ifT {α : Type}{c:Prop} [Decidable c] {m1 m2:StateT SortSt Sem α} {Q:α->SortSt->Prop} {st:SortSt} (h:c) (x:wpS (model P w) A E s m1 Q st):wpS (model P w) A E s (if c then m1 else m2) Q st:=by rw [if_pos h];exact x
theorem ifF {α : Type}{c:Prop} [Decidable c] {m1 m2:StateT SortSt Sem α} {Q:α->SortSt->Prop} {st:SortSt} (h:¬ c) (x:wpS (model P w) A E s m2 Q st):wpS (model P w) A E s (if c then m1 else m2) Q st:=by rw [if_neg h];exact x
theorem Gw {α : Type}{a b out:Array Keyed}{ia ib:Nat}{c:Prop} [Decidable c] {E1 E2 E3:Keyed->StateT SortSt Sem α} {Q:α->SortSt->Prop} {st:SortSt} (T:Two rk good a b) (hL:yI rk a b) (h:ML rk a.toList b.toList out.toList (a.toList.drop ia) (b.toList.drop ib)) (h1:ia+1<a.size) (h2:ib<b.size)
  (hx:∀ y∈b.toList.drop ib,rk (a[ia]'(by omega)).1<rk y.1)
  (q1:∀ x,Mrg rk a.toList b.toList (out.push x++b.extract ib b.size++a.extract (ia+1) a.size).toList->wpS (model P w) A E s (E1 x) Q st)
  (q2:∀ x,LI rk a b (out.push x) (ia+1) ib->wpS (model P w) A E s (E2 x) Q st) (q3:∀ x,LI rk a b (out.push x) (ia+1) ib->wpS (model P w) A E s (E3 x) Q st) :
  wpS (model P w) A E s (elem' a ia >>= fun x=>if (ia+1+1==a.size)=true then E1 x else if c then E2 x else E3 x) Q st:=by
 refine wpS_bind (bW (by omega) ?_)
 have m:=QL T h (by omega) hx
 by_cases e:ia+1+1=a.size
 ·exact ifT (by simpa using e) (q1 _ (qx T hL m e))
 ·refine ifF (by simpa using e) ?_
  have li:LI rk a b (out.push (a[ia]'(by omega))) (ia+1) ib:=⟨m,by omega,h2⟩
  exact iI (q2 _ li) (q3 _ li)
set_option maxHeartbeats 1000000 in
theorem Pu (C:Cmp P w A s kd rk good){α : Type}{a b out:Array Keyed}{ia ib:Nat}{D1:Keyed->StateT SortSt Sem α}{K:Keyed->Keyed->Option Nat->StateT SortSt Sem α}{Q:α->SortSt->Prop}{st:SortSt}(T:Two rk good a b)(h:ML rk a.toList b.toList out.toList (a.toList.drop ia) (b.toList.drop ib))(h1:ia+1<a.size)(h2:ib<b.size)(hk:kindOf st=kd)
  (hx:∀ y∈a.toList.drop ia,rk b[ib].1<rk y.1)
  (q1:∀ y,Mrg rk a.toList b.toList (out.push y++a.extract ia a.size++b.extract (ib+1) b.size).toList->wpS (model P w) A E s (D1 y) Q st)
  (q2:∀ x y k,ib+1<b.size->ib+1+k<=b.size->ML rk a.toList b.toList (out.push y++b.extract (ib+1) (ib+1+k)).toList (a.toList.drop ia) (b.toList.drop (ib+1+k))->(∀ z∈b.toList.drop (ib+1+k),rk (a[ia]'(by omega)).1<rk z.1)->wpS (model P w) A E s (K y x (some k)) Q st) :
  wpS (model P w) A E s (elem' b ib >>= fun y=>if (ib+1==b.size)=true then D1 y else elem' a ia >>= fun x=>gal true x b (ib+1) (b.size - (ib+1)) 0 >>= K y x) Q st:=by
 refine wpS_bind (bW h2 ?_)
 have m:=Nk T h h2 hx
 by_cases c:ib+1=b.size
 ·exact ifT (by simpa using c) (q1 _ (mz T m c))
 ·refine ifF (by simpa using c) ?_
  have ha:ia<a.size:=by omega
  refine wpS_bind (bW ha ?_)
  refine wpS_bind (yL C hk T.gb (T.ga _ (bI ha)) (by omega) (by omega) (fun i j h3 h4 h5=>?_) fun k hk1 hk2 hk3=>?_)
  ·rw [vg (by omega)] at h5 |-
   have:=T.sb.le (i:=ib+1+i) (j:=ib+1+j) (by omega) (by omega)
   simp at h5 |-
   omega
  ·refine q2 _ _ k (by omega) (by omega) (T7 (k:=k) T m (by omega) fun x hx y hy=>?_) fun y hy=>?_
   ·obtain ⟨j,h3,h4,rfl⟩:=ext_get (by omega) hx
    obtain ⟨i,h5,h6,rfl⟩:=fJ hy
    have:=hk2 j h3
    rw [vg (by omega)] at this
    have:=T.sa.le h5 h6
    simp at *
    omega
   ·obtain ⟨j,h3,h4,rfl⟩:=fJ hy
    have:=hk3 (j - (ib+1)) (by omega) (by omega)
    rw [vg (by omega)] at this
    have ej:ib+1+(j - (ib+1))=j:=by omega
    simp only [ej] at this
    have ne:=T.ne _ (bI ha) _ (bI h4)
    simp at this
    omega
set_option maxHeartbeats 1000000 in
theorem Tt (C:Cmp P w A s kd rk good){α : Type}{a b out:Array Keyed}{ia ib g:Nat}{K:Keyed->Option Nat->StateT SortSt Sem α}{Q:α->SortSt->Prop}{st:SortSt}(T:Two rk good a b)(hL:yI rk a b)(li:LI rk a b out ia ib)(hk:kindOf st=kd)
  (q:∀ y k st',dJ st st'->ia+k<a.size->ML rk a.toList b.toList (out++a.extract ia (ia+k)).toList (a.toList.drop (ia+k)) (b.toList.drop ib)->(∀ z∈a.toList.drop (ia+k),rk (b[ib]'li.ib).1<rk z.1)->wpS (model P w) A E s (K y (some k)) Q st') :
  wpS (model P w) A E s (Lr g >>= fun _=>elem' b ib >>= fun y=>gal false y a ia (a.size - ia) 0 >>= K y) Q st:=by
 obtain ⟨h,h1,h2⟩:=li
 refine wpS_bind (pL fun st1 s1=>?_)
 refine wpS_bind (bW h2 ?_)
 refine wpS_bind (yL C (s1.2.1.trans hk) T.ga (T.gb _ (bI h2)) (by omega) (by omega) (fun i j h3 h4 h5=>?_) fun k q1 q2 q3=>?_)
 ·rw [uo (by omega)] at h5 |-
  have:=T.sa.le (i:=ia+i) (j:=ia+j) (by omega) (by omega)
  simp at h5 |-
  omega
 ·have lk:ia+k<a.size:=by
   refine Decidable.byContradiction fun z=>?_
   have:=q2 (a.size - 1 - ia) (by omega)
   rw [uo (by omega)] at this
   have ej:ia+(a.size - 1 - ia)=a.size - 1:=by omega
   simp only [ej] at this
   have:=hL (by omega) _ (bI h2)
   simp at *
   omega
  refine q _ k st1 s1 lk (Vt (k:=k) T h (by omega) fun x hx y hy=>?_) fun y hy=>?_
  ·obtain ⟨j,h3,h4,rfl⟩:=ext_get (by omega) hx
   obtain ⟨i,h5,h6,rfl⟩:=fJ hy
   have:=q2 j h3
   rw [uo (by omega)] at this
   have:=T.sb.le h5 h6
   have:=T.ne _ (bI h4) _ (bI h2)
   simp at *
   omega
  ·obtain ⟨j,h3,h4,rfl⟩:=fJ hy
   have:=q3 (j - ia) (by omega) (by omega)
   rw [uo (by omega)] at this
   have ej:ia+(j - ia)=j:=by omega
   simp only [ej] at this
   simpa using this
theorem ext_nil (out a:Array Keyed)(i:Nat):out++a.extract i (i+0)=out:=by simp [Nat.min_le_left]
set_option maxHeartbeats 2000000 in
theorem Tv (C:Cmp P w A s kd rk good){a b:Array Keyed}{st:SortSt}{Q:Array Keyed->SortSt->Prop}(T:Two rk good a b)(hL:yI rk a b)(ha:0<a.size)(hb:0<b.size)(hf:rk b[0].1<rk a[0].1)(hk:kindOf st=kd)
  (q:∀ r st',Mrg rk a.toList b.toList r.toList->dJ st st'->Q r st'):wpS (model P w) A E s (mLo a b) Q st:=by
 refine wpS_bind (wpS_lift (wpAny_rule ⟨rfl,?_⟩))
 refine wpS_bind (bW hb ?_)
 have m0:ML rk a.toList b.toList (#[b[0]]:Array Keyed).toList (a.toList.drop 0) (b.toList.drop 1):=by
  have m:ML rk a.toList b.toList (#[]:Array Keyed).toList (a.toList.drop 0) (b.toList.drop 0):=⟨[],[],rfl,rfl,.nil,.nil,fun _ h=>(nomatch h),fun _ h=>(nomatch h)⟩
  exact Nk T m hb fun y hy=>by
   obtain ⟨j,_,h4,rfl⟩:=fJ hy
   exact Yd hf (T.sa.le (Nat.zero_le _) h4)
 by_cases c1:1=b.size
 ·rw [if_pos (by simpa using c1)]
  exact wpS_pure (q _ _ (mz T m0 c1) (.refl _))
 rw [if_neg (by simpa using c1)]
 by_cases c2:0+1=a.size
 ·rw [if_pos (by simpa using c2)]
  exact wpS_pure (q _ _ (qx T hL m0 c2) (.refl _))
 rw [if_neg (by simpa using c2)]
 refine wpS_bind (wpS_get ?_)
 dsimp only
 refine wpS_bind (wpS_mono (wpS_forRange
  (I:=fun x c st'=>dJ st st'/\∃ out ia ib mg,c=(none,out,ia,ib,mg)/\LI rk a b out ia ib/\1+x<=ia+ib)
  (Q:=fun c st'=>dJ st st'/\∃ r rest,c=(some r,rest)/\Mrg rk a.toList b.toList r.toList) ?_ ?_ ⟨.refl _,_,0,1,_,rfl,⟨m0,by omega,by omega⟩,by omega⟩) ?_)
 ·rintro x c st' _ hx ⟨sm,out,ia,ib,mg,rfl,li,hp⟩
  dsimp only
  refine wpS_bind (wpS_mono (wpS_forRange
   (I:=fun y c st2=>dJ st st2/\∃ out ia ib ac bc,c=(none,out,ia,ib,ac,bc)/\LI rk a b out ia ib/\1+x+y<=ia+ib)
   (Q:=fun c st2=>dJ st st2/\((∃ r rest,c=(some r,rest)/\Mrg rk a.toList b.toList r.toList)\/∃ out ia ib ac bc,c=(none,out,ia,ib,ac,bc)/\LI rk a b out ia ib/\2+x<=ia+ib)) ?_ ?_ ⟨sm,out,ia,ib,0,0,rfl,li,by omega⟩) ?_)
  ·rintro y c st2 _ hy ⟨sm2,out,ia,ib,ac,bc,rfl,⟨m,h1,h2⟩,hp2⟩
   dsimp only
   have hia:ia<a.size:=by omega
   refine wpS_bind (bW h2 (wpS_bind (bW hia (wpS_bind (w_lt C (sm2.2.1.trans hk) (T.gb _ (bI h2)) (T.ga _ (bI hia)) ?_)))))
   dsimp only
   by_cases cb:rk b[ib].1<rk a[ia].1
   ·rw [if_pos (by simpa using cb)]
    refine wpS_bind (bW h2 ?_)
    have m2:=Nk T m h2 fun y hy=>by
     obtain ⟨j,h3,h4,rfl⟩:=fJ hy
     exact Yd cb (T.sa.le h3 h4)
    by_cases e:ib+1=b.size
    ·rw [if_pos (by simpa using e)]
     exact wpS_pure ⟨sm2,.inl ⟨_,_,rfl,mz T m2 e⟩⟩
    ·rw [if_neg (by simpa using e)]
     have li2:LI rk a b (out.push b[ib]) ia (ib+1):=⟨m2,h1,by omega⟩
     split
     ·exact wpS_pure ⟨sm2,.inr ⟨_,_,_,_,_,rfl,li2,by omega⟩⟩
     ·exact wpS_pure ⟨sm2,_,_,_,_,_,rfl,li2,by omega⟩
   ·rw [if_neg (by simpa using cb)]
    refine wpS_bind (bW hia ?_)
    have m2:=QL T m hia fun y hy=>by
     obtain ⟨j,h3,h4,rfl⟩:=fJ hy
     have:=T.sb.le h3 h4
     have:=T.ne _ (bI hia) _ (bI h2)
     omega
    by_cases e:ia+1+1=a.size
    ·rw [if_pos (by simpa using e)]
     exact wpS_pure ⟨sm2,.inl ⟨_,_,rfl,qx T hL m2 e⟩⟩
    ·rw [if_neg (by simpa using e)]
     have li2:LI rk a b (out.push a[ia]) (ia+1) ib:=⟨m2,by omega,h2⟩
     split
     ·exact wpS_pure ⟨sm2,.inr ⟨_,_,_,_,_,rfl,li2,by omega⟩⟩
     ·exact wpS_pure ⟨sm2,_,_,_,_,_,rfl,li2,by omega⟩
  ·rintro c st2 ⟨sm2,out,ia,ib,ac,bc,rfl,li2,hp2⟩
   exact ⟨sm2,.inr ⟨_,_,_,_,_,rfl,li2,by omega⟩⟩
  ·rintro c st2 ⟨sm2,(⟨r,rest,rfl,hr⟩ | ⟨out,ia,ib,ac,bc,rfl,li2,hp2⟩)⟩
   ·exact wpS_pure ⟨sm2,_,_,rfl,hr⟩
   ·dsimp only
    refine wpS_bind (wpS_lift (wpAny_rule ⟨rfl,?_⟩))
    refine wpS_bind (wpS_mono (wpS_forRange
     (I:=fun y c st3=>dJ st st3/\∃ out ia ib mg ac bc,c=(none,out,ia,ib,mg,ac,bc)/\LI rk a b out ia ib/\2+x<=ia+ib)
     (Q:=fun c st3=>dJ st st3/\((∃ r rest,c=(some r,rest)/\Mrg rk a.toList b.toList r.toList)\/∃ out ia ib mg ac bc,c=(none,out,ia,ib,mg,ac,bc)/\LI rk a b out ia ib/\2+x<=ia+ib)) ?_ ?_ ⟨sm2,out,ia,ib,mg+1,ac,bc,rfl,li2,hp2⟩) ?_)
    ·rintro y c st3 _ hy ⟨sm3,out,ia,ib,mg,ac,bc,rfl,li3,hp3⟩
     refine iI ?_ ?_ <;> refine Tt (out:=out) (ia:=ia) (ib:=ib) C T hL li3 (sm3.2.1.trans hk) fun y k st4 s4 lk m4 lo=>?_
     all_goals
      have sm4:=sm3.trans s4
      by_cases k0:k>0
      ·refine ifT k0 ?_
       by_cases e1:ia+k+1=a.size
       ·exact ifT (by simpa using e1) (wpS_pure ⟨sm4,.inl ⟨_,_,rfl,qx T hL m4 e1⟩⟩)
       ·refine ifF (by simpa using e1) (ifF (by simp;omega) ?_)
        refine Pu (out:=out++a.extract ia (ia+k)) (ia:=ia+k) (ib:=ib) C T m4 (by omega) li3.ib (sm4.2.1.trans hk) lo (fun y h=>wpS_pure ⟨sm4,.inl ⟨_,_,rfl,h⟩⟩) fun x' y' j j1 j2 m5 lo2=>?_
        by_cases j0:j>0
        ·refine ifT j0 ?_
         by_cases e2:ib+1+j=b.size
         ·exact ifT (by simpa using e2) (wpS_pure ⟨sm4,.inl ⟨_,_,rfl,mz T m5 e2⟩⟩)
         ·refine ifF (by simpa using e2) ?_
          exact Gw (ia:=ia+k) (ib:=ib+1+j) T hL m5 (by omega) (by omega) lo2 (fun x' h=>wpS_pure ⟨sm4,.inl ⟨_,_,rfl,h⟩⟩) (fun x' h=>wpS_pure ⟨sm4,.inr ⟨_,_,_,_,_,_,rfl,h,(show 2+x<=ia+k+1+(ib+1+j) by omega)⟩⟩) fun x' h=>wpS_pure ⟨sm4,_,_,_,_,_,_,rfl,h,(show 2+x<=ia+k+1+(ib+1+j) by omega)⟩
        ·refine ifF j0 ?_
         have z:j=0:=by omega
         subst z
         rw [ext_nil] at m5
         exact Gw (ia:=ia+k) (ib:=ib+1) T hL m5 (by omega) (by omega) lo2 (fun x' h=>wpS_pure ⟨sm4,.inl ⟨_,_,rfl,h⟩⟩) (fun x' h=>wpS_pure ⟨sm4,.inr ⟨_,_,_,_,_,_,rfl,h,(show 2+x<=ia+k+1+(ib+1) by omega)⟩⟩) fun x' h=>wpS_pure ⟨sm4,_,_,_,_,_,_,rfl,h,(show 2+x<=ia+k+1+(ib+1) by omega)⟩
      ·refine ifF k0 ?_
       have z:k=0:=by omega
       subst z
       rw [ext_nil] at m4
       refine Pu (out:=out) (ia:=ia) (ib:=ib) C T m4 li3.ia li3.ib (sm4.2.1.trans hk) lo (fun y h=>wpS_pure ⟨sm4,.inl ⟨_,_,rfl,h⟩⟩) fun x' y' j j1 j2 m5 lo2=>?_
       by_cases j0:j>0
       ·refine ifT j0 ?_
        by_cases e2:ib+1+j=b.size
        ·exact ifT (by simpa using e2) (wpS_pure ⟨sm4,.inl ⟨_,_,rfl,mz T m5 e2⟩⟩)
        ·refine ifF (by simpa using e2) ?_
         exact Gw (ia:=ia) (ib:=ib+1+j) T hL m5 li3.ia (by omega) lo2 (fun x' h=>wpS_pure ⟨sm4,.inl ⟨_,_,rfl,h⟩⟩) (fun x' h=>wpS_pure ⟨sm4,.inr ⟨_,_,_,_,_,_,rfl,h,(show 2+x<=ia+1+(ib+1+j) by omega)⟩⟩) fun x' h=>wpS_pure ⟨sm4,_,_,_,_,_,_,rfl,h,(show 2+x<=ia+1+(ib+1+j) by omega)⟩
       ·refine ifF j0 ?_
        have z:j=0:=by omega
        subst z
        rw [ext_nil] at m5
        exact Gw (ia:=ia) (ib:=ib+1) T hL m5 li3.ia (by omega) lo2 (fun x' h=>wpS_pure ⟨sm4,.inl ⟨_,_,rfl,h⟩⟩) (fun x' h=>wpS_pure ⟨sm4,.inr ⟨_,_,_,_,_,_,rfl,h,(show 2+x<=ia+1+(ib+1) by omega)⟩⟩) fun x' h=>wpS_pure ⟨sm4,_,_,_,_,_,_,rfl,h,(show 2+x<=ia+1+(ib+1) by omega)⟩
    ·rintro c st3 ⟨sm3,out,ia,ib,mg,ac,bc,rfl,li3,hp3⟩
     exact ⟨sm3,.inr ⟨_,_,_,_,_,_,rfl,li3,hp3⟩⟩
    ·rintro c st3 ⟨sm3,(⟨r,rest,rfl,hr⟩ | ⟨out,ia,ib,mg,ac,bc,rfl,li3,hp3⟩)⟩
     ·exact wpS_pure ⟨sm3,_,_,rfl,hr⟩
     ·dsimp only
      refine wpS_bind (pL fun st4 s4=>wpS_pure ⟨sm3.trans s4,_,_,_,_,rfl,li3,by omega⟩)
 ·rintro c st' ⟨sm,out,ia,ib,mg,rfl,⟨_,h1,h2⟩,hp⟩
  omega
 ·rintro c st' ⟨sm,r,rest,rfl,hr⟩
  exact wpS_pure (q r st' hr sm)
end
end L2
namespace L2
open PySem PySem.Spec PyProof.Rows
section
variable {rk:Value->Nat}
def MH (rk:Value->Nat)(A B o ah bh:List Keyed):Prop:=∃ a2 b2,A=ah++a2/\B=bh++b2/\o.Perm (a2++b2)/\SL rk o/\Be rk ah o/\Be rk bh o
theorem MH.swap {A B o ah bh:List Keyed}(h:MH rk A B o ah bh):MH rk B A o bh ah:=by
 obtain ⟨a1,b1,e1,e2,p,s,q1,q2⟩:=h
 exact ⟨b1,a1,e2,e1,p.trans List.perm_append_comm,s,q2,q1⟩
theorem MH.a {A B o xs ah bh:List Keyed}(sa:SL rk A)(h:MH rk A B o (ah++xs) bh)(hx:Be rk bh xs):MH rk A B (xs++o) ah bh:=by
 obtain ⟨a2,b2,e1,e2,p,s,q1,q2⟩:=h
 have sx:SL rk (ah++xs):=by
  unfold SL at sa
  rw [e1,List.pairwise_append] at sa
  exact sa.1
 unfold SL at sx
 rw [List.pairwise_append] at sx
 refine ⟨xs++a2,b2,by rw [e1,List.append_assoc],e2,?_,?_,?_,?_⟩
 ·rw [List.append_assoc]
  exact p.append_left xs
 ·unfold SL
  rw [List.pairwise_append]
  exact ⟨sx.2.1,s,fun x hx y hy=>q1 x (List.mem_append_right _ hx) y hy⟩
 ·intro x hx y hy
  rcases List.mem_append.mp hy with hy | hy
  ·exact sx.2.2 x hx y hy
  ·exact q1 x (List.mem_append_left _ hx) y hy
 ·intro x hx' y hy
  rcases List.mem_append.mp hy with hy | hy
  ·exact hx x hx' y hy
  ·exact q2 x hx' y hy
theorem MH.b {A B o xs ah bh:List Keyed}(sb:SL rk B)(h:MH rk A B o ah (bh++xs))(hx:Be rk ah xs):MH rk A B (xs++o) ah bh:=(h.swap.a sb hx).swap
theorem MH.fin {A B o bh:List Keyed}(sb:SL rk B)(h:MH rk A B o [] bh):Mrg rk A B (bh++o):=by
 have h:MH rk A B o [] ([]++bh):=h
 obtain ⟨a2,b2,e1,e2,p,s,_⟩:=h.b sb fun _ h=>(nomatch h)
 rw [List.nil_append] at e1 e2
 rw [e1,e2]
 exact ⟨p,s⟩
theorem MH.fin2 {A B o ah bh:List Keyed}(sa:SL rk A)(sb:SL rk B)(h:MH rk A B o ah bh)(hx:Be rk bh ah):Mrg rk A B (bh++ah++o):=by
 have h:MH rk A B o ([]++ah) bh:=h
 rw [List.append_assoc]
 exact (h.a sa hx).fin sb
end
section
variable {P:Program}{w:World}{A:Around}{E:Value->Shared->Prop}{s:Shared}{kd:SortKind}{rk:Value->Nat}{good:Value->Prop}
theorem QJ {a:Array Keyed}{i:Nat}(h:i<a.size):a.toList.take (i+1)=a.toList.take i++[a[i]]:=by
 rw [List.take_succ,List.getElem?_eq_getElem (by simpa using h)]
 simp
theorem T5 (a:Array Keyed){i n:Nat}(h:i<=n):a.toList.take n=a.toList.take i++(a.extract i n).toList:=by
 rw [Array.toList_extract,List.extract_eq_drop_take]
 have e:n=i+(n - i):=by omega
 conv=>lhs;rw [e,List.take_add]
theorem qK (a:Array Keyed)(n:Nat):(a.extract 0 n).toList=a.toList.take n:=by
 rw [Array.toList_extract,List.extract_eq_drop_take]
 simp
theorem fG {a:Array Keyed}{n:Nat}{x:Keyed}(hx:x∈a.toList.take n):∃ j,j<n/\∃ hj:j<a.size,x=a[j]:=by
 obtain ⟨k,hk,e⟩:=List.mem_iff_getElem.mp hx
 rw [List.length_take] at hk
 simp at hk
 refine ⟨k,by omega,by omega,?_⟩
 rw [<-e,List.getElem_take]
 simp
theorem cD {a:Array Keyed}{i n:Nat}{x:Keyed}(h:n<=a.size)(hx:x∈(a.extract i n).toList):∃ j,i<=j/\j<n/\∃ hj:j<a.size,x=a[j]:=by
 obtain ⟨j,hj,e⟩:=Array.mem_iff_getElem.mp (Array.mem_def.mpr hx)
 have hj':i+j<n:=by simp at hj;omega
 exact ⟨i+j,by omega,hj',by omega,by rw [<-e];simp⟩
def xQ (rk:Value->Nat)(a b:Array Keyed):Prop:=∀ (h:0<b.size),∀ x∈a.toList,rk b[0].1<rk x.1
structure HI (rk:Value->Nat) (a b out:Array Keyed) (na nb:Nat):Prop where
 mh:MH rk a.toList b.toList out.toList.reverse (a.toList.take na) (b.toList.take nb)
 pa:0<na
 pb:1<nb
 la:na<=a.size
 lb:nb<=b.size
theorem J1 {a b out:Array Keyed}{na nb:Nat}(T:Two rk good a b)(h:MH rk a.toList b.toList out.toList.reverse (a.toList.take na) (b.toList.take nb))(h0:0<na)(hi:na<=a.size)(hx:∀ y∈b.toList.take nb,rk y.1<rk (a[na - 1]'(by omega)).1):MH rk a.toList b.toList (out.push (a[na - 1]'(by omega))).toList.reverse (a.toList.take (na - 1)) (b.toList.take nb):=by
 rw [jm,List.reverse_append]
 refine MH.a T.sa (xs:=[a[na - 1]'(by omega)]) ?_ fun x hx' y hy=>?_
 ·have e:=QJ (a:=a) (i:=na - 1) (by omega)
  have e1:na - 1+1=na:=by omega
  rw [e1] at e
  rw [<-e]
  exact h
 ·rw [List.mem_singleton.mp hy];exact hx x hx'
theorem RL {a b out:Array Keyed}{na nb:Nat}(T:Two rk good a b)(h:MH rk a.toList b.toList out.toList.reverse (a.toList.take na) (b.toList.take nb))(h0:0<nb)(hi:nb<=b.size)(hx:∀ y∈a.toList.take na,rk y.1<rk (b[nb - 1]'(by omega)).1):MH rk a.toList b.toList (out.push (b[nb - 1]'(by omega))).toList.reverse (a.toList.take na) (b.toList.take (nb - 1)):=by
 rw [jm,List.reverse_append]
 refine MH.b T.sb (xs:=[b[nb - 1]'(by omega)]) ?_ fun x hx' y hy=>?_
 ·have e:=QJ (a:=b) (i:=nb - 1) (by omega)
  have e1:nb - 1+1=nb:=by omega
  rw [e1] at e
  rw [<-e]
  exact h
 ·rw [List.mem_singleton.mp hy];exact hx x hx'
theorem zY (out xs:Array Keyed):(out++xs.reverse).toList.reverse=xs.toList++out.toList.reverse:=by simp
theorem Ue {a b out:Array Keyed}{na nb m:Nat}(T:Two rk good a b)(h:MH rk a.toList b.toList out.toList.reverse (a.toList.take na) (b.toList.take nb))(hi:m<=na)(hx:Be rk (b.toList.take nb) (a.extract m na).toList):MH rk a.toList b.toList (out++(a.extract m na).reverse).toList.reverse (a.toList.take m) (b.toList.take nb):=by
 rw [zY]
 refine MH.a T.sa ?_ hx
 rw [<-T5 a hi]
 exact h
theorem Ul {a b out:Array Keyed}{na nb m:Nat}(T:Two rk good a b)(h:MH rk a.toList b.toList out.toList.reverse (a.toList.take na) (b.toList.take nb))(hi:m<=nb)(hx:Be rk (a.toList.take na) (b.extract m nb).toList):MH rk a.toList b.toList (out++(b.extract m nb).reverse).toList.reverse (a.toList.take na) (b.toList.take m):=by
 rw [zY]
 refine MH.b T.sb ?_ hx
 rw [<-T5 b hi]
 exact h
theorem p7 {a b out:Array Keyed}{na nb:Nat}(T:Two rk good a b)(h:MH rk a.toList b.toList out.toList.reverse (a.toList.take na) (b.toList.take nb))(e:na=0):Mrg rk a.toList b.toList (a.extract 0 na++b.extract 0 nb++out.reverse).toList:=by
 subst e
 rw [Array.toList_append,Array.toList_append,qK,qK,List.take_zero,List.nil_append,Array.toList_reverse]
 rw [List.take_zero] at h
 exact h.fin T.sb
theorem iU {a b out:Array Keyed}{na nb:Nat}(T:Two rk good a b)(hF:xQ rk a b)(hb:0<b.size)(h:MH rk a.toList b.toList out.toList.reverse (a.toList.take na) (b.toList.take nb))(e:nb=1):Mrg rk a.toList b.toList (b.extract 0 nb++a.extract 0 na++out.reverse).toList:=by
 rw [Array.toList_append,Array.toList_append,qK,qK,Array.toList_reverse]
 refine h.fin2 T.sa T.sb fun x hx y hy=>?_
 obtain ⟨j,h1,h2,rfl⟩:=fG hx
 have z:j=0:=by omega
 subst z
 exact hF hb y (List.mem_of_mem_take hy)
theorem Fy {α : Type}{a b out:Array Keyed}{na nb:Nat}{c:Prop} [Decidable c] {E1 E2 E3:Keyed->StateT SortSt Sem α} {Q:α->SortSt->Prop} {st:SortSt} (T:Two rk good a b) (h:MH rk a.toList b.toList out.toList.reverse (a.toList.take na) (b.toList.take nb)) (h1:0<na) (h2:1<nb) (h3:na<=a.size) (h4:nb<=b.size)
  (hx:∀ y∈b.toList.take nb,rk y.1<rk (a[na - 1]'(by omega)).1)
  (q1:∀ x,Mrg rk a.toList b.toList (a.extract 0 (na - 1)++b.extract 0 nb++(out.push x).reverse).toList->wpS (model P w) A E s (E1 x) Q st)
  (q2:∀ x,HI rk a b (out.push x) (na - 1) nb->wpS (model P w) A E s (E2 x) Q st) (q3:∀ x,HI rk a b (out.push x) (na - 1) nb->wpS (model P w) A E s (E3 x) Q st) :
  wpS (model P w) A E s (elem' a (na - 1) >>= fun x=>if (na - 1==0)=true then E1 x else if c then E2 x else E3 x) Q st:=by
 refine wpS_bind (bW (by omega) ?_)
 have m:=J1 T h h1 h3 hx
 by_cases e:na - 1=0
 ·exact ifT (by simpa using e) (q1 _ (p7 T m e))
 ·refine ifF (by simpa using e) ?_
  have li:HI rk a b (out.push (a[na - 1]'(by omega))) (na - 1) nb:=⟨m,by omega,h2,by omega,h4⟩
  exact iI (q2 _ li) (q3 _ li)
set_option maxHeartbeats 1000000 in
theorem Rg (C:Cmp P w A s kd rk good){α : Type}{a b out:Array Keyed}{na nb:Nat}{D1:Keyed->StateT SortSt Sem α}{K:Keyed->Keyed->Option Nat->StateT SortSt Sem α}{Q:α->SortSt->Prop}{st:SortSt}(T:Two rk good a b)(hF:xQ rk a b)(h:MH rk a.toList b.toList out.toList.reverse (a.toList.take na) (b.toList.take nb))(h1:0<na)(h2:1<nb)(h3:na<=a.size)(h4:nb<=b.size)(hk:kindOf st=kd)
  (hx:∀ y∈a.toList.take na,rk y.1<rk (b[nb - 1]'(by omega)).1)
  (q1:∀ y,Mrg rk a.toList b.toList (b.extract 0 (nb - 1)++a.extract 0 na++(out.push y).reverse).toList->wpS (model P w) A E s (D1 y) Q st)
  (q2:∀ x y m,1<nb - 1->0<m->m<=nb - 1->MH rk a.toList b.toList (out.push y++(b.extract m (nb - 1)).reverse).toList.reverse (a.toList.take na) (b.toList.take m)->(∀ z∈b.toList.take m,rk z.1<rk (a[na - 1]'(by omega)).1)->wpS (model P w) A E s (K y x (some m)) Q st) :
  wpS (model P w) A E s (elem' b (nb - 1) >>= fun y=>if (nb - 1==1)=true then D1 y else elem' a (na - 1) >>= fun x=>gal true x b 0 (nb - 1) (nb - 1 - 1) >>= K y x) Q st:=by
 refine wpS_bind (bW (by omega) ?_)
 have m:=RL T h (by omega) h4 hx
 by_cases c:nb - 1=1
 ·exact ifT (by simpa using c) (q1 _ (iU T hF (by omega) m c))
 ·refine ifF (by simpa using c) ?_
  have ha:na - 1<a.size:=by omega
  refine wpS_bind (bW ha ?_)
  refine wpS_bind (yL C hk T.gb (T.ga _ (bI ha)) (by omega) (by omega) (fun i j h5 h6 h7=>?_) fun k k1 k2 k3=>?_)
  ·rw [vg (by omega)] at h7 |-
   have:=T.sb.le (i:=0+i) (j:=0+j) (by omega) (by omega)
   simp at h7 this |-
   omega
  ·have kp:0<k:=by
    refine Decidable.byContradiction fun z=>?_
    have:=k3 0 (by omega) (by omega)
    rw [vg (by omega)] at this
    have:=hF (by omega) _ (bI ha)
    simp at *
    omega
   refine q2 _ _ k (by omega) kp k1 (Ul T m k1 fun x hx y hy=>?_) fun y hy=>?_
   ·obtain ⟨j,j1,j2,rfl⟩:=fG hx
    obtain ⟨i,i1,i2,i3,rfl⟩:=cD (by omega) hy
    have:=k3 i i1 (by omega)
    rw [vg (by omega)] at this
    have:=T.sa.le (i:=j) (j:=na - 1) (by omega) ha
    have:=T.ne _ (bI ha) _ (bI i3)
    simp at *
    omega
   ·obtain ⟨j,j1,j2,rfl⟩:=fG hy
    have:=k2 j j1
    rw [vg (by omega)] at this
    simpa using this
set_option maxHeartbeats 1000000 in
theorem VL (C:Cmp P w A s kd rk good){α : Type}{a b out:Array Keyed}{na nb g:Nat}{K:Keyed->Option Nat->StateT SortSt Sem α}{Q:α->SortSt->Prop}{st:SortSt}(T:Two rk good a b)(li:HI rk a b out na nb)(hk:kindOf st=kd)
  (q:∀ y m st',dJ st st'->m<=na->MH rk a.toList b.toList (out++(a.extract m na).reverse).toList.reverse (a.toList.take m) (b.toList.take nb)->(∀ z∈a.toList.take m,rk z.1<rk (b[nb - 1]'(by have:=li.lb;have:=li.pb;omega)).1)->wpS (model P w) A E s (K y (some m)) Q st') :
  wpS (model P w) A E s (Lr g >>= fun _=>elem' b (nb - 1) >>= fun y=>gal false y a 0 na (na - 1) >>= K y) Q st:=by
 obtain ⟨h,h1,h2,h3,h4⟩:=li
 have hb:nb - 1<b.size:=by omega
 refine wpS_bind (pL fun st1 s1=>?_)
 refine wpS_bind (bW hb ?_)
 refine wpS_bind (yL C (s1.2.1.trans hk) T.ga (T.gb _ (bI hb)) (by omega) (by omega) (fun i j h5 h6 h7=>?_) fun k k1 k2 k3=>?_)
 ·rw [uo (by omega)] at h7 |-
  have:=T.sa.le (i:=0+i) (j:=0+j) (by omega) (by omega)
  simp at h7 this |-
  omega
 ·refine q _ k st1 s1 k1 (Ue T h k1 fun x hx y hy=>?_) fun y hy=>?_
  ·obtain ⟨j,j1,j2,rfl⟩:=fG hx
   obtain ⟨i,i1,i2,i3,rfl⟩:=cD h3 hy
   have:=k3 i i1 i2
   rw [uo (by omega)] at this
   have:=T.sb.le (i:=j) (j:=nb - 1) (by omega) hb
   simp at *
   omega
  ·obtain ⟨j,j1,j2,rfl⟩:=fG hy
   have:=k2 j j1
   rw [uo (by omega)] at this
   have:=T.ne _ (bI j2) _ (bI hb)
   simp at *
   omega
theorem qQ (out a:Array Keyed)(n:Nat):out++(a.extract n n).reverse=out:=by simp [Nat.min_le_left]
set_option maxHeartbeats 2000000 in
theorem Vo (C:Cmp P w A s kd rk good){a b:Array Keyed}{st:SortSt}{Q:Array Keyed->SortSt->Prop}(T:Two rk good a b)(hL:yI rk a b)(hF:xQ rk a b)(ha:0<a.size)(hb:0<b.size)(hk:kindOf st=kd)
  (q:∀ r st',Mrg rk a.toList b.toList r.toList->dJ st st'->Q r st'):wpS (model P w) A E s (mHi a b) Q st:=by
 refine wpS_bind (wpS_lift (wpAny_rule ⟨rfl,?_⟩))
 refine wpS_bind (bW (show a.size - 1<a.size by omega) ?_)
 have m0:MH rk a.toList b.toList (#[a[a.size - 1]]:Array Keyed).toList.reverse (a.toList.take (a.size - 1)) (b.toList.take b.size):=by
  have m:MH rk a.toList b.toList (#[]:Array Keyed).toList.reverse (a.toList.take a.size) (b.toList.take b.size):=⟨[],[],by rw [List.append_nil,List.take_of_length_le (by simp)],by rw [List.append_nil,List.take_of_length_le (by simp)],.nil,.nil,fun _ _ _ h=>(nomatch h),fun _ _ _ h=>(nomatch h)⟩
  exact J1 T m ha (Yc _) fun y hy=>hL ha y (List.mem_of_mem_take hy)
 by_cases c1:a.size - 1=0
 ·exact ifT (by simpa using c1) (wpS_pure (q _ _ (p7 T m0 c1) (.refl _)))
 refine ifF (by simpa using c1) ?_
 by_cases c2:b.size=1
 ·exact ifT (by simpa using c2) (wpS_pure (q _ _ (iU T hF hb m0 c2) (.refl _)))
 refine ifF (by simpa using c2) ?_
 refine wpS_bind (wpS_get ?_)
 dsimp only
 refine wpS_bind (wpS_mono (wpS_forRange
  (I:=fun x c st'=>dJ st st'/\∃ na nb out mg,c=(none,na,nb,out,mg)/\HI rk a b out na nb/\na+nb+1+x<=a.size+b.size)
  (Q:=fun c st'=>dJ st st'/\∃ r rest,c=(some r,rest)/\Mrg rk a.toList b.toList r.toList) ?_ ?_ ⟨.refl _,_,_,_,_,rfl,⟨m0,by omega,by omega,by omega,by omega⟩,by omega⟩) ?_)
 ·rintro x c st' _ hx ⟨sm,na,nb,out,mg,rfl,li,hp⟩
  dsimp only
  refine wpS_bind (wpS_mono (wpS_forRange
   (I:=fun y c st2=>dJ st st2/\∃ na nb out ac bc,c=(none,na,nb,out,ac,bc)/\HI rk a b out na nb/\na+nb+1+x+y<=a.size+b.size)
   (Q:=fun c st2=>dJ st st2/\((∃ r rest,c=(some r,rest)/\Mrg rk a.toList b.toList r.toList)\/∃ na nb out ac bc,c=(none,na,nb,out,ac,bc)/\HI rk a b out na nb/\na+nb+2+x<=a.size+b.size)) ?_ ?_ ⟨sm,na,nb,out,0,0,rfl,li,by omega⟩) ?_)
  ·rintro y c st2 _ hy ⟨sm2,na,nb,out,ac,bc,rfl,⟨m,h1,h2,h3,h4⟩,hp2⟩
   dsimp only
   have hia:na - 1<a.size:=by omega
   have hib:nb - 1<b.size:=by omega
   refine wpS_bind (bW hib (wpS_bind (bW hia (wpS_bind (w_lt C (sm2.2.1.trans hk) (T.gb _ (bI hib)) (T.ga _ (bI hia)) ?_)))))
   dsimp only
   by_cases cb:rk b[nb - 1].1<rk a[na - 1].1
   ·refine ifT (by simpa using cb) ?_
    refine wpS_bind (bW hia ?_)
    have m2:=J1 T m h1 h3 fun y hy=>by
     obtain ⟨j,j1,j2,rfl⟩:=fG hy
     exact Nat.lt_of_le_of_lt (T.sb.le (by omega) hib) cb
    by_cases e:na - 1=0
    ·exact ifT (by simpa using e) (wpS_pure ⟨sm2,.inl ⟨_,_,rfl,p7 T m2 e⟩⟩)
    ·refine ifF (by simpa using e) ?_
     have li2:HI rk a b (out.push a[na - 1]) (na - 1) nb:=⟨m2,by omega,h2,by omega,h4⟩
     exact iI (wpS_pure ⟨sm2,.inr ⟨_,_,_,_,_,rfl,li2,by omega⟩⟩) (wpS_pure ⟨sm2,_,_,_,_,_,rfl,li2,by omega⟩)
   ·refine ifF (by simpa using cb) ?_
    refine wpS_bind (bW hib ?_)
    have m2:=RL T m (by omega) h4 fun y hy=>by
     obtain ⟨j,j1,j2,rfl⟩:=fG hy
     have:=T.sa.le (i:=j) (j:=na - 1) (by omega) hia
     have:=T.ne _ (bI hia) _ (bI hib)
     omega
    by_cases e:nb - 1=1
    ·exact ifT (by simpa using e) (wpS_pure ⟨sm2,.inl ⟨_,_,rfl,iU T hF hb m2 e⟩⟩)
    ·refine ifF (by simpa using e) ?_
     have li2:HI rk a b (out.push b[nb - 1]) na (nb - 1):=⟨m2,h1,by omega,h3,by omega⟩
     exact iI (wpS_pure ⟨sm2,.inr ⟨_,_,_,_,_,rfl,li2,by omega⟩⟩) (wpS_pure ⟨sm2,_,_,_,_,_,rfl,li2,by omega⟩)
  ·rintro c st2 ⟨sm2,na,nb,out,ac,bc,rfl,li2,hp2⟩
   exact ⟨sm2,.inr ⟨_,_,_,_,_,rfl,li2,by omega⟩⟩
  ·rintro c st2 ⟨sm2,(⟨r,rest,rfl,hr⟩ | ⟨na,nb,out,ac,bc,rfl,li2,hp2⟩)⟩
   ·exact wpS_pure ⟨sm2,_,_,rfl,hr⟩
   ·dsimp only
    refine wpS_bind (wpS_lift (wpAny_rule ⟨rfl,?_⟩))
    refine wpS_bind (wpS_mono (wpS_forRange
     (I:=fun y c st3=>dJ st st3/\∃ na nb out mg ac bc,c=(none,na,nb,out,mg,ac,bc)/\HI rk a b out na nb/\na+nb+2+x<=a.size+b.size)
     (Q:=fun c st3=>dJ st st3/\((∃ r rest,c=(some r,rest)/\Mrg rk a.toList b.toList r.toList)\/∃ na nb out mg ac bc,c=(none,na,nb,out,mg,ac,bc)/\HI rk a b out na nb/\na+nb+2+x<=a.size+b.size)) ?_ ?_ ⟨sm2,na,nb,out,mg+1,ac,bc,rfl,li2,hp2⟩) ?_)
    ·rintro y c st3 _ hy ⟨sm3,na,nb,out,mg,ac,bc,rfl,li3,hp3⟩
     have pb:=li3.pb
     have pa:=li3.pa
     have la:=li3.la
     have lb:=li3.lb
     refine iI ?_ ?_ <;> refine VL (out:=out) (na:=na) (nb:=nb) C T li3 (sm3.2.1.trans hk) fun y' m st4 s4 lk m4 lo=>?_
     all_goals
      have sm4:=sm3.trans s4
      by_cases k0:na - m>0
      ·refine ifT k0 ?_
       by_cases e1:m=0
       ·exact ifT (by simpa using e1) (wpS_pure ⟨sm4,.inl ⟨_,_,rfl,p7 T m4 e1⟩⟩)
       ·refine ifF (by simpa using e1) ?_
        refine Rg (out:=out++(a.extract m na).reverse) (na:=m) (nb:=nb) C T hF m4 (by omega) pb (by omega) lb (sm4.2.1.trans hk) lo (fun y h=>wpS_pure ⟨sm4,.inl ⟨_,_,rfl,h⟩⟩) fun x' y' j j1 jp j2 m5 lo2=>?_
        by_cases j0:nb - 1 - j>0
        ·refine ifT j0 ?_
         by_cases e2:j=1
         ·exact ifT (by simpa using e2) (wpS_pure ⟨sm4,.inl ⟨_,_,rfl,iU T hF hb m5 e2⟩⟩)
         ·refine ifF (by simpa using e2) (ifF (by simp;omega) ?_)
          exact Fy (na:=m) (nb:=j) T m5 (by omega) (by omega) (by omega) (by omega) lo2 (fun x' h=>wpS_pure ⟨sm4,.inl ⟨_,_,rfl,h⟩⟩) (fun x' h=>wpS_pure ⟨sm4,.inr ⟨_,_,_,_,_,_,rfl,h,(show m - 1+j+2+x<=a.size+b.size by omega)⟩⟩) fun x' h=>wpS_pure ⟨sm4,_,_,_,_,_,_,rfl,h,(show m - 1+j+2+x<=a.size+b.size by omega)⟩
        ·refine ifF j0 ?_
         have z:j=nb - 1:=by omega
         subst z
         rw [qQ] at m5
         exact Fy (na:=m) (nb:=nb - 1) T m5 (by omega) (by omega) (by omega) (by omega) lo2 (fun x' h=>wpS_pure ⟨sm4,.inl ⟨_,_,rfl,h⟩⟩) (fun x' h=>wpS_pure ⟨sm4,.inr ⟨_,_,_,_,_,_,rfl,h,(show m - 1+(nb - 1)+2+x<=a.size+b.size by omega)⟩⟩) fun x' h=>wpS_pure ⟨sm4,_,_,_,_,_,_,rfl,h,(show m - 1+(nb - 1)+2+x<=a.size+b.size by omega)⟩
      ·refine ifF k0 ?_
       have z:m=na:=by omega
       subst z
       rw [qQ] at m4
       refine Rg (out:=out) (na:=m) (nb:=nb) C T hF m4 pa pb la lb (sm4.2.1.trans hk) lo (fun y h=>wpS_pure ⟨sm4,.inl ⟨_,_,rfl,h⟩⟩) fun x' y' j j1 jp j2 m5 lo2=>?_
       by_cases j0:nb - 1 - j>0
       ·refine ifT j0 ?_
        by_cases e2:j=1
        ·exact ifT (by simpa using e2) (wpS_pure ⟨sm4,.inl ⟨_,_,rfl,iU T hF hb m5 e2⟩⟩)
        ·refine ifF (by simpa using e2) (ifF (by simp;omega) ?_)
         exact Fy (na:=m) (nb:=j) T m5 pa (by omega) la (by omega) lo2 (fun x' h=>wpS_pure ⟨sm4,.inl ⟨_,_,rfl,h⟩⟩) (fun x' h=>wpS_pure ⟨sm4,.inr ⟨_,_,_,_,_,_,rfl,h,(show m - 1+j+2+x<=a.size+b.size by omega)⟩⟩) fun x' h=>wpS_pure ⟨sm4,_,_,_,_,_,_,rfl,h,(show m - 1+j+2+x<=a.size+b.size by omega)⟩
       ·refine ifF j0 ?_
        have z:j=nb - 1:=by omega
        subst z
        rw [qQ] at m5
        exact Fy (na:=m) (nb:=nb - 1) T m5 pa (by omega) la (by omega) lo2 (fun x' h=>wpS_pure ⟨sm4,.inl ⟨_,_,rfl,h⟩⟩) (fun x' h=>wpS_pure ⟨sm4,.inr ⟨_,_,_,_,_,_,rfl,h,(show m - 1+(nb - 1)+2+x<=a.size+b.size by omega)⟩⟩) fun x' h=>wpS_pure ⟨sm4,_,_,_,_,_,_,rfl,h,(show m - 1+(nb - 1)+2+x<=a.size+b.size by omega)⟩
    ·rintro c st3 ⟨sm3,na,nb,out,mg,ac,bc,rfl,li3,hp3⟩
     exact ⟨sm3,.inr ⟨_,_,_,_,_,_,rfl,li3,hp3⟩⟩
    ·rintro c st3 ⟨sm3,(⟨r,rest,rfl,hr⟩ | ⟨na,nb,out,mg,ac,bc,rfl,li3,hp3⟩)⟩
     ·exact wpS_pure ⟨sm3,_,_,rfl,hr⟩
     ·dsimp only
      refine wpS_bind (pL fun st4 s4=>wpS_pure ⟨sm3.trans s4,_,_,_,_,rfl,li3,by omega⟩)
 ·rintro c st' ⟨sm,na,nb,out,mg,rfl,⟨_,h1,h2,_,_⟩,hp⟩
  omega
 ·rintro c st' ⟨sm,r,rest,rfl,hr⟩
  exact wpS_pure (q r st' hr sm)
end
end L2
namespace L2
open PySem PySem.Spec PyProof.Rows
def mAt:Nat->StateT SortSt Sem Bool:=sortPriv% PySem.Builtin.mergeAt
section
variable {P:Program}{w:World}{A:Around}{E:Value->Shared->Prop}{s:Shared}{kd:SortKind}{rk:Value->Nat}{good:Value->Prop}
theorem Hw {st st2:SortSt}{Q:PUnit->SortSt->Prop}(h:Q ⟨⟩ st2):wpS (model P w) A E s (set st2:StateT SortSt Sem PUnit) Q st:=wpS_modify (f:=fun _=>st2) h
theorem wX (s0:Nat):∀ (m:List Keyed) (j0:Nat) (arr:Array Keyed),s0+j0+m.length<=arr.size->((m.zipIdx j0).foldl (fun a (p:Keyed×Nat)=>a.setIfInBounds (s0+p.2) p.1) arr).toList=arr.toList.take (s0+j0)++m++arr.toList.drop (s0+j0+m.length)
 | [],j0,arr,h=>by simp
 | p::m,j0,arr,h=>by
  rw [List.length_cons] at h
  rw [List.zipIdx_cons,List.foldl_cons,wX s0 m (j0+1) _ (by rw [Array.size_setIfInBounds];omega)]
  dsimp only
  have e1:(arr.setIfInBounds (s0+j0) p).toList=arr.toList.set (s0+j0) p:=by simp
  have e2:s0+(j0+1)=s0+j0+1:=by omega
  rw [e1,e2,List.take_succ,List.getElem?_set_self (by simp;omega),List.take_set_of_le (Yc _),List.drop_set_of_lt (by omega)]
  have e3:s0+j0+1+m.length=s0+j0+(p::m).length:=by rw [List.length_cons];omega
  rw [e3]
  simp
theorem iZ {a:Array Keyed}{i j:Nat}(hj:j<=a.size)(h:aY rk a i j):SL rk (a.extract i j).toList:=by
 unfold SL
 rw [List.pairwise_iff_getElem]
 intro p q hp hq hpq
 have lp:(a.extract i j).toList.length=j - i:=by simp;omega
 have hq':q<j - i:=by rw [<-lp];exact hq
 have:=h (i+p) (i+q) (by omega) (by omega) (by omega)
 rw [dN (by omega),dN (by omega)] at this
 simpa using this
theorem Dr {a:Array Keyed}{i j:Nat}{l1 l2 l:List Keyed}(e:a.toList=l1++l++l2)(e1:l1.length=i)(e2:l.length=j - i)(h:SL rk l):aY rk a i j:=by
 intro p q h1 h2 h3
 have hl:∀ k (hk:k<l.length),Rk rk a (i+k)=rk (l[k]).1:=fun k hk=>by
  unfold Rk
  have:a[i+k]?=some l[k]:=by
   rw [<-Array.getElem?_toList,e,List.append_assoc,List.getElem?_append_right (by omega),List.getElem?_append_left (by omega)]
   have ek:i+k - l1.length=k:=by omega
   rw [ek,List.getElem?_eq_getElem hk]
  rw [this]
 have hp:=hl (p - i) (by omega)
 have hq:=hl (q - i) (by omega)
 have ep:i+(p - i)=p:=by omega
 have eq:i+(q - i)=q:=by omega
 rw [ep] at hp
 rw [eq] at hq
 rw [hp,hq]
 exact List.pairwise_iff_getElem.mp h _ _ (by omega) (by omega) (by omega)
theorem qb (a:Array Keyed){i j:Nat}(h:i<=j)(hj:j<=a.size):a.toList.drop i=(a.extract i j).toList++a.toList.drop j:=by
 have:=Vn a i (j - i) (by omega)
 have e:i+(j - i)=j:=by omega
 rw [e] at this
 exact this
theorem jK (a:Array Keyed){i j:Nat}(hj:j<=a.size):(a.extract i j).toList.length=j - i:=by simp;omega
structure Runs (rk:Value->Nat) (a:Array Keyed) (sa k sb n' e:Nat):Prop where
 h1:sa+k<=sb
 h2:sb+n'<=e
 h3:e<=a.size
 r1:aY rk a sa sb
 r2:aY rk a sb e
 lo:∀ p,sa<=p->p<sa+k->Rk rk a p<Rk rk a sb
 hi:∀ p,sb+n'<=p->p<e->Rk rk a (sb - 1)<Rk rk a p
theorem aY.le {a:Array Keyed}{i j p q:Nat}(h:aY rk a i j)(h1:i<=p)(h2:p<=q)(h3:q<j):Rk rk a p<=Rk rk a q:=by
 rcases Nat.lt_or_ge p q with c | c
 ·exact Nat.le_of_lt (h p q h1 c h3)
 ·have:p=q:=by omega
  subst this
  exact Yc _
theorem GC {α : Type}{t m1 m2 d:List α}(hl:m1.length=m2.length){q:Nat}(hq:q<t.length\/t.length+m1.length<=q):(t++m1++d)[q]?=(t++m2++d)[q]?:=by
 rcases hq with hq | hq
 ·rw [List.append_assoc,List.append_assoc,List.getElem?_append_left hq,List.getElem?_append_left hq]
 ·rw [List.getElem?_append_right (by rw [List.length_append];exact hq),List.getElem?_append_right (by rw [List.length_append,<-hl];exact hq),List.length_append,List.length_append,hl]
set_option maxHeartbeats 1000000 in
theorem zF {a W:Array Keyed}{sa k sb n' e:Nat}{m:List Keyed}(R:Runs rk a sa k sb n' e)(hx:sa+k<sb)(M:Mrg rk (a.extract (sa+k) sb).toList (a.extract sb (sb+n')).toList m)(eW:W.toList=a.toList.take (sa+k)++m++a.toList.drop (sb+n')):Within a W sa e/\aY rk W sa e:=by
 obtain ⟨h1,h2,h3,r1,r2,lo,hi⟩:=R
 have ea:a.toList=a.toList.take (sa+k)++((a.extract (sa+k) sb).toList++(a.extract sb (sb+n')).toList)++a.toList.drop (sb+n'):=by
  rw [List.append_assoc,List.append_assoc,<-qb a (by omega) (by omega),<-qb a h1 (by omega),List.take_append_drop]
 have lm:m.length=((a.extract (sa+k) sb).toList++(a.extract sb (sb+n')).toList).length:=M.1.length_eq
 have lt:(a.toList.take (sa+k)).length=sa+k:=by rw [List.length_take];simp;omega
 have lx:((a.extract (sa+k) sb).toList++(a.extract sb (sb+n')).toList).length=sb+n' - (sa+k):=by rw [List.length_append,jK a (by omega),jK a (by omega)];omega
 refine ⟨⟨?_,fun q hq=>?_⟩,?_⟩
 ·rw [Array.perm_iff_toList_perm,eW]
  conv=>rhs;rw [ea]
  exact ((M.1.append_left _).append_right _)
 ·rw [<-Array.getElem?_toList,<-Array.getElem?_toList,eW]
  conv=>rhs;rw [ea]
  exact GC lm (by rw [lt,lm,lx];omega)
 ·have et:a.toList.take (sa+k)=a.toList.take sa++(a.extract sa (sa+k)).toList:=T5 a (by omega)
  have ed:a.toList.drop (sb+n')=(a.extract (sb+n') e).toList++a.toList.drop e:=qb a h2 h3
  have em:∀ z∈m,(∃ p,sa+k<=p/\p<sb/\rk z.1=Rk rk a p)\/∃ p,sb<=p/\p<sb+n'/\rk z.1=Rk rk a p:=fun z hz=>by
   rcases List.mem_append.mp (M.1.mem_iff.mp hz) with hz | hz
   ·obtain ⟨p,p1,p2,p3,rfl⟩:=cD (by omega) hz
    exact .inl ⟨p,p1,p2,(dN p3).symm⟩
   ·obtain ⟨p,p1,p2,p3,rfl⟩:=cD (by omega) hz
    exact .inr ⟨p,p1,p2,(dN p3).symm⟩
  have ep:∀ z∈(a.extract sa (sa+k)).toList,∃ p,sa<=p/\p<sa+k/\rk z.1=Rk rk a p:=fun z hz=>by
   obtain ⟨p,p1,p2,p3,rfl⟩:=cD (by omega) hz
   exact ⟨p,p1,p2,(dN p3).symm⟩
  have eq:∀ z∈(a.extract (sb+n') e).toList,∃ p,sb+n'<=p/\p<e/\rk z.1=Rk rk a p:=fun z hz=>by
   obtain ⟨p,p1,p2,p3,rfl⟩:=cD h3 hz
   exact ⟨p,p1,p2,(dN p3).symm⟩
  have sp:SL rk (a.extract sa (sa+k)).toList:=iZ (by omega) fun p q q1 q2 q3=>r1 p q q1 q2 (by omega)
  have sq:SL rk (a.extract (sb+n') e).toList:=iZ h3 fun p q q1 q2 q3=>r2 p q (by omega) q2 q3
  refine Dr (l1:=a.toList.take sa) (l:=(a.extract sa (sa+k)).toList++m++(a.extract (sb+n') e).toList) (l2:=a.toList.drop e) (by rw [eW,et,ed];simp only [List.append_assoc]) (by rw [List.length_take];simp;omega) ?_ ?_
  ·rw [List.length_append,List.length_append,lm,lx,jK a (by omega),jK a h3]
   omega
  ·unfold SL at *
   rw [List.pairwise_append,List.pairwise_append]
   refine ⟨⟨sp,M.2,fun u hu v hv=>?_⟩,sq,fun u hu v hv=>?_⟩
   ·obtain ⟨p,p1,p2,e1⟩:=ep u hu
    rw [e1]
    have l1:=lo p p1 p2
    rcases em v hv with ⟨q,q1,q2,e2⟩ | ⟨q,q1,q2,e2⟩ <;> rw [e2]
    ·exact r1 p q p1 (by omega) q2
    ·exact Yd l1 (r2.le (Yc _) q1 (by omega))
   ·obtain ⟨q,q1,q2,e2⟩:=eq v hv
    rw [e2]
    rcases List.mem_append.mp hu with hu | hu
    ·obtain ⟨p,p1,p2,e1⟩:=ep u hu
     rw [e1]
     exact Yd (lo p p1 p2) (r2.le (Yc _) (by omega) q2)
    ·rcases em u hu with ⟨p,p1,p2,e1⟩ | ⟨p,p1,p2,e1⟩ <;> rw [e1]
     ·exact Nat.lt_of_le_of_lt (r1.le (by omega) (by omega) (by omega)) (hi q q1 q2)
     ·exact r2 p q p1 (by omega) q2
set_option maxHeartbeats 1000000 in
theorem VG (C:Cmp P w A s kd rk good){i:Nat}{st:SortSt}{Q:Bool->SortSt->Prop}{sa na p sb nb p2:Nat}(ok:SOk kd rk good st)(e1:(pendingOf st)[i]?=some (sa,na,p))(e2:(pendingOf st)[i+1]?=some (sb,nb,p2))(hb:sb=sa+na)(h1:0<na)(h2:0<nb)(hz:sb+nb<=(arrOf st).size)(r1:aY rk (arrOf st) sa sb)(r2:aY rk (arrOf st) sb (sb+nb))
  (q:∀ st',SOk kd rk good st'->Within (arrOf st) (arrOf st') sa (sb+nb)->aY rk (arrOf st') sa (sb+nb)->pendingOf st'=((pendingOf st).setIfInBounds i (sa,na+nb,p)).eraseIdxIfInBounds (i+1)->Q true st'):wpS (model P w) A E s (mAt i) Q st:=by
 refine wpS_bind (wpS_get ?_)
 simp only [e1,e2]
 refine wpS_bind (Hw ?_)
 have hsb:sb<(arrOf st).size:=by omega
 have gd:∀ x∈(arrOf st).toList,good x.1:=ok.keys.good
 refine wpS_bind (bW (a:=arrOf st) hsb ?_)
 refine wpS_bind (yL (a:=arrOf st) C ok.kind gd (gd _ (bI hsb)) (by omega) (by omega) (fun x y h5 h6 h7=>?_) fun k k1 k2 k3=>?_)
 ·unfold Bey at h7 |-
  have:=r1.le (p:=sa+x) (q:=sa+y) (by omega) (by omega) (by omega)
  simp at h7 |-
  omega
 have key:rk (arrOf st)[sb].1=Rk rk (arrOf st) sb:=(dN hsb).symm
 have lo:∀ p,sa<=p->p<sa+k->Rk rk (arrOf st) p<Rk rk (arrOf st) sb:=fun p p1 p3=>by
  have:=k2 (p - sa) (by omega)
  have ep:sa+(p - sa)=p:=by omega
  unfold Bey at this
  rw [ep,key] at this
  have ne:Rk rk (arrOf st) p≠Rk rk (arrOf st) sb:=fun z=>by have:=ok.keys.ne (by omega) hsb z;omega
  simp at this
  omega
 have up:∀ p,sa+k<=p->p<sb->Rk rk (arrOf st) sb<Rk rk (arrOf st) p:=fun p p1 p3=>by
  have:=k3 (p - sa) (by omega) (by omega)
  have ep:sa+(p - sa)=p:=by omega
  unfold Bey at this
  rw [ep,key] at this
  simpa using this
 by_cases c:na - k=0
 ·refine ifT (by simpa using c) (wpS_pure (q _ ⟨ok.kind,ok.failed,ok.keys⟩ (Within.refl _ _ _) (fun p q p1 p3 p4=>?_) rfl))
  show Rk rk (arrOf st) p<Rk rk (arrOf st) q
  by_cases c1:q<sb
  ·exact r1 p q p1 p3 c1
  ·by_cases c2:sb<=p
   ·exact r2 p q c2 p3 p4
   ·exact Yd (lo p p1 (by omega)) (r2.le (Yc _) (by omega) p4)
 refine ifF (by simpa using c) ?_
 have hl:sa+k+(na - k) - 1<(arrOf st).size:=by omega
 have el:sa+k+(na - k) - 1=sb - 1:=by omega
 refine wpS_bind (bW (a:=arrOf st) hl ?_)
 have key2:rk ((arrOf st)[sa+k+(na - k) - 1]'hl).1=Rk rk (arrOf st) (sb - 1):=by rw [<-dN (rk:=rk) hl,el]
 refine wpS_bind (yL (a:=arrOf st) C ok.kind gd (gd _ (bI hl)) (by omega) (by omega) (fun x y h5 h6 h7=>?_) fun n' n1 n2 n3=>?_)
 ·unfold Bey at h7 |-
  have:=r2.le (p:=sb+x) (q:=sb+y) (by omega) (by omega) (by omega)
  simp at h7 |-
  omega
 have be:∀ p,sb<=p->p<sb+n'->Rk rk (arrOf st) p<Rk rk (arrOf st) (sb - 1):=fun p p1 p3=>by
  have:=n2 (p - sb) (by omega)
  have ep:sb+(p - sb)=p:=by omega
  unfold Bey at this
  rw [ep,key2] at this
  simpa using this
 have hi:∀ p,sb+n'<=p->p<sb+nb->Rk rk (arrOf st) (sb - 1)<Rk rk (arrOf st) p:=fun p p1 p3=>by
  have:=n3 (p - sb) (by omega) (by omega)
  have ep:sb+(p - sb)=p:=by omega
  unfold Bey at this
  rw [ep,key2] at this
  have ne:Rk rk (arrOf st) p≠Rk rk (arrOf st) (sb - 1):=fun z=>by have:=ok.keys.ne (by omega) (by omega) z;omega
  simp at this
  omega
 have np:0<n':=by
  refine Decidable.byContradiction fun z=>?_
  have:=hi sb (by omega) (by omega)
  have:=up (sb - 1) (by omega) (by omega)
  omega
 refine ifF (by simp;omega) ?_
 have zx:((arrOf st).extract (sa+k) sb).size=sb - (sa+k):=by simp;omega
 have zy:((arrOf st).extract sb (sb+n')).size=n':=by simp;omega
 have T:Two rk good ((arrOf st).extract (sa+k) sb) ((arrOf st).extract sb (sb+n')):=⟨iZ (by omega) fun p q p1 p3 p4=>r1 p q (by omega) p3 p4,iZ (by omega) fun p q p1 p3 p4=>r2 p q p1 p3 (by omega),fun x hx=>by
   obtain ⟨p,_,_,p3,rfl⟩:=cD (by omega) hx
   exact gd _ (bI p3),fun x hx=>by
   obtain ⟨p,_,_,p3,rfl⟩:=cD (by omega) hx
   exact gd _ (bI p3),fun x hx y hy e=>by
   obtain ⟨p,p1,p3,p4,rfl⟩:=cD (by omega) hx
   obtain ⟨q,q1,q3,q4,rfl⟩:=cD (by omega) hy
   rw [<-dN (rk:=rk) p4,<-dN (rk:=rk) q4] at e
   have:=ok.keys.ne p4 q4 e
   omega⟩
 have hL:yI rk ((arrOf st).extract (sa+k) sb) ((arrOf st).extract sb (sb+n')):=fun h z hz=>by
  obtain ⟨p,p1,p3,p4,rfl⟩:=cD (by omega) hz
  have:=be p p1 p3
  rw [dN p4,dN (by omega)] at this
  have ex:sa+k+(((arrOf st).extract (sa+k) sb).size - 1)=sb - 1:=by omega
  simpa only [Array.getElem_extract,ex] using this
 have hF:xQ rk ((arrOf st).extract (sa+k) sb) ((arrOf st).extract sb (sb+n')):=fun h z hz=>by
  obtain ⟨p,p1,p3,p4,rfl⟩:=cD (by omega) hz
  have:=up p p1 p3
  rw [dN p4,dN hsb] at this
  simpa only [Array.getElem_extract,Nat.add_zero] using this
 have fin:∀ (m:Array Keyed) (st2:SortSt),Mrg rk ((arrOf st).extract (sa+k) sb).toList ((arrOf st).extract sb (sb+n')).toList m.toList->arrOf st2=arrOf st->Within (arrOf st) (m.toList.zipIdx.foldl (fun a (p:Keyed×Nat)=>a.setIfInBounds (sa+k+p.2) p.1) (arrOf st2)) sa (sb+nb)/\aY rk (m.toList.zipIdx.foldl (fun a (p:Keyed×Nat)=>a.setIfInBounds (sa+k+p.2) p.1) (arrOf st2)) sa (sb+nb):=fun m st2 M ea=>by
  have lm:m.toList.length=sb+n' - (sa+k):=by rw [M.1.length_eq,List.length_append,jK _ (by omega),jK _ (by omega)];omega
  rw [ea]
  refine zF ⟨by omega,by omega,hz,r1,r2,lo,hi⟩ (by omega) M ?_
  rw [wX (sa+k) m.toList 0 (arrOf st) (by omega),Nat.add_zero]
  have e:sa+k+m.toList.length=sb+n':=by omega
  rw [e]
 have hx0:0<((arrOf st).extract (sa+k) sb).size:=by omega
 have hy0:0<((arrOf st).extract sb (sb+n')).size:=by omega
 refine iI (wpS_bind (Tv C T hL hx0 hy0 (hF hy0 _ (bI hx0)) ok.kind fun m st2 M sm=>?_)) (wpS_bind (Vo C T hL hF hx0 hy0 ok.kind fun m st2 M sm=>?_))
 all_goals
  obtain ⟨f1,f2⟩:=fin m st2 M sm.1
  have fl:failedOf st2=none:=sm.2.2.1.trans ok.failed
  refine wpS_bind (wpS_modify (wpS_bind (wpS_get (wpS_pure ?_))))
  show Q (failedOf st2).isNone _
  rw [fl]
  exact q _ ⟨sm.2.1.trans ok.kind,fl,ok.keys.perm f1.perm⟩ f1 f2 sm.2.2.2
end
end L2
namespace L2
open PySem PySem.Spec PyProof.Rows
section
variable {P:Program}{w:World}{A:Around}{E:Value->Shared->Prop}{s:Shared}{kd:SortKind}{rk:Value->Nat}{good:Value->Prop}
def Cont (rk:Value->Nat)(a:Array Keyed):List (Nat×Nat×Nat)->Nat->Nat->Prop
 | [],i,j=>i=j
 | (s,n,_)::r,i,j=>s=i/\0<n/\aY rk a i (i+n)/\Cont rk a r (i+n) j
theorem pN {a:Array Keyed}:∀ {ps:List (Nat×Nat×Nat)} {i j:Nat},Cont rk a ps i j->i+ps.length<=j
 | [],i,j,h=>by have h:i=j:=h;simp;omega
 | (s,n,p)::r,i,j,h=>by
  obtain ⟨_,h1,_,h2⟩:=h
  have:=pN h2
  simp
  omega
theorem iY {a:Array Keyed}:∀ {ps qs:List (Nat×Nat×Nat)} {i j:Nat},Cont rk a (ps++qs) i j↔∃ k,Cont rk a ps i k/\Cont rk a qs k j
 | [],qs,i,j=>⟨fun h=>⟨i,rfl,h⟩,fun ⟨k,e,h⟩=>by have e:i=k:=e;rw [e];exact h⟩
 | (s,n,p)::r,qs,i,j=>by
  constructor
  ·rintro ⟨h1,h2,h3,h4⟩
   obtain ⟨k,a1,a2⟩:=iY.mp h4
   exact ⟨k,⟨h1,h2,h3,a1⟩,a2⟩
  ·rintro ⟨k,⟨h1,h2,h3,h4⟩,h5⟩
   exact ⟨h1,h2,h3,iY.mpr ⟨k,h4,h5⟩⟩
theorem nP {a b:Array Keyed}{lo hi i j:Nat}(W:Within a b lo hi)(h:aY rk a i j)(o:j<=lo\/hi<=i):aY rk b i j:=fun p q h1 h2 h3=>by
 rw [uG (W.out p (by omega)),uG (W.out q (by omega))]
 exact h p q h1 h2 h3
theorem dH {a b:Array Keyed}{lo hi:Nat}(W:Within a b lo hi):∀ {ps:List (Nat×Nat×Nat)} {i j:Nat},Cont rk a ps i j->(j<=lo\/hi<=i)->Cont rk b ps i j
 | [],i,j,h,_=>h
 | (s,n,p)::r,i,j,⟨h1,h2,h3,h4⟩,o=>⟨h1,h2,nP W h3 (by have:=pN h4;omega),dH W h4 (by omega)⟩
theorem qY {a:Array Keyed}{f:Nat×Nat×Nat->Nat×Nat×Nat}(hf:∀ x,(f x).1=x.1/\(f x).2.1=x.2.1):∀ {ps:List (Nat×Nat×Nat)} {k i j:Nat},Cont rk a ps i j->Cont rk a (ps.modify k f) i j
 | [],k,i,j,h=>by simpa using h
 | (s,n,p)::r,0,i,j,⟨h1,h2,h3,h4⟩=>by
  obtain ⟨e1,e2⟩:=hf (s,n,p)
  have e:f (s,n,p)=(s,n,(f (s,n,p)).2.2):=by
   rw [Prod.ext_iff,Prod.ext_iff]
   exact ⟨e1,e2,rfl⟩
  show Cont rk a (f (s,n,p)::r) i j
  rw [e]
  exact ⟨h1,h2,h3,h4⟩
 | (s,n,p)::r,k+1,i,j,⟨h1,h2,h3,h4⟩=>⟨h1,h2,h3,qY hf h4⟩
theorem OD {α : Type}{l:List α}{i:Nat}(h:i+1<l.length):l=l.take i++l[i]::l[i+1]::l.drop (i+2):=by
 rw [<-List.drop_eq_getElem_cons h,<-List.drop_eq_getElem_cons (by omega),List.take_append_drop]
structure JI (kd:SortKind) (rk:Value->Nat) (good:Value->Prop) (a0:Array Keyed) (lo:Nat) (st:SortSt):Prop where
 ok:SOk kd rk good st
 perm:(arrOf st).Perm a0
 cont:Cont rk (arrOf st) (pendingOf st).toList 0 lo
set_option maxHeartbeats 1000000 in
theorem wj (C:Cmp P w A s kd rk good){i lo:Nat}{st:SortSt}{a0:Array Keyed}{Q:Bool->SortSt->Prop}(J:JI kd rk good a0 lo st)(hl:lo<=a0.size)(hi:i+1<(pendingOf st).size)
  (q:∀ st',JI kd rk good a0 lo st'->Within (arrOf st) (arrOf st') 0 lo->(pendingOf st').size+1=(pendingOf st).size->Q true st'):wpS (model P w) A E s (mAt i) Q st:=by
 obtain ⟨ok,pm,ct⟩:=J
 have hi':i+1<(pendingOf st).toList.length:=by simpa using hi
 have es:=OD hi'
 obtain ⟨sa,na,p,hx⟩:∃ sa na p,(pendingOf st).toList[i]=(sa,na,p):=⟨_,_,_,rfl⟩
 obtain ⟨sb,nb,p2,hy⟩:∃ sb nb p2,(pendingOf st).toList[i+1]=(sb,nb,p2):=⟨_,_,_,rfl⟩
 rw [hx,hy] at es
 have ct2:=ct
 rw [es] at ct2
 obtain ⟨k,c1,e1,n1,r1,e2,n2,r2,c2⟩:=iY.mp ct2
 subst e1 e2
 have hz:=pN c2
 have hs:=pm.size_eq
 refine VG C ok (sa:=sa) (na:=na) (p:=p) (sb:=sa+na) (nb:=nb) (p2:=p2) ?_ ?_ rfl n1 n2 (by omega) r1 r2 fun st' ok' W R e=>?_
 ·rw [<-Array.getElem?_toList,List.getElem?_eq_getElem (by omega),hx]
 ·rw [<-Array.getElem?_toList,List.getElem?_eq_getElem hi',hy]
 have lt:((pendingOf st).toList.take i).length=i:=by rw [List.length_take];omega
 have el:(pendingOf st').toList=(pendingOf st).toList.take i++(sa,na+nb,p)::(pendingOf st).toList.drop (i+2):=by
  rw [e,Array.toList_eraseIdxIfInBounds,Array.toList_setIfInBounds]
  conv=>lhs;rw [es]
  rw [List.set_append_right _ _ (by omega),lt,Nat.sub_self,List.set_cons_zero,List.eraseIdx_append_of_length_le (by omega),lt]
  have:i+1 - i=1:=by omega
  rw [this]
  rfl
 refine q st' ⟨ok',W.perm.trans pm,?_⟩ (W.wide (Nat.zero_le _) (by omega)) ?_
 ·rw [el]
  refine iY.mpr ⟨sa,dH W c1 (.inl (Yc _)),rfl,by omega,?_,?_⟩
  ·rw [<-Nat.add_assoc];exact R
  ·rw [<-Nat.add_assoc];exact dH W c2 (.inr (Yc _))
 ·have l1:=congrArg List.length el
  have l2:=congrArg List.length es
  simp only [List.length_append,List.length_cons,Array.length_toList] at l1 l2
  omega
theorem Gf {c:Prop} [Decidable c] (i:Nat):(if c then i - 1 else i)<=i:=by split <;> omega
theorem jG {st:SortSt}{pd:Array (Nat×Nat×Nat)}(ok:SOk kd rk good st):SOk kd rk good (setPending st pd):=⟨ok.kind,ok.failed,ok.keys⟩
set_option maxHeartbeats 2000000 in
theorem Jg (C:Cmp P w A s kd rk good){st:SortSt}{Q:Unit->SortSt->Prop}(ok:SOk kd rk good st)(hp:pendingOf st = #[])(h2:2<=(arrOf st).size)
  (q:∀ st',(arrOf st').Perm (arrOf st)->failedOf st'=none->aY rk (arrOf st') 0 (arrOf st).size->Q () st'):wpS (model P w) A E s sortRuns' Q st:=by
 rw [sortRuns'_eq]
 refine wpS_bind (wpS_get ?_)
 dsimp only
 obtain ⟨a0,ea0⟩:∃ a0,arrOf st=a0:=⟨_,rfl⟩
 have J0:JI kd rk good a0 0 st:=⟨ok,by rw [ea0],by rw [hp];rfl⟩
 rw [ea0] at h2 q |-
 generalize hn:a0.size=N at *
 generalize hmr:minRun' N N 0=mr at *
 refine wpS_bind (wpS_mono (wpS_forRange
  (I:=fun x c st'=>∃ lo,c=(none,lo)/\JI kd rk good a0 lo st'/\lo<=N/\x<=lo)
  (Q:=fun c st'=>c=(none,N)/\JI kd rk good a0 N st') ?_ ?_ ⟨0,rfl,J0,Nat.zero_le _,Yc _⟩) ?_)
 ·rintro x c st' _ hx ⟨lo,rfl,J,hlo,hxl⟩
  dsimp only
  by_cases c0:lo>=N
  ·have e:lo=N:=by omega
   subst e
   exact ifT c0 (wpS_pure ⟨rfl,J⟩)
  refine ifF c0 ?_
  have hsz:(arrOf st').size=N:=by rw [J.perm.size_eq,hn]
  refine wpS_bind (w_count C J.ok (by omega) (by omega) fun n b n1 n2 hw hr _=>?_)
  dsimp only
  have ok2:SOk kd rk good (setArr st' b):=J.ok.arr hw.perm
  have fin:∀ (m:Nat) (st2:SortSt),SOk kd rk good st2->(arrOf st2).Perm a0->Cont rk (arrOf st2) (pendingOf st2).toList 0 lo->aY rk (arrOf st2) lo (lo+m)->0<m->lo+m<=N->JI kd rk good a0 (lo+m) (setPending st2 ((pendingOf st2).push (lo,m,0))):=fun m st2 o2 p2 c2 r2 m0 m1=>by
   refine ⟨jG o2,p2,?_⟩
   show Cont rk (arrOf st2) ((pendingOf st2).push (lo,m,0)).toList 0 (lo+m)
   rw [Array.toList_push]
   exact iY.mpr ⟨lo,c2,rfl,m0,r2,rfl⟩
  have back:∀ (m pw:Nat) (st2:SortSt),JI kd rk good a0 lo st2->aY rk (arrOf st2) lo (lo+m)->0<m->lo+m<=N->wpS (model P w) A E s (forIn [0:N] ((none:Option Unit),()) fun _ _=>do
     let p:=pendingOf (<-get)
     match (if p.size>1 then p[p.size - 2]? else none) with
     | some (_,_,older)=>if older<=pw then pure (ForInStep.done ((none:Option Unit),())) else do
       let r <-mAt (p.size - 2)
       if (!r)=true then pure (ForInStep.done (some (),())) else pure (ForInStep.yield ((none:Option Unit),()))
     | x=>pure (ForInStep.done ((none:Option Unit),())))
    (fun c st3=>c=(none,())/\JI kd rk good a0 lo st3/\aY rk (arrOf st3) lo (lo+m)) st2:=fun m pw st2 J2 R2 m0 m1=>by
   refine wpS_forRange (I:=fun _ c st3=>c=(none,())/\JI kd rk good a0 lo st3/\aY rk (arrOf st3) lo (lo+m)) ?_ (fun c st3 h=>h) ⟨rfl,J2,R2⟩
   rintro y c st3 _ hy ⟨rfl,J3,R3⟩
   refine wpS_bind (wpS_get ?_)
   dsimp only
   by_cases hs:(pendingOf st3).size>1
   ·rw [if_pos hs]
    obtain ⟨a1,a2,a3,ex⟩:∃ a1 a2 a3,(pendingOf st3)[(pendingOf st3).size - 2]?=some (a1,a2,a3):=⟨_,_,_,Array.getElem?_eq_getElem (by omega)⟩
    rw [ex]
    dsimp only
    by_cases c3:a3<=pw
    ·exact ifT c3 (wpS_pure ⟨rfl,J3,R3⟩)
    ·refine ifF c3 (wpS_bind (wj C J3 (by omega) (by omega) fun st4 J4 W4 _=>?_))
     exact ifF (by simp) (wpS_pure ⟨rfl,J4,nP W4 R3 (.inr (Yc _))⟩)
   ·rw [if_neg hs]
    exact wpS_pure ⟨rfl,J3,R3⟩
  by_cases c:n<mr
  ·refine ifT c (wpS_bind (wpS_lift (wpAny_rule ⟨rfl,?_⟩)))
   refine wpS_bind (R7 C ok2 n1 (show n<=min (N - lo) mr by omega) (by show lo+min (N - lo) mr<=b.size;rw [hw.size];omega) hr fun b2 hw2 hr2=>?_)
   refine ifF (by simp) ?_
   have W:Within (arrOf st') b2 lo (lo+(N - lo)):=hw.trans (hw2.wide (Yc _) (by omega))
   have J2:JI kd rk good a0 lo (setArr (setArr st' b) b2):=⟨ok2.arr hw2.perm,W.perm.trans J.perm,dH W J.cont (.inl (Yc _))⟩
   refine wpS_bind (wpS_get ?_)
   cases hbk:(pendingOf (setArr (setArr st' b) b2)).back? with
   | none=>exact wpS_bind (wpS_modify (wpS_pure ⟨_,rfl,fin (min (N - lo) mr) _ J2.ok J2.perm J2.cont hr2 (by omega) (by omega),by omega,by omega⟩))
   | some t=>
    obtain ⟨s1,l1,p1⟩:=t
    dsimp only
    refine wpS_bind (wpS_mono (back (min (N - lo) mr) _ _ J2 hr2 (by omega) (by omega)) ?_)
    rintro c st3 ⟨rfl,J3,R3⟩
    dsimp only
    refine wpS_bind (wpS_modify (wpS_bind (wpS_modify (wpS_pure ⟨_,rfl,fin (min (N - lo) mr) (setPending st3 _) (jG J3.ok) J3.perm ?_ R3 (by omega) (by omega),by omega,by omega⟩))))
    show Cont rk (arrOf st3) ((pendingOf st3).modify _ _).toList 0 lo
    rw [Array.toList_modify]
    refine @qY rk (arrOf st3) _ ?_ _ _ _ _ J3.cont
    exact fun _=>⟨rfl,rfl⟩
  ·refine ifF c ?_
   have J2:JI kd rk good a0 lo (setArr st' b):=⟨ok2,hw.perm.trans J.perm,dH hw J.cont (.inl (Yc _))⟩
   refine wpS_bind (wpS_get ?_)
   cases hbk:(pendingOf (setArr st' b)).back? with
   | none=>exact wpS_bind (wpS_modify (wpS_pure ⟨_,rfl,fin n _ J2.ok J2.perm J2.cont hr (by omega) (by omega),by omega,by omega⟩))
   | some t=>
    obtain ⟨s1,l1,p1⟩:=t
    dsimp only
    refine wpS_bind (wpS_mono (back n _ _ J2 hr (by omega) (by omega)) ?_)
    rintro c st3 ⟨rfl,J3,R3⟩
    dsimp only
    refine wpS_bind (wpS_modify (wpS_bind (wpS_modify (wpS_pure ⟨_,rfl,fin n (setPending st3 _) (jG J3.ok) J3.perm ?_ R3 (by omega) (by omega),by omega,by omega⟩))))
    show Cont rk (arrOf st3) ((pendingOf st3).modify _ _).toList 0 lo
    rw [Array.toList_modify]
    refine @qY rk (arrOf st3) _ ?_ _ _ _ _ J3.cont
    exact fun _=>⟨rfl,rfl⟩
 ·rintro c st' ⟨lo,rfl,J,hlo,hxl⟩
  have e:lo=N:=by omega
  subst e
  exact ⟨rfl,J⟩
 ·rintro c st' ⟨rfl,J⟩
  dsimp only
  refine wpS_bind (wpS_mono (wpS_forRange
   (I:=fun x c st2=>c=(none,())/\JI kd rk good a0 N st2/\(pendingOf st2).size+x<=N) (Q:=fun c st2=>c=(none,())/\JI kd rk good a0 N st2/\(pendingOf st2).size<=1) ?_ ?_ ⟨rfl,J,?_⟩) ?_)
  ·rintro x c st2 _ hx ⟨rfl,J2,hl⟩
   refine wpS_bind (wpS_get ?_)
   by_cases c1:(pendingOf st2).size<=1
   ·exact ifT c1 (wpS_pure ⟨rfl,J2,c1⟩)
   ·refine ifF c1 (wpS_bind (wj C J2 (by omega) ?_ fun st4 J4 _ e4=>ifF (by simp) (wpS_pure ⟨rfl,J4,by omega⟩)))
    exact Nat.lt_of_le_of_lt (Nat.add_le_add_right (Gf _) 1) (by omega)
  ·rintro c st2 ⟨rfl,J2,hl⟩
   exact ⟨rfl,J2,by omega⟩
  ·have:=pN J.cont
   simp at this
   omega
  ·rintro c st2 ⟨rfl,J2,hl⟩
   refine wpS_pure (q _ J2.perm J2.ok.failed ?_)
   have ct:=J2.cont
   match hl2:(pendingOf st2).toList,ct with
   | [],ct=>
    have ct:0=N:=ct
    omega
   | [(s1,l1,p1)],⟨_,_,r,e⟩=>
    have e:0+l1=N:=e
    rw [e] at r
    exact r
   | _::_::_,_=>
    have:=congrArg List.length hl2
    simp at this
    omega
end
end L2
namespace L2
open PySem PySem.Spec PyProof.Rows
def Hg:List Int->List Int->Option Bool
 | a::k,b::l=>if a=b then Hg k l else some (decide (a<b))
 | _,_=>none
theorem BR:∀ k l:List Int,(match Hg k l with | some r=>r | none=>decide (k.length<l.length))=decide (k<l)
 | [],[]=>by simp [Hg]
 | [],b::l=>by simp [Hg]
 | a::k,[]=>by simp [Hg]
 | a::k,b::l=>by
  unfold Hg
  by_cases e:a=b
  ·subst e
   rw [if_pos rfl]
   have:=BR k l
   simp only [List.length_cons,Nat.add_lt_add_iff_right]
   rw [this]
   exact decide_eq_decide.mpr (by rw [List.cons_lt_cons_iff];simp [Int.lt_irrefl])
  ·rw [if_neg e]
   exact decide_eq_decide.mpr (by rw [List.cons_lt_cons_iff];simp [e])
section
variable {P:Program}{w:World}{A:Around}{E:Value->Shared->Prop}{s:Shared}
def fU (h:Heap)(v:Value)(k:List Int):Prop:=∃ a o its n,v=.ref a/\h.get? a=some o/\o.cls=.type "tuple"/\o.data=.seq its n/\Vals (k.map V.int) its.toList
theorem G4 {a b:Int}{t u:Tok}{Q:Bool->Shared->Prop}(h:Q (decide (a<b)) s):wpAny (model P w) A (oneLt' false (.int a t) (.int b u)) Q E s:=by
 rw [oneLt'_eq]
 simp only [Bool.false_eq_true,if_false]
 exact XS (wpAny_richCompare_same (typeIs_int s a t) (typeIs_int s b u) slot_int_lt (call_int_lt ⟨by simp,wpAny_truthy_bool h⟩))
theorem Cg {f:(Value×Value)×Nat->Option Bool×Unit->Sem (ForInStep (Option Bool×Unit))}
  (hf:∀ (a b:Int) (t u:Tok) (i:Nat) (R:ForInStep (Option Bool×Unit)->Shared->Prop),R (if a=b then .yield (none,()) else .done (some (decide (a<b)),())) s->wpAny (model P w) A (f ((.int a t,.int b u),i) (none,())) R E s) :
  ∀ {k l:List Int} {ps qs:List Value} {j:Nat},Vals (k.map V.int) ps->Vals (l.map V.int) qs->∀ {R:Option Bool×Unit->Shared->Prop},R (Hg k l,()) s->wpAny (model P w) A (forIn ((ps.zip qs).zipIdx j) (none,()) f) R E s
 | [],l,ps,qs,j,hp,hq,R,q=>by
  cases hp
  rw [List.zip_nil_left,List.zipIdx_nil,List.forIn_nil]
  exact X3 q
 | a::k,[],ps,qs,j,hp,hq,R,q=>by
  cases hq
  rw [List.zip_nil_right,List.zipIdx_nil,List.forIn_nil]
  exact X3 q
 | a::k,b::l,ps,qs,j,hp,hq,R,q=>by
  cases hp with
  | cons r1 hp=>
   cases hq with
   | cons r2 hq=>
    obtain ⟨t,rfl⟩:=r1
    obtain ⟨u,rfl⟩:=r2
    rw [List.zip_cons_cons,List.zipIdx_cons,List.forIn_cons]
    refine XS (hf a b t u j _ ?_)
    unfold Hg at q
    by_cases e:a=b
    ·rw [if_pos e] at q |-
     exact Cg hf hp hq q
    ·rw [if_neg e] at q |-
     exact X3 q
theorem Ny {fo:Bool}{x y:Value}{k l:List Int}{Q:Bool->Shared->Prop}(hx:fU s.heap x k)(hy:fU s.heap y l)(q:Q (decide (k<l)) s):wpAny (model P w) A (keyLt' (tuples' fo) x y) Q E s:=by
 obtain ⟨a,o,its,n,rfl,ga,_,da,va⟩:=hx
 obtain ⟨b,u,jts,m,rfl,gb,_,db,vb⟩:=hy
 refine XS (listItems_at ga da (XS (listItems_at gb db (XS (Cg (fun c d t u i R hR=>?_) va vb ?_)))))
 ·dsimp only
  refine XS (wpAny_eqBool_int ?_)
  by_cases e:c=d
  ·rw [if_pos e] at hR
   rw [show (c==d)=true by simpa using e]
   exact X3 hR
  ·rw [if_neg e] at hR
   rw [show (c==d)=false by simpa using e]
   refine XS ?_
   cases hb:(fo&&i==0) with
   | true=>exact oneLt_int (X3 hR)
   | false=>exact G4 (X3 hR)
 ·have e:=BR k l
  have la:its.size=k.length:=by have:=va.length;simpa using this.symm
  have lb:jts.size=l.length:=by have:=vb.length;simpa using this.symm
  rw [<-e] at q
  dsimp only
  cases c:Hg k l with
  | some r=>rw [c] at q;exact X3 q
  | none=>rw [c] at q;rw [la,lb];exact X3 q
theorem Dc {x:Value}{i:Int}{k:List Int}{Q:Option Value->Shared->Prop}(hx:fU s.heap x (i::k))(q:∀ t,Q (some (.int i t)) s):wpAny (model P w) A (firstOfTuple' x) Q E s:=by
 obtain ⟨a,o,its,n,rfl,ga,ca,da,va⟩:=hx
 refine XS (wpAny_typeOf (T := "tuple") ⟨o,ga,ca⟩ ?_)
 rw [if_neg (by decide)]
 refine XS (listItems_at ga da ?_)
 obtain ⟨xs⟩:=its
 cases va with
 | cons r _=>
  obtain ⟨t,rfl⟩:=r
  exact X3 (q t)
theorem oU:∀ {vs:List Value} {ks:List (List Int)} {Q:List (Option Value)->Shared->Prop},Paired (fun k v=>fU s.heap v k) ks vs->(∀ k∈ks,k≠[])->(∀ us:List Value,us.length=vs.length->(∀ u∈us,∃ i t,u=.int i t)->Q (us.map some) s)->wpAny (model P w) A (vs.mapM firstOfTuple') Q E s
 | [],_,Q,h,_,q=>by
  cases h
  exact X3 (q [] rfl fun _ h=>nomatch h)
 | v::vs,ks,Q,h,hn,q=>by
  cases h with
  | @cons k _ ks' _ r h=>
   rw [List.mapM_cons]
   obtain ⟨i,k',rfl⟩:∃ i k',k=i::k':=List.exists_cons_of_ne_nil (hn k List.mem_cons_self)
   refine XS (Dc r fun t=>XS ?_)
   refine oU h (fun k hk=>hn k (X8 _ hk)) fun us hl hu=>X3 ?_
   refine q (.int i t::us) (by simp [hl]) fun u hm=>?_
   rcases List.mem_cons.mp hm with rfl | hm
   ·exact ⟨i,t,rfl⟩
   ·exact hu u hm
theorem rH:∀ {us:List Value} {Q:List Value->Shared->Prop},(∀ u∈us,∃ i t,u=Value.int i t)->Q (us.map fun _=>.type "int") s->wpAny (model P w) A (us.mapM typeOf) Q E s
 | [],Q,_,q=>X3 q
 | u::us,Q,h,q=>by
  rw [List.mapM_cons]
  obtain ⟨i,t,rfl⟩:=h u List.mem_cons_self
  exact XS (wpAny_typeOf (typeIs_int s i t) (XS (rH (fun v hv=>h v (X8 _ hv)) (X3 q))))
theorem HF {vs:List Value}{ks:List (List Int)}{Q:SortKind->Shared->Prop}(h:Paired (fun k v=>fU s.heap v k) ks vs)(hn:∀ k∈ks,k≠[])(h1:1<=vs.length)(q:Q (tuples' true) s):wpAny (model P w) A (keyKind' vs.toArray) Q E s:=by
 rw [keyKind'_eq,List.mapM_toArray]
 refine XS (wpAny_map ?_)
 refine oU h hn fun us hl hu=>?_
 rw [if_pos (by simp)]
 refine XS (wpAny_rule (XS ?_))
 have ef:(us.map some).toArray.filterMap id=us.toArray:=by
  rw [List.filterMap_toArray]
  simp
 rw [ef,oneTypeOnly'_eq,List.mapM_toArray]
 refine XS (wpAny_map (rH hu ?_))
 obtain ⟨u,us',rfl⟩:∃ u us',us=u::us':=List.exists_cons_of_ne_nil fun e=>by rw [e] at hl;simp at hl;omega
 show wpAny _ _ (pure (if _ then some (Value.type "int") else none)) _ _ s
 rw [if_pos (by simp)]
 exact X3 (X3 q)
end
section
variable {P:Program}{w:World}{A:Around}{E:Value->Shared->Prop}{s:Shared}
def rankOf (ks:List (List Int))(k:List Int):Nat:=ks.countP fun l=>decide (l<k)
theorem uW {k l:List Int}(h:k<l):∀ ks:List (List Int),rankOf ks k<=rankOf ks l/\(k∈ks->rankOf ks k<rankOf ks l)
 | []=>⟨Yc _,fun h=>nomatch h⟩
 | a::as=>by
  obtain ⟨i1,i2⟩:=uW h as
  unfold rankOf at *
  rw [List.countP_cons,List.countP_cons]
  by_cases c:a<k
  ·have c2:a<l:=List.lt_trans c h
   rw [if_pos (decide_eq_true c),if_pos (decide_eq_true c2)]
   refine ⟨by omega,fun hm=>?_⟩
   rcases List.mem_cons.mp hm with e | hm
   ·exact absurd c (by rw [e];exact List.lt_irrefl a)
   ·have:=i2 hm
    omega
  ·rw [if_neg (by simpa using c)]
   refine ⟨by split <;> omega,fun hm=>?_⟩
   rcases List.mem_cons.mp hm with e | hm
   ·subst e
    rw [if_pos (decide_eq_true h)]
    omega
   ·have:=i2 hm
    split <;> omega
theorem ql {ks:List (List Int)}{k l:List Int}(hk:k∈ks):rankOf ks k<rankOf ks l↔k<l:=by
 refine ⟨fun h=>?_,fun h=>(uW h ks).2 hk⟩
 refine Decidable.byContradiction fun c=>?_
 have c:l<=k:=List.not_lt.mp c
 by_cases e:l=k
 ·subst e;exact absurd h (Nat.lt_irrefl _)
 ·have c2:l<k:=Decidable.byContradiction fun c3=>e (List.le_antisymm c (List.not_lt.mp c3))
  exact absurd h (Nat.not_lt.mpr (uW c2 ks).1)
theorem fU.fn {h:Heap}{v:Value}{k l:List Int}(x:fU h v k)(y:fU h v l):k=l:=by
 obtain ⟨a,o,its,n,rfl,ga,_,da,va⟩:=x
 obtain ⟨b,u,jts,m,e,gb,_,db,vb⟩:=y
 cases e
 rw [ga] at gb
 cases gb
 rw [da] at db
 cases db
 have go:∀ {k l:List Int} {xs:List Value},Vals (k.map V.int) xs->Vals (l.map V.int) xs->k=l:=by
  intro k
  induction k with
  | nil=>
   intro l xs h1 h2
   cases h1
   cases l with
   | nil=>rfl
   | cons b l=>cases h2
  | cons a k ih=>
   intro l xs h1 h2
   cases h1 with
   | cons r1 h1=>
    cases l with
    | nil=>cases h2
    | cons b l=>
     cases h2 with
     | cons r2 h2=>
      obtain ⟨t,e1⟩:=r1
      obtain ⟨u,e2⟩:=r2
      rw [e1] at e2
      cases e2
      rw [ih h1 h2]
 exact go va vb
theorem fU.of {h h':Heap}{v:Value}{k:List Int}(x:fU h v k)(e:∀ b o,v=.ref b->o.cls=.type "tuple"->h.get? b=some o->h'.get? b=some o):fU h' v k:=by
 obtain ⟨a,o,its,n,rfl,ga,ca,r⟩:=x
 exact ⟨a,o,its,n,rfl,e a o rfl ca ga,ca,r⟩
open Classical in
noncomputable def rkV (h:Heap)(ks:List (List Int))(v:Value):Nat:=if e:∃ k,fU h v k then rankOf ks e.choose else 0
theorem sU {h:Heap}{ks:List (List Int)}{v:Value}{k:List Int}(x:fU h v k):rkV h ks v=rankOf ks k:=by
 unfold rkV
 have e:∃ k,fU h v k:=⟨k,x⟩
 rw [dif_pos e,e.choose_spec.fn x]
theorem M6 {fo:Bool}{ks:List (List Int)}:Cmp P w A s (tuples' fo) (rkV s.heap ks) (fun v=>∃ k∈ks,fU s.heap v k):=fun E Q x y ⟨k,hk,hx⟩ ⟨l,hl,hy⟩ q=>by
 refine Ny hx hy ?_
 rw [sU hx,sU hy] at q
 rw [<-decide_eq_decide.mpr (ql (ks:=ks) (l:=l) hk)]
 exact q
open Classical in
noncomputable def keyV (h:Heap)(v:Value):List Int:=if e:∃ k,fU h v k then e.choose else []
theorem p8 {h:Heap}{v:Value}{k:List Int}(x:fU h v k):keyV h v=k:=by
 unfold keyV
 have e:∃ k,fU h v k:=⟨k,x⟩
 rw [dif_pos e,e.choose_spec.fn x]
theorem keys_map {h:Heap}:∀ {ks:List (List Int)} {vs:List Value},Paired (fun k v=>fU h v k) ks vs->ks=vs.map (keyV h)/\∀ v∈vs,∃ k∈ks,fU h v k
 | [],_,p=>by cases p;exact ⟨rfl,fun _ h=>nomatch h⟩
 | k::ks,_,p=>by
  cases p with
  | cons r p=>
   obtain ⟨e,g⟩:=keys_map p
   refine ⟨by rw [X5,p8 r,<-e],fun v hv=>?_⟩
   rcases List.mem_cons.mp hv with rfl | hv
   ·exact ⟨k,List.mem_cons_self,r⟩
   ·obtain ⟨l,hl,x⟩:=g v hv
    exact ⟨l,X8 _ hl,x⟩
theorem pC {h:Heap}:∀ {vs:List Value},(∀ v∈vs,∃ k,fU h v k)->Paired (fun k v=>fU h v k) (vs.map (keyV h)) vs
 | [],_=>.nil
 | v::vs,g=>by
  obtain ⟨k,x⟩:=g v List.mem_cons_self
  exact .cons (by rw [p8 x];exact x) (pC fun u hu=>g u (X8 _ hu))
theorem Rp {h:Heap}{ks:List (List Int)}{vs:List Value}{b:Array Keyed}(p:Paired (fun k v=>fU h v k) ks vs)(hp:b.Perm (pairsOf vs))(hr:aY (rkV h ks) b 0 vs.length) :
  ∃ ks',Paired (fun k v=>fU h v k) ks' (b.map (·.2)).toList/\ks'.Perm ks/\ks'.Pairwise (· < ·)/\(b.map (·.2)).toList.Perm vs:=by
 obtain ⟨ek,g⟩:=keys_map p
 have hl:=Array.perm_iff_toList_perm.mp hp
 have ep:(pairsOf vs).toList=vs.map fun v=>(v,v):=by
  have z:∀ l:List Value,l.zip l=l.map fun v=>(v,v):=fun l=>by
   induction l with
   | nil=>rfl
   | cons a l ih=>rw [List.zip_cons_cons,ih];rfl
  unfold pairsOf
  rw [Array.toList_zip]
  exact z vs
 rw [ep] at hl
 have same:∀ x∈b.toList,x.1=x.2/\x.2∈vs:=fun x hx=>by
  obtain ⟨v,hv,rfl⟩:=List.mem_map.mp (hl.mem_iff.mp hx)
  exact ⟨rfl,hv⟩
 have eo:(b.map (·.2)).toList=b.toList.map (·.2):=by simp
 have po:(b.toList.map (·.2)).Perm vs:=by
  have:=hl.map (·.2)
  rw [List.map_map] at this
  simpa [Function.comp_def] using this
 rw [eo]
 refine ⟨(b.toList.map (·.2)).map (keyV h),pC fun v hv=>?_,?_,?_,po⟩
 ·obtain ⟨k,_,x⟩:=g v (po.mem_iff.mp hv)
  exact ⟨k,x⟩
 ·rw [ek]
  exact po.map _
 ·rw [List.map_map,List.pairwise_map,List.pairwise_iff_getElem]
  intro i j hi hj hij
  have hb:b.toList.length=vs.length:=by have:=po.length_eq;simpa using this
  have hi':i<b.size:=by simpa using hi
  have hj':j<b.size:=by simpa using hj
  have:=hr i j (Nat.zero_le _) hij (by rw [<-hb];exact hj)
  rw [dN hi',dN hj'] at this
  have e1:=same b[i] (by simp)
  have e2:=same b[j] (by simp)
  obtain ⟨k,hk,x⟩:=g b[i].2 e1.2
  obtain ⟨l,_,y⟩:=g b[j].2 e2.2
  rw [e1.1,e2.1,sU x,sU y,ql hk] at this
  show keyV h b.toList[i].2<keyV h b.toList[j].2
  rw [Array.getElem_toList,Array.getElem_toList,p8 x,p8 y]
  exact this
theorem eU {α β : Type}{F G:α->β->Prop}:∀ {as:List α} {bs:List β},Paired F as bs->(∀ a b,b∈bs->F a b->G a b)->Paired G as bs
 | [],_,h,_=>by cases h;exact .nil
 | a::as,_,h,g=>by
  cases h with
  | cons r h=>exact .cons (g _ _ List.mem_cons_self r) (eU h fun a b hb=>g a b (X8 _ hb))
theorem Im {h:Heap}{KS:List (List Int)}:∀ {ks:List (List Int)} {vs:List Value},Paired (fun k v=>fU h v k) ks vs->vs.map (rkV h KS)=ks.map (rankOf KS)
 | [],_,p=>by cases p;rfl
 | k::ks,_,p=>by
  cases p with
  | cons r p=>rw [X5,X5,sU r,Im p]
theorem Ky {ks:List (List Int)}(nd:ks.Nodup):(ks.map (rankOf ks)).Nodup:=by
 unfold List.Nodup
 rw [List.pairwise_map]
 refine List.Pairwise.imp_of_mem (fun {k l} hk hl ne e=>ne ?_) nd
 have n1:¬ k<l:=fun c=>by have:=(ql hk).mpr c;omega
 have n2:¬ l<k:=fun c=>by have:=(ql hl).mpr c;omega
 exact List.le_antisymm (List.not_lt.mp n2) (List.not_lt.mp n1)
theorem Hf {h:Heap}{KS ks:List (List Int)}{vs:List Value}(p:Paired (fun k v=>fU h v k) ks vs):((pairsOf vs).toList.map fun x=>rkV h KS x.1)=ks.map (rankOf KS):=by
 have ep:(pairsOf vs).toList.map (·.1)=vs:=by
  unfold pairsOf
  rw [Array.toList_zip,List.map_fst_zip (Yc _)]
 rw [<-Im p,<-ep,List.map_map,ep]
 rfl
theorem Ax {a:Addr}{vs:List Value}{ks:List (List Int)}{n:Nat}{R:Fin->Shared->Prop}(ho:s.heap.get? a=some (seqObj "list" vs.toArray n))(p:Paired (fun k v=>fU s.heap v k) ks vs)
  (hne:2<=vs.length->∀ k∈ks,k≠[]) (nd:ks.Nodup) (hz:vs.length<=sizeLine)
  (q:∀ (out:Array Value) (ks':List (List Int)),Paired (fun k v=>fU s.heap v k) ks' out.toList->ks'.Perm ks->ks'.Pairwise (· < ·)->out.toList.Perm vs->R (.done (.ret .none)) { s with heap:=sortedHeap s.heap a vs out }) :
  wpAny (model P w) A (Builtin.«list.sort» ⟨[.ref a],[]⟩) R E s:=by
 have la:a<s.heap.objs.size:=X4 ho
 rw [list_sort_plain]
 refine XS (listItems_at ho rfl (XS (listUpdate_at ho rfl ?_ (by simpa using hz) (Nat.zero_le _))))
 obtain ⟨e1,h1⟩:∃ e1,(s.heap.update a (Obj.mapSeq fun _=>#[])).get? a=some (seqObj "list" #[] e1):=⟨_,get?_update_seq ho (fun _=>#[])⟩
 refine XS (seqEpoch_at h1 rfl (XS (wpAny_newTuple (XS (wpAny_newList (wpAny_holding ?_))))))
 have h6:(((s.heap.update a (Obj.mapSeq fun _=>#[])).push (seqObj "tuple" vs.toArray 0)).push (seqObj "list" #[] 0)).get? a=some (seqObj "list" #[] e1):=Heap.get?_push_of_some _ (Heap.get?_push_of_some _ h1)
 have keep:∀ b o,o.cls=.type "tuple"->s.heap.get? b=some o->(((s.heap.update a (Obj.mapSeq fun _=>#[])).push (seqObj "tuple" vs.toArray 0)).push (seqObj "list" #[] 0)).get? b=some o:=fun b o hc hb=>by
  have ne:b≠a:=fun e=>by rw [e,ho] at hb;cases hb;simp at hc
  exact Heap.get?_push_of_some _ (Heap.get?_push_of_some _ ((Heap.get?_update_other _ _ (Ne.symm ne)).trans hb))
 have back:∀ {v:Value} {k:List Int},(∃ l,fU s.heap v l)->fU (((s.heap.update a (Obj.mapSeq fun _=>#[])).push (seqObj "tuple" vs.toArray 0)).push (seqObj "list" #[] 0)) v k->fU s.heap v k:=fun {v k} ⟨l,x⟩ y=>by
  have:=(x.of fun b o _ hc hb=>keep b o hc hb).fn y
  exact this ▸ x
 have p6:Paired (fun k v=>fU (((s.heap.update a (Obj.mapSeq fun _=>#[])).push (seqObj "tuple" vs.toArray 0)).push (seqObj "list" #[] 0)) v k) ks vs:=eU p fun k v _ x=>x.of fun b o _ hc hb=>keep b o hc hb
 have lk:ks.length=vs.length:=p.length
 show wpAny (model P w) A _ R E { s with heap:=((s.heap.update a (Obj.mapSeq fun _=>#[])).push (seqObj "tuple" vs.toArray 0)).push (seqObj "list" #[] 0) }
 dsimp only
 have size:vs.toArray.size=vs.length:=by simp
 have fin:∀ b:Array Keyed,b.Perm (pairsOf vs)->aY (rkV (((s.heap.update a (Obj.mapSeq fun _=>#[])).push (seqObj "tuple" vs.toArray 0)).push (seqObj "list" #[] 0)) ks) b 0 vs.length->R (.done (.ret .none)) { s with heap:=sortedHeap s.heap a vs (b.map (·.2)) }:=fun b hp hr=>by
  obtain ⟨ks',g1,g2,g3,g4⟩:=Rp p6 hp hr
  refine q _ ks' (eU g1 fun k v hv x=>back ?_ x) g2 g3 g4
  obtain ⟨l,_,y⟩:=(keys_map p).2 v (g4.mem_iff.mp hv)
  exact ⟨l,y⟩
 by_cases h2:vs.toArray.size<2
 ·rw [if_pos h2,if_pos h2]
  refine XS (X3 ?_)
  rw [StateT.run_pure]
  refine XS (X3 ?_)
  dsimp only
  refine XS (seqEpoch_at h6 rfl (XS (listUpdate_at h6 rfl ?_ (hsz2:=?_))))
  ·simp only [bne_self_eq_false,Bool.false_eq_true,if_false]
   refine X3 (fin (vs.toArray.zip vs.toArray) (Array.Perm.refl _) fun u v _ h3 h4=>?_)
   omega
  ·rw [Array.size_map]
   show (pairsOf vs).size<=_
   rw [pairsOf_size]
   omega
 ·rw [if_neg h2,if_neg h2]
  refine XS (HF p6 (hne (by omega)) (by omega) (XS ?_))
  have kk:=keys_map p6
  have ep:(pairsOf vs).toList.map (·.1)=vs:=by
   unfold pairsOf
   rw [Array.toList_zip,List.map_fst_zip (Yc _)]
  have ok:SOk (tuples' true) (rkV (((s.heap.update a (Obj.mapSeq fun _=>#[])).push (seqObj "tuple" vs.toArray 0)).push (seqObj "list" #[] 0)) ks) (fun v=>∃ k∈ks,fU (((s.heap.update a (Obj.mapSeq fun _=>#[])).push (seqObj "tuple" vs.toArray 0)).push (seqObj "list" #[] 0)) v k) (SortSt.mk' (tuples' true) (pairsOf vs) #[] 7 none):=⟨rfl,rfl,⟨fun x hx=>kk.2 x.1 (by rw [<-ep];exact List.mem_map.mpr ⟨x,hx,rfl⟩),by
   rw [Hf p6]
   exact Ky nd⟩⟩
  have zp:(pairsOf vs).size=vs.length:=pairsOf_size _
  refine wpAny_mono (Jg (s:={ s with heap:=((s.heap.update a (Obj.mapSeq fun _=>#[])).push (seqObj "tuple" vs.toArray 0)).push (seqObj "list" #[] 0) }) (Q:=fun _ st'=>(arrOf st').Perm (pairsOf vs)/\failedOf st'=none/\aY (rkV (((s.heap.update a (Obj.mapSeq fun _=>#[])).push (seqObj "tuple" vs.toArray 0)).push (seqObj "list" #[] 0)) ks) (arrOf st') 0 vs.length) M6 ok rfl (by show 2<=(pairsOf vs).size;omega) fun st' g1 g2 g3=>⟨g1,g2,by rw [<-zp];exact g3⟩) (fun r s' hr=>?_) fun _ _ e=>e
  ·obtain ⟨r1,st'⟩:=r
   obtain ⟨rfl,g1,g2,g3⟩:=hr
   dsimp only
   refine XS (seqEpoch_at h6 rfl (XS (listUpdate_at h6 rfl ?_ (hsz2:=?_))))
   ·rw [g2]
    simp only [bne_self_eq_false,Bool.false_eq_true,if_false]
    exact X3 (fin _ g1 g3)
   ·rw [Array.size_map,g1.size_eq,zp]
    omega
theorem yN {d:Addr}{es:Array DictEntry}{ep:Nat}{ks:List (List Int)}{Q:Value->Shared->Prop}(hh:A.handled=none)(nd0:(d==sysModules)=false)(x:za s.heap d es ep)(hz:es.size<=sizeLine)
  (p:Paired (fun k v=>fU s.heap v k) ks (es.toList.map (·.key))) (hne:2<=ks.length->∀ k∈ks,k≠[]) (nd:ks.Nodup)
  (q:∀ (h':Heap) (tk:Nat) (l:Addr) (out:Array Value) (ks':List (List Int)) (c:Nat),(∀ b o,s.heap.get? b=some o->h'.get? b=some o)->s.heap.objs.size<=l->h'.get? l=some (seqObj "list" out c)->Paired (fun k v=>fU s.heap v k) ks' out.toList->ks'.Perm ks->ks'.Pairwise (· < ·)->out.toList.Perm (es.toList.map (·.key))->Q (.ref l) { s with heap:=h',toks:=tk }) :
  wpAny (model P w) A (call (.builtin "sorted") [.ref d]) Q E s:=by
 have lk:ks.length=(es.toList.map (·.key)).length:=p.length
 have le:(es.toList.map (·.key)).length=es.size:=by simp
 refine Calls.call_function_entry kind_sorted plain_sorted entry_sorted (args_sorted1 _) ?_
 unfold Builtin.«sorted»
 refine XS (m:=checkCount "sorted" 1 1 _) (X3 ?_)
 refine XS (lR hh nd0 x hz fun h1 tk k1 lt1=>XS (wpAny_newList ?_))
 have ho:(h1.push (seqObj "list" (es.toList.map (·.key)).toArray 0)).get? h1.objs.size=some (seqObj "list" (es.toList.map (·.key)).toArray 0):=Heap.get?_push_size _ rfl
 have sz:s.heap.objs.size<=h1.objs.size:=Nat.le_of_lt lt1
 have k2:∀ b o,s.heap.get? b=some o->(h1.push (seqObj "list" (es.toList.map (·.key)).toArray 0)).get? b=some o:=fun b o hb=>Heap.get?_push_of_some _ (k1 b o hb)
 have p2:Paired (fun k v=>fU (h1.push (seqObj "list" (es.toList.map (·.key)).toArray 0)) v k) ks (es.toList.map (·.key)):=eU p fun k v _ y=>y.of fun b o _ _ hb=>k2 b o hb
 show wpAny _ _ _ _ _ { s with heap:=h1.push (seqObj "list" (es.toList.map (·.key)).toArray 0),toks:=tk }
 refine XS (wpAny_holding (wpAny_call_entry slot_list_sort ⟨_,ho,rfl⟩ entry_list_sort (Ax (s:={ s with heap:=h1.push (seqObj "list" (es.toList.map (·.key)).toArray 0),toks:=tk }) ho p2 (fun h=>hne (by omega)) nd (by rw [le];exact hz) fun out ks' g1 g2 g3 g4=>⟨_,rfl,X3 ⟨_,rfl,?_⟩⟩) (args_list_sort _)))
 obtain ⟨c,e⟩:=sortedHeap_at (a:=h1.objs.size) (vs:=es.toList.map (·.key)) (out:=out) ho
 refine q _ tk _ out ks' c (fun b o hb=>?_) sz e ?_ g2 g3 g4
 ·have lt:=X4 (k1 b o hb)
  rw [sortedHeap_old (Yg lt) (Yd lt (by rw [size_push'];exact Nat.le_succ _))]
  exact k2 b o hb
 ·refine eU g1 fun k v hv y=>?_
  obtain ⟨l,_,z⟩:=(keys_map p).2 v (g4.mem_iff.mp hv)
  have:=(z.of fun b o _ _ hb=>k2 b o hb).fn y
  exact this ▸ z
end
end L2
namespace L2
open PySem PySem.Spec PyProof.Rows
theorem Hq {α β : Type}{f:α->β}{l l':List β}(h:l'.Perm l):∀ {xs:List α},l=xs.map f->∃ ys:List α,ys.Perm xs/\l'=ys.map f:=by
 induction h with
 | nil=>
  intro xs e
  cases xs with
  | nil=>exact ⟨[],.refl _,rfl⟩
  | cons x xs=>simp at e
 | cons a h ih=>
  intro xs e
  cases xs with
  | nil=>simp at e
  | cons x xs=>
   rw [X5] at e
   obtain ⟨e1,e2⟩:=List.cons.inj e
   obtain ⟨ys,p,e3⟩:=ih e2
   exact ⟨x::ys,p.cons x,by rw [X5,<-e1,<-e3]⟩
 | swap a b l=>
  intro xs e
  match xs with
  | []=>simp at e
  | [x]=>simp at e
  | x::y::xs=>
   rw [X5,X5] at e
   obtain ⟨e1,e2⟩:=List.cons.inj e
   obtain ⟨e2,e3⟩:=List.cons.inj e2
   exact ⟨y::x::xs,.swap x y xs,by rw [X5,X5,<-e1,<-e2,<-e3]⟩
 | trans h1 h2 i1 i2=>
  intro xs e
  obtain ⟨ys,p,e1⟩:=i2 e
  obtain ⟨zs,p2,e2⟩:=i1 e1
  exact ⟨zs,p2.trans p,e2⟩
section
variable {X:Cx}{K:Yh}
theorem MK {pins:List (Addr×Obj)}{Z : St}{H:Hp}{s:Shared}{b:Addr}{k:List Int}(I:Inv X pins Z H s)(h:SqT X.K H b (k.map V.int)):fU s.heap (.ref b) k:=by
 obtain ⟨its,r,⟨o,ho,hc,n,hd⟩,_⟩:=I.tuple h
 exact ⟨b,o,its.toArray,n,rfl,ho,hc,hd,by simpa using r⟩
def vo (ks:List (List Int)):Prop:=2<=ks.length->∀ k∈ks,k≠[]
theorem yq (hc:X.calm=true):iw X (.builtin "sorted") (fun vs H Q=>∃ a xs,vs=[.ref a]/\H a=some (.ext (vO a xs))/\zE X.K H xs/\vo (xs.map (·.1)) /\
  ∀ ys:List (List Int×Addr×Value),ys.Perm xs->(ys.map (·.1)).Pairwise (· < ·)->∀ l,H l=none->Q (.ref l) (upd H l (.lst (ys.map fun y=>V.ref y.2.1)))):=by
 intro pins s Z H vs us Q I r ⟨a,xs,ev,hx,hk,c1,q⟩
 subst ev
 obtain ⟨u,rfl,ru⟩:=vals1 r
 cases ru
 obtain ⟨⟨z,y,nd,o,es,ep,g1,g2,g3,g4⟩,_⟩:=I.hok a _ hx
 have ek:es.toList.map (·.key)=xs.map fun x=>Value.ref x.2.1:=by
  rw [g4,List.map_map]
  rfl
 have p:∀ zs:List (List Int×Addr×Value),(∀ x∈zs,x∈xs)->Paired (fun k v=>fU s.heap v k) (zs.map (·.1)) (zs.map fun x=>Value.ref x.2.1):=fun zs hz=>by
  induction zs with
  | nil=>exact .nil
  | cons x zs ih=>exact .cons (MK I (hk x (hz x List.mem_cons_self))) (ih fun y hy=>hz y (X8 _ hy))
 have le:es.size=xs.length:=by rw [<-Array.length_toList,g4,X6]
 refine yN (I.ok.hd hc) y ⟨o,g1,g2,g3⟩ (by rw [le];exact z) (ks:=xs.map (·.1)) (by rw [ek];exact p xs fun _ h=>h) (show 2<=(xs.map (·.1)).length->∀ k∈xs.map (·.1),k≠[] from c1) nd fun h' tk l out ks' c keep hl e pr pm pw po=>?_
 rw [ek] at po
 obtain ⟨ys,py,eo⟩:=Hq po rfl
 have hy:=p ys fun x hx=>py.mem_iff.mp hx
 have eks:ks'=ys.map (·.1):=by
  rw [eo] at pr
  exact (keys_map pr).1.trans (keys_map hy).1.symm
 rw [eks] at pw
 refine ⟨.ref l,_,I.laid (t':=tk) keep hl (show cZ X.prog X.w _ h' _ (.lst (ys.map fun y=>V.ref y.2.1)) from ⟨by rw [X6,py.length_eq];exact z,out.toList,c,?_,by simpa using e⟩),rfl,q ys py pw l (I.hok.fresh hl)⟩
 rw [eo]
 clear eo pr eks pw hy py po
 induction ys with
 | nil=>exact .nil
 | cons y ys ih=>exact .cons rfl ih
def wI:MC:=fun ws h Q=>match ws with
 | [.loc n]=>(match h.c n with
  | some (.dtt kvs)=>vo (kvs.map (·.1))/\∀ ks:List (List Int),ks.Perm (kvs.map (·.1))->ks.Pairwise (· < ·)->Q (.lst (ks.map fun k=>.tup (k.map .int))) h
  | _=>False)
 | _=>False
theorem Mf (hc:X.calm=true):jM X (.builtin "sorted") wI:=⟨_,yq hc,by
 intro H μ h vs ws Qw Q R r m k
 unfold wI at m
 split at m
 ·rename_i n
  split at m
  ·rename_i kvs ec
   obtain ⟨p,xs,vs',hp,hx,e1,e2,r3,r4⟩:=R.dttAt ec
   obtain ⟨v,rfl,r1⟩:=iH r
   rw [Rep] at r1
   obtain ⟨p',rfl,hp'⟩:=r1
   have ep:p'=p:=by rw [hp] at hp';exact (Option.some.inj hp').symm
   subst ep
   obtain ⟨m1,m2⟩:=m
   rw [e1] at m1 m2
   refine ⟨p',xs,rfl,hx,gH e1 r3,m1,fun ys py pw l hl=>?_⟩
   refine k _ _ ⟨μ,_,h,(Ex.laid hl).ext,R.laid hl,?_,m2 (ys.map (·.1)) (py.map _) pw⟩
   refine .lstNew R hl ?_
   have kk:=gH e1 r3
   have go:∀ zs:List (List Int×Addr×Value),(∀ z∈zs,z∈xs)->aJ X.K H μ ((zs.map (·.1)).map fun k=>W.tup (k.map .int)) (zs.map fun y=>V.ref y.2.1):=fun zs hz=>by
    induction zs with
    | nil=>exact .nil
    | cons z zs ih=>
     refine aJ.cons ?_ (ih fun y hy=>hz y (X8 _ hy))
     rw [Rep]
     exact ⟨z.2.1,z.1.map V.int,rfl,kk z (hz z List.mem_cons_self),nA _⟩
   exact go ys fun z hz=>py.mem_iff.mp hz
  ·exact m.elim
 ·exact m.elim⟩
end
section
variable {X:Cx}{o e1 e2:Expr}{mo:ME}{ma:MA}{apos cpos:Pos}
def Ac:MM:=fun x ws h Q=>match x,ws with
 | .loc n,[y,z]=>(match h.c n,Jo y with
  | some (.dtt kvs),some k=>Q ((vq kvs k).getD z) h
  | _,_=>False)
 | _,_=>False
def Cw (h:Gh)(x:W)(P:Prop):Prop:=match x with
 | .loc n=>(match h.c n with
  | some (.dtt _)=>P
  | _=>False)
 | _=>False
def U4 (r:MM)(mo:ME)(ma:MA):ME:=fun Z h Q=>mo Z h fun x h1=>Cw h1 x (ma Z h1 fun xs h2=>r x xs h2 Q)
theorem RM (hu:X.A.units+30<cLine)(ho:DE X o mo)(ha:DAs X [e1,e2] ma)
  (hbase:attributeBase o "get" X.env (eval o X.env)=eval o X.env:=by rfl)
  (hfew:((backTo cpos (starEach [e1,e2] X.env)).all (fun x=>!x.1)&&(backToKw cpos (keywordEach [] X.env)).all (fun x=>x.1.isSome)
   && decide (([e1,e2]:List Expr).length+([]:List Keyword).length+(if ([]:List Keyword).isEmpty then 0 else 1)<30))=true:=by rfl)
  (hline:(apos.endLine==cpos.line)=true:=by rfl) (hst:starEach [e1,e2] X.env=(false,eval e1 X.env)::starEach [e2] X.env:=by rfl) (hplain:(backTo cpos (starEach [e2] X.env)).any (·.1)=false:=by rfl) :
  DE X (.Call (.Attribute o "get" apos) [e1,e2] [] cpos) (U4 Ac mo ma):=by
 intro pins s Z H Q I ⟨μ,h,Zw,Qw,R,S,m,k⟩
 refine wpAny_Call_method_late hbase hfew hline rfl (thn (ho pins s Z H _ I ⟨μ,h,Zw,_,R,S,m,fun _ _ z=>z⟩) fun u s1 ⟨x,H1,I1,rx,μ1,wx,h1,e1',R1,r1,il⟩=>?_)
 unfold Cw at il
 dsimp only at il
 split at il
 ·rename_i n
  split at il
  ·rename_i kv0 ec0
   have r0:=r1
   rw [Rep] at r1
   obtain ⟨a,rfl,ha'⟩:=r1
   obtain rfl:u=Value.ref a:=rx
   obtain ⟨p,xs,vs,hp,hx,_⟩:=R1.dttAt ec0
   have ep:p=a:=by rw [ha'] at hp;exact (Option.some.inj hp).symm
   subst ep
   obtain ⟨⟨z,y,nd,ob,es,epo,g1,g2,g3,g4⟩,_⟩:=I1.hok p _ hx
   refine ⟨"dict", "dict.get",PySem.F.plainAttrs_dict,PySem.F.slot_dict_get,PySem.F.type_dict_get,⟨ob,g1,g2.1⟩,fun b e=>by cases e;exact ⟨ob,g1,g2.2.1⟩,?_⟩
   have hA:=ha cpos pins s1 Z H1 _ I1 ⟨μ1,h1,Zw,_,R1,S.ext e1',il,fun _ _ z=>z⟩
   rw [hst] at hA |-
   refine Calls.callWith_builtin (by show (false||(backTo cpos (starEach [e2] X.env)).any (·.1))=false;rw [hplain] <;> rfl) (Calls.evalArgs_plain ?_)
   refine thn hA fun us s2 ⟨ys,H2,I2,r2,μ2,ws,h2,e2',R2,rs,m2⟩=>?_
   unfold Ac at m2
   dsimp only at m2
   split at m2
   ·rename_i n' y' z' e3
    cases e3
    split at m2
    ·rename_i kvs kk ec ek
     obtain ⟨v1,v2,rfl,ry,rz⟩:=Cr rs
     obtain ⟨b,rfl,hb⟩:=lH ry ek
     obtain ⟨u1,u2,rfl,ru1,ru2⟩:=vals2 r2
     cases ru1
     obtain ⟨p2,xs2,vs2,hp2,hx2,q1,q2,q3,q4⟩:=R2.dttAt ec
     have r0':=e2'.r _ _ r0
     rw [Rep] at r0'
     obtain ⟨a2,ea,ha2⟩:=r0'
     cases ea
     have ep2:p2=p:=by rw [ha2] at hp2;exact (Option.some.inj hp2).symm
     subst ep2
     obtain ⟨_,hd2,dd⟩:=uN I2 hx2 (gH q1 q3)
     obtain ⟨t1,t2⟩:=qW q1 q2 q4 kk
     refine call_meetsIn PySem.F.slot_dict_get dd.typeIs PySem.F.entry_dict_get (PySem.F.args_dict_get_3 _ _ _) (meetsH_dict_get_default (tupleKind (intKind X.prog X.w)) p2 b hd2 u2) ⟨tupleKind_room_in1 (by omega),kk,xs2,tZ I2 hb,dd,?_⟩
     cases ev:vq kvs kk with
     | some wv=>
      rw [ev] at m2
      obtain ⟨pp,v,a1,a2,a3⟩:=t1 wv ev
      rw [a1]
      exact ⟨v,H2,I2.tok _,a2,k _ _ ⟨μ2,wv,h2,e1'.trans e2',R2,a3,m2⟩⟩
     | none=>
      rw [ev] at m2 t2
      have a1:atKey xs2 kk=none:=by
       cases e:atKey xs2 kk with
       | none=>rfl
       | some _=>rw [e] at t2;cases t2
      rw [a1]
      exact ⟨v2,H2,I2.tok _,ru2,k _ _ ⟨μ2,z',h2,e1'.trans e2',R2,rz,m2⟩⟩
    ·exact m2.elim
   ·exact m2.elim
  ·exact il.elim
 ·exact il.elim
end
end L2
namespace L2
open PySem PySem.Spec PyProof.Rows
section
variable {X:Cx}{K:Yh}
variable {o e:Expr}{mo:ME}{ma:MA}{apos cpos:Pos}
end
end L2
namespace L2
open PySem PySem.Spec PyProof.Rows
section
variable {prog:Program}{w:World}{A:Around}{R:Result->Shared->Prop}{E:Value->Shared->Prop}{L I:Addr}{ns:List Int}{its:List Value}
theorem tR (a d:Value):argsOk "max" ⟨[a],[("default",d)]⟩:=by unfold argsOk;kernel_rfl
def Gr (ns:List Int)(j:Nat)(b:Int):Prop:=b∈ns/\∀ k,k<j->ns.getD k 0<=b
theorem Dk {d:Value}(hh:A.handled=none)(hne:L≠I)(rv:Vals (ns.map V.int) its)(S:Addr)(hS1:S≠I)(hS2:S≠L) :
  ∀ (k j:Nat) (s:Shared) (c:Nat) (old:Array Value),ns.length - j=k->j<=ns.length->s.heap.IsListIter I L j->s.heap.IsList L its.toArray ->
  (j=0/\old = #[]\/∃ b t,Gr ns j b/\old = #[.int b t,.int b t]) ->
  s.heap.get? S=some { cls:=.type "list",dict:=none,data:=.seq old c,slots:=#[] } ->
  (∀ v h' tk,(ns=[]/\v=d\/∃ b t,Gr ns ns.length b/\v=.int b t)->(∀ b o,b≠I->b≠S->s.heap.get? b=some o->h'.get? b=some o)->R (.ok (.ret v)) { s with heap:=h',toks:=tk }) ->
  codeAny (model prog w) A (.builtin "max.loop" ⟨[.ref I,.none,.ref S],[("default",d)]⟩) R s:=by
 have hlen:its.length=ns.length:=by rw [<-rv.length,X6]
 have hname:(toString "max"++toString ".loop" : String) = "max.loop":=by decide
 have W:=Walks.list (prog:=prog) (w:=w) (A:=A.in1) hh I L hne its.toArray
 intro k
 induction k with
 | zero=>
  intro j s c old hk hj i1 i2 ho hS hR
  have ej:j=ns.length:=by omega
  refine codeAny_builtin F.entry_max_loop ?_
  rw [Around.under_plainId F.plain_max_loop _]
  show wpAny _ A.in1 (seqItems? (.ref S) >>= _) _ _ s
  refine XS (wpAny_seqItems hS rfl ?_)
  show wpAny _ A.in1 (tryCatch (pyNext (.ref I)) _ >>= _) _ _ s
  refine XS (wpAny_tryCatch (W.done s _ _ ⟨by rw [Yb,hlen,<-ej];exact i1,i2⟩ fun h' tk hk'=>?_))
  rcases ho with ⟨z,rfl⟩ | ⟨b,t,hb,rfl⟩
  ·have en:ns=[]:=List.length_eq_zero_iff.mp (by omega)
   show wpAny _ A.in1 (rule _ >>= _) _ _ _
   refine XS (wpAny_rule (X3 ?_))
   exact hR d h' tk (.inl ⟨en,rfl⟩) fun b o h1 h2 e=>hk' b o (by simpa using h1) e
  ·have hS':=hk' S _ (by simpa using hS1) hS
   show wpAny _ A.in1 (updateSeq S (fun _=>#[]) >>= _) _ _ _
   refine XS ?_
   refine wpAny_updateSeq hS' rfl (XS (wpAny_letGo (X3 ?_)))
   exact hR _ _ tk (.inr ⟨b,t,ej ▸ hb,rfl⟩) fun b o h1 h2 e=>(Heap.get?_update_other _ _ (Ne.symm h2)).trans (hk' b o (by simpa using h1) e)
 | succ k ih=>
  intro j s c old hk hj i1 i2 ho hS hR
  have hlt:j<ns.length:=by omega
  refine codeAny_builtin F.entry_max_loop ?_
  rw [Around.under_plainId F.plain_max_loop _]
  show wpAny _ A.in1 (seqItems? (.ref S) >>= _) _ _ s
  refine XS (wpAny_seqItems hS rfl ?_)
  show wpAny _ A.in1 (tryCatch (pyNext (.ref I)) _ >>= _) _ _ s
  refine XS (wpAny_tryCatch (W.item j s _ _ (by rw [Yb,hlen];exact hlt) ⟨i1,i2⟩ fun v h' tk hP hst' hk'=>?_))
  obtain ⟨u,ev⟩:=pU (i:=j) (v:=v) rv (by simpa using hP)
  have hS':=hk' S _ (by simpa using hS1) hS
  have hm:ns.getD j 0∈ns:=by rw [List.getD_eq_getElem?_getD,List.getElem?_eq_getElem hlt];exact List.getElem_mem _
  have go:∀ (h1:Heap) (c':Nat) (b:Int) (t:Tok),Gr ns (j+1) b->h1.get? S=some { cls:=.type "list",dict:=none,data:=.seq #[.int b t,.int b t] c',slots:=#[] } ->
    (∀ b o,b≠S->h'.get? b=some o->h1.get? b=some o) ->
    codeAny (model prog w) A (.builtin "max.loop" ⟨[.ref I,.none,.ref S],[("default",d)]⟩) R { s with heap:=h1,toks:=tk }:=fun h1 c' b t hb h3 h4=>by
   have st:=W.frame _ _ h1 hst' fun b hb o e=>h4 b o (fun z=>by
    subst z
    rcases List.mem_cons.mp hb with q | q
    ·exact hS1 q
    ·exact hS2 (by simpa using q)) e
   exact ih (j+1) _ c' _ (by omega) hlt st.1 st.2 (.inr ⟨b,t,hb,rfl⟩) h3 fun v h2 tk2 hv hk2=>hR v h2 tk2 hv fun b o n1 n2 e=>hk2 b o n1 n2 (h4 b o n2 (hk' b o (by simpa using n1) e))
  rcases ho with ⟨z,rfl⟩ | ⟨b,t,hb,rfl⟩
  ·show wpAny _ A.in1 (updateSeq S (fun _=>#[v,v]) >>= _) _ _ _
   refine XS ?_
   refine wpAny_updateSeq hS' rfl ?_
   rw [hname]
   subst ev
   refine X3 ⟨plainId_quiet F.plain_max_loop _,go _ _ _ _ ⟨hm,fun k hk=>?_⟩ (Heap.get?_update_self _ hS' rfl) fun b o n e=>(Heap.get?_update_other _ _ (Ne.symm n)).trans e⟩
   have:k=j:=by omega
   rw [this]
   exact Int.le_refl _
  ·subst ev
   show wpAny _ A.in1 (tryCatch (holding [_,_] (richCompare .Gt _ _ >>= _)) _ >>= _) _ _ _
   refine XS (wpAny_tryCatch (wpAny_holding (XS (CmpOf.ints_gt (P:=fun i v=>∃ t,v=.int (if i=0 then ns.getD j 0 else b) t) (fun i=>if i=0 then ns.getD j 0 else b) (fun _ _ h=>h) 0 1 _ _ _ _ _ ⟨u,rfl⟩ ⟨t,rfl⟩ ?_))))
   refine XS (wpAny_holding (wpAny_truthy_bool ?_))
   refine XS (wpAny_letGo (X3 ?_))
   by_cases q:ns.getD j 0>b
   ·rw [if_pos (by simpa using q)]
    refine XS ?_
    refine wpAny_updateSeq hS' rfl (XS (wpAny_letGo ?_))
    rw [hname]
    refine X3 ⟨plainId_quiet F.plain_max_loop _,go _ _ _ _ ⟨hm,fun k hk=>?_⟩ (Heap.get?_update_self _ hS' rfl) fun b o n e=>(Heap.get?_update_other _ _ (Ne.symm n)).trans e⟩
    by_cases h:k<j
    ·have:=hb.2 k h;omega
    ·have:k=j:=by omega
     rw [this]
     exact Int.le_refl _
   ·rw [if_neg (by simpa using q)]
    refine XS (wpAny_letGo ?_)
    rw [hname]
    refine X3 ⟨plainId_quiet F.plain_max_loop _,go h' c b t ⟨hb.1,fun k hk=>?_⟩ hS' fun b o n e=>e⟩
    by_cases h:k<j
    ·exact hb.2 k h
    ·have:k=j:=by omega
     rw [this]
     omega
theorem BP {s:Shared}{d:Value}{Q:Value->Shared->Prop}(hh:A.handled=none)(rv:Vals (ns.map V.int) its)(hl:s.heap.IsList L its.toArray)
  (hQ:∀ v h' tk,(ns=[]/\v=d\/∃ b t,Gr ns ns.length b/\v=.int b t)->(∀ b o,s.heap.get? b=some o->h'.get? b=some o)->Q v { s with heap:=h',toks:=tk }) :
  wpAny (model prog w) A (call (.builtin "max") [.ref L] [("default",d)]) Q E s:=by
 have hname:(toString "max"++toString ".loop" : String) = "max.loop":=by decide
 have hlt:L<s.heap.objs.size:=by obtain ⟨_,e,_⟩:=hl;exact X4 e
 refine wpAny_call (codeAny_call_builtin F.plain_max F.entry_max ?_)
 simp only [checkBuiltinCall,F.kind_max]
 have hc:wpAny (model prog w) A.in1 (Builtin.«max» ⟨[.ref L],[("default",d)]⟩) (fun fin s'=>match fin with
   | .done f=>(match (Except.ok f:Result) with | .ok (.ret v)=>Q v s' | .ok _=>False | .error e=>E e s')
   | .again c'=>c'.quiet=true/\codeAny (model prog w) A c' (fun r s'=>match r with | .ok (.ret v)=>Q v s' | .ok _=>False | .error e=>E e s') s') E s:=by
  show wpAny _ A.in1 (Builtin.Builtins.bindParams "max" ["key", "default"] 0 ⟨[],[("default",d)]⟩ >>= _) _ _ s
  refine XS (wpAny_of_eq (show Builtin.Builtins.bindParams "max" ["key", "default"] 0 ⟨[],[("default",d)]⟩=pure [none,some d] from rfl) ?_)
  refine XS (X3 ?_)
  refine XS (wpAny_pyIter_list hl ?_)
  refine XS (wpAny_newObj_type ?_)
  rw [hname]
  have n1:(s.heap.push { cls:=.type "list_iterator",data:=.fields #[.ref L,.int 0 0] }).objs.size=s.heap.objs.size+1:=Heap.size_push ..
  refine X3 ⟨plainId_quiet F.plain_max_loop _,Dk hh (Yg hlt) rv _ (Ne.symm (Yg (by rw [n1];exact Nat.lt_succ_self _))) (Ne.symm (Yg (by rw [n1];exact Nat.lt_succ_of_lt hlt))) _ 0 _ 0 #[] rfl (Nat.zero_le _) ?_ ?_ (.inl ⟨rfl,rfl⟩) (Heap.get?_push_size _ rfl) fun v h' tk hv hk=>?_⟩
  ·exact ⟨_,Heap.get?_push_of_some _ (Heap.get?_push_size _ rfl),rfl,rfl⟩
  ·exact (hl.push _).push _
  ·exact hQ v h' tk hv fun b o e=>hk b o (Yg (X4 e)) (Yg (by rw [n1];exact Nat.lt_succ_of_lt (X4 e))) (Heap.get?_push_of_some _ (Heap.get?_push_of_some _ e))
 cases hsig:Manifest.signature? "max" with
 | none=>exact X3 hc
 | some sig=>
  have h2:Bind.checkArgs "max" sig ⟨[.ref L],[("default",d)]⟩=pure ():=by have:=tR (.ref L) d;simpa only [argsOk,hsig] using this
  simp only [h2]
  exact X3 hc
end
section
variable {X:Cx}
def Rn (X:Cx):List V->Hp->VK->Prop:=fun xs H Q=>∃ (p:Addr) (ns:List Int),xs=[.ref p]/\SqL X.K H p (ns.map V.int)/\∀ M,(ns=[]/\M=0\/M∈ns/\∀ a,a∈ns->a<=M)->Q (.int M) H
theorem M8 {x:Str}{p pos cp kp:Pos}{e:Expr}{j:Nat}{t:TA}(hc:X.calm=true)(hg:Gl X x)(hm:X.mg x=none)(hv:bootBuiltins x=some (.builtin "max"))(ha:PA X [e] t)
  (hn:x ≠ "__name__":=by decide) (hdb:(x==("__debug__" : Str))=false:=by decide)
  (he:starEach [e] X.env=(false,eval e X.env)::starEach [] X.env:=by rfl):PE X (.Call (.Name x p) [e] [⟨some "default",.Constant (.int 0) j cp,kp⟩] pos) (tCB (Rn X) t):=by
 intro pins s Z H Q I h
 refine wpAny_Call_Name_kw (iW I hg hm hv ?_ hn hdb)
 refine callWith_kw (thn (ha pos pins s Z H _ I h) fun us s1 ⟨vs,H1,I1,r1,q1⟩=>?_) (by rw [he];rfl) (by rw [he];rfl)
 refine kws_cons (wpAny_Constant_int (kws_nil ?_))
 obtain ⟨q,ns,e1,hS,hq⟩:=q1
 subst e1
 obtain ⟨u,rfl,ru⟩:=vals1 r1
 cases ru
 have I2:=I1.tok (s1.toks+1)
 obtain ⟨its,rv,pl,hz⟩:=I2.list hS
 refine BP (I2.ok.hd hc) rv pl.isList fun v h' tk hv hk=>?_
 rcases hv with ⟨en,rfl⟩ | ⟨b,t,hb,rfl⟩
 ·exact ⟨.int 0,H1,I2.kept (h':=h') (t':=tk) hk,⟨_,rfl⟩,hq _ (.inl ⟨en,rfl⟩)⟩
 ·refine ⟨.int b,H1,I2.kept (h':=h') (t':=tk) hk,⟨_,rfl⟩,hq _ (.inr ⟨hb.1,fun a ha=>?_⟩)⟩
  obtain ⟨k,hk,e⟩:=List.mem_iff_getElem.mp ha
  have:=hb.2 k hk
  rw [List.getD_eq_getElem?_getD,List.getElem?_eq_getElem hk] at this
  rw [<-e]
  exact this
def Cd:MC:=fun ws h Q=>match ws with
 | [w]=>(match dU h w with
  | some us=>∃ ns:List Int,us=ns.map W.int/\∀ M,(ns=[]/\M=0\/M∈ns/\∀ a,a∈ns->a<=M)->Q (.int M) h
  | none=>False)
 | _=>False
theorem Rb:SJ X.K (Rn X) Cd:=by
 intro H μ h vs ws Qw Q R r m k
 unfold Cd at m
 split at m
 ·split at m
  ·rename_i w us ev
   obtain ⟨v,e,rv⟩:=iH r
   obtain ⟨p,ys,ex,hs,rs⟩:=cG R rv ev
   obtain ⟨ns,eu,m⟩:=m
   subst e ex
   rw [eu] at rs
   have:=jJ rs
   subst this
   exact ⟨p,ns,rfl,hs,fun M hM=>k _ _ (.int R (m M hM))⟩
  ·exact m.elim
 ·exact m.elim
theorem RB {x:Str}{p pos cp kp:Pos}{e:Expr}{j:Nat}{ma:MA}(hc:X.calm=true)(hg:Gl X x)(hm:X.mg x=none)(hv:bootBuiltins x=some (.builtin "max"))(ha:DAs X [e] ma)
  (hn:x ≠ "__name__":=by decide) (hdb:(x==("__debug__" : Str))=false:=by decide)
  (he:starEach [e] X.env=(false,eval e X.env)::starEach [] X.env:=by rfl):DE X (.Call (.Name x p) [e] [⟨some "default",.Constant (.int 0) j cp,kp⟩] pos) (mCB Cd ma):=
 (M8 hc hg hm hv ha hn hdb he).of fun _ _ _ h=>Ho Rb h
end
end L2
namespace L2
open PySem PySem.Spec PyProof.Rows
section
open AutoSeq1 (wpAny_loadPart')
set_option maxRecDepth 100000
end
section
variable {prog:Program}{w:World}{A:Around}{E:Value->Shared->Prop}{s:Shared}
end
section
variable {X:Cx}{K:Yh}
end
end L2
namespace L2
open PySem PySem.Spec PyProof.Rows
section
variable {prog:Program}{w:World}{A:Around}{R:Result->Shared->Prop}{L I:Addr}{its:List Value}
end
section
variable {X:Cx}{K:Yh}
end
end L2
namespace L2
open PySem PySem.Spec PyProof.Rows
section
variable {X:Cx}{K:Yh}
def Ve (h:Gh)(x y:W):Option Src:=match nO x,y with
 | some as,.loc n=>(match h.c n with
  | some (.lst bs)=>some ⟨kJ as bs,some (n,bs)⟩
  | _=>none)
 | _,_=>none
end
end L2
namespace L2
open PySem PySem.Spec PyProof.Rows
section
variable {X:Cx}
end
end L2
namespace L2
open PySem PySem.Spec PyProof.Rows
section
variable {prog:Program}{w:World}{A:Around}{E:Value->Shared->Prop}{s:Shared}
theorem mG:typeLookup (.type "tuple") "keys" = pure none:=by rw [typeLookup_type,builtinLookup_eq_fast];kernel_rfl
theorem nY:typeLookup (.type "list") "keys" = pure none:=by rw [typeLookup_type,builtinLookup_eq_fast];kernel_rfl
set_option maxRecDepth 100000 in
theorem yP {a:Addr}{o:Obj}{xs:Array Value}{k:Nat}{Q:Option Value->Shared->Prop}(hx:s.heap.get? a=some o)(hc:o.cls=.type "tuple")(hdat:o.data=.seq xs k)(hd:o.dict=none)(hA:A.handled=none)
  (h:∀ h' tk,(∀ b ob,s.heap.get? b=some ob->h'.get? b=some ob)->Q none { s with heap:=h',toks:=tk }):wpAny (model prog w) A (getAttr? (.ref a) "keys") Q E s:=by
 obtain ⟨c,dct,dat,sl⟩:=o
 simp only at hc hdat hd
 subst hc hdat hd
 obtain ⟨hp,g,d,tk,os⟩:=s
 have hT:∀ tk',(⟨hp,g,d,tk',os⟩:Shared).TypeIs (.ref a) "tuple":=fun _=>⟨_,hx,rfl⟩
 have f1:=sub_AttributeError
 have f3:=F.slot_tuple_getattribute.lookup
 have f4:=F.slot_tuple_getattribute.bind (.ref a)
 have f5:=am_tuple_getattr_none
 unfold getAttr? getAttrBy? getAttrBy
 repeat (any_goals (first | assumption | exact hT _ | ((with_reducible show wpAny _ _ (call (Value.builtin "tuple.__getattribute__") _ _) _ _ _);refine call_meets F.slot_tuple_getattribute (hT _) am_entry_tuple_getattribute (F.args_tuple_getattribute_2 _ _) (meets_getattribute_miss_tuple a xs k sl "keys" _ mG (by decide) (by size_fits)) ⟨hx,hA,fun h' tk' e hx'=>?_⟩) | wp_step))
 obtain ⟨t',u',he⟩:=hx'.there
 show wpAny _ _ (getattributeRaised _ _ _ _ _ _ _) _ _ _
 unfold getattributeRaised
 repeat (any_goals (first | assumption | wp_step))
 exact h _ _ hx'.keeps
set_option maxRecDepth 100000 in
theorem yU {a:Addr}{o:Obj}{xs:Array Value}{k:Nat}{Q:Option Value->Shared->Prop}(hx:s.heap.get? a=some o)(hc:o.cls=.type "list")(hdat:o.data=.seq xs k)(hd:o.dict=none)(hA:A.handled=none)
  (h:∀ h' tk,(∀ b ob,s.heap.get? b=some ob->h'.get? b=some ob)->Q none { s with heap:=h',toks:=tk }):wpAny (model prog w) A (getAttr? (.ref a) "keys") Q E s:=by
 obtain ⟨c,dct,dat,sl⟩:=o
 simp only at hc hdat hd
 subst hc hdat hd
 obtain ⟨hp,g,d,tk,os⟩:=s
 have hT:∀ tk',(⟨hp,g,d,tk',os⟩:Shared).TypeIs (.ref a) "list":=fun _=>⟨_,hx,rfl⟩
 have f1:=sub_AttributeError
 have f3:=F.slot_list_getattribute.lookup
 have f4:=F.slot_list_getattribute.bind (.ref a)
 have f5:=am_list_getattr_none
 unfold getAttr? getAttrBy? getAttrBy
 repeat (any_goals (first | assumption | exact hT _ | ((with_reducible show wpAny _ _ (call (Value.builtin "list.__getattribute__") _ _) _ _ _);refine call_meets F.slot_list_getattribute (hT _) am_entry_list_getattribute (F.args_list_getattribute_2 _ _) (meets_getattribute_miss_list a xs k sl "keys" _ nY (by decide) (by size_fits)) ⟨hx,hA,fun h' tk' e hx'=>?_⟩) | wp_step))
 obtain ⟨t',u',he⟩:=hx'.there
 show wpAny _ _ (getattributeRaised _ _ _ _ _ _ _) _ _ _
 unfold getattributeRaised
 repeat (any_goals (first | assumption | wp_step))
 exact h _ _ hx'.keeps
theorem rE:entryFor table "dict.update.loop" = some Builtin.«dict.update.loop»:=entryFor_of_tree (by kernel_rfl)
theorem gA:plainId "dict.update.loop" = true:=by decide +kernel
abbrev tkd (prog:Program)(w:World):=tupleKind (intKind prog w)
theorem Aa {h h':Heap}{k:List Int}{a:Addr}(x:(tkd prog w).is h k a)(m:∀ b o,h.get? b=some o->h'.get? b=some o):(tkd prog w).is h' k a:=by
 obtain ⟨o,its,n,ho,r⟩:=x
 exact ⟨o,its,n,m _ _ ho,r⟩
theorem o9 {h0 h h':Heap}{d:Addr}{xs:List (List Int×Addr×Value)}(x:Heap.DictOfH (tkd prog w) h d xs)(hd:∀ o,h.get? d=some o->h'.get? d=some o)(hk:∀ y∈xs,(tkd prog w).is h' y.1 y.2.1):Heap.DictOfH (tkd prog w) h' d xs:=by
 obtain ⟨o,es,ep,e1,e2,e3,e4,_,e6⟩:=x
 exact ⟨o,es,ep,hd o e1,e2,e3,e4,hk,e6⟩
theorem Aw {R:Result->Shared->Prop}{I d:Addr}{items:Array Value}{fp:List Addr}{St:Nat->Heap->Prop}(W:Walks prog w A.in1 I fp [I] items.size (fun i v=>items[i]?=some v) St)(hdf:d∉fp)(hu:A.in1.units<cLine)(h0:Heap)(hd0:h0.get? d=none)(hI0:h0.get? I=none)
  {ps:List (List Int×Addr×Value)} (hp:items.size=ps.length) (hk:∀ (j:Nat) (p:List Int×Addr×Value),ps[j]?=some p->∃ q,items[j]?=some (.ref q)/\IsTup h0 q #[.ref p.2.1,p.2.2]/\(tkd prog w).is h0 p.1 p.2.1) (nd:(ps.map (·.1)).Nodup) (hz:ps.length<=sizeLine) :
  ∀ (k j:Nat) (s:Shared) (t:Tok),ps.length - j=k->j<=ps.length->St j s.heap->Heap.DictOfH (tkd prog w) s.heap d (ps.take j)->(∀ b o,h0.get? b=some o->s.heap.get? b=some o) ->
  (∀ h' tk,Heap.DictOfH (tkd prog w) h' d ps->(∀ b o,h0.get? b=some o->h'.get? b=some o)->R (.ok (.ret .none)) { s with heap:=h',toks:=tk }) ->
  codeAny (model prog w) A (.builtin "dict.update.loop" ⟨[.ref d,.ref I,.int (j:Int) t,.none],[]⟩) R s:=by
 have dI:d≠I:=fun e=>hdf (W.sub d (by rw [e];simp))
 have keys:∀ (j:Nat) (h':Heap),(∀ b o,h0.get? b=some o->h'.get? b=some o)->∀ y∈ps.take j,(tkd prog w).is h' y.1 y.2.1:=fun j h' m y hy=>by
  obtain ⟨i,hi,e⟩:=List.mem_iff_getElem.mp (List.mem_of_mem_take hy)
  obtain ⟨q,_,_,hq⟩:=hk i y (by rw [<-e];exact List.getElem?_eq_getElem hi)
  exact Aa hq m
 intro k
 induction k with
 | zero=>
  intro j s t hkj hj st hm h00 hR
  have ej:j=ps.length:=by omega
  refine codeAny_builtin rE ?_
  rw [Around.under_plainId gA _]
  show wpAny _ A.in1 (pyNext (.ref I) >>= _) _ _ s
  refine XS (W.done s _ _ (by rw [hp,<-ej];exact st) fun h' tk hk'=>?_)
  have m:∀ b o,h0.get? b=some o->h'.get? b=some o:=fun b o e=>hk' b o (by intro z;rw [List.mem_singleton.mp z,hI0] at e;cases e) (h00 b o e)
  have hm':Heap.DictOfH (tkd prog w) h' d ps:=by
   rw [ej,List.take_length] at hm
   refine o9 (h0:=h0) hm (fun o e=>hk' d o (by simpa using dI) e) fun y hy=>keys ps.length h' m y (by rw [List.take_length];exact hy)
  exact XS (X3 (X3 (hR h' tk hm' m)))
 | succ k ih=>
  intro j s t hkj hj st hm h00 hR
  have hlt:j<ps.length:=by omega
  have ep:ps[j]?=some ps[j]:=List.getElem?_eq_getElem hlt
  generalize ps[j]=p at ep
  obtain ⟨q,eq,hq,hkey⟩:=hk j p ep
  refine codeAny_builtin rE ?_
  rw [Around.under_plainId gA _]
  show wpAny _ A.in1 (pyNext (.ref I) >>= _) _ _ s
  refine XS (W.item j s _ _ (by rw [hp];exact hlt) st fun v h' tk hP st' hk'=>?_)
  have ev:v=.ref q:=by rw [eq] at hP;exact (Option.some.inj hP).symm
  subst ev
  have m:∀ b o,h0.get? b=some o->h'.get? b=some o:=fun b o e=>hk' b o (by intro z;rw [List.mem_singleton.mp z,hI0] at e;cases e) (h00 b o e)
  have hm':Heap.DictOfH (tkd prog w) h' d (ps.take j):=o9 (h0:=h0) hm (fun o e=>hk' d o (by simpa using dI) e) (keys j h' m)
  obtain ⟨oq,goq,cq,nq,dq⟩:=hq
  have goq':=m _ _ goq
  refine XS (wpAny_holding (XS (wpAny_tryCatch ?_)))
  unfold Builtin.Dict.pairItems
  refine XS (wpAny_typeOf (T := "tuple") ⟨oq,goq',cq⟩ ?_)
  rw [if_pos (by decide)]
  refine XS (wpAny_seqItems goq' dq (X3 ?_))
  show wpAny _ _ (holding [_,_] (dictSet d _ _)) _ _ _
  have hno:atKey (ps.take j) p.1=none:=by
   unfold atKey
   rw [Option.map_eq_none_iff,List.find?_eq_none]
   intro y hy
   have hn:p.1∉(ps.take j).map (·.1):=by
    have e1:ps=ps.take j++p::ps.drop (j+1):=by
     conv=>lhs;rw [<-List.take_append_drop j ps]
     congr 1
     rw [List.drop_eq_getElem_cons hlt]
     congr 1
     rw [List.getElem?_eq_getElem hlt] at ep
     exact Option.some.inj ep
    rw [e1,List.map_append,List.nodup_append] at nd
    intro z
    exact nd.2.2 _ z p.1 (by simp) rfl
   intro z
   exact hn (List.mem_map.mpr ⟨y,hy,by simpa using z⟩)
  refine wpAny_holding (wpAny_dictSet_heap (hsz:=by rw [List.length_take];omega) hu (Aa hkey m) hm' fun h2 hd2 hs2=>?_)
  rw [storedH_new hno] at hd2
  have et:ps.take j++[(p.1,p.2.1,p.2.2)]=ps.take (j+1):=by rw [List.take_succ,ep];rfl
  rw [et] at hd2
  have keep2:∀ b o,b≠d->h'.get? b=some o->h2.get? b=some o:=fun b o hb e=>hs2.extBut b o hb e
  refine X3 ⟨plainId_quiet gA _,?_⟩
  have ej:((j:Int)+1)=((j+1:Nat):Int):=by omega
  show codeAny _ _ (.builtin "dict.update.loop" ⟨[.ref d,.ref I,.int ((j:Int)+1) 0,.none],[]⟩) _ _
  rw [ej]
  refine ih (j+1) _ 0 (by omega) hlt (W.frame _ _ _ st' fun b hb o e=>keep2 b o (fun z=>hdf (z ▸ hb)) e) hd2 (fun b o e=>keep2 b o (fun z=>by rw [z,hd0] at e;cases e) (m b o e)) fun h3 tk3 d3 m3=>hR h3 tk3 d3 m3
theorem pJ {T:Addr}{items:Array Value}{Q:Value->Shared->Prop}(hh:A.handled=none)(hu:A.units+30<cLine)
  (src:(∃ o n,s.heap.get? T=some o/\o.cls=.type "tuple"/\o.data=.seq items n/\o.dict=none)\/(∃ o n,s.heap.get? T=some o/\o.cls=.type "list"/\o.data=.seq items n/\o.dict=none))
  {ps:List (List Int×Addr×Value)} (hp:items.size=ps.length) (hk:∀ (j:Nat) (p:List Int×Addr×Value),ps[j]?=some p->∃ q,items[j]?=some (.ref q)/\IsTup s.heap q #[.ref p.2.1,p.2.2]/\(tkd prog w).is s.heap p.1 p.2.1) (nd:(ps.map (·.1)).Nodup) (hz:ps.length<=sizeLine)
  (h:∀ h' tk,Heap.DictOfH (tkd prog w) h' s.heap.objs.size ps->(∀ b o,s.heap.get? b=some o->h'.get? b=some o)->Q (.ref s.heap.objs.size) { s with heap:=h',toks:=tk }) :
  wpAny (model prog w) A (call (.type "dict") [.ref T]) Q E s:=by
 have hhA:A.in1.in1.handled=none:=hh
 have hu2:A.in1.in1.units<cLine:=by
  have:A.in1.in1.units=A.units+1+1:=rfl
  omega
 have hT0:T<s.heap.objs.size:=by
  rcases src with ⟨o,_,e,_⟩ | ⟨o,_,e,_⟩ <;> exact X4 e
 refine callType_codes (Q₁:=fun obj s₁=>obj=.ref s.heap.objs.size/\s₁ = { s with heap:=s.heap.push { cls:=.type "dict",data:=.dict #[] } }) F.kt_called_dict (F.kt_typeCall_dict_1 _) F.entry_dict_init (kt_code_dict_new _ ⟨rfl,rfl⟩) ?_
 rintro obj s₁ ⟨rfl,rfl⟩
 have hTd:({ s with heap:=s.heap.push { cls:=.type "dict",data:=.dict #[] } }:Shared).TypeIs (.ref s.heap.objs.size) "dict":=⟨_,Heap.get?_push_size _ rfl,rfl⟩
 refine ⟨hTd,F.args_dict_init_2 _ _,?_⟩
 unfold Builtin.«dict.__init__»
 refine XS ?_
 unfold Builtin.Dict.selfAndRest
 refine XS (wpAny_notOrdered_dict hTd ?_)
 show wpAny _ _ (pure (s.heap.objs.size,[Value.ref T])) _ _ _
 refine X3 ?_
 show wpAny _ _ (Builtin.Dict.updateFrom "dict.__init__" s.heap.objs.size (.ref T) [] .none) _ _ _
 unfold Builtin.Dict.updateFrom
 have loop:∀ (h1:Heap) (tk1:Nat),(∀ b ob,(s.heap.push { cls:=.type "dict",data:=.dict #[] }).get? b=some ob->h1.get? b=some ob)->∀ (h2:Heap) (fp:List Addr) (St:Nat->Heap->Prop),h1.objs.size∉([s.heap.objs.size]:List Addr)->(∀ b ob,h1.get? b=some ob->h2.get? b=some ob)->s.heap.objs.size∉fp->Walks prog w A.in1.in1 h1.objs.size fp [h1.objs.size] items.size (fun i v=>items[i]?=some v) St->St 0 h2 ->
   codeAny (model prog w) A.in1 (.builtin "dict.update.loop" ⟨[.ref s.heap.objs.size,.ref h1.objs.size,rawInt 0,.none],[]⟩) (wants (fun r s₂=>r=.none/\Q (.ref s.heap.objs.size) s₂) E) { s with heap:=h2,toks:=tk1 }:=by
  intro h1 tk1 m1 h2 fp St hne m2 hfp W st
  have hd1:=m1 _ _ (Heap.get?_push_size s.heap (o:={ cls:=.type "dict",data:=.dict #[] }) rfl)
  refine Aw (A:=A.in1) W hfp hu2 s.heap (Heap.get?_none_of_le (Yc _)) (Heap.get?_none_of_le (Nat.le_of_lt (X4 hd1))) hp hk nd hz ps.length 0 _ _ rfl (Nat.zero_le _) st ?_ (fun b o e=>m2 b o (m1 b o (Heap.get?_push_of_some _ e))) fun h' tk d m=>⟨rfl,h h' tk d m⟩
  exact ⟨_,#[],0,m2 _ _ hd1,⟨rfl,rfl,rfl⟩,rfl,rfl,(fun x hx=>absurd hx List.not_mem_nil),List.nodup_nil⟩
 rcases src with ⟨o,n,g1,g2,g3,g4⟩ | ⟨o,n,g1,g2,g3,g4⟩
 ·have g1':(s.heap.push { cls:=.type "dict",data:=.dict #[] }).get? T=some o:=Heap.get?_push_of_some _ g1
  refine XS (wpAny_typeOf (T := "tuple") ⟨o,g1',g2⟩ ?_)
  rw [if_pos (by decide)]
  refine XS (yP g1' g2 g3 g4 hhA fun h1 tk1 m1=>?_)
  rw [if_pos (show (none:Option Value).isNone=true from rfl)]
  refine XS (wpAny_rule ?_)
  have hT:h1.IsTuple T items:=⟨o,m1 _ _ g1',g2,n,g3⟩
  refine XS (wpAny_pyIter_tuple hT ?_)
  have hlt:T<h1.objs.size:=X4 (m1 _ _ g1')
  have hd1:=X4 (m1 _ _ (Heap.get?_push_size s.heap (o:={ cls:=.type "dict",data:=.dict #[] }) rfl))
  refine X3 ⟨plainId_quiet gA _,?_⟩
  exact loop h1 tk1 m1 _ _ _ (by simpa using Nat.ne_of_gt hd1) (fun b ob e=>Heap.get?_push_of_some _ e) (by simp only [List.mem_cons,List.not_mem_nil,or_false,not_or];exact ⟨Yg hd1,Nat.ne_of_gt hT0⟩) (Walks.tuple hhA _ T (Yg hlt) items) ⟨⟨_,Heap.get?_push_size _ rfl,rfl,rfl⟩,hT.push _⟩
 ·have g1':(s.heap.push { cls:=.type "dict",data:=.dict #[] }).get? T=some o:=Heap.get?_push_of_some _ g1
  refine XS (wpAny_typeOf (T := "list") ⟨o,g1',g2⟩ ?_)
  rw [if_pos (by decide)]
  refine XS (yU g1' g2 g3 g4 hhA fun h1 tk1 m1=>?_)
  rw [if_pos (show (none:Option Value).isNone=true from rfl)]
  refine XS (wpAny_rule ?_)
  have hT:h1.IsList T items:=⟨o,m1 _ _ g1',g2,n,g3⟩
  refine XS (wpAny_pyIter_list hT ?_)
  have hlt:T<h1.objs.size:=X4 (m1 _ _ g1')
  have hd1:=X4 (m1 _ _ (Heap.get?_push_size s.heap (o:={ cls:=.type "dict",data:=.dict #[] }) rfl))
  refine X3 ⟨plainId_quiet gA _,?_⟩
  exact loop h1 tk1 m1 _ _ _ (by simpa using Nat.ne_of_gt hd1) (fun b ob e=>Heap.get?_push_of_some _ e) (by simp only [List.mem_cons,List.not_mem_nil,or_false,not_or];exact ⟨Yg hd1,Nat.ne_of_gt hT0⟩) (Walks.list hhA _ T (Yg hlt) items) ⟨⟨_,Heap.get?_push_size _ rfl,rfl,rfl⟩,hT.push _⟩
end
section
variable {X:Cx}{K:Yh}
abbrev Mz (K:Yh)(H:Hp)(y:V)(p:List Int×Addr×V):Prop:=∃ q,y=V.ref q/\SqT K H q [.ref p.2.1,p.2.2]/\SqT K H p.2.1 (p.1.map V.int)
theorem uf {pins:List (Addr×Obj)}{Z : St}{H:Hp}{s:Shared}(I:Inv X pins Z H s):∀ {ys:List V} {ps:List (List Int×Addr×V)} {its:List Value},Vals ys its->Paired (Mz X.K H) ys ps ->
  ∃ xs:List (List Int×Addr×Value),xs.map (·.1)=ps.map (·.1)/\xs.map (·.2.1)=ps.map (·.2.1)/\Vals (ps.map (·.2.2)) (xs.map (·.2.2))/\∀ (j:Nat) (p:List Int×Addr×Value),xs[j]?=some p->∃ q,its[j]?=some (.ref q)/\IsTup s.heap q #[.ref p.2.1,p.2.2]/\(tkd X.prog X.w).is s.heap p.1 p.2.1
 | _,_,_,.nil,.nil=>⟨[],rfl,rfl,.nil,fun j p e=>by simp at e⟩
 | _,_,_,.cons r rv,.cons (b:=p) hp pp=>by
  obtain ⟨xs,a1,a2,a3,a4⟩:=uf I rv pp
  obtain ⟨q,rfl,h1,h2⟩:=hp
  cases r
  obtain ⟨js,r2,ht,_⟩:=I.tuple h1
  cases r2 with
  | cons r3 r4=>
   cases r4 with
   | cons r5 r6=>
    cases r6
    cases r3
    rename_i v
    refine ⟨(p.1,p.2.1,v)::xs,by simp [a1],by simp [a2],.cons r5 a3,fun j z e=>?_⟩
    cases j with
    | zero=>
     simp at e
     subst e
     exact ⟨q,rfl,ht,tZ I h2⟩
    | succ j=>
     obtain ⟨q',b1,b2⟩:=a4 j z (by simpa using e)
     exact ⟨q',by simpa using b1,b2⟩
theorem yM (hc:X.calm=true)(hu:X.A.units+30<cLine):iw X (.type "dict") (fun vs H Q=>∃ (T:Addr) (ys:List V) (ps:List (List Int×Addr×V)),vs=[.ref T]/\(SqL X.K H T ys\/SqT X.K H T ys)/\Paired (Mz X.K H) ys ps/\(ps.map (·.1)).Nodup /\
  ∀ d,H d=none->∀ xs:List (List Int×Addr×Value),xs.map (·.1)=ps.map (·.1)->xs.map (·.2.1)=ps.map (·.2.1)->Vals (ps.map (·.2.2)) (xs.map (·.2.2))->Q (.ref d) (upd H d (.ext (vO d xs)))):=by
 intro pins s Z H vs us Q I r ⟨T,ys,ps,ev,hS,pp,nd,q⟩
 subst ev
 obtain ⟨u,rfl,ru⟩:=vals1 r
 cases ru
 have key:∀ its:List Value,Vals ys its->ys.length<=sizeLine->((∃ o n,s.heap.get? T=some o/\o.cls=.type "tuple"/\o.data=.seq its.toArray n/\o.dict=none)\/(∃ o n,s.heap.get? T=some o/\o.cls=.type "list"/\o.data=.seq its.toArray n/\o.dict=none))->wpAny (model X.prog X.w) X.A (call (.type "dict") [.ref T]) (EP X pins Z Q) X.xe s:=fun its rv hz src=>by
  obtain ⟨xs,a1,a2,a3,a4⟩:=uf I rv pp
  have e1:ys.length=its.length:=rv.length
  have e2:ys.length=ps.length:=Paired.length pp
  have e3:xs.length=ps.length:=by have:=congrArg List.length a1;simpa using this
  refine pJ (I.ok.hd hc) hu src (ps:=xs) (by rw [Yb];omega) (fun j p e=>by
   obtain ⟨q,b1,b2⟩:=a4 j p e
   exact ⟨q,by rw [List.getElem?_toArray];exact b1,b2⟩) (by rw [a1];exact nd) (by omega) fun h' tk d m=>?_
  have y:(s.heap.objs.size==sysModules)=false:=(wu (P:=X.prog) (w:=X.w) (H:=H) s.heap I.big).2.1
  exact ⟨.ref s.heap.objs.size,_,I.laid (a:=s.heap.objs.size) (o:=.ext (vO s.heap.objs.size xs)) (t':=tk) m (Yc _) (uQ (P:=X.prog) (w:=X.w) (by omega) y d),rfl,q _ (I.hok.fresh (Yc _)) xs a1 a2 a3⟩
 rcases hS with hS | hS
 ·obtain ⟨its,rv,⟨o,n,g1,g2,g3,g4⟩,hz⟩:=I.list hS
  exact key its rv hz (.inr ⟨o,n,g1,g2,g4,g3⟩)
 ·obtain ⟨its,rv,⟨o,g1,g2,⟨n,g3⟩,g4⟩,hz⟩:=I.tupO hS
  exact key its rv hz (.inl ⟨o,n,g1,g2,g3,g4⟩)
def jV:List W->Option (List (List Int×W))
 | []=>some []
 | .tup [k,v]::r=>(match Jo k with
  | some ks=>(jV r).map ((ks,v)::·)
  | none=>none)
 | _=>none
theorem sS {H:Hp}{μ : Mu}:∀ {us:List W} {ys:List V} {ps:List (List Int×W)},aJ K H μ us ys->jV us=some ps->∃ qs:List (List Int×Addr×V),Paired (Mz K H) ys qs/\qs.map (·.1)=ps.map (·.1)/\aJ K H μ (ps.map fun x=>W.tup (x.1.map W.int)) (qs.map fun x=>V.ref x.2.1)/\aJ K H μ (ps.map (·.2)) (qs.map (·.2.2))
 | [],ys,ps,r,e=>by
  rw [aJ] at r
  cases e
  subst r
  exact ⟨[],.nil,rfl,by rw [List.map_nil,List.map_nil,aJ],by rw [List.map_nil,List.map_nil,aJ]⟩
 | w::us,ys,ps,r,e=>by
  rw [aJ] at r
  obtain ⟨y,yr,rfl,ra,r⟩:=r
  unfold jV at e
  split at e
  ·rename_i h;cases h
  ·rename_i k v us' h
   cases h
   split at e
   ·rename_i ks ek
    cases q:jV us with
    | none=>rw [q] at e;cases e
    | some cs=>
     rw [q] at e
     cases (show some ((ks,v)::cs)=some ps from e)
     obtain ⟨qs,p1,p2,p3,p4⟩:=sS r q
     rw [Rep] at ra
     obtain ⟨b,zs,rfl,hb,rz⟩:=ra
     obtain ⟨z1,z2,rfl,rk,rw'⟩:=Cr rz
     obtain ⟨kb,rfl,hkb⟩:=lH rk ek
     refine ⟨(ks,kb,z2)::qs,.cons ⟨b,rfl,hb,hkb⟩ p1,by simp [p2],?_,?_⟩
     ·rw [X5,X5,aJ]
      exact ⟨_,_,rfl,by rw [Rep];exact ⟨kb,_,rfl,hkb,lQ ks⟩,p3⟩
     ·rw [X5,X5,aJ]
      exact ⟨_,_,rfl,rw',p4⟩
   ·cases e
  ·cases e
def xZ:MC:=fun ws h Q=>match ws with
 | [w]=>(match view h w with
  | some us=>(match jV us with
   | some ps=>(ps.map (·.1)).Nodup/\Q (.loc h.nx) (h.new (.dtt ps))
   | none=>False)
  | none=>False)
 | _=>False
theorem Dh (hc:X.calm=true)(hu:X.A.units+30<cLine):jM X (.type "dict") xZ:=⟨_,yM hc hu,by
 intro H μ h vs ws Qw Q R r m k
 unfold xZ at m
 split at m
 ·split at m
  ·split at m
   ·rename_i w _ us ev _ ps ek
    obtain ⟨v,e,rv⟩:=iH r
    obtain ⟨p,ys,ex,hs,rs⟩:=m9 R rv ev
    obtain ⟨qs,p1,p2,p3,p4⟩:=sS rs ek
    subst e ex
    refine ⟨p,ys,qs,rfl,hs,p1,by rw [p2];exact m.1,fun d hd xs a1 a2 a3=>?_⟩
    have xt:=(Ex.newCell (o:=.ext (vO d xs)) R hd).ext
    have e3:(xs.map fun x=>V.ref x.2.1)=qs.map fun x=>V.ref x.2.1:=by
     have:(xs.map (·.2.1)).map V.ref=(qs.map (·.2.1)).map V.ref:=by rw [a2]
     rw [List.map_map,List.map_map] at this
     exact this
    have R1:Rel X.K (μ.put h.nx d) (upd H d (.ext (vO d xs))) (h.new (.dtt ps)):=R.newCell hd trivial ⟨xs,qs.map (·.2.2),aV,(by rw [a1,p2]),a3,by rw [e3];exact xt.s p3,xt.s p4⟩
    exact k _ _ ⟨_,.loc h.nx,_,xt,R1,by rw [Rep];exact ⟨d,rfl,Mu.put_same⟩,m.2⟩
   ·exact m.elim
  ·exact m.elim
 ·exact m.elim⟩
end
end L2
namespace L2
open PySem PySem.Spec PyProof.Rows
section
variable {prog:Program}{w:World}{A:Around}{E:Value->Shared->Prop}{s:Shared}{r l:Addr}{items:Array Value}
theorem uF {Q:List Value->Shared->Prop}(hh:A.handled=none)(hit:s.heap.IsRevIter r l ((items.size:Int) - 1))(hl:s.heap.IsList l items)(hne:l≠r)(hn:items.size<=sizeLine)
  (hQ:∀ (h':Heap) (tk:Nat) (acc':Array Value),s.heap.objs.size<h'.objs.size->(∀ b o,b≠r->s.heap.get? b=some o->h'.get? b=some o)->ItemsOf (fun i v=>items[items.size - 1 - i]?=some v) acc' items.size->Q acc'.toList { s with heap:=h',toks:=tk }):wpAny (model prog w) A (collect (.ref r)) Q E s:=by
 have lr:r<s.heap.objs.size:=by obtain ⟨_,e,_⟩:=hit;exact X4 e
 have ll:l<s.heap.objs.size:=by obtain ⟨_,e,_⟩:=hl;exact X4 e
 unfold collect
 refine XS (wpAny_runValue (codeAny_builtin F.entry_proto_collect ?_))
 rw [Around.under_plainId F.plain_proto_collect _]
 show wpAny _ A.in1 (newList [] >>= fun l=>again (.builtin "list.__iadd__" ⟨[l,.ref r],[]⟩)) _ _ s
 refine XS (wpAny_newObj_type ?_)
 refine X3 ⟨plainId_quiet F.plain_list_iadd _,codeAny_builtin F.entry_list_iadd ?_⟩
 rw [Around.under_plainId F.plain_list_iadd _]
 show wpAny _ A.in1 (Builtin.List.listExtendWith (.ref s.heap.objs.size) (.ref r) (.ref s.heap.objs.size)) _ _ _
 have hS₁ : (s.heap.push { cls:=.type "list",data:=.seq ([]:List Value).toArray }).get? s.heap.objs.size=some { cls:=.type "list",data:=.seq #[] 0 }:=Heap.get?_push_size _ rfl
 refine zc (A:=A) (R:=fun (r:Result) s'=>match r with
  | .ok (.ret v)=>wpAny (model prog w) A (match v with
   | .ref a=>do
    match (<-load a).data with
    | .seq xs _=>pure xs.toList
    | _=>unsupported "internal:collect"
   | _=>unsupported "internal:collect") Q E s'
  | .ok _=>False
  | .error e=>E e s') (s:={ s with heap:=s.heap.push { cls:=.type "list",data:=.seq ([]:List Value).toArray } }) hh (hit.at fun o e=>Heap.get?_push_of_some _ e) (hl.at fun o e=>Heap.get?_push_of_some _ e) hne _ (Nat.ne_of_gt lr) (Nat.ne_of_gt ll) _ _ hS₁ (fun h' tk acc' c' hk hS' hacc=>?_) hn
 show wpAny _ A (load s.heap.objs.size >>= _) _ _ _
 refine XS (wpAny_load hS' ?_)
 exact X3 (hQ h' tk acc' (X4 hS') (fun b o hb e=>hk b o (Yg (X4 e)) hb (Heap.get?_push_of_some _ e)) hacc)
theorem uL {Q₁ : Value->Shared->Prop}(hh:A.handled=none)(hit:s.heap.IsRevIter r l ((items.size:Int) - 1))(hl:s.heap.IsList l items)(hne:l≠r)(hn:items.size<=sizeLine)
  (h:∀ (h':Heap) (tk:Nat) (acc':Array Value),s.heap.objs.size<h'.objs.size->(∀ b o,b≠r->s.heap.get? b=some o->h'.get? b=some o)->ItemsOf (fun i v=>items[items.size - 1 - i]?=some v) acc' items.size->Q₁ (.ref h'.objs.size) { s with heap:=h'.push { cls:=.type "tuple",data:=.seq acc' },toks:=tk }) :
  codeAny (model prog w) A (.call (.builtin "tuple.__new__") ⟨[.type "tuple",.ref r],[]⟩) (wants Q₁ E) s:=by
 refine codeAny_of_tree ?_
 show wpAny _ A.in1 (do checkBuiltinCall "tuple.__new__" ⟨[.type "tuple",.ref r],[]⟩;again (.builtin "tuple.__new__" ⟨[.type "tuple",.ref r],[]⟩)) _ _ s
 refine XS (wpAny_of_eq (F.newCall_tuple_1 _) (X3 ⟨plainId_quiet F.plain_tuple_new _,codeAny_builtin F.entry_tuple_new ?_⟩))
 rw [Around.under_plainId F.plain_tuple_new _]
 have hsub:=sub_tuple_self
 have hinit:=init_tuple_lookup
 have hmh:=madeHere_tuple
 have hTI:=hit.typeIs
 have hhA:A.in1.handled=none:=hh
 wp_walk using wpAny_typeOf hTI,uF hhA hit hl hne hn
 intro h' tk acc hs hm hacc
 show wpAny _ _ (Builtin.Tuple.tupleExact acc.toList.toArray >>= fun v=>ret v) _ _ _
 unfold Builtin.Tuple.tupleExact
 refine XS (wpAny_newObj_type ?_ (by show acc.toList.toArray.size<=sizeLine;simp only [Array.toArray_toList];rw [hacc.1];exact hn))
 refine X3 ?_
 have e:acc.toList.toArray=acc:=by simp
 rw [e]
 exact h h' tk acc hs hm hacc
theorem vB {Q:Value->Shared->Prop}(hh:A.handled=none)(hit:s.heap.IsRevIter r l ((items.size:Int) - 1))(hl:s.heap.IsList l items)(hne:l≠r)(hn:items.size<=sizeLine)
  (h:∀ (h':Heap) (tk:Nat) (acc':Array Value),s.heap.objs.size<h'.objs.size->(∀ b o,b≠r->s.heap.get? b=some o->h'.get? b=some o)->ItemsOf (fun i v=>items[items.size - 1 - i]?=some v) acc' items.size->Q (.ref h'.objs.size) { s with heap:=h'.push { cls:=.type "tuple",data:=.seq acc' },toks:=tk }) :
  wpAny (model prog w) A (call (.type "tuple") [.ref r]) Q E s:=by
 refine callType_codes (Q₁:=fun obj s₁=>s₁.TypeIs obj "tuple"/\Q obj s₁) F.called_tuple (F.typeCall_tuple_1 _) F.entry_object_init
  (uL (A:=A.in1) hh hit hl hne hn fun h' tk acc hs hm hacc=>⟨⟨_,Heap.get?_push_size _ rfl,rfl⟩,h h' tk acc hs hm hacc⟩) fun obj s₁ h₁=>?_
 exact ⟨h₁.1,F.args_object_init_2 obj _,object_init_meets F.called_tuple.init.lookup F.called_tuple.made (by decide) prog w A.in1 _ s₁ ⟨h₁.1,rfl,h₁.2⟩⟩
end
section
variable {X:Cx}
def uz (me:ME):ME:=fun Z h Q=>me Z h fun x h1=>match dU h1 x with
 | some us=>Q (.tup us.reverse) h1
 | none=>False
theorem Fp {e1:Expr}{me:ME}{p p' pos pos':Pos}(hc:X.calm=true)(hl:Gl X "tuple")(hlm:X.mg "tuple" = none)(hr:Gl X "reversed")(hrm:X.mg "reversed" = none)(he:DE X e1 me)
  (h1:starEach [.Call (.Name "reversed" p') [e1] [] pos'] X.env=(false,eval (.Call (.Name "reversed" p') [e1] [] pos') X.env)::starEach [] X.env:=by rfl) (hp1:(backTo pos (starEach [] X.env)).any (·.1)=false:=by rfl)
  (h2:starEach [e1] X.env=(false,eval e1 X.env)::starEach [] X.env:=by rfl) (hp2:(backTo pos' (starEach [] X.env)).any (·.1)=false:=by rfl) :
  DE X (.Call (.Name "tuple" p) [.Call (.Name "reversed" p') [e1] [] pos'] [] pos) (uz me):=by
 intro pins s Z H Q I ⟨μ,g,Zw,Qw,R,S,m,q⟩
 refine wpAny_Call_Name_kw (iW I hl hlm boot_tuple ?_ (by decide) (by decide))
 refine PyProof.Rows.callWith_type1 ?_ h1 hp1
 rw [h1]
 show wpAny _ _ (spliced ((false,eval _ X.env)::backTo pos (starEach [] X.env))) _ _ s
 refine Calls.spliced_cons ?_
 refine wpAny_Call_Name_kw (iW I hr hrm boot_reversed ?_ (by decide) (by decide))
 refine PyProof.Rows.callWith_type1 ?_ h2 hp2
 rw [h2]
 show wpAny _ _ (spliced ((false,eval e1 X.env)::backTo pos' (starEach [] X.env))) _ _ s
 refine Calls.spliced_cons (thn (he pins s Z H _ I ⟨μ,g,Zw,_,R,S,m,fun v H1 z=>z⟩) fun u s1 ⟨x,H1,I1,rx,μ1,wx,g1,x1,R1,r1,m1⟩=>?_)
 refine Calls.spliced_nil ?_
 dsimp only at m1
 split at m1
 ·rename_i us ev
  obtain ⟨a,xs,ex,hs,rs⟩:=cG R1 r1 ev
  subst ex
  obtain rfl:u=Value.ref a:=rx
  obtain ⟨its,r,pl,hz⟩:=I1.list hs
  have hlen:=r.length
  refine call_reversed_list pl.isList ?_
  refine Calls.spliced_nil ?_
  have la:a<s1.heap.objs.size:=by obtain ⟨_,e,_⟩:=pl.isList;exact X4 e
  have gi:(s1.heap.push (revObj a ((its.toArray.size:Int) - 1))).IsRevIter s1.heap.objs.size a ((its.toArray.size:Int) - 1):=⟨_,Heap.get?_push_size _ rfl,rfl,rfl⟩
  refine vB (I1.ok.hd hc) gi (pl.isList.at fun o e=>Heap.get?_push_of_some _ e) (Yg la) (by rw [Yb,<-hlen];exact hz) fun h' tk acc' hsz kp it=>?_
  have ea:acc'.toList=its.reverse:=by
   refine List.ext_getElem? fun j=>?_
   by_cases hj:j<its.length
   ·have hj':j<acc'.toList.length:=by rw [Array.length_toList,it.1,Yb];exact hj
    have h3:=it.2 j (acc'.toList[j]) (by rw [<-Array.getElem?_toList];exact List.getElem?_eq_getElem hj')
    rw [List.getElem?_eq_getElem hj',List.getElem?_reverse hj,<-h3,Yb]
    simp
   ·rw [List.getElem?_eq_none (by rw [Array.length_toList,it.1,Yb];omega),List.getElem?_eq_none (by rw [List.length_reverse];omega)]
  have kp':∀ b o,s1.heap.get? b=some o->h'.get? b=some o:=fun b o eb=>kp b o (Yg (X4 eb)) (Heap.get?_push_of_some _ eb)
  have hge:s1.heap.objs.size<=h'.objs.size:=by
   have:(s1.heap.push (revObj a ((its.toArray.size:Int) - 1))).objs.size=s1.heap.objs.size+1:=Heap.size_push _ _
   rw [this] at hsz
   omega
  have hf:H1 h'.objs.size=none:=I1.hok.fresh hge
  refine ⟨.ref h'.objs.size,_,I1.laid (a:=h'.objs.size) (o:=.tup xs.reverse) (t':=tk) (fun b o eb=>Heap.get?_push_of_some _ (kp' b o eb)) hge (show cZ X.prog X.w _ _ _ (.tup xs.reverse) from ⟨by rw [List.length_reverse];exact hz,acc'.toList,by rw [ea];exact Fq r,by simpa using zN.new h' acc'⟩),rfl,?_⟩
  exact q _ _ ⟨μ1,.tup us.reverse,g1,x1.trans (Ex.laid hf).ext,R1.laid hf,.tupNew hf (yc rs),m1⟩
 ·exact m1.elim
end
end L2
namespace L2
open PySem PySem.Spec PyProof.Rows
section
variable {P:Program}{w:World}{A:Around}{E:Value->Shared->Prop}{s:Shared}
def jz (ks:List Int)(i:Int):Nat:=(ks.filter fun j=>decide (j<i)).length
theorem pI {k l:Int}(h:k<l):∀ ks:List Int,jz ks k<=jz ks l/\(k∈ks->jz ks k<jz ks l)
 | []=>⟨Yc _,fun h=>nomatch h⟩
 | a::ks=>by
  obtain ⟨i1,i2⟩:=pI h ks
  unfold jz at *
  rw [List.filter_cons,List.filter_cons]
  by_cases c1:a<k
  ·rw [if_pos (by simpa using c1),if_pos (by simpa using Int.lt_trans c1 h),List.length_cons,List.length_cons]
   refine ⟨by omega,fun m=>?_⟩
   rcases List.mem_cons.mp m with rfl | m
   ·exact absurd c1 (Int.lt_irrefl _)
   ·have:=i2 m;omega
  ·rw [if_neg (by simpa using c1)]
   by_cases c2:a<l
   ·rw [if_pos (by simpa using c2),List.length_cons]
    exact ⟨by omega,fun _=>by omega⟩
   ·rw [if_neg (by simpa using c2)]
    refine ⟨i1,fun m=>?_⟩
    rcases List.mem_cons.mp m with rfl | m
    ·exact absurd h c2
    ·exact i2 m
theorem lF {ks:List Int}{k l:Int}(hk:k∈ks):jz ks k<jz ks l↔k<l:=by
 constructor
 ·intro h
  rcases Int.lt_trichotomy k l with c | c | c
  ·exact c
  ·rw [c] at h;exact absurd h (Nat.lt_irrefl _)
  ·have:=(pI c ks).1;omega
 ·intro h
  exact (pI h ks).2 hk
def rkI (ks:List Int):Value->Nat
 | .int i _=>jz ks i
 | _=>0
def Ph:Value->Int
 | .int i _=>i
 | _=>0
theorem Lz {ks:List Int}:Cmp P w A s oneType' (rkI ks) (fun v=>∃ k∈ks,∃ t,v=.int k t):=by
 rintro E Q x y ⟨k,hk,t,rfl⟩ ⟨l,hl,u,rfl⟩ q
 rw [keyLt'_oneType]
 refine oneLt_int ?_
 rw [<-decide_eq_decide.mpr (lF (ks:=ks) (l:=l) hk)]
 exact q
theorem qd:∀ {ks:List Int} {vs:List Value},Vals (ks.map V.int) vs->vs.map Ph=ks/\∀ v∈vs,∃ k∈ks,∃ t,v=.int k t
 | [],_,h=>by cases h;exact ⟨rfl,fun _ h=>nomatch h⟩
 | k::ks,_,h=>by
  cases h with
  | cons r h=>
   obtain ⟨t,rfl⟩:=r
   obtain ⟨e,g⟩:=qd h
   refine ⟨by rw [X5,e];rfl,fun v hv=>?_⟩
   rcases List.mem_cons.mp hv with rfl | hv
   ·exact ⟨k,List.mem_cons_self,t,rfl⟩
   ·obtain ⟨l,hl,x⟩:=g v hv
    exact ⟨l,X8 _ hl,x⟩
theorem tL:∀ {vs:List Value},(∀ v∈vs,∃ k t,v=Value.int k t)->Vals ((vs.map Ph).map V.int) vs
 | [],_=>.nil
 | v::vs,h=>by
  obtain ⟨k,t,rfl⟩:=h v List.mem_cons_self
  exact .cons ⟨t,rfl⟩ (tL fun u hu=>h u (X8 _ hu))
theorem Ko {ks:List Int}{vs:List Value}{b:Array Keyed}(p:Vals (ks.map V.int) vs)(hp:b.Perm (pairsOf vs))(hr:aY (rkI ks) b 0 vs.length) :
  ∃ ks':List Int,Vals (ks'.map V.int) (b.map (·.2)).toList/\ks'.Perm ks/\ks'.Pairwise (· < ·)/\(b.map (·.2)).toList.Perm vs:=by
 obtain ⟨ek,g⟩:=qd p
 have hl:=Array.perm_iff_toList_perm.mp hp
 have ep:(pairsOf vs).toList=vs.map fun v=>(v,v):=by
  have z:∀ l:List Value,l.zip l=l.map fun v=>(v,v):=fun l=>by
   induction l with
   | nil=>rfl
   | cons a l ih=>rw [List.zip_cons_cons,ih];rfl
  unfold pairsOf
  rw [Array.toList_zip]
  exact z vs
 rw [ep] at hl
 have same:∀ x∈b.toList,x.1=x.2/\x.2∈vs:=fun x hx=>by
  obtain ⟨v,hv,rfl⟩:=List.mem_map.mp (hl.mem_iff.mp hx)
  exact ⟨rfl,hv⟩
 have eo:(b.map (·.2)).toList=b.toList.map (·.2):=by simp
 have po:(b.toList.map (·.2)).Perm vs:=by
  have:=hl.map (·.2)
  rw [List.map_map] at this
  simpa [Function.comp_def] using this
 rw [eo]
 refine ⟨(b.toList.map (·.2)).map Ph,tL fun v hv=>?_,?_,?_,po⟩
 ·obtain ⟨k,_,t,x⟩:=g v (po.mem_iff.mp hv)
  exact ⟨k,t,x⟩
 ·rw [<-ek]
  exact po.map _
 ·rw [List.map_map,List.pairwise_map,List.pairwise_iff_getElem]
  intro i j hi hj hij
  have hb:b.toList.length=vs.length:=by have:=po.length_eq;simpa using this
  have hi':i<b.size:=by simpa using hi
  have hj':j<b.size:=by simpa using hj
  have:=hr i j (Nat.zero_le _) hij (by rw [<-hb];exact hj)
  rw [dN hi',dN hj'] at this
  have e1:=same b[i] (by simp)
  have e2:=same b[j] (by simp)
  obtain ⟨k,hk,t,x⟩:=g b[i].2 e1.2
  obtain ⟨l,_,u,y⟩:=g b[j].2 e2.2
  rw [e1.1,e2.1,x,y] at this
  have this:jz ks k<jz ks l:=this
  rw [lF hk] at this
  show Ph b.toList[i].2<Ph b.toList[j].2
  rw [Array.getElem_toList,Array.getElem_toList,x,y]
  exact this
theorem z7 {KS:List Int}:∀ {ks:List Int} {vs:List Value},Vals (ks.map V.int) vs->vs.map (rkI KS)=ks.map (jz KS)
 | [],_,p=>by cases p;rfl
 | k::ks,_,p=>by
  cases p with
  | cons r p=>
   obtain ⟨t,rfl⟩:=r
   rw [X5,X5,z7 p]
   rfl
theorem En {ks:List Int}(nd:ks.Nodup):(ks.map (jz ks)).Nodup:=by
 unfold List.Nodup
 rw [List.pairwise_map]
 refine List.Pairwise.imp_of_mem (fun {k l} hk hl ne e=>ne ?_) nd
 have n1:¬ k<l:=fun c=>by have:=(lF hk).mpr c;omega
 have n2:¬ l<k:=fun c=>by have:=(lF hl).mpr c;omega
 omega
theorem Bf {KS ks:List Int}{vs:List Value}(p:Vals (ks.map V.int) vs):((pairsOf vs).toList.map fun x=>rkI KS x.1)=ks.map (jz KS):=by
 have ep:(pairsOf vs).toList.map (·.1)=vs:=by
  unfold pairsOf
  rw [Array.toList_zip,List.map_fst_zip (Yc _)]
 rw [<-z7 p,<-ep,List.map_map,ep]
 rfl
theorem yG {a:Addr}{vs:List Value}{ks:List Int}{n:Nat}{R:Fin->Shared->Prop}(ho:s.heap.get? a=some (seqObj "list" vs.toArray n))(p:Vals (ks.map V.int) vs)(nd:ks.Nodup)(hz:vs.length<=sizeLine)
  (q:∀ (out:Array Value) (ks':List Int),Vals (ks'.map V.int) out.toList->ks'.Perm ks->ks'.Pairwise (· < ·)->out.toList.Perm vs->R (.done (.ret .none)) { s with heap:=sortedHeap s.heap a vs out }) :
  wpAny (model P w) A (Builtin.«list.sort» ⟨[.ref a],[]⟩) R E s:=by
 have la:a<s.heap.objs.size:=X4 ho
 rw [list_sort_plain]
 refine XS (listItems_at ho rfl (XS (listUpdate_at ho rfl ?_ (by simpa using hz) (Nat.zero_le _))))
 obtain ⟨e1,h1⟩:∃ e1,(s.heap.update a (Obj.mapSeq fun _=>#[])).get? a=some (seqObj "list" #[] e1):=⟨_,get?_update_seq ho (fun _=>#[])⟩
 refine XS (seqEpoch_at h1 rfl (XS (wpAny_newTuple (XS (wpAny_newList (wpAny_holding ?_))))))
 have h6:(((s.heap.update a (Obj.mapSeq fun _=>#[])).push (seqObj "tuple" vs.toArray 0)).push (seqObj "list" #[] 0)).get? a=some (seqObj "list" #[] e1):=Heap.get?_push_of_some _ (Heap.get?_push_of_some _ h1)
 have lk:ks.length=vs.length:=by have:=p.length;simpa using this
 show wpAny (model P w) A _ R E { s with heap:=((s.heap.update a (Obj.mapSeq fun _=>#[])).push (seqObj "tuple" vs.toArray 0)).push (seqObj "list" #[] 0) }
 dsimp only
 have size:vs.toArray.size=vs.length:=by simp
 have fin:∀ b:Array Keyed,b.Perm (pairsOf vs)->aY (rkI ks) b 0 vs.length->R (.done (.ret .none)) { s with heap:=sortedHeap s.heap a vs (b.map (·.2)) }:=fun b hp hr=>by
  obtain ⟨ks',g1,g2,g3,g4⟩:=Ko p hp hr
  exact q _ ks' g1 g2 g3 g4
 by_cases h2:vs.toArray.size<2
 ·rw [if_pos h2,if_pos h2]
  refine XS (X3 ?_)
  rw [StateT.run_pure]
  refine XS (X3 ?_)
  dsimp only
  refine XS (seqEpoch_at h6 rfl (XS (listUpdate_at h6 rfl ?_ (hsz2:=?_))))
  ·simp only [bne_self_eq_false,Bool.false_eq_true,if_false]
   refine X3 (fin (vs.toArray.zip vs.toArray) (Array.Perm.refl _) fun u v _ h3 h4=>?_)
   omega
  ·rw [Array.size_map]
   show (pairsOf vs).size<=_
   rw [pairsOf_size]
   omega
 ·rw [if_neg h2,if_neg h2]
  have kd:keyKind' vs.toArray=pure oneType':=by
   match vs,p,size,h2 with
   | [],_,_,h2=>exact absurd (by simp) h2
   | [_],_,_,h2=>exact absurd (by simp) h2
   | v1::v2::vs,p,_,_=>exact keyKind_ints (intsAre_of p)
  refine XS (wpAny_of_eq kd (XS ?_))
  have kk:=qd p
  have ep:(pairsOf vs).toList.map (·.1)=vs:=by
   unfold pairsOf
   rw [Array.toList_zip,List.map_fst_zip (Yc _)]
  have ok:SOk oneType' (rkI ks) (fun v=>∃ k∈ks,∃ t,v=.int k t) (SortSt.mk' oneType' (pairsOf vs) #[] 7 none):=⟨rfl,rfl,⟨fun x hx=>kk.2 x.1 (by rw [<-ep];exact List.mem_map.mpr ⟨x,hx,rfl⟩),by
   rw [Bf p]
   exact En nd⟩⟩
  have zp:(pairsOf vs).size=vs.length:=pairsOf_size _
  refine wpAny_mono (Jg (s:={ s with heap:=((s.heap.update a (Obj.mapSeq fun _=>#[])).push (seqObj "tuple" vs.toArray 0)).push (seqObj "list" #[] 0) }) (Q:=fun _ st'=>(arrOf st').Perm (pairsOf vs)/\failedOf st'=none/\aY (rkI ks) (arrOf st') 0 vs.length) Lz ok rfl (by show 2<=(pairsOf vs).size;omega) fun st' g1 g2 g3=>⟨g1,g2,by rw [<-zp];exact g3⟩) (fun r s' hr=>?_) fun _ _ e=>e
  ·obtain ⟨r1,st'⟩:=r
   obtain ⟨rfl,g1,g2,g3⟩:=hr
   dsimp only
   refine XS (seqEpoch_at h6 rfl (XS (listUpdate_at h6 rfl ?_ (hsz2:=?_))))
   ·rw [g2]
    simp only [bne_self_eq_false,Bool.false_eq_true,if_false]
    exact X3 (fin _ g1 g3)
   ·rw [Array.size_map,g1.size_eq,zp]
    omega
theorem vm {d:Addr}{es:Array DictEntry}{ep:Nat}{ks:List Int}{Q:Value->Shared->Prop}(hh:A.handled=none)(nd0:(d==sysModules)=false)(x:za s.heap d es ep)(hz:es.size<=sizeLine)
  (p:Vals (ks.map V.int) (es.toList.map (·.key))) (nd:ks.Nodup)
  (q:∀ (h':Heap) (tk:Nat) (l:Addr) (out:Array Value) (ks':List Int) (c:Nat),(∀ b o,s.heap.get? b=some o->h'.get? b=some o)->s.heap.objs.size<=l->h'.get? l=some (seqObj "list" out c)->Vals (ks'.map V.int) out.toList->ks'.Perm ks->ks'.Pairwise (· < ·)->Q (.ref l) { s with heap:=h',toks:=tk }) :
  wpAny (model P w) A (call (.builtin "sorted") [.ref d]) Q E s:=by
 have le:(es.toList.map (·.key)).length=es.size:=by simp
 refine Calls.call_function_entry kind_sorted plain_sorted entry_sorted (args_sorted1 _) ?_
 unfold Builtin.«sorted»
 refine XS (m:=checkCount "sorted" 1 1 _) (X3 ?_)
 refine XS (lR hh nd0 x hz fun h1 tk k1 lt1=>XS (wpAny_newList ?_))
 have ho:(h1.push (seqObj "list" (es.toList.map (·.key)).toArray 0)).get? h1.objs.size=some (seqObj "list" (es.toList.map (·.key)).toArray 0):=Heap.get?_push_size _ rfl
 have sz:s.heap.objs.size<=h1.objs.size:=Nat.le_of_lt lt1
 have k2:∀ b o,s.heap.get? b=some o->(h1.push (seqObj "list" (es.toList.map (·.key)).toArray 0)).get? b=some o:=fun b o hb=>Heap.get?_push_of_some _ (k1 b o hb)
 show wpAny _ _ _ _ _ { s with heap:=h1.push (seqObj "list" (es.toList.map (·.key)).toArray 0),toks:=tk }
 refine XS (wpAny_holding (wpAny_call_entry slot_list_sort ⟨_,ho,rfl⟩ entry_list_sort (yG (s:={ s with heap:=h1.push (seqObj "list" (es.toList.map (·.key)).toArray 0),toks:=tk }) ho p nd (by rw [le];exact hz) fun out ks' g1 g2 g3 g4=>⟨_,rfl,X3 ⟨_,rfl,?_⟩⟩) (args_list_sort _)))
 obtain ⟨c,e⟩:=sortedHeap_at (a:=h1.objs.size) (vs:=es.toList.map (·.key)) (out:=out) ho
 refine q _ tk _ out ks' c (fun b o hb=>?_) sz e g1 g2 g3
 have lt:=X4 (k1 b o hb)
 rw [sortedHeap_old (Yg lt) (Yd lt (by rw [size_push'];exact Nat.le_succ _))]
 exact k2 b o hb
end
section
variable {X:Cx}{K:Yh}
def yH {β : Type}(kvs:List (Key×β))(ks:List Int):Prop:=kvs.map (·.1)=ks.map Sum.inl
theorem vY {ks:List Int}:∀ {kvs:List (Key×V)} {vs:List (Key×Value)} {ks:List Int},KV kvs vs->yH kvs ks->vs.map (·.1)=ks.map Sum.inl
 | [],_,ks,.nil,e=>by
  have:ks=[]:=by cases ks with
   | nil=>rfl
   | cons a l=>simp [yH] at e
  subst this
  rfl
 | x::kvs,_,ks,.cons r t,e=>by
  cases ks with
  | nil=>simp [yH] at e
  | cons k ks=>
   unfold yH at e
   rw [X5,X5] at e
   obtain ⟨e1,e2⟩:=List.cons.inj e
   rw [X5,X5,vY (ks:=ks) t e2,<-r.1,e1]
theorem rP:∀ {es:List DictEntry} {vs:List (Key×Value)} {ks:List Int},PySem.Pairs (dG X.prog X.w) es vs->vs.map (·.1)=ks.map Sum.inl->Vals (ks.map V.int) (es.map (·.key))/\es.length=vs.length
 | _,_,ks,.nil,e=>by
  have:ks=[]:=by cases ks with
   | nil=>rfl
   | cons a l=>simp at e
  subst this
  exact ⟨.nil,rfl⟩
 | _,_,ks,.cons h1 h2 t,e=>by
  cases ks with
  | nil=>simp at e
  | cons k ks=>
   rw [X5,X5] at e
   obtain ⟨e1,e2⟩:=List.cons.inj e
   obtain ⟨i1,i2⟩:=rP (ks:=ks) t e2
   refine ⟨.cons ?_ i1,by rw [List.length_cons,List.length_cons,i2]⟩
   rcases bH h1 with ⟨i,u,q1,q2⟩ | ⟨x,u,q1,q2⟩
   ·rw [e1] at q1
    injection q1 with q1
    exact ⟨u,by rw [q1];exact q2⟩
   ·rw [e1] at q1
    exact nomatch q1
theorem yS (hc:X.calm=true):iw X (.builtin "sorted") (fun vs H Q=>∃ a kvs ks,vs=[.ref a]/\H a=some (.dK kvs)/\yH kvs ks /\
  ∀ js:List Int,js.Perm ks->js.Pairwise (· < ·)->∀ l,H l=none->Q (.ref l) (upd H l (.lst (js.map V.int)))):=by
 intro pins s Z H vs us Q I r ⟨a,kvs,ks,ev,hx,hi,q⟩
 subst ev
 obtain ⟨u,rfl,ru⟩:=vals1 r
 cases ru
 obtain ⟨z,y,vs,rel,dd⟩:=Fi I.hok hx
 have hl:kvs.length=vs.length:=Paired.length rel
 have kk:=vY (ks:=ks) rel hi
 obtain ⟨o,es,ep,g1,g2,g3,_,g4,g5⟩:=dd
 obtain ⟨p1,p2⟩:=rP (X:=X) g4 kk
 have pk:Vals (ks.map V.int) (es.toList.map (·.key))/\ks.Nodup/\es.size=vs.length:=by
  refine ⟨p1,?_,by rw [<-p2,Array.length_toList]⟩
  rw [kk] at g5
  exact (List.pairwise_map.mp g5).imp fun h e=>h (by rw [e])
 refine vm (I.ok.hd hc) y ⟨o,g1,g2,g3⟩ (by rw [pk.2.2];omega) pk.1 pk.2.1 fun h' tk l out ks' c keep hl' e pr pm pw=>?_
 have l1:ks'.length=out.toList.length:=by have:=pr.length;simpa using this
 have l2:=pm.length_eq
 have l3:ks.length=vs.length:=by have:=congrArg List.length kk;simpa using this.symm
 exact ⟨.ref l,_,I.laid (t':=tk) keep hl' (show cZ X.prog X.w _ h' _ (.lst (ks'.map V.int)) from ⟨by rw [X6];omega,out.toList,c,pr,by simpa using e⟩),rfl,q ks' pm pw l (I.hok.fresh hl')⟩
def xT:MC:=fun ws h Q=>match ws with
 | [.loc n]=>(match h.c n with
  | some (.dct kvs)=>∃ ks:List Int,yH kvs ks/\∀ js:List Int,js.Perm ks->js.Pairwise (· < ·)->Q (.lst (js.map .int)) h
  | _=>False)
 | _=>False
theorem xU {H:Hp}{μ : Mu}:∀ {kvs:List (Key×W)} {kvv:List (Key×V)} {ks:List Int},nR K H μ kvs kvv->yH kvs ks->yH kvv ks
 | [],_,ks,.nil,e=>e
 | x::kvs,_,ks,.cons r t,e=>by
  cases ks with
  | nil=>simp [yH] at e
  | cons k ks=>
   unfold yH at e |-
   rw [X5,X5] at e
   obtain ⟨e1,e2⟩:=List.cons.inj e
   have:=xU (ks:=ks) t e2
   unfold yH at this
   rw [X5,X5,this,<-r.1,e1]
theorem J9 (hc:X.calm=true):jM X (.builtin "sorted") xT:=⟨_,yS hc,by
 intro H μ h vs ws Qw Q R r m k
 unfold xT at m
 split at m
 ·rename_i n
  split at m
  ·rename_i kvs ec
   obtain ⟨p,kvv,hp,hx,rf⟩:=R.dctAt ec
   obtain ⟨v,rfl,r1⟩:=iH r
   rw [Rep] at r1
   obtain ⟨p',rfl,hp'⟩:=r1
   have ep:p'=p:=by rw [hp] at hp';exact (Option.some.inj hp').symm
   subst ep
   obtain ⟨ks,m1,m2⟩:=m
   refine ⟨p',kvv,ks,rfl,hx,xU rf m1,fun js pj sj l hl=>?_⟩
   exact k _ _ ⟨μ,_,h,(Ex.laid hl).ext,R.laid hl,.lstNew R hl (lQ js),m2 js pj sj⟩
  ·exact m.elim
 ·exact m.elim⟩
def Kv:ME:=fun _ h Q=>Q (.loc h.nx) (h.new (.dct []))
theorem Ie {pos:Pos}:DE X (.Dict [] [] pos) Kv:=Hr.of fun Z H Q ⟨μ,g,Zw,Qw,R,S,m,q⟩ p hp=>by
 have R1:Rel X.K (μ.put g.nx p) (upd H p (.dK [])) (g.new (.dct [])):=R.newCell hp trivial ⟨[],aV,.nil⟩
 exact q _ _ ⟨_,.loc g.nx,_,(Ex.newCell R hp).ext,R1,by rw [Rep];exact ⟨p,rfl,Mu.put_same⟩,m⟩
end
section
variable {X:Cx}{o e1 e2:Expr}{mo:ME}{ma:MA}{apos cpos:Pos}
def Hi:MM:=fun x ws h Q=>match x,ws with
 | .loc n,[y,z]=>(match h.c n,Sy y with
  | some (.dct kvs),some k=>Q ((pB kvs k).getD z) h
  | _,_=>False)
 | _,_=>False
def zM (h:Gh)(x:W)(P:Prop):Prop:=match x with
 | .loc n=>(match h.c n with
  | some (.dct _)=>P
  | _=>False)
 | _=>False
def Uy (r:MM)(mo:ME)(ma:MA):ME:=fun Z h Q=>mo Z h fun x h1=>zM h1 x (ma Z h1 fun xs h2=>r x xs h2 Q)
theorem wF {K:Yh}{H:Hp}{μ : Mu}{k:Key}:∀ {kvs:List (Key×W)} {kvv:List (Key×V)},nR K H μ kvs kvv->(∀ w,pB kvs k=some w->∃ v,Ag kvv k=some v/\Rep K H μ w v)/\(pB kvs k=none->Ag kvv k=none)
 | [],_,.nil=>⟨fun w e=>by simp [pB] at e,fun _=>rfl⟩
 | x::kvs,y::_,.cons r t=>by
  obtain ⟨i1,i2⟩:=wF (k:=k) t
  unfold pB Ag at *
  rw [List.find?_cons,List.find?_cons]
  by_cases c:x.1=k
  ·have c2:y.1=k:=r.1.symm.trans c
   rw [decide_eq_true c]
   simp only [c2,decide_true]
   exact ⟨fun w e=>by cases e;exact ⟨_,rfl,r.2⟩,fun e=>by cases e⟩
  ·have c2:¬ y.1=k:=fun e=>c (r.1.trans e)
   rw [decide_eq_false c]
   simp only [c2,decide_false]
   exact ⟨i1,i2⟩
theorem Oj (hu:X.A.units+30<cLine)(ho:DE X o mo)(ha:DAs X [e1,e2] ma)
  (hbase:attributeBase o "get" X.env (eval o X.env)=eval o X.env:=by rfl)
  (hfew:((backTo cpos (starEach [e1,e2] X.env)).all (fun x=>!x.1)&&(backToKw cpos (keywordEach [] X.env)).all (fun x=>x.1.isSome)
   && decide (([e1,e2]:List Expr).length+([]:List Keyword).length+(if ([]:List Keyword).isEmpty then 0 else 1)<30))=true:=by rfl)
  (hline:(apos.endLine==cpos.line)=true:=by rfl) (hst:starEach [e1,e2] X.env=(false,eval e1 X.env)::starEach [e2] X.env:=by rfl) (hplain:(backTo cpos (starEach [e2] X.env)).any (·.1)=false:=by rfl) :
  DE X (.Call (.Attribute o "get" apos) [e1,e2] [] cpos) (Uy Hi mo ma):=by
 intro pins s Z H Q I ⟨μ,h,Zw,Qw,R,S,m,k⟩
 refine wpAny_Call_method_late hbase hfew hline rfl (thn (ho pins s Z H _ I ⟨μ,h,Zw,_,R,S,m,fun _ _ z=>z⟩) fun u s1 ⟨x,H1,I1,rx,μ1,wx,h1,e1',R1,r1,il⟩=>?_)
 unfold zM at il
 dsimp only at il
 split at il
 ·rename_i n
  split at il
  ·rename_i kv0 ec0
   have r0:=r1
   rw [Rep] at r1
   obtain ⟨a,rfl,ha'⟩:=r1
   obtain rfl:u=Value.ref a:=rx
   obtain ⟨p,kvv,hp,hx,_⟩:=R1.dctAt ec0
   have ep:p=a:=by rw [ha'] at hp;exact (Option.some.inj hp).symm
   subst ep
   obtain ⟨z,y,vs0,Wj,dd0⟩:=Fi I1.hok hx
   obtain ⟨ob,es,epo,g1,g2,_⟩:=id dd0
   refine ⟨"dict", "dict.get",PySem.F.plainAttrs_dict,PySem.F.slot_dict_get,PySem.F.type_dict_get,⟨ob,g1,g2.1⟩,fun b e=>by cases e;exact ⟨ob,g1,g2.2.1⟩,?_⟩
   have hA:=ha cpos pins s1 Z H1 _ I1 ⟨μ1,h1,Zw,_,R1,S.ext e1',il,fun _ _ z=>z⟩
   rw [hst] at hA |-
   refine Calls.callWith_builtin (by show (false||(backTo cpos (starEach [e2] X.env)).any (·.1))=false;rw [hplain] <;> rfl) (Calls.evalArgs_plain ?_)
   refine thn hA fun us s2 ⟨ys,H2,I2,r2,μ2,ws,h2,e2',R2,rs,m2⟩=>?_
   unfold Hi at m2
   dsimp only at m2
   split at m2
   ·rename_i n' y' z' e3
    cases e3
    split at m2
    ·rename_i kvs kk ec ek
     obtain ⟨v1,v2,rfl,ry,rz⟩:=Cr rs
     have ev1:=qL ry ek
     subst ev1
     obtain ⟨u1,u2,rfl,ru1,ru2⟩:=vals2 r2
     obtain ⟨p2,kvv2,hp2,hx2,rf2⟩:=R2.dctAt ec
     have r0':=e2'.r _ _ r0
     rw [Rep] at r0'
     obtain ⟨a2,ea,ha2⟩:=r0'
     cases ea
     have ep2:p2=p:=by rw [ha2] at hp2;exact (Option.some.inj hp2).symm
     subst ep2
     obtain ⟨z2,hd2,vs2,rel2,dd⟩:=Fi I2.hok hx2
     obtain ⟨t1,t2⟩:=wF (k:=kk) rf2
     refine call_meetsIn PySem.F.slot_dict_get dd.typeIs PySem.F.entry_dict_get (PySem.F.args_dict_get_3 _ _ _) (meets_dict_get_default (dG X.prog X.w) p2 (Ka ru1) hd2 u2) ⟨_,dd.mapOf,?_⟩
     have hv:=(rel2.val kk).getD ru2
     cases ev:pB kvs kk with
     | some wv=>
      rw [ev] at m2
      obtain ⟨v,a1,a3⟩:=t1 wv ev
      rw [a1] at hv
      exact ⟨v,H2,I2.tok _,hv,k _ _ ⟨μ2,wv,h2,e1'.trans e2',R2,a3,m2⟩⟩
     | none=>
      rw [ev] at m2
      rw [t2 ev] at hv
      exact ⟨v2,H2,I2.tok _,hv,k _ _ ⟨μ2,z',h2,e1'.trans e2',R2,rz,m2⟩⟩
    ·exact m2.elim
   ·exact m2.elim
  ·exact il.elim
 ·exact il.elim
end
end L2
namespace L2
open PySem PySem.Spec PyProof.Rows
section
variable {prog:Program}{w:World}{A:Around}{R:Result->Shared->Prop}{E:Value->Shared->Prop}{L I:Addr}{ns:List Int}{its:List Value}
theorem yJ {d:Value}(hh:A.handled=none)(hne:L≠I)(rv:Vals (ns.map V.int) its)(S:Addr)(hS1:S≠I)(hS2:S≠L) :
  ∀ (k j:Nat) (s:Shared) (c:Nat) (old:Array Value),ns.length - j=k->j<=ns.length->s.heap.IsTupleIter I L j->s.heap.IsTuple L its.toArray ->
  (j=0/\old = #[]\/∃ b t,Gr ns j b/\old = #[.int b t,.int b t]) ->
  s.heap.get? S=some { cls:=.type "list",dict:=none,data:=.seq old c,slots:=#[] } ->
  (∀ v h' tk,(ns=[]/\v=d\/∃ b t,Gr ns ns.length b/\v=.int b t)->(∀ b o,b≠I->b≠S->s.heap.get? b=some o->h'.get? b=some o)->R (.ok (.ret v)) { s with heap:=h',toks:=tk }) ->
  codeAny (model prog w) A (.builtin "max.loop" ⟨[.ref I,.none,.ref S],[("default",d)]⟩) R s:=by
 have hlen:its.length=ns.length:=by rw [<-rv.length,X6]
 have hname:(toString "max"++toString ".loop" : String) = "max.loop":=by decide
 have W:=Walks.tuple (prog:=prog) (w:=w) (A:=A.in1) hh I L hne its.toArray
 intro k
 induction k with
 | zero=>
  intro j s c old hk hj i1 i2 ho hS hR
  have ej:j=ns.length:=by omega
  refine codeAny_builtin F.entry_max_loop ?_
  rw [Around.under_plainId F.plain_max_loop _]
  show wpAny _ A.in1 (seqItems? (.ref S) >>= _) _ _ s
  refine XS (wpAny_seqItems hS rfl ?_)
  show wpAny _ A.in1 (tryCatch (pyNext (.ref I)) _ >>= _) _ _ s
  refine XS (wpAny_tryCatch (W.done s _ _ ⟨by rw [Yb,hlen,<-ej];exact i1,i2⟩ fun h' tk hk'=>?_))
  rcases ho with ⟨z,rfl⟩ | ⟨b,t,hb,rfl⟩
  ·have en:ns=[]:=List.length_eq_zero_iff.mp (by omega)
   show wpAny _ A.in1 (rule _ >>= _) _ _ _
   refine XS (wpAny_rule (X3 ?_))
   exact hR d h' tk (.inl ⟨en,rfl⟩) fun b o h1 h2 e=>hk' b o (by simpa using h1) e
  ·have hS':=hk' S _ (by simpa using hS1) hS
   show wpAny _ A.in1 (updateSeq S (fun _=>#[]) >>= _) _ _ _
   refine XS ?_
   refine wpAny_updateSeq hS' rfl (XS (wpAny_letGo (X3 ?_)))
   exact hR _ _ tk (.inr ⟨b,t,ej ▸ hb,rfl⟩) fun b o h1 h2 e=>(Heap.get?_update_other _ _ (Ne.symm h2)).trans (hk' b o (by simpa using h1) e)
 | succ k ih=>
  intro j s c old hk hj i1 i2 ho hS hR
  have hlt:j<ns.length:=by omega
  refine codeAny_builtin F.entry_max_loop ?_
  rw [Around.under_plainId F.plain_max_loop _]
  show wpAny _ A.in1 (seqItems? (.ref S) >>= _) _ _ s
  refine XS (wpAny_seqItems hS rfl ?_)
  show wpAny _ A.in1 (tryCatch (pyNext (.ref I)) _ >>= _) _ _ s
  refine XS (wpAny_tryCatch (W.item j s _ _ (by rw [Yb,hlen];exact hlt) ⟨i1,i2⟩ fun v h' tk hP hst' hk'=>?_))
  obtain ⟨u,ev⟩:=pU (i:=j) (v:=v) rv (by simpa using hP)
  have hS':=hk' S _ (by simpa using hS1) hS
  have hm:ns.getD j 0∈ns:=by rw [List.getD_eq_getElem?_getD,List.getElem?_eq_getElem hlt];exact List.getElem_mem _
  have go:∀ (h1:Heap) (c':Nat) (b:Int) (t:Tok),Gr ns (j+1) b->h1.get? S=some { cls:=.type "list",dict:=none,data:=.seq #[.int b t,.int b t] c',slots:=#[] } ->
    (∀ b o,b≠S->h'.get? b=some o->h1.get? b=some o) ->
    codeAny (model prog w) A (.builtin "max.loop" ⟨[.ref I,.none,.ref S],[("default",d)]⟩) R { s with heap:=h1,toks:=tk }:=fun h1 c' b t hb h3 h4=>by
   have st:=W.frame _ _ h1 hst' fun b hb o e=>h4 b o (fun z=>by
    subst z
    rcases List.mem_cons.mp hb with q | q
    ·exact hS1 q
    ·exact hS2 (by simpa using q)) e
   exact ih (j+1) _ c' _ (by omega) hlt st.1 st.2 (.inr ⟨b,t,hb,rfl⟩) h3 fun v h2 tk2 hv hk2=>hR v h2 tk2 hv fun b o n1 n2 e=>hk2 b o n1 n2 (h4 b o n2 (hk' b o (by simpa using n1) e))
  rcases ho with ⟨z,rfl⟩ | ⟨b,t,hb,rfl⟩
  ·show wpAny _ A.in1 (updateSeq S (fun _=>#[v,v]) >>= _) _ _ _
   refine XS ?_
   refine wpAny_updateSeq hS' rfl ?_
   rw [hname]
   subst ev
   refine X3 ⟨plainId_quiet F.plain_max_loop _,go _ _ _ _ ⟨hm,fun k hk=>?_⟩ (Heap.get?_update_self _ hS' rfl) fun b o n e=>(Heap.get?_update_other _ _ (Ne.symm n)).trans e⟩
   have:k=j:=by omega
   rw [this]
   exact Int.le_refl _
  ·subst ev
   show wpAny _ A.in1 (tryCatch (holding [_,_] (richCompare .Gt _ _ >>= _)) _ >>= _) _ _ _
   refine XS (wpAny_tryCatch (wpAny_holding (XS (CmpOf.ints_gt (P:=fun i v=>∃ t,v=.int (if i=0 then ns.getD j 0 else b) t) (fun i=>if i=0 then ns.getD j 0 else b) (fun _ _ h=>h) 0 1 _ _ _ _ _ ⟨u,rfl⟩ ⟨t,rfl⟩ ?_))))
   refine XS (wpAny_holding (wpAny_truthy_bool ?_))
   refine XS (wpAny_letGo (X3 ?_))
   by_cases q:ns.getD j 0>b
   ·rw [if_pos (by simpa using q)]
    refine XS ?_
    refine wpAny_updateSeq hS' rfl (XS (wpAny_letGo ?_))
    rw [hname]
    refine X3 ⟨plainId_quiet F.plain_max_loop _,go _ _ _ _ ⟨hm,fun k hk=>?_⟩ (Heap.get?_update_self _ hS' rfl) fun b o n e=>(Heap.get?_update_other _ _ (Ne.symm n)).trans e⟩
    by_cases h:k<j
    ·have:=hb.2 k h;omega
    ·have:k=j:=by omega
     rw [this]
     exact Int.le_refl _
   ·rw [if_neg (by simpa using q)]
    refine XS (wpAny_letGo ?_)
    rw [hname]
    refine X3 ⟨plainId_quiet F.plain_max_loop _,go h' c b t ⟨hb.1,fun k hk=>?_⟩ hS' fun b o n e=>e⟩
    by_cases h:k<j
    ·exact hb.2 k h
    ·have:k=j:=by omega
     rw [this]
     omega
theorem yK {s:Shared}{d:Value}{Q:Value->Shared->Prop}(hh:A.handled=none)(rv:Vals (ns.map V.int) its)(hl:s.heap.IsTuple L its.toArray)
  (hQ:∀ v h' tk,(ns=[]/\v=d\/∃ b t,Gr ns ns.length b/\v=.int b t)->(∀ b o,s.heap.get? b=some o->h'.get? b=some o)->Q v { s with heap:=h',toks:=tk }) :
  wpAny (model prog w) A (call (.builtin "max") [.ref L] [("default",d)]) Q E s:=by
 have hname:(toString "max"++toString ".loop" : String) = "max.loop":=by decide
 have hlt:L<s.heap.objs.size:=by obtain ⟨_,e,_⟩:=hl;exact X4 e
 refine wpAny_call (codeAny_call_builtin F.plain_max F.entry_max ?_)
 simp only [checkBuiltinCall,F.kind_max]
 have hc:wpAny (model prog w) A.in1 (Builtin.«max» ⟨[.ref L],[("default",d)]⟩) (fun fin s'=>match fin with
   | .done f=>(match (Except.ok f:Result) with | .ok (.ret v)=>Q v s' | .ok _=>False | .error e=>E e s')
   | .again c'=>c'.quiet=true/\codeAny (model prog w) A c' (fun r s'=>match r with | .ok (.ret v)=>Q v s' | .ok _=>False | .error e=>E e s') s') E s:=by
  show wpAny _ A.in1 (Builtin.Builtins.bindParams "max" ["key", "default"] 0 ⟨[],[("default",d)]⟩ >>= _) _ _ s
  refine XS (wpAny_of_eq (show Builtin.Builtins.bindParams "max" ["key", "default"] 0 ⟨[],[("default",d)]⟩=pure [none,some d] from rfl) ?_)
  refine XS (X3 ?_)
  refine XS (wpAny_pyIter_tuple hl ?_)
  refine XS (wpAny_newObj_type ?_)
  rw [hname]
  have n1:(s.heap.push { cls:=.type "tuple_iterator",data:=.fields #[.ref L,.int 0 0] }).objs.size=s.heap.objs.size+1:=Heap.size_push ..
  refine X3 ⟨plainId_quiet F.plain_max_loop _,yJ hh (Yg hlt) rv _ (Ne.symm (Yg (by rw [n1];exact Nat.lt_succ_self _))) (Ne.symm (Yg (by rw [n1];exact Nat.lt_succ_of_lt hlt))) _ 0 _ 0 #[] rfl (Nat.zero_le _) ?_ ?_ (.inl ⟨rfl,rfl⟩) (Heap.get?_push_size _ rfl) fun v h' tk hv hk=>?_⟩
  ·exact ⟨_,Heap.get?_push_of_some _ (Heap.get?_push_size _ rfl),rfl,rfl⟩
  ·exact (hl.push _).push _
  ·exact hQ v h' tk hv fun b o e=>hk b o (Yg (X4 e)) (Yg (by rw [n1];exact Nat.lt_succ_of_lt (X4 e))) (Heap.get?_push_of_some _ (Heap.get?_push_of_some _ e))
 cases hsig:Manifest.signature? "max" with
 | none=>exact X3 hc
 | some sig=>
  have h2:Bind.checkArgs "max" sig ⟨[.ref L],[("default",d)]⟩=pure ():=by have:=tR (.ref L) d;simpa only [argsOk,hsig] using this
  simp only [h2]
  exact X3 hc
end
section
variable {X:Cx}
def Jf (X:Cx):List V->Hp->VK->Prop:=fun xs H Q=>∃ (p:Addr) (ns:List Int),xs=[.ref p]/\SqT X.K H p (ns.map V.int)/\∀ M,(ns=[]/\M=0\/M∈ns/\∀ a,a∈ns->a<=M)->Q (.int M) H
theorem Hh {x:Str}{p pos cp kp:Pos}{e:Expr}{j:Nat}{t:TA}(hc:X.calm=true)(hg:Gl X x)(hm:X.mg x=none)(hv:bootBuiltins x=some (.builtin "max"))(ha:PA X [e] t)
  (hn:x ≠ "__name__":=by decide) (hdb:(x==("__debug__" : Str))=false:=by decide)
  (he:starEach [e] X.env=(false,eval e X.env)::starEach [] X.env:=by rfl):PE X (.Call (.Name x p) [e] [⟨some "default",.Constant (.int 0) j cp,kp⟩] pos) (tCB (Jf X) t):=by
 intro pins s Z H Q I h
 refine wpAny_Call_Name_kw (iW I hg hm hv ?_ hn hdb)
 refine callWith_kw (thn (ha pos pins s Z H _ I h) fun us s1 ⟨vs,H1,I1,r1,q1⟩=>?_) (by rw [he];rfl) (by rw [he];rfl)
 refine kws_cons (wpAny_Constant_int (kws_nil ?_))
 obtain ⟨q,ns,e1,hS,hq⟩:=q1
 subst e1
 obtain ⟨u,rfl,ru⟩:=vals1 r1
 cases ru
 have I2:=I1.tok (s1.toks+1)
 obtain ⟨its,rv,pl,hz⟩:=I2.tuple hS
 refine yK (I2.ok.hd hc) rv (show Heap.IsTuple _ _ _ from pl) fun v h' tk hv hk=>?_
 rcases hv with ⟨en,rfl⟩ | ⟨b,t,hb,rfl⟩
 ·exact ⟨.int 0,H1,I2.kept (h':=h') (t':=tk) hk,⟨_,rfl⟩,hq _ (.inl ⟨en,rfl⟩)⟩
 ·refine ⟨.int b,H1,I2.kept (h':=h') (t':=tk) hk,⟨_,rfl⟩,hq _ (.inr ⟨hb.1,fun a ha=>?_⟩)⟩
  obtain ⟨k,hk,e⟩:=List.mem_iff_getElem.mp ha
  have:=hb.2 k hk
  rw [List.getD_eq_getElem?_getD,List.getElem?_eq_getElem hk] at this
  rw [<-e]
  exact this
def rW:MC:=fun ws h Q=>match ws with
 | [.tup us]=>∃ ns:List Int,us=ns.map W.int/\∀ M,(ns=[]/\M=0\/M∈ns/\∀ a,a∈ns->a<=M)->Q (.int M) h
 | _=>False
theorem Nj:SJ X.K (Jf X) rW:=by
 intro H μ h vs ws Qw Q R r m k
 unfold rW at m
 split at m
 ·rename_i us
  obtain ⟨v,e,rv⟩:=iH r
  rw [Rep] at rv
  obtain ⟨p,ys,ex,hs,rs⟩:=rv
  obtain ⟨ns,eu,m⟩:=m
  subst e ex
  rw [eu] at rs
  have:=jJ rs
  subst this
  exact ⟨p,ns,rfl,hs,fun M hM=>k _ _ (.int R (m M hM))⟩
 ·exact m.elim
theorem K7 {x:Str}{p pos cp kp:Pos}{e:Expr}{j:Nat}{ma:MA}(hc:X.calm=true)(hg:Gl X x)(hm:X.mg x=none)(hv:bootBuiltins x=some (.builtin "max"))(ha:DAs X [e] ma)
  (hn:x ≠ "__name__":=by decide) (hdb:(x==("__debug__" : Str))=false:=by decide)
  (he:starEach [e] X.env=(false,eval e X.env)::starEach [] X.env:=by rfl):DE X (.Call (.Name x p) [e] [⟨some "default",.Constant (.int 0) j cp,kp⟩] pos) (mCB rW ma):=
 (Hh hc hg hm hv ha hn hdb he).of fun _ _ _ h=>Ho Nj h
theorem zU (hc:X.calm=true):iw X (.builtin "sum") (fun xs H Q=>∃ (p:Addr) (ns:List Int),xs=[.ref p]/\SqT X.K H p (ns.map V.int)/\Q (.int ns.sum) H):=by
 intro pins s Z H xs us Q I r ⟨p,ns,e,hS,q⟩
 subst e
 obtain ⟨u,rfl,ru⟩:=vals1 r
 cases ru
 obtain ⟨its,rv,pl,hz⟩:=I.tuple hS
 have hlen:its.length=ns.length:=by rw [<-rv.length,X6]
 have hl:s.heap.IsTuple p its.toArray:=pl
 have hlt:p<s.heap.objs.size:=by obtain ⟨_,e,_⟩:=hl;exact X4 e
 refine call_sum_walkAnyS (wpAny_pyIter_tuple hl ?_)
 refine ⟨s.heap.objs.size,[s.heap.objs.size,p],[s.heap.objs.size],_,its.toArray.size,_,_,fun i=>ns.getD i 0,rfl,(Walks.tuple (A:=X.A.in1) (I.ok.hd hc) _ p (Yg hlt) its.toArray).toS,
  ⟨⟨_,Heap.get?_push_size _ rfl,rfl,rfl⟩,hl.push _⟩,fun b hb=>?_,fun i v hP=>pU rv (by simpa using hP),fun s' t' hm=>?_⟩
 ·rw [Heap.size_push]
  simp only [List.mem_cons,List.not_mem_nil,or_false] at hb
  rcases hb with rfl | rfl
  ·exact Nat.lt_succ_self _
  ·exact Nat.lt_succ_of_lt hlt
 ·have e:preSum (fun i=>ns.getD i 0) its.toArray.size=ns.sum:=by rw [Yb,hlen,mU ns _ (Yc _),List.take_length]
  rw [e]
  obtain ⟨hh,gg,dd,tt,oo⟩:=s'
  have hg:gg=s.gens:=hm.gens
  have hd:dd=s.drawn:=hm.drawn
  have ho:oo=s.os:=hm.os
  subst hg hd ho
  refine ⟨.int ns.sum,H,I.kept (h':=hh) (t':=tt) (fun b x e=>?_),⟨t',rfl⟩,q⟩
  exact hm.heap b x (fun hm=>by rw [List.mem_singleton.mp hm] at e;exact Nat.lt_irrefl _ (X4 e)) (Heap.get?_push_of_some _ e)
def G7:MC:=fun ws h Q=>match ws with
 | [.tup us]=>(match kE us with
  | some ns=>Q (.int ns.sum) h
  | none=>False)
 | _=>False
theorem PX (hc:X.calm=true):jM X (.builtin "sum") G7:=⟨_,zU hc,by
 intro H μ h vs ws Qw Q R r m k
 unfold G7 at m
 split at m
 ·rename_i us
  split at m
  ·rename_i ns en
   obtain ⟨v,e,rv⟩:=iH r
   rw [Rep] at rv
   obtain ⟨p,ys,ex,hs,rs⟩:=rv
   subst e ex
   rw [qp rs en] at hs
   exact ⟨p,ns,rfl,hs,k _ _ (.int R m)⟩
  ·exact m.elim
 ·exact m.elim⟩
end
end L2
namespace My
set_option maxHeartbeats 4000000
open PySem L2 PyProof.Rows
def top (i:Nat):Stmt:=PySem.Challenge.pw_easelroom_k53_products.main.body.getD i (.Pass ⟨0,0,0,0⟩)
abbrev cI:Stmt:=top 11
theorem fM:bB ["totals", "terms"] ["totals"] (aQ cI):=⟨rfl,rfl,rfl,by decide +kernel,rfl,by decide +kernel,by decide +kernel⟩
abbrev lN:Stmt:=top 12
theorem ud:bB ["powers", "key", "power"] ["powers"] (aQ lN):=⟨rfl,rfl,rfl,by decide +kernel,rfl,by decide +kernel,by decide +kernel⟩
abbrev gJ:Stmt:=top 13
theorem mX:bB ["key", "letters", "powers", "taken"] ["key", "letters"] (aQ gJ):=⟨rfl,rfl,rfl,by decide +kernel,rfl,by decide +kernel,by decide +kernel⟩
abbrev cX:Stmt:=top 14
theorem gn:bB ["one"] ["one"] (aQ cX):=⟨rfl,rfl,rfl,by decide +kernel,rfl,by decide +kernel,by decide +kernel⟩
abbrev cU:Stmt:=top 15
theorem fZ:bB ["one", "powers", "number"] ["one"] (aQ cU):=⟨rfl,rfl,rfl,by decide +kernel,rfl,by decide +kernel,by decide +kernel⟩
abbrev qZ:Stmt:=top 16
theorem v8:bB ["one", "other", "totals", "others", "key", "number", "other_key", "other_number", "place", "letters", "product", "unpacked_terms"] ["one", "other"] (aQ qZ):=⟨rfl,rfl,rfl,by decide +kernel,rfl,by decide +kernel,by decide +kernel⟩
abbrev lK:Stmt:=top 18
theorem tB:bB ["_law_script", "_law_k"] ["_law_script", "_law_k"] (aQ lK):=⟨rfl,rfl,rfl,by decide +kernel,rfl,by decide +kernel,by decide +kernel⟩
abbrev iT:Stmt:=top 19
theorem oH:bB ["_law_script", "_law_k", "_law_many", "_law_left", "_law_free", "_law_seed", "_law_found", "_law_j", "_law_near"] ["_law_script", "_law_k", "_law_many"] (aQ iT):=⟨rfl,rfl,rfl,by decide +kernel,rfl,by decide +kernel,by decide +kernel⟩
abbrev gR:Stmt:=top 20
theorem mq:bB ["_law_x"] ["_law_x"] (aQ gR):=⟨rfl,rfl,rfl,by decide +kernel,rfl,by decide +kernel,by decide +kernel⟩
abbrev gY:Stmt:=top 21
theorem mK:bB ["_law_x", "_law_letters", "_law_most", "_law_found", "_law_k"] ["_law_x", "_law_letters", "_law_most"] (aQ gY):=⟨rfl,rfl,rfl,by decide +kernel,rfl,by decide +kernel,by decide +kernel⟩
abbrev fH:Stmt:=top 22
theorem jT:bB ["_law_found"] ["_law_found"] (aQ fH):=⟨rfl,rfl,rfl,by decide +kernel,rfl,by decide +kernel,by decide +kernel⟩
abbrev pX:Stmt:=top 23
theorem wU:bB ["_law_script", "_law_k", "_law_letters", "_law_many", "_law_most", "_law_found", "_law_j", "_law_x"] ["_law_script", "_law_k", "_law_letters", "_law_many", "_law_most"] (aQ pX):=⟨rfl,rfl,rfl,by decide +kernel,rfl,by decide +kernel,by decide +kernel⟩
abbrev gP:Stmt:=top 24
theorem nC:bB ["_law_found", "_law_due", "_law_k", "_law_term"] ["_law_found", "_law_due"] (aQ gP):=⟨rfl,rfl,rfl,by decide +kernel,rfl,by decide +kernel,by decide +kernel⟩
abbrev jf:Stmt:=top 25
theorem oV:bB ["_law_wide", "_law_high", "_law_letters", "_law_step", "_law_found", "_law_i", "_law_j"] ["_law_wide", "_law_high", "_law_letters", "_law_step"] (aQ jf):=⟨rfl,rfl,rfl,by decide +kernel,rfl,by decide +kernel,by decide +kernel⟩
abbrev qP:Stmt:=top 26
theorem vQ:bB ["_law_script", "_law_letters", "_law_most", "_law_one", "_law_other", "_law_way"] ["_law_script", "_law_letters"] (aQ qP):=⟨rfl,rfl,rfl,by decide +kernel,rfl,by decide +kernel,by decide +kernel⟩
abbrev eZ:Stmt:=top 27
theorem j7:bB ["_law_one", "_law_other", "_law_found", "_law_powers_here", "_law_number_here", "_law_others", "_law_factor", "_law_both", "_law_due", "_law_highest"] ["_law_one", "_law_other"] (aQ eZ):=⟨rfl,rfl,rfl,by decide +kernel,rfl,by decide +kernel,by decide +kernel⟩
abbrev eY:Stmt:=top 28
theorem jR:bB ["_law_one", "_law_other", "_law_others", "e"] ["_law_one", "_law_other"] (aQ eY):=⟨rfl,rfl,rfl,by decide +kernel,rfl,by decide +kernel,by decide +kernel⟩
abbrev Ey:Stmt:=top 29
theorem Jp:bB ["_law_script", "_law_letters", "_law_one", "_law_other", "_law_due", "_law_whole"] ["_law_script"] (aQ Ey):=⟨rfl,rfl,rfl,by decide +kernel,rfl,by decide +kernel,by decide +kernel⟩
def eG (E:XWK):MS:=
  (iu (aG 1))
def dF:MSp:=mFn 1 2 false fun E=>
  (bY (cY (mCB gD (aA (mLC ow1 [0] (nIt (mCB xT (aA (aG 0) aW))) (dz (mOp kNe (mOp JC (aG 1) (aG 0)) (mC (.int 0)))) (lq (aA (aG 0) (aA (mOp JC (aG 1) (aG 0)) aW)))) aW)) (nName 1))
  (bY (nW (dz (mOp kGt (mCB kLen (aA (aG 1) aW)) (mC (.int 600)))) (tE "TooMuch" E) eF)
  (eG E)))
def cN:MSp:=dF
def pF (E:XWK):MS:=
  (iu (aG 1))
def pG:MSp:=mFn 1 3 false fun E=>
  (bY (cY (mC (.int 0)) (nName 1))
  (bY (oX (nIt (aG 0)) (nName 2) (cY (mOp cg (mOp lE (aG 1) (mC (.int 65536))) (aG 2)) (nName 1)))
  (pF E)))
def lC:MSp:=pG
def j9 (E:XWK):MS:=
  (iu (uz (aG 2)))
def jC:MSp:=mFn 2 4 true fun E=>
  (bY (cY (u5 aW) (nName 2))
  (bY (oX (mV (aA (aG 1) aW)) (nName 3) (bY (qm (JZ fD (aG 2) (aA (mOp lg (aG 0) (mC (.int 65536))) aW)))
  (cY (mOp wQ (aG 0) (mC (.int 65536))) (nName 0))))
  (j9 E)))
def gK:MSp:=jC
def dY (c_packed:MSp):MSp:=mFn 1 1 false fun E=>
  (iu (mLC (owT 2) [] (nIt (aG 0)) yd (lq (aA (bD c_packed E (aA (aG 0) aW)) (aA (aG 1) aW)))))
def cj:MSp:=dY lC
def d7:MSp:=mFn 1 3 false fun E=>
  (oX (nIt (aG 0)) (mQ 2 (ju (nName 1) (ju (nName 2) Js))) (nW (zm (mCB Je (aA (mLC ow1 [] (nIt (aG 1)) yd (mOp kGt (aG 0) (mC (.int 60)))) aW))) (tE "TooMuch" E) eF))
def cW:MSp:=d7
def ug (c_sum_of_totals c_unpacked c_packed_terms c_check_powers:MSp)(E:XWK):MS:=
  (bY (cY (mIf (zm (aG 0)) (mCB kLen (aA (mOp kIx (mOp kIx (aG 0) (mC (.int 0))) (mC (.int 0))) aW)) (mC (.int 0))) (nName 9))
  (bY (cY (bD c_sum_of_totals E (aA (aG 2) aW)) (nName 10))
  (bY (cY (mCB gD (aA (mLC (owT 2) [9] (nIt (aG 10)) yd (lq (aA (bD c_unpacked EF (aA (aG 0) (aA (aG 2) aW))) (aA (aG 1) aW)))) aW)) (nName 11))
  (bY (qm (bD c_check_powers E (aA (aG 11) aW)))
  (iu (aG 11))))))
def sH (c_sum_of_totals c_unpacked c_packed_terms c_check_powers:MSp)(E:XWK):MS:=
  (bY (cY Kv (nName 2))
  (bY (cY (bD c_packed_terms EF (aA (aG 1) aW)) (nName 3))
  (bY (oX (nIt (bD c_packed_terms EF (aA (aG 0) aW))) (mQ 2 (ju (nName 4) (ju (nName 5) Js))) (oX (nIt (aG 3)) (mQ 2 (ju (nName 6) (ju (nName 7) Js))) (bY (cY (mOp cg (aG 4) (aG 6)) (nName 8))
  (cY (mOp cg (Uy Hi (aG 2) (aA (aG 8) (aA (mC (.int 0)) aW))) (mOp lE (aG 5) (aG 7))) (Nq (aG 2) (aG 8) Fl)))))
  (ug c_sum_of_totals c_unpacked c_packed_terms c_check_powers E))))
def uE (c_sum_of_totals c_unpacked c_packed_terms c_check_powers:MSp):MSp:=mFn 2 12 false fun E=>
  (bY (nW (dz (mOp kGt (mOp lE (mCB kLen (aA (aG 0) aW)) (mCB kLen (aA (aG 1) aW))) (mC (.int 20000)))) (tE "TooMuch" E) eF)
  (sH c_sum_of_totals c_unpacked c_packed_terms c_check_powers E))
def cR:MSp:=uE cN gK cj cW
def zj (E:XWK):MS:=
  (iu (mC (.int 0)))
def vV:MSp:=mFn 2 2 false fun E=>
  (bY (nW (dz (mOp kLt (aG 1) (mCB kLen (aA (aG 0) aW)))) (iu (mOp kIx (aG 0) (aG 1))) eF)
  (zj E))
def bO:MSp:=vV
def vG (c_l_cell:MSp)(E:XWK):MS:=
  (iu (aG 6))
def tU (c_l_cell:MSp):MSp:=mFn 3 9 true fun E=>
  (bY (cY (bD c_l_cell E (aA (aG 0) (aA (aG 1) aW))) (nName 3))
  (bY (cY (mOp kGt (Oc (aG 3)) (mOp lE (mC (.int 107)) (aG 2))) (nName 4))
  (bY (cY (mOp lg (mOp cg (mOp cg (aG 3) (mOp lE (mC (.int 7919)) (aG 1))) (mC (.int 11))) (mC (.int 4294967291))) (nName 5))
  (bY (cY (u5 aW) (nName 6))
  (bY (oX (mV (aA (aG 2) aW)) (nName 7) (nW (zm (aG 4)) (bY (qm (JZ fD (aG 6) (aA (mOp lg (aG 3) (mOp Ip (mC (.int 10)) (mC (.int 32)))) aW)))
  (cY (mOp wQ (aG 3) (mOp Ip (mC (.int 10)) (mC (.int 32)))) (nName 3))) (bY (cY (mOp lg (mOp cg (mOp cg (mOp lE (aG 5) (mC (.int 69069))) (mC (.int 362437))) (mOp lE (aG 7) (aG 7))) (mC (.int 4294967291))) (nName 5))
  (bY (cY (mOp lg (mOp lE (aG 5) (mOp cg (mOp cg (mOp wQ (aG 5) (mC (.int 4096))) (aG 7)) (mC (.int 1)))) (mC (.int 999999999989))) (nName 8))
  (qm (JZ fD (aG 6) (aA (mOp lg (mOp lE (mOp lE (aG 8) (mOp cg (aG 8) (mC (.int 7)))) (mOp cg (aG 5) (mC (.int 1)))) (mOp Ip (mC (.int 10)) (mC (.int 32)))) aW)))))))
  (vG c_l_cell E))))))
def gC:MSp:=tU bO
def jH:MSp:=mFn 1 1 false fun E=>
  (iu (mOp kIx (Nt (aA (mOp El (mOp lg (mOp wQ (aG 0) (mC (.int 3))) (mC (.int 7))) (mC (.int 3))) (aA (mOp El (mOp lg (mOp wQ (aG 0) (mC (.int 3))) (mC (.int 201))) (mC (.int 100))) (aA (mOp El (mOp lg (mOp wQ (aG 0) (mC (.int 3))) (mOp lE (mC (.int 2)) (mOp Ip (mC (.int 10)) (mC (.int 30))))) (mOp Ip (mC (.int 10)) (mC (.int 30)))) aW)))) (mOp lg (aG 0) (mC (.int 3)))))
def gG:MSp:=jH
def jW (E:XWK):MS:=
  (iu (mCB gD (aA (aG 3) aW)))
def jB:MSp:=mFn 3 5 true fun E=>
  (bY (cY (u5 aW) (nName 3))
  (bY (oX (mV (aA (aG 1) aW)) (nName 4) (bY (qm (JZ fD (aG 3) (aA (mOp lg (aG 0) (mOp cg (aG 2) (mC (.int 1)))) aW)))
  (cY (mOp wQ (aG 0) (mOp cg (aG 2) (mC (.int 1)))) (nName 0))))
  (jW E)))
def gM:MSp:=jB
def iG:MSp:=mFn 1 1 false fun E=>
  (iu (mCB gD (aA (mLC ow1 [0] (nIt (mCB wI (aA (aG 0) aW))) (dz (mOp kNe (mOp Fj (aG 1) (aG 0)) (mC (.int 0)))) (lq (aA (aG 0) (aA (mOp Fj (aG 1) (aG 0)) aW)))) aW)))
def bf:MSp:=iG
def tW (c_l_draws c_l_number c_l_powers c_l_ordered:MSp)(E:XWK):MS:=
  (iu (bD c_l_ordered E (aA (aG 5) aW)))
def uV (c_l_draws c_l_number c_l_powers c_l_ordered:MSp):MSp:=mFn 5 8 false fun E=>
  (bY (cY zT (nName 5))
  (bY (oX (mV (aA (aG 3) aW)) (nName 6) (bY (cY (bD c_l_draws E (aA (aG 0) (aA (mOp cg (aG 1) (aG 6)) (aA (mC (.int 2)) aW)))) (nName 7))
  (cY (bD c_l_number E (aA (mOp kIx (aG 7) (mC (.int 1))) aW)) (Nq (aG 5) (bD c_l_powers E (aA (mOp kIx (aG 7) (mC (.int 0))) (aA (aG 2) (aA (aG 4) aW)))) ou))))
  (tW c_l_draws c_l_number c_l_powers c_l_ordered E)))
def nF:MSp:=uV gC gG gM bf
def jZ (E:XWK):MS:=
  (iu (mC (.bl true)))
def kh (E:XWK):MS:=
  (bY (oX (mV (aA (mCB kLen (aA (aG 1) aW)) aW)) (nName 2) (bY (cY (mOp kIx (aG 0) (aG 2)) (nName 3))
  (bY (nW (mOr (Ig (zm (mCB Fx (aA (aG 3) (aA (mC (.ty "tuple")) aW))))) (mOr (dz (mOp kNe (mCB kLen (aA (aG 3) aW)) (mC (.int 2)))) (mOr (Ig (zm (mCB Fx (aA (mOp kIx (aG 3) (mC (.int 0))) (aA (mC (.ty "tuple")) aW))))) (dz (mOp kNe (aG 3) (mOp kIx (aG 1) (aG 2))))))) (iu (mC (.bl false))) eF)
  (nW (Ig (zm (mCB Qv (aA (mLC ow1 [] (nIt (mOp cg (mOp kIx (aG 3) (mC (.int 0))) (mSl VP (aG 3) (Km (mC (.int 1))) vI))) yd (uM (mCB Fx (aA (aG 0) (aA (mC (.ty "int")) aW))) (HY (mCB Fx (aA (aG 0) (aA (mC (.ty "bool")) aW)))))) aW)))) (iu (mC (.bl false))) eF))))
  (jZ E))
def jL:MSp:=mFn 2 4 false fun E=>
  (bY (nW (mOr (Ig (zm (mCB Fx (aA (aG 0) (aA (mC (.ty "tuple")) aW))))) (dz (mOp kNe (mCB kLen (aA (aG 0) aW)) (mCB kLen (aA (aG 1) aW))))) (iu (mC (.bl false))) eF)
  (kh E))
def eV:MSp:=jL
def ni (c_l_ordered:MSp)(E:XWK):MS:=
  (iu (bD c_l_ordered E (aA (aG 4) aW)))
def nH (c_l_ordered:MSp):MSp:=mFn 4 7 false fun E=>
  (bY (cY zT (nName 4))
  (bY (oX (mV (aA (aG 0) aW)) (nName 5) (oX (mV (aA (aG 1) aW)) (nName 6) (cY (mOp cg (mC (.int 1)) (mOp lg (mOp cg (aG 5) (mOp lE (mC (.int 3)) (aG 6))) (mC (.int 7)))) (Nq (aG 4) (mOp cg (lq (aA (mOp lE (aG 5) (aG 3)) (aA (mOp lE (aG 6) (aG 3)) aW))) (mOp Dl (lq (aA (mC (.int 0)) aW)) (mOp El (aG 2) (mC (.int 2))))) ou))))
  (ni c_l_ordered E)))
def cM:MSp:=nH bf
def mR (c_l_cell c_l_ordered c_l_sum c_l_field:MSp)(E:XWK):MS:=
  (iu (lq (aA (aG 3) (aA (aG 4) aW))))
def mD (c_l_cell c_l_ordered c_l_sum c_l_field:MSp)(E:XWK):MS:=
  (bY (nW (dz (mOp kEq (aG 5) (mC (.int 5)))) (cY (mCB gD (aA (mLC (owT 2) [] (nIt (aG 3)) yd (lq (aA (aG 0) (aA (mOp lE (aG 1) (mOp El (mC (.int 1)) (mOp lE (mC (.int 2)) (mOp lg (mCB G7 (aA (aG 0) aW)) (mC (.int 2)))))) aW)))) aW)) (nName 4)) eF)
  (mR c_l_cell c_l_ordered c_l_sum c_l_field E))
def lU (c_l_cell c_l_ordered c_l_sum c_l_field:MSp)(E:XWK):MS:=
  (bY (nW (S6 (dz (mOp kIn (aG 1) (lq (aA (mC (.int 2)) (aA (mC (.int 3)) aW))))) (dz (mOp kEq (aG 5) (mC (.int 7))))) (bY (cY (bD c_l_field E (aA (mC (.int 10)) (aA (mC (.int 10)) (aA (aG 1) (aA (mC (.int 1)) aW))))) (nName 3))
  (bY (cY (bD c_l_field E (aA (mC (.int 20)) (aA (mC (.int 10)) (aA (aG 1) (aA (mC (.int 1)) aW))))) (nName 4))
  (nW (dz (mOp kEq (mOp lg (mOp wQ (bD c_l_cell E (aA (aG 0) (aA (mC (.int 3)) aW))) (mC (.int 8))) (mC (.int 2))) (mC (.int 1)))) (cY (bD c_l_ordered E (aA (mCB xZ (aA (mOp cg (mCB Gv (aA (aG 4) aW)) (Nt (aA (lq (aA (mOp cg (lq (aA (mC (.int 40)) (aA (mC (.int 40)) aW))) (mOp Dl (lq (aA (mC (.int 0)) aW)) (mOp El (aG 1) (mC (.int 2))))) (aA (mC (.int 5)) aW))) aW))) aW)) aW)) (nName 4)) eF))) eF)
  (mD c_l_cell c_l_ordered c_l_sum c_l_field E))
def u0 (c_l_cell c_l_ordered c_l_sum c_l_field:MSp):MSp:=mFn 2 6 false fun E=>
  (bY (cY (mOp kIx (Nt (aA (mC (.int 2)) (aA (mC (.int 31)) aW))) (mOp lg (mOp wQ (bD c_l_cell E (aA (aG 0) (aA (mC (.int 1)) aW))) (mC (.int 9))) (mC (.int 2)))) (nName 2))
  (bY (cY (bD c_l_sum E (aA (aG 0) (aA (mC (.int 4)) (aA (aG 1) (aA (mOp lg (bD c_l_cell E (aA (aG 0) (aA (mC (.int 1)) aW))) (mC (.int 9))) (aA (aG 2) aW)))))) (nName 3))
  (bY (cY (bD c_l_sum E (aA (aG 0) (aA (mC (.int 13)) (aA (aG 1) (aA (mOp lg (bD c_l_cell E (aA (aG 0) (aA (mC (.int 2)) aW))) (mC (.int 9))) (aA (aG 2) aW)))))) (nName 4))
  (bY (cY (mOp lg (bD c_l_cell E (aA (aG 0) (aA (mC (.int 3)) aW))) (mC (.int 8))) (nName 5))
  (bY (nW (S6 (dz (mOp kGt (aG 1) (mC (.int 1)))) (dz (mOp kEq (aG 5) (mC (.int 6))))) (bY (cY (bD c_l_field E (aA (mOp cg (mC (.int 24)) (mOp lg (mOp wQ (bD c_l_cell E (aA (aG 0) (aA (mC (.int 3)) aW))) (mC (.int 8))) (mC (.int 4)))) (aA (mC (.int 1)) (aA (aG 1) (aA (mC (.int 1)) aW))))) (nName 3))
  (cY (bD c_l_field E (aA (mC (.int 1)) (aA (mOp cg (mC (.int 24)) (mOp lg (mOp wQ (bD c_l_cell E (aA (aG 0) (aA (mC (.int 3)) aW))) (mC (.int 32))) (mC (.int 4)))) (aA (aG 1) (aA (mC (.int 1)) aW))))) (nName 4))) eF)
  (lU c_l_cell c_l_ordered c_l_sum c_l_field E))))))
def pZ:MSp:=u0 bO bf nF cM
def jr (c_l_ordered:MSp)(E:XWK):MS:=
  (iu (aG 8))
def jt (c_l_ordered:MSp)(E:XWK):MS:=
  (bY (cY (bD c_l_ordered E (aA (aG 2) aW)) (nName 8))
  (bY (cY (mCB Cd (aA (mLC (owT 2) [] (nIt (aG 8)) yd (mCB rW (aA (aG 0) aW))) aW)) (nName 9))
  (bY (nW (mOr (dz (mOp kGt (mCB kLen (aA (aG 8) aW)) (mC (.int 600)))) (dz (mOp kGt (aG 9) (mC (.int 60))))) (iu (mC .non)) eF)
  (jr c_l_ordered E))))
def iQ (c_l_ordered:MSp)(E:XWK):MS:=
  (bY (cY zT (nName 2))
  (bY (oX (nIt (aG 0)) (mQ 2 (ju (nName 3) (ju (nName 4) Js))) (oX (nIt (aG 1)) (mQ 2 (ju (nName 5) (ju (nName 6) Js))) (bY (cY (mCB gD (aA (mLC (owT 2) [] (S9 (aA (aG 3) (aA (aG 5) aW))) yd (mOp cg (aG 0) (aG 1))) aW)) (nName 7))
  (cY (mOp cg (U4 Ac (aG 2) (aA (aG 7) (aA (mC (.int 0)) aW))) (mOp lE (aG 4) (aG 6))) (Nq (aG 2) (aG 7) ou)))))
  (jt c_l_ordered E)))
def iB (c_l_ordered:MSp):MSp:=mFn 2 10 false fun E=>
  (bY (nW (dz (mOp kGt (mOp lE (mCB kLen (aA (aG 0) aW)) (mCB kLen (aA (aG 1) aW))) (mC (.int 20000)))) (iu (mC .non)) eF)
  (iQ c_l_ordered E))
def fj:MSp:=iB bf
def qD (c_times:MSp)(E:XWK):MS:=
  (iu (mC (.bl false)))
def iM (c_times:MSp):MSp:=mFn 2 4 false fun E=>
  (bY (Vg 3 "EaselError" (fun E=>(qm (bD c_times E (aA (aG 0) (aA (aG 1) aW))))) (bY (cY (Nt (aA (Ks (fun n=>(isX n "NoPart")) (aG 3)) (aA (Ks (fun n=>(isX n "Nothing")) (aG 3)) (aA (Ks (fun n=>(isX n "Stuck")) (aG 3)) aW)))) (nName 2))
  (iu (uM (Ks (fun n=>(isX n "TooMuch")) (aG 3)) (uM (Ks (fun n=>true) (aG 3)) (HY (mCB Je (aA (aG 2) aW))))))))
  (qD c_times E))
def dO:MSp:=iM cR
def Ed (c_times c_l_cell c_l_is_sum c_l_two c_l_product c_l_refused:MSp)(E:XWK):MS:=
  (iu (uM (mOp kEq (bD c_times E (aA (aG 2) (aA (aG 5) aW))) (aG 2)) (mOp kEq (bD c_times E (aA (aG 5) (aA (aG 3) aW))) (aG 3))))
def Aq (c_times c_l_cell c_l_is_sum c_l_two c_l_product c_l_refused:MSp)(E:XWK):MS:=
  (bY (cY (lq (aA (lq (aA (mOp Dl (lq (aA (mC (.int 0)) aW)) (aG 1)) (aA (mC (.int 1)) aW))) aW)) (nName 5))
  (bY (nW (mOr (dz (mOp kNe (bD c_times E (aA (aG 2) (aA (lq aW) aW))) (lq aW))) (dz (mOp kNe (bD c_times E (aA (lq aW) (aA (aG 3) aW))) (lq aW)))) (iu (mC (.bl false))) eF)
  (Ed c_times c_l_cell c_l_is_sum c_l_two c_l_product c_l_refused E)))
def Af (c_times c_l_cell c_l_is_sum c_l_two c_l_product c_l_refused:MSp)(E:XWK):MS:=
  (bY (nW (Ig (zm (bD c_l_is_sum E (aA (bD c_times E (aA (aG 3) (aA (aG 2) aW))) (aA (aG 4) aW))))) (iu (mC (.bl false))) eF)
  (Aq c_times c_l_cell c_l_is_sum c_l_two c_l_product c_l_refused E))
def Cm (c_times c_l_cell c_l_is_sum c_l_two c_l_product c_l_refused:MSp)(E:XWK):MS:=
  (bY (nW (dz (mOp kGt (mOp lE (mCB kLen (aA (aG 2) aW)) (mCB kLen (aA (aG 3) aW))) (mC (.int 5000)))) (iu (mC (.bl true))) eF)
  (Af c_times c_l_cell c_l_is_sum c_l_two c_l_product c_l_refused E))
def Bu (c_times c_l_cell c_l_is_sum c_l_two c_l_product c_l_refused:MSp)(E:XWK):MS:=
  (bY (nW (Ig (zm (bD c_l_is_sum E (aA (bD c_times E (aA (aG 2) (aA (aG 3) aW))) (aA (aG 4) aW))))) (iu (mC (.bl false))) eF)
  (Cm c_times c_l_cell c_l_is_sum c_l_two c_l_product c_l_refused E))
def Mh (c_times c_l_cell c_l_is_sum c_l_two c_l_product c_l_refused:MSp):MSp:=mFn 1 6 false fun E=>
  (bY (cY (mOp lg (bD c_l_cell E (aA (aG 0) (aA (mC (.int 0)) aW))) (mC (.int 9))) (nName 1))
  (bY (cY (bD c_l_two E (aA (aG 0) (aA (aG 1) aW))) (mQ 2 (ju (nName 2) (ju (nName 3) Js))))
  (bY (cY (bD c_l_product E (aA (aG 2) (aA (aG 3) aW))) (nName 4))
  (bY (nW (dz (mOp kIs (aG 4) (mC .non))) (iu (uM (bD c_l_refused E (aA (aG 2) (aA (aG 3) aW))) (bD c_l_refused E (aA (aG 3) (aA (aG 2) aW))))) eF)
  (Bu c_times c_l_cell c_l_is_sum c_l_two c_l_product c_l_refused E)))))
def G3:MSp:=Mh cR bO eV pZ fj dO
structure Ad where
 f_sum_of_totals:Addr
 d_sum_of_totals:FuncData
 f_packed:Addr
 d_packed:FuncData
 f_unpacked:Addr
 d_unpacked:FuncData
 f_packed_terms:Addr
 d_packed_terms:FuncData
 f_check_powers:Addr
 d_check_powers:FuncData
 f_times:Addr
 d_times:FuncData
 f_l_cell:Addr
 d_l_cell:FuncData
 f_l_draws:Addr
 d_l_draws:FuncData
 f_l_number:Addr
 d_l_number:FuncData
 f_l_powers:Addr
 d_l_powers:FuncData
 f_l_ordered:Addr
 d_l_ordered:FuncData
 f_l_sum:Addr
 d_l_sum:FuncData
 f_l_is_sum:Addr
 d_l_is_sum:FuncData
 f_l_field:Addr
 d_l_field:FuncData
 f_l_two:Addr
 d_l_two:FuncData
 f_l_product:Addr
 d_l_product:FuncData
 f_l_refused:Addr
 d_l_refused:FuncData
 f_law:Addr
 d_law:FuncData
 a_MOST_TERMS:Tok
 a_MOST_POWER:Tok
 a_MOST_PAIRS:Tok
 a_FIELD:Tok
 x_EaselError:Addr
 x_Nothing:Addr
 x_Stuck:Addr
 x_NoPart:Addr
 x_TooMuch:Addr
structure Txt (K:Yh) (mg:Str->Option Value) (t:Ad):Prop where
 F_sum_of_totals:Fun K "sum_of_totals" "sum_of_totals" cI t.f_sum_of_totals t.d_sum_of_totals
 cN:mg "sum_of_totals" = some (.ref t.f_sum_of_totals)
 b_sum_of_totals:Binds K t.d_sum_of_totals ["totals"] []
 F_packed:Fun K "packed" "packed" lN t.f_packed t.d_packed
 lC:mg "packed" = some (.ref t.f_packed)
 b_packed:Binds K t.d_packed ["powers"] []
 F_unpacked:Fun K "unpacked" "unpacked" gJ t.f_unpacked t.d_unpacked
 gK:mg "unpacked" = some (.ref t.f_unpacked)
 b_unpacked:Binds K t.d_unpacked ["key", "letters"] []
 F_packed_terms:Fun K "packed_terms" "packed_terms" cX t.f_packed_terms t.d_packed_terms
 cj:mg "packed_terms" = some (.ref t.f_packed_terms)
 b_packed_terms:Binds K t.d_packed_terms ["one"] []
 F_check_powers:Fun K "check_powers" "check_powers" cU t.f_check_powers t.d_check_powers
 cW:mg "check_powers" = some (.ref t.f_check_powers)
 b_check_powers:Binds K t.d_check_powers ["one"] []
 F_times:Fun K "times" "times" qZ t.f_times t.d_times
 cR:mg "times" = some (.ref t.f_times)
 b_times:Binds K t.d_times ["one", "other"] []
 F_l_cell:Fun K "_law_cell" "_law_cell" lK t.f_l_cell t.d_l_cell
 bO:mg "_law_cell" = some (.ref t.f_l_cell)
 b_l_cell:Binds K t.d_l_cell ["_law_script", "_law_k"] []
 F_l_draws:Fun K "_law_draws" "_law_draws" iT t.f_l_draws t.d_l_draws
 gC:mg "_law_draws" = some (.ref t.f_l_draws)
 b_l_draws:Binds K t.d_l_draws ["_law_script", "_law_k", "_law_many"] []
 F_l_number:Fun K "_law_number" "_law_number" gR t.f_l_number t.d_l_number
 gG:mg "_law_number" = some (.ref t.f_l_number)
 b_l_number:Binds K t.d_l_number ["_law_x"] []
 F_l_powers:Fun K "_law_powers" "_law_powers" gY t.f_l_powers t.d_l_powers
 gM:mg "_law_powers" = some (.ref t.f_l_powers)
 b_l_powers:Binds K t.d_l_powers ["_law_x", "_law_letters", "_law_most"] []
 F_l_ordered:Fun K "_law_ordered" "_law_ordered" fH t.f_l_ordered t.d_l_ordered
 bf:mg "_law_ordered" = some (.ref t.f_l_ordered)
 b_l_ordered:Binds K t.d_l_ordered ["_law_found"] []
 F_l_sum:Fun K "_law_sum" "_law_sum" pX t.f_l_sum t.d_l_sum
 nF:mg "_law_sum" = some (.ref t.f_l_sum)
 b_l_sum:Binds K t.d_l_sum ["_law_script", "_law_k", "_law_letters", "_law_many", "_law_most"] []
 F_l_is_sum:Fun K "_law_is_sum" "_law_is_sum" gP t.f_l_is_sum t.d_l_is_sum
 eV:mg "_law_is_sum" = some (.ref t.f_l_is_sum)
 b_l_is_sum:Binds K t.d_l_is_sum ["_law_found", "_law_due"] []
 F_l_field:Fun K "_law_field" "_law_field" jf t.f_l_field t.d_l_field
 cM:mg "_law_field" = some (.ref t.f_l_field)
 b_l_field:Binds K t.d_l_field ["_law_wide", "_law_high", "_law_letters", "_law_step"] []
 F_l_two:Fun K "_law_two" "_law_two" qP t.f_l_two t.d_l_two
 pZ:mg "_law_two" = some (.ref t.f_l_two)
 b_l_two:Binds K t.d_l_two ["_law_script", "_law_letters"] []
 F_l_product:Fun K "_law_product" "_law_product" eZ t.f_l_product t.d_l_product
 fj:mg "_law_product" = some (.ref t.f_l_product)
 b_l_product:Binds K t.d_l_product ["_law_one", "_law_other"] []
 F_l_refused:Fun K "_law_refused" "_law_refused" eY t.f_l_refused t.d_l_refused
 dO:mg "_law_refused" = some (.ref t.f_l_refused)
 b_l_refused:Binds K t.d_l_refused ["_law_one", "_law_other"] []
 F_law:Fun K "law" "law" Ey t.f_law t.d_law
 G3:mg "law" = some (.ref t.f_law)
 b_law:Binds K t.d_law ["_law_script"] []
 z_ValueError:mg "ValueError" = none
 z_all:mg "all" = none
 z_any:mg "any" = none
 z_bool:mg "bool" = none
 z_dict:mg "dict" = none
 z_int:mg "int" = none
 z_isinstance:mg "isinstance" = none
 z_len:mg "len" = none
 z_list:mg "list" = none
 z_max:mg "max" = none
 z_range:mg "range" = none
 z_reversed:mg "reversed" = none
 z_sorted:mg "sorted" = none
 z_sum:mg "sum" = none
 z_tuple:mg "tuple" = none
 z_zip:mg "zip" = none
 g_MOST_TERMS:mg "MOST_TERMS" = some (.int 600 t.a_MOST_TERMS)
 g_MOST_POWER:mg "MOST_POWER" = some (.int 60 t.a_MOST_POWER)
 g_MOST_PAIRS:mg "MOST_PAIRS" = some (.int 20000 t.a_MOST_PAIRS)
 g_FIELD:mg "FIELD" = some (.int 65536 t.a_FIELD)
 xm_EaselError:mg "EaselError" = some (.ref t.x_EaselError)
 xd_EaselError:qU K t.x_EaselError "EaselError" = true
 xm_Nothing:mg "Nothing" = some (.ref t.x_Nothing)
 xd_Nothing:qU K t.x_Nothing "Nothing" = true
 xm_Stuck:mg "Stuck" = some (.ref t.x_Stuck)
 xd_Stuck:qU K t.x_Stuck "Stuck" = true
 xm_NoPart:mg "NoPart" = some (.ref t.x_NoPart)
 xd_NoPart:qU K t.x_NoPart "NoPart" = true
 xm_TooMuch:mg "TooMuch" = some (.ref t.x_TooMuch)
 xd_TooMuch:qU K t.x_TooMuch "TooMuch" = true
 xc_TooMuch:rF K t.x_TooMuch "TooMuch" = true
 xq_TooMuch:PySem.W.excIn K t.x_TooMuch vmB "ValueError.__new__" = true
section
variable {P:Program}{w:World}{K:Yh}{mg:Str->Option Value}{base:Heap}{t:Ad}
theorem jD (T:Txt K mg t):d9 P w K mg base (CXX P w) 10 t.f_sum_of_totals t.d_sum_of_totals ["totals"] (sE K cN):=by
 have nd:=fM.nd
 refine Mr (k:=9) T.F_sum_of_totals fM fun cdv A outer s H E hr=>?_
 have hc:=hr.calm (by decide)
 refine cu (fun _=>trivial) ?_ ?_
 ·exact (ji (aU (i:=1) nd (by rfl) (by exact Or.inl rfl) (cV jF (by rfl) (by exact T.z_tuple) boot_tuple (ak (Hs [0] hc (cP (by rfl)) Eu (Hx (cP (by rfl))) (dW (bw (J9 hc) (by rfl) (by exact T.z_sorted) PyProof.Rows.boot_sorted (ak (dv 0 (pv 0)) aB (aj (by rfl))) (by decide) (by decide) (aj (by rfl)) (au (by rfl)))) (fun _ _ _ _=>(CN (bU (Ni (lO hr)) (Sq (dv 1 (pv 1)) (dv 0 (pv 0)) (by intro _ _;rfl)) aF (bN _)))) (fun _ _ _ _=>(dh (ak (dv 0 (pv 0)) (ak (Sq (dv 1 (pv 1)) (dv 0 (pv 0)) (by intro _ _;rfl)) aB (aj (by rfl))) (aj (by rfl)))))) aB (aj (by rfl))) (by decide) (by decide) (aj (by rfl)) (au (by rfl)))))
 refine cu (fun _=>trivial) ?_ ?_
 ·exact (zA (bU Gx (bw jg (by rfl) (by exact T.z_len) PySem.boot_len (ak (dv 1 (pv 1)) aB (aj (by rfl))) (by decide) (by decide) (aj (by rfl)) (au (by rfl))) (dc (v:=.int 600) (d8 (by rfl) T.g_MOST_TERMS ⟨_,rfl⟩) (fun _ _=>Nr)) (bN _)) (dX (lY hc (by rfl) T.xm_TooMuch T.xq_TooMuch T.xc_TooMuch)) q9)
 refine dX ?_
 exact (ji (bG (dv 1 (pv 1))))
theorem zP (T:Txt K mg t):d9 P w K mg base CX0 10 t.f_packed t.d_packed ["powers"] (lift K lC):=by
 have nd:=ud.nd
 refine uP (k:=9) T.F_packed ud fun cdv A outer s H E hr=>?_
 have hc:=hr.calm (by decide)
 refine aC ?_ ?_
 ·exact (aU (i:=1) nd (by rfl) (by exact Or.inl rfl) aF)
 refine aC ?_ ?_
 ·exact (fL PassesOwn.never hc (dW (dv 0 (pv 0))) (bJ (bA (i:=2) nd (by rfl) (by exact Or.inl rfl))) (aM (aU (i:=1) nd (by rfl) (by exact Or.inl rfl) (bx bM (bx fK (dv 1 (pv 1)) (dc (v:=.int 65536) (d8 (by rfl) T.g_FIELD ⟨_,rfl⟩) (fun _ _=>Nr))) (dv 2 (pv 2))))))
 refine aM ?_
 exact (bG (dv 1 (pv 1)))
theorem uR (T:Txt K mg t):d9 P w K mg base CX0 10 t.f_unpacked t.d_unpacked ["key", "letters"] (lift K gK):=by
 have nd:=mX.nd
 refine uP (k:=9) T.F_unpacked mX fun cdv A outer s H E hr=>?_
 have hc:=hr.calm (by decide)
 refine aC ?_ ?_
 ·exact (aU (i:=2) nd (by rfl) (by exact Or.inl rfl) (Dv aB))
 refine aC ?_ ?_
 ·exact (fL PassesOwn.never hc (dM (by rfl) (by exact T.z_range) (ak (dv 1 (pv 1)) aB (aj (by rfl))) (j4 (by rfl))) (bJ (bA (i:=3) nd (by rfl) (by exact Or.inl rfl))) (aC (qg (lB (dv 2 (pv 2)) (ak (bx dR (dv 0 (pv 0)) (dc (v:=.int 65536) (d8 (by rfl) T.g_FIELD ⟨_,rfl⟩) (fun _ _=>Nr))) aB (aj (by rfl))) (by rfl) (HX (by rfl)) (by rfl) (aj (by rfl)) (by rfl)))
  (aM (aU (i:=0) nd (by rfl) (by exact Or.inl rfl) (bx kW (dv 0 (pv 0)) (dc (v:=.int 65536) (d8 (by rfl) T.g_FIELD ⟨_,rfl⟩) (fun _ _=>Nr)))))))
 refine aM ?_
 exact (bG (Fp hc (by rfl) (by exact T.z_tuple) (by rfl) (by exact T.z_reversed) (dv 2 (pv 2)) (aj (by rfl)) (au (by rfl)) (aj (by rfl)) (au (by rfl))))
theorem gB (T:Txt K mg t):d9 P w K mg base CX0 11 t.f_packed_terms t.d_packed_terms ["one"] (lift K cj):=by
 have nd:=gn.nd
 refine uP (k:=10) T.F_packed_terms gn fun cdv A outer s H E hr=>?_
 have hc:=hr.calm (by decide)
 refine aM ?_
 exact (bG (Hs [] hc (cP (by rfl)) CW (zG hc (cP (by rfl))) (dW (dv 0 (pv 0))) (fun _ _ _ _=>iz) (fun _ _ _ _=>(dh (ak (aX ((zP T).mono (by decide)) hr (by rfl) (by exact T.lC) (by exact T.F_packed.kp) (by exact T.b_packed) (ak (dv 0 (pv 0)) aB (aj (by rfl))) (by decide) (aj (by rfl)) (au (by rfl))) (ak (dv 1 (pv 1)) aB (aj (by rfl))) (aj (by rfl)))))))
theorem kY (T:Txt K mg t):d9 P w K mg base (CXX P w) 10 t.f_check_powers t.d_check_powers ["one"] (sE K cW):=by
 have nd:=fZ.nd
 refine Mr (k:=9) T.F_check_powers fZ fun cdv A outer s H E hr=>?_
 have hc:=hr.calm (by decide)
 refine dX ?_
 exact (KN PassesOwn.leaving hc (fun _=>trivial) (dW (dv 0 (pv 0))) (jE hc (cF (bJ (bA (i:=1) nd (by rfl) (by exact Or.inl rfl))) (cF (bJ (bA (i:=2) nd (by rfl) (by exact Or.inl rfl))) jO))) (dX (zA (jw (bw (T6 hc) (by rfl) (by exact T.z_any) boot_any (ak (Hs [] hc (cP (by rfl)) Eu (Hx (cP (by rfl))) (dW (dv 1 (pv 1))) (fun _ _ _ _=>iz) (fun _ _ _ _=>(HJ Gx (dv 0 (pv 0)) (dc (v:=.int 60) (d8 (by rfl) T.g_MOST_POWER ⟨_,rfl⟩) (fun _ _=>Nr)) (bN _)))) aB (aj (by rfl))) (by decide) (by decide) (aj (by rfl)) (au (by rfl)))) (dX (lY hc (by rfl) T.xm_TooMuch T.xq_TooMuch T.xc_TooMuch)) q9)))
theorem rN (T:Txt K mg t):d9 P w K mg base (CXX P w) 12 t.f_times t.d_times ["one", "other"] (sE K cR):=by
 have nd:=v8.nd
 refine Mr (k:=11) T.F_times v8 fun cdv A outer s H E hr=>?_
 have hc:=hr.calm (by decide)
 refine cu (fun _=>trivial) ?_ ?_
 ·exact (zA (bU Gx (bx fK (bw jg (by rfl) (by exact T.z_len) PySem.boot_len (ak (dv 0 (pv 0)) aB (aj (by rfl))) (by decide) (by decide) (aj (by rfl)) (au (by rfl))) (bw jg (by rfl) (by exact T.z_len) PySem.boot_len (ak (dv 1 (pv 1)) aB (aj (by rfl))) (by decide) (by decide) (aj (by rfl)) (au (by rfl)))) (dc (v:=.int 20000) (d8 (by rfl) T.g_MOST_PAIRS ⟨_,rfl⟩) (fun _ _=>Nr)) (bN _)) (dX (lY hc (by rfl) T.xm_TooMuch T.xq_TooMuch T.xc_TooMuch)) q9)
 refine cu (fun _=>trivial) ?_ ?_
 ·first
  | (with_reducible exact (ji (aU (hs:=by with_unfolding_all rfl) (hf:=by with_unfolding_all first | exact .inl rfl | exact .inr rfl) (i:=2) (by with_unfolding_all exact nd) (by with_unfolding_all rfl) (by with_unfolding_all exact Or.inl rfl) Ie)))
  | (exact (ji (aU (i:=2) nd (by rfl) (by exact Or.inl rfl) Ie)))
 refine cu (fun _=>trivial) ?_ ?_
 ·exact (ji (aU (i:=3) nd (by rfl) (by exact Or.inl rfl) (aX ((gB T).mono (by decide)) hr (by rfl) (by exact T.cj) (by exact T.F_packed_terms.kp) (by exact T.b_packed_terms) (ak (dv 1 (pv 1)) aB (aj (by rfl))) (by decide) (aj (by rfl)) (au (by rfl)))))
 refine cu (fun _=>trivial) ?_ ?_
 ·exact (ji (XF (fL PassesOwn.never hc (dW (aX ((gB T).mono (by decide)) hr (by rfl) (by exact T.cj) (by exact T.F_packed_terms.kp) (by exact T.b_packed_terms) (ak (dv 0 (pv 0)) aB (aj (by rfl))) (by decide) (aj (by rfl)) (au (by rfl)))) (jE hc (cF (bJ (bA (i:=4) nd (by rfl) (by exact Or.inl rfl))) (cF (bJ (bA (i:=5) nd (by rfl) (by exact Or.inl rfl))) jO))) (aM (fL PassesOwn.never hc (dW (dv 3 (pv 3))) (jE hc (cF (bJ (bA (i:=6) nd (by rfl) (by exact Or.inl rfl))) (cF (bJ (bA (i:=7) nd (by rfl) (by exact Or.inl rfl))) jO))) (aC (aU (i:=8) nd (by rfl) (by exact Or.inl rfl) (bx bM (dv 4 (pv 4)) (dv 6 (pv 6))))
  (aM (sX (bx bM (Oj (lO hr) (dv 2 (pv 2)) (ak (dv 8 (pv 8)) (ak aF aB (aj (by rfl))) (aj (by rfl))) (by rfl) (Qy (by rfl) (by rfl)) (by rfl) (aj (by rfl)) (au (by rfl))) (bx fK (dv 5 (pv 5)) (dv 7 (pv 7)))) (xV (dv 2 (pv 2)) (dv 8 (pv 8)) set_dict Ft)))))))))
 refine cu (fun _=>trivial) ?_ ?_
 ·exact (ji (aU (i:=9) nd (by rfl) (by exact Or.inr rfl) (Xl (jw (dv 0 (pv 0))) (bw jg (by rfl) (by exact T.z_len) PySem.boot_len (ak (Di (Di (dv 0 (pv 0)) aF (by intro _ _;rfl)) aF (by intro _ _;rfl)) aB (aj (by rfl))) (by decide) (by decide) (aj (by rfl)) (au (by rfl))) aF)))
 refine cu (fun _=>trivial) ?_ ?_
 ·exact (Lp (i:=10) nd (by rfl) (by exact Or.inl rfl) (vd ((jD T).mono (by decide)) hr (by rfl) (by exact T.cN) (by exact T.F_sum_of_totals.kp) (by exact T.b_sum_of_totals) (ak (dv 2 (pv 2)) aB (aj (by rfl))) (by decide) (aj (by rfl)) (au (by rfl))))
 refine cu (fun _=>trivial) ?_ ?_
 ·exact (ji (aU (i:=11) nd (by rfl) (by exact Or.inl rfl) (cV jF (by rfl) (by exact T.z_tuple) boot_tuple (ak (Hs [9] hc (cP (by rfl)) CW (zG hc (cP (by rfl))) (dW (dv 10 (pv 10))) (fun _ _ _ _=>iz) (fun _ _ _ _=>(dh (ak (aX ((uR T).mono (by decide)) hr (by rfl) (by exact T.gK) (by exact T.F_unpacked.kp) (by exact T.b_unpacked) (ak (dv 0 (pv 0)) (ak (dv 2 (pv 2)) aB (aj (by rfl))) (aj (by rfl))) (by decide) (aj (by rfl)) (au (by rfl))) (ak (dv 1 (pv 1)) aB (aj (by rfl))) (aj (by rfl)))))) aB (aj (by rfl))) (by decide) (by decide) (aj (by rfl)) (au (by rfl)))))
 refine cu (fun _=>trivial) ?_ ?_
 ·exact (xO (vd ((kY T).mono (by decide)) hr (by rfl) (by exact T.cW) (by exact T.F_check_powers.kp) (by exact T.b_check_powers) (ak (dv 11 (pv 11)) aB (aj (by rfl))) (by decide) (aj (by rfl)) (au (by rfl))))
 refine dX ?_
 exact (ji (bG (dv 11 (pv 11))))
theorem gW (T:Txt K mg t):d9 P w K mg base CX0 12 t.f_times t.d_times ["one", "other"] (lift K cR):=(rN T).tame
theorem cB (T:Txt K mg t):d9 P w K mg base CX0 10 t.f_l_cell t.d_l_cell ["_law_script", "_law_k"] (lift K bO):=by
 have nd:=tB.nd
 refine uP (k:=9) T.F_l_cell tB fun cdv A outer s H E hr=>?_
 have hc:=hr.calm (by decide)
 refine aC ?_ ?_
 ·exact (fV (bU Xe (dv 1 (pv 1)) (bw jg (by rfl) (by exact T.z_len) PySem.boot_len (ak (dv 0 (pv 0)) aB (aj (by rfl))) (by decide) (by decide) (aj (by rfl)) (au (by rfl))) (bN _)) (aM (bG (Di (dv 0 (pv 0)) (dv 1 (pv 1)) (by intro _ _;rfl)))) bR)
 refine aM ?_
 exact (bG aF)
theorem yV (T:Txt K mg t):d9 P w K mg base CX0 11 t.f_l_draws t.d_l_draws ["_law_script", "_law_k", "_law_many"] (lift K gC):=by
 have nd:=oH.nd
 refine uP (k:=10) T.F_l_draws oH fun cdv A outer s H E hr=>?_
 have hc:=hr.calm (by decide)
 refine aC ?_ ?_
 ·exact (aU (i:=3) nd (by rfl) (by exact Or.inl rfl) (aX ((cB T).mono (by decide)) hr (by rfl) (by exact T.bO) (by exact T.F_l_cell.kp) (by exact T.b_l_cell) (ak (dv 0 (pv 0)) (ak (dv 1 (pv 1)) aB (aj (by rfl))) (aj (by rfl))) (by decide) (aj (by rfl)) (au (by rfl))))
 refine aC ?_ ?_
 ·exact (aU (i:=4) nd (by rfl) (by exact Or.inl rfl) (HJ Gx (Sg (dv 3 (pv 3))) (bx fK aF (dv 2 (pv 2))) (bN _)))
 refine aC ?_ ?_
 ·exact (aU (i:=5) nd (by rfl) (by exact Or.inl rfl) (bx dR (bx bM (bx bM (dv 3 (pv 3)) (bx fK aF (dv 1 (pv 1)))) aF) aF))
 refine aC ?_ ?_
 ·exact (aU (i:=6) nd (by rfl) (by exact Or.inl rfl) (Dv aB))
 refine aC ?_ ?_
 ·exact (fL PassesOwn.never hc (dM (by rfl) (by exact T.z_range) (ak (dv 2 (pv 2)) aB (aj (by rfl))) (j4 (by rfl))) (bJ (bA (i:=7) nd (by rfl) (by exact Or.inl rfl))) (aM (fV (jw (dv 4 (pv 4))) (aC (qg (lB (dv 6 (pv 6)) (ak (bx dR (dv 3 (pv 3)) (bx Du aF aF)) aB (aj (by rfl))) (by rfl) (HX (by rfl)) (by rfl) (aj (by rfl)) (by rfl)))
  (aM (aU (i:=3) nd (by rfl) (by exact Or.inl rfl) (bx kW (dv 3 (pv 3)) (bx Du aF aF))))) (aC (aU (i:=5) nd (by rfl) (by exact Or.inl rfl) (bx dR (bx bM (bx bM (bx fK (dv 5 (pv 5)) aF) aF) (bx fK (dv 7 (pv 7)) (dv 7 (pv 7)))) aF))
  (aC (aU (i:=8) nd (by rfl) (by exact Or.inl rfl) (bx dR (bx fK (dv 5 (pv 5)) (bx bM (bx bM (bx kW (dv 5 (pv 5)) aF) (dv 7 (pv 7))) aF)) aF))
  (aM (qg (lB (dv 6 (pv 6)) (ak (bx dR (bx fK (bx fK (dv 8 (pv 8)) (bx bM (dv 8 (pv 8)) aF)) (bx bM (dv 5 (pv 5)) aF)) (bx Du aF aF)) aB (aj (by rfl))) (by rfl) (HX (by rfl)) (by rfl) (aj (by rfl)) (by rfl)))))))))
 refine aM ?_
 exact (bG (dv 6 (pv 6)))
theorem uy (T:Txt K mg t):d9 P w K mg base CX0 10 t.f_l_number t.d_l_number ["_law_x"] (lift K gG):=by
 have nd:=mq.nd
 refine uP (k:=9) T.F_l_number mq fun cdv A outer s H E hr=>?_
 have hc:=hr.calm (by decide)
 refine aM ?_
 exact (bG (Di (BX (ak (bx uZ (bx dR (bx kW (dv 0 (pv 0)) aF) aF) aF) (ak (bx uZ (bx dR (bx kW (dv 0 (pv 0)) aF) aF) aF) (ak (bx uZ (bx dR (bx kW (dv 0 (pv 0)) aF) (bx fK aF (bx Du aF aF))) (bx Du aF aF)) aB (aj (by rfl))) (aj (by rfl))) (aj (by rfl)))) (bx dR (dv 0 (pv 0)) aF) (by intro _ _;rfl)))
theorem vJ (T:Txt K mg t):d9 P w K mg base CX0 10 t.f_l_powers t.d_l_powers ["_law_x", "_law_letters", "_law_most"] (lift K gM):=by
 have nd:=mK.nd
 refine uP (k:=9) T.F_l_powers mK fun cdv A outer s H E hr=>?_
 have hc:=hr.calm (by decide)
 refine aC ?_ ?_
 ·exact (aU (i:=3) nd (by rfl) (by exact Or.inl rfl) (Dv aB))
 refine aC ?_ ?_
 ·exact (fL PassesOwn.never hc (dM (by rfl) (by exact T.z_range) (ak (dv 1 (pv 1)) aB (aj (by rfl))) (j4 (by rfl))) (bJ (bA (i:=4) nd (by rfl) (by exact Or.inl rfl))) (aC (qg (lB (dv 3 (pv 3)) (ak (bx dR (dv 0 (pv 0)) (bx bM (dv 2 (pv 2)) aF)) aB (aj (by rfl))) (by rfl) (HX (by rfl)) (by rfl) (aj (by rfl)) (by rfl)))
  (aM (aU (i:=0) nd (by rfl) (by exact Or.inl rfl) (bx kW (dv 0 (pv 0)) (bx bM (dv 2 (pv 2)) aF))))))
 refine aM ?_
 exact (bG (cV jF (by rfl) (by exact T.z_tuple) boot_tuple (ak (dv 3 (pv 3)) aB (aj (by rfl))) (by decide) (by decide) (aj (by rfl)) (au (by rfl))))
theorem dj (T:Txt K mg t):d9 P w K mg base CX0 10 t.f_l_ordered t.d_l_ordered ["_law_found"] (lift K bf):=by
 have nd:=jT.nd
 refine uP (k:=9) T.F_l_ordered jT fun cdv A outer s H E hr=>?_
 have hc:=hr.calm (by decide)
 refine aM ?_
 exact (bG (cV jF (by rfl) (by exact T.z_tuple) boot_tuple (ak (Hs [0] hc (cP (by rfl)) Eu (Hx (cP (by rfl))) (dW (bw (Mf hc) (by rfl) (by exact T.z_sorted) PyProof.Rows.boot_sorted (ak (dv 0 (pv 0)) aB (aj (by rfl))) (by decide) (by decide) (aj (by rfl)) (au (by rfl)))) (fun _ _ _ _=>(CN (bU (Ni (lO hr)) (NQ (lO hr) (dv 1 (pv 1)) (dv 0 (pv 0)) (by intro _ _;rfl)) aF (bN _)))) (fun _ _ _ _=>(dh (ak (dv 0 (pv 0)) (ak (NQ (lO hr) (dv 1 (pv 1)) (dv 0 (pv 0)) (by intro _ _;rfl)) aB (aj (by rfl))) (aj (by rfl)))))) aB (aj (by rfl))) (by decide) (by decide) (aj (by rfl)) (au (by rfl))))
theorem vW (T:Txt K mg t):d9 P w K mg base CX0 12 t.f_l_sum t.d_l_sum ["_law_script", "_law_k", "_law_letters", "_law_many", "_law_most"] (lift K nF):=by
 have nd:=wU.nd
 refine uP (k:=11) T.F_l_sum wU fun cdv A outer s H E hr=>?_
 have hc:=hr.calm (by decide)
 refine aC ?_ ?_
 ·first
  | (with_reducible exact (aU (hs:=by with_unfolding_all rfl) (hf:=by with_unfolding_all first | exact .inl rfl | exact .inr rfl) (i:=5) (by with_unfolding_all exact nd) (by with_unfolding_all rfl) (by with_unfolding_all exact Or.inl rfl) oM))
  | (exact (aU (i:=5) nd (by rfl) (by exact Or.inl rfl) oM))
 refine aC ?_ ?_
 ·exact (fL PassesOwn.never hc (dM (by rfl) (by exact T.z_range) (ak (dv 3 (pv 3)) aB (aj (by rfl))) (j4 (by rfl))) (bJ (bA (i:=6) nd (by rfl) (by exact Or.inl rfl))) (aC (aU (i:=7) nd (by rfl) (by exact Or.inl rfl) (aX ((yV T).mono (by decide)) hr (by rfl) (by exact T.gC) (by exact T.F_l_draws.kp) (by exact T.b_l_draws) (ak (dv 0 (pv 0)) (ak (bx bM (dv 1 (pv 1)) (dv 6 (pv 6))) (ak aF aB (aj (by rfl))) (aj (by rfl))) (aj (by rfl))) (by decide) (aj (by rfl)) (au (by rfl))))
  (aM (sX (aX ((uy T).mono (by decide)) hr (by rfl) (by exact T.gG) (by exact T.F_l_number.kp) (by exact T.b_l_number) (ak (Di (dv 7 (pv 7)) aF (by intro _ _;rfl)) aB (aj (by rfl))) (by decide) (aj (by rfl)) (au (by rfl))) (xV (dv 5 (pv 5)) (aX ((vJ T).mono (by decide)) hr (by rfl) (by exact T.gM) (by exact T.F_l_powers.kp) (by exact T.b_l_powers) (ak (Di (dv 7 (pv 7)) aF (by intro _ _;rfl)) (ak (dv 2 (pv 2)) (ak (dv 4 (pv 4)) aB (aj (by rfl))) (aj (by rfl))) (aj (by rfl))) (by decide) (aj (by rfl)) (au (by rfl))) (mj (lO hr)) qN)))))
 refine aM ?_
 exact (bG (aX ((dj T).mono (by decide)) hr (by rfl) (by exact T.bf) (by exact T.F_l_ordered.kp) (by exact T.b_l_ordered) (ak (dv 5 (pv 5)) aB (aj (by rfl))) (by decide) (aj (by rfl)) (au (by rfl))))
theorem mL (T:Txt K mg t):d9 P w K mg base CX0 10 t.f_l_is_sum t.d_l_is_sum ["_law_found", "_law_due"] (lift K eV):=by
 have nd:=nC.nd
 refine uP (k:=9) T.F_l_is_sum nC fun cdv A outer s H E hr=>?_
 have hc:=hr.calm (by decide)
 refine aC ?_ ?_
 ·exact (fV (yg (pD (jw (bw Ca (by rfl) (by exact T.z_isinstance) boot_isinstance (ak (dv 0 (pv 0)) (ak (dc (jx (v:=.ty "tuple") (by rfl) (by exact T.z_tuple) boot_tuple (by rfl)) (fun _ _=>by rw [Rep])) aB (aj (by rfl))) (aj (by rfl))) (by decide) (by decide) (aj (by rfl)) (au (by rfl))))) (xW (bU (Ni (lO hr)) (bw jg (by rfl) (by exact T.z_len) PySem.boot_len (ak (dv 0 (pv 0)) aB (aj (by rfl))) (by decide) (by decide) (aj (by rfl)) (au (by rfl))) (bw jg (by rfl) (by exact T.z_len) PySem.boot_len (ak (dv 1 (pv 1)) aB (aj (by rfl))) (by decide) (by decide) (aj (by rfl)) (au (by rfl))) (bN _)))).pt (aM (bG Es)) bR)
 refine aC ?_ ?_
 ·exact (fL PassesOwn.never hc (dM (by rfl) (by exact T.z_range) (ak (bw jg (by rfl) (by exact T.z_len) PySem.boot_len (ak (dv 1 (pv 1)) aB (aj (by rfl))) (by decide) (by decide) (aj (by rfl)) (au (by rfl))) aB (aj (by rfl))) (j4 (by rfl))) (bJ (bA (i:=2) nd (by rfl) (by exact Or.inl rfl))) (aC (aU (i:=3) nd (by rfl) (by exact Or.inl rfl) (Di (dv 0 (pv 0)) (dv 2 (pv 2)) (by intro _ _;rfl)))
  (aC (fV (yg (pD (jw (bw Ca (by rfl) (by exact T.z_isinstance) boot_isinstance (ak (dv 3 (pv 3)) (ak (dc (jx (v:=.ty "tuple") (by rfl) (by exact T.z_tuple) boot_tuple (by rfl)) (fun _ _=>by rw [Rep])) aB (aj (by rfl))) (aj (by rfl))) (by decide) (by decide) (aj (by rfl)) (au (by rfl))))) (yg (bU (Ni (lO hr)) (bw jg (by rfl) (by exact T.z_len) PySem.boot_len (ak (dv 3 (pv 3)) aB (aj (by rfl))) (by decide) (by decide) (aj (by rfl)) (au (by rfl))) aF (bN _)) (yg (pD (jw (bw Ca (by rfl) (by exact T.z_isinstance) boot_isinstance (ak (Di (dv 3 (pv 3)) aF (by intro _ _;rfl)) (ak (dc (jx (v:=.ty "tuple") (by rfl) (by exact T.z_tuple) boot_tuple (by rfl)) (fun _ _=>by rw [Rep])) aB (aj (by rfl))) (aj (by rfl))) (by decide) (by decide) (aj (by rfl)) (au (by rfl))))) (xW (bU (Ni (lO hr)) (dv 3 (pv 3)) (Di (dv 1 (pv 1)) (dv 2 (pv 2)) (by intro _ _;rfl)) (bN _)))))).pt (aM (bG Es)) bR)
  (aM (fV (pD (jw (bw (Ux hc) (by rfl) (by exact T.z_all) boot_all (ak (Hs [] hc (cP (by rfl)) Eu (Hx (cP (by rfl))) (dW (bx bM (Di (dv 3 (pv 3)) aF (by intro _ _;rfl)) (Vl (dv 3 (pv 3)) (Ld aF) J6))) (fun _ _ _ _=>iz) (fun _ _ _ _=>(Ba (bw Ca (by rfl) (by exact T.z_isinstance) boot_isinstance (ak (dv 0 (pv 0)) (ak (dc (jx (v:=.ty "int") (by rfl) (by exact T.z_int) boot_int (by rfl)) (fun _ _=>by rw [Rep])) aB (aj (by rfl))) (aj (by rfl))) (by decide) (by decide) (aj (by rfl)) (au (by rfl))) (Ep (Oi (bw Ca (by rfl) (by exact T.z_isinstance) boot_isinstance (ak (dv 0 (pv 0)) (ak (dc (jx (v:=.ty "bool") (by rfl) (by exact T.z_bool) boot_bool (by rfl)) (fun _ _=>by rw [Rep])) aB (aj (by rfl))) (aj (by rfl))) (by decide) (by decide) (aj (by rfl)) (au (by rfl)))))))) aB (aj (by rfl))) (by decide) (by decide) (aj (by rfl)) (au (by rfl))))) (aM (bG Es)) bR)))))
 refine aM ?_
 exact (bG Es)
theorem dD (T:Txt K mg t):d9 P w K mg base CX0 11 t.f_l_field t.d_l_field ["_law_wide", "_law_high", "_law_letters", "_law_step"] (lift K cM):=by
 have nd:=oV.nd
 refine uP (k:=10) T.F_l_field oV fun cdv A outer s H E hr=>?_
 have hc:=hr.calm (by decide)
 refine aC ?_ ?_
 ·first
  | (with_reducible exact (aU (hs:=by with_unfolding_all rfl) (hf:=by with_unfolding_all first | exact .inl rfl | exact .inr rfl) (i:=4) (by with_unfolding_all exact nd) (by with_unfolding_all rfl) (by with_unfolding_all exact Or.inl rfl) oM))
  | (exact (aU (i:=4) nd (by rfl) (by exact Or.inl rfl) oM))
 refine aC ?_ ?_
 ·exact (fL PassesOwn.never hc (dM (by rfl) (by exact T.z_range) (ak (dv 0 (pv 0)) aB (aj (by rfl))) (j4 (by rfl))) (bJ (bA (i:=5) nd (by rfl) (by exact Or.inl rfl))) (aM (fL PassesOwn.never hc (dM (by rfl) (by exact T.z_range) (ak (dv 1 (pv 1)) aB (aj (by rfl))) (j4 (by rfl))) (bJ (bA (i:=6) nd (by rfl) (by exact Or.inl rfl))) (aM (sX (bx bM aF (bx dR (bx bM (dv 5 (pv 5)) (bx fK aF (dv 6 (pv 6)))) aF)) (xV (dv 4 (pv 4)) (bx bM (dh (ak (bx fK (dv 5 (pv 5)) (dv 3 (pv 3))) (ak (bx fK (dv 6 (pv 6)) (dv 3 (pv 3))) aB (aj (by rfl))) (aj (by rfl)))) (bx rJ (dh (ak aF aB (aj (by rfl)))) (bx uZ (dv 2 (pv 2)) aF))) (mj (lO hr)) qN))))))
 refine aM ?_
 exact (bG (aX ((dj T).mono (by decide)) hr (by rfl) (by exact T.bf) (by exact T.F_l_ordered.kp) (by exact T.b_l_ordered) (ak (dv 4 (pv 4)) aB (aj (by rfl))) (by decide) (aj (by rfl)) (au (by rfl))))
theorem Gn (T:Txt K mg t):d9 P w K mg base CX0 13 t.f_l_two t.d_l_two ["_law_script", "_law_letters"] (lift K pZ):=by
 have nd:=vQ.nd
 refine uP (k:=12) T.F_l_two vQ fun cdv A outer s H E hr=>?_
 have hc:=hr.calm (by decide)
 refine aC ?_ ?_
 ·exact (aU (i:=2) nd (by rfl) (by exact Or.inl rfl) (Di (BX (ak aF (ak aF aB (aj (by rfl))) (aj (by rfl)))) (bx dR (bx kW (aX ((cB T).mono (by decide)) hr (by rfl) (by exact T.bO) (by exact T.F_l_cell.kp) (by exact T.b_l_cell) (ak (dv 0 (pv 0)) (ak aF aB (aj (by rfl))) (aj (by rfl))) (by decide) (aj (by rfl)) (au (by rfl))) aF) aF) (by intro _ _;rfl)))
 refine aC ?_ ?_
 ·exact (aU (i:=3) nd (by rfl) (by exact Or.inl rfl) (aX ((vW T).mono (by decide)) hr (by rfl) (by exact T.nF) (by exact T.F_l_sum.kp) (by exact T.b_l_sum) (ak (dv 0 (pv 0)) (ak aF (ak (dv 1 (pv 1)) (ak (bx dR (aX ((cB T).mono (by decide)) hr (by rfl) (by exact T.bO) (by exact T.F_l_cell.kp) (by exact T.b_l_cell) (ak (dv 0 (pv 0)) (ak aF aB (aj (by rfl))) (aj (by rfl))) (by decide) (aj (by rfl)) (au (by rfl))) aF) (ak (dv 2 (pv 2)) aB (aj (by rfl))) (aj (by rfl))) (aj (by rfl))) (aj (by rfl))) (aj (by rfl))) (by decide) (aj (by rfl)) (au (by rfl))))
 refine aC ?_ ?_
 ·exact (aU (i:=4) nd (by rfl) (by exact Or.inl rfl) (aX ((vW T).mono (by decide)) hr (by rfl) (by exact T.nF) (by exact T.F_l_sum.kp) (by exact T.b_l_sum) (ak (dv 0 (pv 0)) (ak aF (ak (dv 1 (pv 1)) (ak (bx dR (aX ((cB T).mono (by decide)) hr (by rfl) (by exact T.bO) (by exact T.F_l_cell.kp) (by exact T.b_l_cell) (ak (dv 0 (pv 0)) (ak aF aB (aj (by rfl))) (aj (by rfl))) (by decide) (aj (by rfl)) (au (by rfl))) aF) (ak (dv 2 (pv 2)) aB (aj (by rfl))) (aj (by rfl))) (aj (by rfl))) (aj (by rfl))) (aj (by rfl))) (by decide) (aj (by rfl)) (au (by rfl))))
 refine aC ?_ ?_
 ·exact (aU (i:=5) nd (by rfl) (by exact Or.inl rfl) (bx dR (aX ((cB T).mono (by decide)) hr (by rfl) (by exact T.bO) (by exact T.F_l_cell.kp) (by exact T.b_l_cell) (ak (dv 0 (pv 0)) (ak aF aB (aj (by rfl))) (aj (by rfl))) (by decide) (aj (by rfl)) (au (by rfl))) aF))
 refine aC ?_ ?_
 ·exact (fV (Am (bU Gx (dv 1 (pv 1)) aF (bN _)) (vh (bU (IV (lO hr)) (dv 5 (pv 5)) aF (bN _)))).pt (aC (aU (i:=3) nd (by rfl) (by exact Or.inl rfl) (aX ((dD T).mono (by decide)) hr (by rfl) (by exact T.cM) (by exact T.F_l_field.kp) (by exact T.b_l_field) (ak (bx bM aF (bx dR (bx kW (aX ((cB T).mono (by decide)) hr (by rfl) (by exact T.bO) (by exact T.F_l_cell.kp) (by exact T.b_l_cell) (ak (dv 0 (pv 0)) (ak aF aB (aj (by rfl))) (aj (by rfl))) (by decide) (aj (by rfl)) (au (by rfl))) aF) aF)) (ak aF (ak (dv 1 (pv 1)) (ak aF aB (aj (by rfl))) (aj (by rfl))) (aj (by rfl))) (aj (by rfl))) (by decide) (aj (by rfl)) (au (by rfl))))
  (aM (aU (i:=4) nd (by rfl) (by exact Or.inl rfl) (aX ((dD T).mono (by decide)) hr (by rfl) (by exact T.cM) (by exact T.F_l_field.kp) (by exact T.b_l_field) (ak aF (ak (bx bM aF (bx dR (bx kW (aX ((cB T).mono (by decide)) hr (by rfl) (by exact T.bO) (by exact T.F_l_cell.kp) (by exact T.b_l_cell) (ak (dv 0 (pv 0)) (ak aF aB (aj (by rfl))) (aj (by rfl))) (by decide) (aj (by rfl)) (au (by rfl))) aF) aF)) (ak (dv 1 (pv 1)) (ak aF aB (aj (by rfl))) (aj (by rfl))) (aj (by rfl))) (aj (by rfl))) (by decide) (aj (by rfl)) (au (by rfl)))))) bR)
 refine aC ?_ ?_
 ·first
  | (with_reducible exact (fV (Am (bU Wa (dv 1 (by with_unfolding_all exact pv 1)) (dh (ak aF (ak aF aB (aj (by with_unfolding_all rfl))) (aj (by with_unfolding_all rfl)))) (by with_unfolding_all rfl)) (vh (bU (IV (by with_unfolding_all exact lO hr)) (dv 5 (by with_unfolding_all exact pv 5)) aF (by with_unfolding_all exact bN _)))).pt (aC (aU (hs:=by with_unfolding_all rfl) (hf:=by with_unfolding_all first | exact .inl rfl | exact .inr rfl) (i:=3) (by with_unfolding_all exact nd) (by with_unfolding_all rfl) (by with_unfolding_all exact Or.inl rfl) (aX (k:=12) (by with_unfolding_all exact (dD T).mono (by decide)) (by with_unfolding_all exact hr) (by with_unfolding_all rfl) (by with_unfolding_all exact T.cM) (by with_unfolding_all exact T.F_l_field.kp) (by with_unfolding_all exact T.b_l_field) (ak aF (ak aF (ak (dv 1 (by with_unfolding_all exact pv 1)) (ak aF aB (aj (by with_unfolding_all rfl))) (aj (by with_unfolding_all rfl))) (aj (by with_unfolding_all rfl))) (aj (by with_unfolding_all rfl))) (by decide) (aj (by with_unfolding_all rfl)) (au (by with_unfolding_all rfl))))
  (aC (aU (hs:=by with_unfolding_all rfl) (hf:=by with_unfolding_all first | exact .inl rfl | exact .inr rfl) (i:=4) (by with_unfolding_all exact nd) (by with_unfolding_all rfl) (by with_unfolding_all exact Or.inl rfl) (aX (k:=12) (by with_unfolding_all exact (dD T).mono (by decide)) (by with_unfolding_all exact hr) (by with_unfolding_all rfl) (by with_unfolding_all exact T.cM) (by with_unfolding_all exact T.F_l_field.kp) (by with_unfolding_all exact T.b_l_field) (ak aF (ak aF (ak (dv 1 (by with_unfolding_all exact pv 1)) (ak aF aB (aj (by with_unfolding_all rfl))) (aj (by with_unfolding_all rfl))) (aj (by with_unfolding_all rfl))) (aj (by with_unfolding_all rfl))) (by decide) (aj (by with_unfolding_all rfl)) (au (by with_unfolding_all rfl))))
  (aM (fV (bU (IV (by with_unfolding_all exact lO hr)) (bx dR (bx kW (aX (k:=12) (by with_unfolding_all exact (cB T).mono (by decide)) (by with_unfolding_all exact hr) (by with_unfolding_all rfl) (by with_unfolding_all exact T.bO) (by with_unfolding_all exact T.F_l_cell.kp) (by with_unfolding_all exact T.b_l_cell) (ak (dv 0 (by with_unfolding_all exact pv 0)) (ak aF aB (aj (by with_unfolding_all rfl))) (aj (by with_unfolding_all rfl))) (by decide) (aj (by with_unfolding_all rfl)) (au (by with_unfolding_all rfl))) aF) aF) aF (by with_unfolding_all exact bN _)) (aM (aU (hs:=by with_unfolding_all rfl) (hf:=by with_unfolding_all first | exact .inl rfl | exact .inr rfl) (i:=4) (by with_unfolding_all exact nd) (by with_unfolding_all rfl) (by with_unfolding_all exact Or.inl rfl) (aX (k:=12) (by with_unfolding_all exact (dj T).mono (by decide)) (by with_unfolding_all exact hr) (by with_unfolding_all rfl) (by with_unfolding_all exact T.bf) (by with_unfolding_all exact T.F_l_ordered.kp) (by with_unfolding_all exact T.b_l_ordered) (ak (cV (Dh (by with_unfolding_all exact hc) (by with_unfolding_all exact lO hr)) (by with_unfolding_all rfl) (by with_unfolding_all exact T.z_dict) boot_dict (ak (bx bM (cV Jv (by with_unfolding_all rfl) (by with_unfolding_all exact T.z_list) boot_list (ak (dv 4 (by with_unfolding_all exact pv 4)) aB (aj (by with_unfolding_all rfl))) (by decide) (by decide) (aj (by with_unfolding_all rfl)) (au (by with_unfolding_all rfl))) (BX (ak (dh (ak (bx bM (dh (ak aF (ak aF aB (aj (by with_unfolding_all rfl))) (aj (by with_unfolding_all rfl)))) (bx rJ (dh (ak aF aB (aj (by with_unfolding_all rfl)))) (bx uZ (dv 1 (by with_unfolding_all exact pv 1)) aF))) (ak aF aB (aj (by with_unfolding_all rfl))) (aj (by with_unfolding_all rfl)))) aB (aj (by with_unfolding_all rfl))))) aB (aj (by with_unfolding_all rfl))) (by decide) (by decide) (aj (by with_unfolding_all rfl)) (au (by with_unfolding_all rfl))) aB (aj (by with_unfolding_all rfl))) (by decide) (aj (by with_unfolding_all rfl)) (au (by with_unfolding_all rfl))))) bR)))) bR))
  | (exact (fV (Am (bU Wa (dv 1 (pv 1)) (dh (ak aF (ak aF aB (aj (by rfl))) (aj (by rfl)))) (by with_unfolding_all rfl)) (vh (bU (IV (lO hr)) (dv 5 (pv 5)) aF (bN _)))).pt (aC (aU (i:=3) nd (by rfl) (by exact Or.inl rfl) (aX ((dD T).mono (by decide)) hr (by rfl) (by exact T.cM) (by exact T.F_l_field.kp) (by exact T.b_l_field) (ak aF (ak aF (ak (dv 1 (pv 1)) (ak aF aB (aj (by rfl))) (aj (by rfl))) (aj (by rfl))) (aj (by rfl))) (by decide) (aj (by rfl)) (au (by rfl))))
  (aC (aU (i:=4) nd (by rfl) (by exact Or.inl rfl) (aX ((dD T).mono (by decide)) hr (by rfl) (by exact T.cM) (by exact T.F_l_field.kp) (by exact T.b_l_field) (ak aF (ak aF (ak (dv 1 (pv 1)) (ak aF aB (aj (by rfl))) (aj (by rfl))) (aj (by rfl))) (aj (by rfl))) (by decide) (aj (by rfl)) (au (by rfl))))
  (aM (fV (bU (IV (lO hr)) (bx dR (bx kW (aX ((cB T).mono (by decide)) hr (by rfl) (by exact T.bO) (by exact T.F_l_cell.kp) (by exact T.b_l_cell) (ak (dv 0 (pv 0)) (ak aF aB (aj (by rfl))) (aj (by rfl))) (by decide) (aj (by rfl)) (au (by rfl))) aF) aF) aF (bN _)) (aM (aU (i:=4) nd (by rfl) (by exact Or.inl rfl) (aX ((dj T).mono (by decide)) hr (by rfl) (by exact T.bf) (by exact T.F_l_ordered.kp) (by exact T.b_l_ordered) (ak (cV (Dh hc (lO hr)) (by rfl) (by exact T.z_dict) boot_dict (ak (bx bM (cV Jv (by rfl) (by exact T.z_list) boot_list (ak (dv 4 (pv 4)) aB (aj (by rfl))) (by decide) (by decide) (aj (by rfl)) (au (by rfl))) (BX (ak (dh (ak (bx bM (dh (ak aF (ak aF aB (aj (by rfl))) (aj (by rfl)))) (bx rJ (dh (ak aF aB (aj (by rfl)))) (bx uZ (dv 1 (pv 1)) aF))) (ak aF aB (aj (by rfl))) (aj (by rfl)))) aB (aj (by rfl))))) aB (aj (by rfl))) (by decide) (by decide) (aj (by rfl)) (au (by rfl))) aB (aj (by rfl))) (by decide) (aj (by rfl)) (au (by rfl))))) bR)))) bR))
 refine aC ?_ ?_
 ·exact (fV (bU (IV (lO hr)) (dv 5 (pv 5)) aF (bN _)) (aM (aU (i:=4) nd (by rfl) (by exact Or.inl rfl) (cV jF (by rfl) (by exact T.z_tuple) boot_tuple (ak (Hs [] hc (cP (by rfl)) CW (zG hc (cP (by rfl))) (dW (dv 3 (pv 3))) (fun _ _ _ _=>iz) (fun _ _ _ _=>(dh (ak (dv 0 (pv 0)) (ak (bx fK (dv 1 (pv 1)) (bx uZ aF (bx fK aF (bx dR (bw (PX hc) (by rfl) (by exact T.z_sum) boot_sum (ak (dv 0 (pv 0)) aB (aj (by rfl))) (by decide) (by decide) (aj (by rfl)) (au (by rfl))) aF)))) aB (aj (by rfl))) (aj (by rfl)))))) aB (aj (by rfl))) (by decide) (by decide) (aj (by rfl)) (au (by rfl))))) bR)
 refine aM ?_
 exact (bG (dh (ak (dv 3 (pv 3)) (ak (dv 4 (pv 4)) aB (aj (by rfl))) (aj (by rfl)))))
theorem rT (T:Txt K mg t):d9 P w K mg base CX0 11 t.f_l_product t.d_l_product ["_law_one", "_law_other"] (lift K fj):=by
 have nd:=j7.nd
 refine uP (k:=10) T.F_l_product j7 fun cdv A outer s H E hr=>?_
 have hc:=hr.calm (by decide)
 refine aC ?_ ?_
 ·exact (fV (bU Gx (bx fK (bw jg (by rfl) (by exact T.z_len) PySem.boot_len (ak (dv 0 (pv 0)) aB (aj (by rfl))) (by decide) (by decide) (aj (by rfl)) (au (by rfl))) (bw jg (by rfl) (by exact T.z_len) PySem.boot_len (ak (dv 1 (pv 1)) aB (aj (by rfl))) (by decide) (by decide) (aj (by rfl)) (au (by rfl)))) aF (bN _)) (aM (bG M9)) bR)
 refine aC ?_ ?_
 ·first
  | (with_reducible exact (aU (hs:=by with_unfolding_all rfl) (hf:=by with_unfolding_all first | exact .inl rfl | exact .inr rfl) (i:=2) (by with_unfolding_all exact nd) (by with_unfolding_all rfl) (by with_unfolding_all exact Or.inl rfl) oM))
  | (exact (aU (i:=2) nd (by rfl) (by exact Or.inl rfl) oM))
 refine aC ?_ ?_
 ·exact (fL PassesOwn.never hc (dW (dv 0 (pv 0))) (jE hc (cF (bJ (bA (i:=3) nd (by rfl) (by exact Or.inl rfl))) (cF (bJ (bA (i:=4) nd (by rfl) (by exact Or.inl rfl))) jO))) (aM (fL PassesOwn.never hc (dW (dv 1 (pv 1))) (jE hc (cF (bJ (bA (i:=5) nd (by rfl) (by exact Or.inl rfl))) (cF (bJ (bA (i:=6) nd (by rfl) (by exact Or.inl rfl))) jO))) (aC (aU (i:=7) nd (by rfl) (by exact Or.inl rfl) (cV jF (by rfl) (by exact T.z_tuple) boot_tuple (ak (Hs [] hc (cP (by rfl)) CW (zG hc (cP (by rfl))) (QT (by rfl) (by exact T.z_zip) (ak (dv 3 (pv 3)) (ak (dv 5 (pv 5)) aB (aj (by rfl))) (aj (by rfl))) (aj (by rfl)) (au (by rfl))) (fun _ _ _ _=>iz) (fun _ _ _ _=>(bx bM (dv 0 (pv 0)) (dv 1 (pv 1))))) aB (aj (by rfl))) (by decide) (by decide) (aj (by rfl)) (au (by rfl))))
  (aM (sX (bx bM (RM (lO hr) (dv 2 (pv 2)) (ak (dv 7 (pv 7)) (ak aF aB (aj (by rfl))) (aj (by rfl))) (by rfl) (Qy (by rfl) (by rfl)) (by rfl) (aj (by rfl)) (au (by rfl))) (bx fK (dv 4 (pv 4)) (dv 6 (pv 6)))) (xV (dv 2 (pv 2)) (dv 7 (pv 7)) (mj (lO hr)) qN)))))))
 refine aC ?_ ?_
 ·exact (aU (i:=8) nd (by rfl) (by exact Or.inl rfl) (aX ((dj T).mono (by decide)) hr (by rfl) (by exact T.bf) (by exact T.F_l_ordered.kp) (by exact T.b_l_ordered) (ak (dv 2 (pv 2)) aB (aj (by rfl))) (by decide) (aj (by rfl)) (au (by rfl))))
 refine aC ?_ ?_
 ·exact (aU (i:=9) nd (by rfl) (by exact Or.inl rfl) (RB hc (by rfl) (by exact T.z_max) boot_max (ak (Hs [] hc (cP (by rfl)) CW (zG hc (cP (by rfl))) (dW (dv 8 (pv 8))) (fun _ _ _ _=>iz) (fun _ _ _ _=>(K7 hc (by rfl) (by exact T.z_max) boot_max (ak (dv 0 (pv 0)) aB (aj (by rfl))) (by decide) (by decide) (aj (by rfl))))) aB (aj (by rfl))) (by decide) (by decide) (aj (by rfl))))
 refine aC ?_ ?_
 ·exact (fV (yg (bU Gx (bw jg (by rfl) (by exact T.z_len) PySem.boot_len (ak (dv 8 (pv 8)) aB (aj (by rfl))) (by decide) (by decide) (aj (by rfl)) (au (by rfl))) aF (bN _)) (xW (bU Gx (dv 9 (pv 9)) aF (bN _)))).pt (aM (bG M9)) bR)
 refine aM ?_
 exact (bG (dv 8 (pv 8)))
theorem jX (T:Txt K mg t):d9 P w K mg base CX0 13 t.f_l_refused t.d_l_refused ["_law_one", "_law_other"] (lift K dO):=by
 have nd:=jR.nd
 refine uP (k:=12) T.F_l_refused jR fun cdv A outer s H E hr=>?_
 have hc:=hr.calm (by decide)
 refine aC ?_ ?_
 ·exact (Rq (i:=3) nd (by rfl) (by rfl) (by rfl) T.xm_EaselError T.xd_EaselError ⟨rfl,rfl⟩ rfl (fun pins xe Z0=>(dX (xO (vd ((rN T).mono (by decide)) hr (by rfl) (by exact T.cR) (by exact T.F_times.kp) (by exact T.b_times) (ak (dv 0 (pv 0)) (ak (dv 1 (pv 1)) aB (aj (by rfl))) (aj (by rfl))) (by decide) (aj (by rfl)) (au (by rfl)))))) (fun a o u=>by
  have hr:=G5 (a:=a) hr (by decide)
  exact (aC (aU (i:=2) nd (by rfl) (by exact Or.inl rfl) (BX (ak (tY (by rfl) (by exact T.z_isinstance) (dv 3 (pv 3)) (d8 (v:=.ref t.x_NoPart) (by rfl) T.xm_NoPart (by rfl)) (zu.own T.xd_NoPart) (aj (by rfl)) (aj (by rfl)) (au (by rfl))) (ak (tY (by rfl) (by exact T.z_isinstance) (dv 3 (pv 3)) (d8 (v:=.ref t.x_Nothing) (by rfl) T.xm_Nothing (by rfl)) (zu.own T.xd_Nothing) (aj (by rfl)) (aj (by rfl)) (au (by rfl))) (ak (tY (by rfl) (by exact T.z_isinstance) (dv 3 (pv 3)) (d8 (v:=.ref t.x_Stuck) (by rfl) T.xm_Stuck (by rfl)) (zu.own T.xd_Stuck) (aj (by rfl)) (aj (by rfl)) (au (by rfl))) aB (aj (by rfl))) (aj (by rfl))) (aj (by rfl)))))
  (aM (bG (Ba (tY (by rfl) (by exact T.z_isinstance) (dv 3 (pv 3)) (d8 (v:=.ref t.x_TooMuch) (by rfl) T.xm_TooMuch (by rfl)) (zu.own T.xd_TooMuch) (aj (by rfl)) (aj (by rfl)) (au (by rfl))) (Ba (tY (by rfl) (by exact T.z_isinstance) (dv 3 (pv 3)) (jx (v:=.ty "ValueError") (by rfl) (by exact T.z_ValueError) PyProof.Rows.Boot.«ValueError» (by rfl)) zu.val (aj (by rfl)) (aj (by rfl)) (au (by rfl))) (Ep (Oi (bw Qt (by rfl) (by exact T.z_any) boot_any (ak (dv 2 (pv 2)) aB (aj (by rfl))) (by decide) (by decide) (aj (by rfl)) (au (by rfl))))))))))))
 refine aM ?_
 exact (bG Es)
theorem Pj (T:Txt K mg t):d9 P w K mg base CX0 14 t.f_law t.d_law ["_law_script"] (lift K G3):=by
 have nd:=Jp.nd
 refine uP (k:=13) T.F_law Jp fun cdv A outer s H E hr=>?_
 have hc:=hr.calm (by decide)
 refine aC ?_ ?_
 ·exact (aU (i:=1) nd (by rfl) (by exact Or.inl rfl) (bx dR (aX ((cB T).mono (by decide)) hr (by rfl) (by exact T.bO) (by exact T.F_l_cell.kp) (by exact T.b_l_cell) (ak (dv 0 (pv 0)) (ak aF aB (aj (by rfl))) (aj (by rfl))) (by decide) (aj (by rfl)) (au (by rfl))) aF))
 refine aC ?_ ?_
 ·exact (sX (aX ((Gn T).mono (by decide)) hr (by rfl) (by exact T.pZ) (by exact T.F_l_two.kp) (by exact T.b_l_two) (ak (dv 0 (pv 0)) (ak (dv 1 (pv 1)) aB (aj (by rfl))) (aj (by rfl))) (by decide) (aj (by rfl)) (au (by rfl))) (jE hc (cF (bJ (bA (i:=2) nd (by rfl) (by exact Or.inl rfl))) (cF (bJ (bA (i:=3) nd (by rfl) (by exact Or.inl rfl))) jO))))
 refine aC ?_ ?_
 ·exact (aU (i:=4) nd (by rfl) (by exact Or.inl rfl) (aX ((rT T).mono (by decide)) hr (by rfl) (by exact T.fj) (by exact T.F_l_product.kp) (by exact T.b_l_product) (ak (dv 2 (pv 2)) (ak (dv 3 (pv 3)) aB (aj (by rfl))) (aj (by rfl))) (by decide) (aj (by rfl)) (au (by rfl))))
 refine aC ?_ ?_
 ·exact (fV (bU Xf (dv 4 (pv 4)) M9 (bN _)) (aM (bG (Ba (aX ((jX T).mono (by decide)) hr (by rfl) (by exact T.dO) (by exact T.F_l_refused.kp) (by exact T.b_l_refused) (ak (dv 2 (pv 2)) (ak (dv 3 (pv 3)) aB (aj (by rfl))) (aj (by rfl))) (by decide) (aj (by rfl)) (au (by rfl))) (Ep (aX ((jX T).mono (by decide)) hr (by rfl) (by exact T.dO) (by exact T.F_l_refused.kp) (by exact T.b_l_refused) (ak (dv 3 (pv 3)) (ak (dv 2 (pv 2)) aB (aj (by rfl))) (aj (by rfl))) (by decide) (aj (by rfl)) (au (by rfl))))))) bR)
 refine aC ?_ ?_
 ·exact (fV (pD (jw (aX ((mL T).mono (by decide)) hr (by rfl) (by exact T.eV) (by exact T.F_l_is_sum.kp) (by exact T.b_l_is_sum) (ak (aX ((gW T).mono (by decide)) hr (by rfl) (by exact T.cR) (by exact T.F_times.kp) (by exact T.b_times) (ak (dv 2 (pv 2)) (ak (dv 3 (pv 3)) aB (aj (by rfl))) (aj (by rfl))) (by decide) (aj (by rfl)) (au (by rfl))) (ak (dv 4 (pv 4)) aB (aj (by rfl))) (aj (by rfl))) (by decide) (aj (by rfl)) (au (by rfl))))) (aM (bG Es)) bR)
 refine aC ?_ ?_
 ·exact (fV (bU Gx (bx fK (bw jg (by rfl) (by exact T.z_len) PySem.boot_len (ak (dv 2 (pv 2)) aB (aj (by rfl))) (by decide) (by decide) (aj (by rfl)) (au (by rfl))) (bw jg (by rfl) (by exact T.z_len) PySem.boot_len (ak (dv 3 (pv 3)) aB (aj (by rfl))) (by decide) (by decide) (aj (by rfl)) (au (by rfl)))) aF (bN _)) (aM (bG Es)) bR)
 refine aC ?_ ?_
 ·exact (fV (pD (jw (aX ((mL T).mono (by decide)) hr (by rfl) (by exact T.eV) (by exact T.F_l_is_sum.kp) (by exact T.b_l_is_sum) (ak (aX ((gW T).mono (by decide)) hr (by rfl) (by exact T.cR) (by exact T.F_times.kp) (by exact T.b_times) (ak (dv 3 (pv 3)) (ak (dv 2 (pv 2)) aB (aj (by rfl))) (aj (by rfl))) (by decide) (aj (by rfl)) (au (by rfl))) (ak (dv 4 (pv 4)) aB (aj (by rfl))) (aj (by rfl))) (by decide) (aj (by rfl)) (au (by rfl))))) (aM (bG Es)) bR)
 refine aC ?_ ?_
 ·first
  | (with_reducible exact (aU (hs:=by with_unfolding_all rfl) (hf:=by with_unfolding_all first | exact .inl rfl | exact .inr rfl) (i:=5) (by with_unfolding_all exact nd) (by with_unfolding_all rfl) (by with_unfolding_all exact Or.inl rfl) (dh (ak (dh (ak (bx rJ (dh (ak aF aB (aj (by with_unfolding_all rfl)))) (dv 1 (by with_unfolding_all exact pv 1))) (ak aF aB (aj (by with_unfolding_all rfl))) (aj (by with_unfolding_all rfl)))) aB (aj (by with_unfolding_all rfl))))))
  | (exact (aU (i:=5) nd (by rfl) (by exact Or.inl rfl) (dh (ak (dh (ak (bx rJ (dh (ak aF aB (aj (by rfl)))) (dv 1 (pv 1))) (ak aF aB (aj (by rfl))) (aj (by rfl)))) aB (aj (by rfl))))))
 refine aC ?_ ?_
 ·exact (fV (yg (bU (Ni (lO hr)) (aX ((gW T).mono (by decide)) hr (by rfl) (by exact T.cR) (by exact T.F_times.kp) (by exact T.b_times) (ak (dv 2 (pv 2)) (ak (dh aB) aB (aj (by rfl))) (aj (by rfl))) (by decide) (aj (by rfl)) (au (by rfl))) (dh aB) (bN _)) (xW (bU (Ni (lO hr)) (aX ((gW T).mono (by decide)) hr (by rfl) (by exact T.cR) (by exact T.F_times.kp) (by exact T.b_times) (ak (dh aB) (ak (dv 3 (pv 3)) aB (aj (by rfl))) (aj (by rfl))) (by decide) (aj (by rfl)) (au (by rfl))) (dh aB) (bN _)))).pt (aM (bG Es)) bR)
 refine aM ?_
 exact (bG (Ba (HJ (IV (lO hr)) (aX ((gW T).mono (by decide)) hr (by rfl) (by exact T.cR) (by exact T.F_times.kp) (by exact T.b_times) (ak (dv 2 (pv 2)) (ak (dv 5 (pv 5)) aB (aj (by rfl))) (aj (by rfl))) (by decide) (aj (by rfl)) (au (by rfl))) (dv 2 (pv 2)) (bN _)) (Ep (HJ (IV (lO hr)) (aX ((gW T).mono (by decide)) hr (by rfl) (by exact T.cR) (by exact T.F_times.kp) (by exact T.b_times) (ak (dv 5 (pv 5)) (ak (dv 3 (pv 3)) aB (aj (by rfl))) (aj (by rfl))) (by decide) (aj (by rfl)) (au (by rfl))) (dv 3 (pv 3)) (bN _)))))
end
def fO (x:Str)(s:Stmt)(oc:Value)(od:Option Addr)(kV dc pm:Value)(an:Option Addr)(cd ct:Value)(sl:Array (Option Value)):Option Obj:=some ⟨oc,od,.func (PySem.W.fnOf x x (mO s) (gF s) (aQ s) .none kV dc pm an cd ct),sl⟩
def sR (f:Addr):Option (Option Value):=some (some (.ref f))
open PySem.W (nsIn codeIn keepIn) in
theorem all_mk {l:PySem.W.OpenLaw}{w:World}{K:Yh}{h:Heap}{mg:Str->Option Value}{fa:Addr}(hlaw:∀ ns:List Int,ns.length<=63->G3 [.kls (ns.map W.int)] g0 (fun w _=>w=.bl true) EF)(X:K.In h)(G:h.Ns mainGlobals mg)(hfa:mg "law" = some (.ref fa))
  {f0 f1 f2 f3 f4 f5 f6 f7 f8 f9 f10 f11 f12 f13 f14 f15 f16 f17:Addr} {od0 an0 od1 an1 od2 an2 od3 an3 od4 an4 od5 an5 od6 an6 od7 an7 od8 an8 od9 an9 od10 an10 od11 an11 od12 an12 od13 an13 od14 an14 od15 an15 od16 an16 od17 an17:Option Addr} {sl0 sl1 sl2 sl3 sl4 sl5 sl6 sl7 sl8 sl9 sl10 sl11 sl12 sl13 sl14 sl15 sl16 sl17:Array (Option Value)} {oc0 kV0 dc0 pm0 cd0 ct0 oc1 kV1 dc1 pm1 cd1 ct1 oc2 kV2 dc2 pm2 cd2 ct2 oc3 kV3 dc3 pm3 cd3 ct3 oc4 kV4 dc4 pm4 cd4 ct4 oc5 kV5 dc5 pm5 cd5 ct5 oc6 kV6 dc6 pm6 cd6 ct6 oc7 kV7 dc7 pm7 cd7 ct7 oc8 kV8 dc8 pm8 cd8 ct8 oc9 kV9 dc9 pm9 cd9 ct9 oc10 kV10 dc10 pm10 cd10 ct10 oc11 kV11 dc11 pm11 cd11 ct11 oc12 kV12 dc12 pm12 cd12 ct12 oc13 kV13 dc13 pm13 cd13 ct13 oc14 kV14 dc14 pm14 cd14 ct14 oc15 kV15 dc15 pm15 cd15 ct15 oc16 kV16 dc16 pm16 cd16 ct16 oc17 kV17 dc17 pm17 cd17 ct17:Value}
  {n_MOST_TERMS:Tok}
  {n_MOST_POWER:Tok}
  {n_MOST_PAIRS:Tok}
  {n_FIELD:Tok}
  {x_EaselError:Addr}
  {x_Nothing:Addr}
  {x_Stuck:Addr}
  {x_NoPart:Addr}
  {x_TooMuch:Addr}
  (a0:nsIn K mainGlobals "sum_of_totals" = sR f0) (l0:K.lookup f0=fO "sum_of_totals" cI oc0 od0 kV0 dc0 pm0 an0 cd0 ct0 sl0) (c0:codeIn K cd0 "sum_of_totals" = true) (k0:keepIn K (.ref f0)=true)
  (a1:nsIn K mainGlobals "packed" = sR f1) (l1:K.lookup f1=fO "packed" lN oc1 od1 kV1 dc1 pm1 an1 cd1 ct1 sl1) (c1:codeIn K cd1 "packed" = true) (k1:keepIn K (.ref f1)=true)
  (a2:nsIn K mainGlobals "unpacked" = sR f2) (l2:K.lookup f2=fO "unpacked" gJ oc2 od2 kV2 dc2 pm2 an2 cd2 ct2 sl2) (c2:codeIn K cd2 "unpacked" = true) (k2:keepIn K (.ref f2)=true)
  (a3:nsIn K mainGlobals "packed_terms" = sR f3) (l3:K.lookup f3=fO "packed_terms" cX oc3 od3 kV3 dc3 pm3 an3 cd3 ct3 sl3) (c3:codeIn K cd3 "packed_terms" = true) (k3:keepIn K (.ref f3)=true)
  (a4:nsIn K mainGlobals "check_powers" = sR f4) (l4:K.lookup f4=fO "check_powers" cU oc4 od4 kV4 dc4 pm4 an4 cd4 ct4 sl4) (c4:codeIn K cd4 "check_powers" = true) (k4:keepIn K (.ref f4)=true)
  (a5:nsIn K mainGlobals "times" = sR f5) (l5:K.lookup f5=fO "times" qZ oc5 od5 kV5 dc5 pm5 an5 cd5 ct5 sl5) (c5:codeIn K cd5 "times" = true) (k5:keepIn K (.ref f5)=true)
  (a6:nsIn K mainGlobals "_law_cell" = sR f6) (l6:K.lookup f6=fO "_law_cell" lK oc6 od6 kV6 dc6 pm6 an6 cd6 ct6 sl6) (c6:codeIn K cd6 "_law_cell" = true) (k6:keepIn K (.ref f6)=true)
  (a7:nsIn K mainGlobals "_law_draws" = sR f7) (l7:K.lookup f7=fO "_law_draws" iT oc7 od7 kV7 dc7 pm7 an7 cd7 ct7 sl7) (c7:codeIn K cd7 "_law_draws" = true) (k7:keepIn K (.ref f7)=true)
  (a8:nsIn K mainGlobals "_law_number" = sR f8) (l8:K.lookup f8=fO "_law_number" gR oc8 od8 kV8 dc8 pm8 an8 cd8 ct8 sl8) (c8:codeIn K cd8 "_law_number" = true) (k8:keepIn K (.ref f8)=true)
  (a9:nsIn K mainGlobals "_law_powers" = sR f9) (l9:K.lookup f9=fO "_law_powers" gY oc9 od9 kV9 dc9 pm9 an9 cd9 ct9 sl9) (c9:codeIn K cd9 "_law_powers" = true) (k9:keepIn K (.ref f9)=true)
  (a10:nsIn K mainGlobals "_law_ordered" = sR f10) (l10:K.lookup f10=fO "_law_ordered" fH oc10 od10 kV10 dc10 pm10 an10 cd10 ct10 sl10) (c10:codeIn K cd10 "_law_ordered" = true) (k10:keepIn K (.ref f10)=true)
  (a11:nsIn K mainGlobals "_law_sum" = sR f11) (l11:K.lookup f11=fO "_law_sum" pX oc11 od11 kV11 dc11 pm11 an11 cd11 ct11 sl11) (c11:codeIn K cd11 "_law_sum" = true) (k11:keepIn K (.ref f11)=true)
  (a12:nsIn K mainGlobals "_law_is_sum" = sR f12) (l12:K.lookup f12=fO "_law_is_sum" gP oc12 od12 kV12 dc12 pm12 an12 cd12 ct12 sl12) (c12:codeIn K cd12 "_law_is_sum" = true) (k12:keepIn K (.ref f12)=true)
  (a13:nsIn K mainGlobals "_law_field" = sR f13) (l13:K.lookup f13=fO "_law_field" jf oc13 od13 kV13 dc13 pm13 an13 cd13 ct13 sl13) (c13:codeIn K cd13 "_law_field" = true) (k13:keepIn K (.ref f13)=true)
  (a14:nsIn K mainGlobals "_law_two" = sR f14) (l14:K.lookup f14=fO "_law_two" qP oc14 od14 kV14 dc14 pm14 an14 cd14 ct14 sl14) (c14:codeIn K cd14 "_law_two" = true) (k14:keepIn K (.ref f14)=true)
  (a15:nsIn K mainGlobals "_law_product" = sR f15) (l15:K.lookup f15=fO "_law_product" eZ oc15 od15 kV15 dc15 pm15 an15 cd15 ct15 sl15) (c15:codeIn K cd15 "_law_product" = true) (k15:keepIn K (.ref f15)=true)
  (a16:nsIn K mainGlobals "_law_refused" = sR f16) (l16:K.lookup f16=fO "_law_refused" eY oc16 od16 kV16 dc16 pm16 an16 cd16 ct16 sl16) (c16:codeIn K cd16 "_law_refused" = true) (k16:keepIn K (.ref f16)=true)
  (a17:nsIn K mainGlobals "law" = sR f17) (l17:K.lookup f17=fO "law" Ey oc17 od17 kV17 dc17 pm17 an17 cd17 ct17 sl17) (c17:codeIn K cd17 "law" = true) (k17:keepIn K (.ref f17)=true)
  (z_ValueError:PySem.W.nsIn K mainGlobals "ValueError" = some none)
  (z_all:PySem.W.nsIn K mainGlobals "all" = some none)
  (z_any:PySem.W.nsIn K mainGlobals "any" = some none)
  (z_bool:PySem.W.nsIn K mainGlobals "bool" = some none)
  (z_dict:PySem.W.nsIn K mainGlobals "dict" = some none)
  (z_int:PySem.W.nsIn K mainGlobals "int" = some none)
  (z_isinstance:PySem.W.nsIn K mainGlobals "isinstance" = some none)
  (z_len:PySem.W.nsIn K mainGlobals "len" = some none)
  (z_list:PySem.W.nsIn K mainGlobals "list" = some none)
  (z_max:PySem.W.nsIn K mainGlobals "max" = some none)
  (z_range:PySem.W.nsIn K mainGlobals "range" = some none)
  (z_reversed:PySem.W.nsIn K mainGlobals "reversed" = some none)
  (z_sorted:PySem.W.nsIn K mainGlobals "sorted" = some none)
  (z_sum:PySem.W.nsIn K mainGlobals "sum" = some none)
  (z_tuple:PySem.W.nsIn K mainGlobals "tuple" = some none)
  (z_zip:PySem.W.nsIn K mainGlobals "zip" = some none)
  (gk_MOST_TERMS:PySem.W.nsIn K mainGlobals "MOST_TERMS" = some (some (.int 600 n_MOST_TERMS)))
  (gk_MOST_POWER:PySem.W.nsIn K mainGlobals "MOST_POWER" = some (some (.int 60 n_MOST_POWER)))
  (gk_MOST_PAIRS:PySem.W.nsIn K mainGlobals "MOST_PAIRS" = some (some (.int 20000 n_MOST_PAIRS)))
  (gk_FIELD:PySem.W.nsIn K mainGlobals "FIELD" = some (some (.int 65536 n_FIELD)))
  (gx_EaselError:nsIn K mainGlobals "EaselError" = sR x_EaselError) (xd_EaselError:qU K x_EaselError "EaselError" = true)
  (gx_Nothing:nsIn K mainGlobals "Nothing" = sR x_Nothing) (xd_Nothing:qU K x_Nothing "Nothing" = true)
  (gx_Stuck:nsIn K mainGlobals "Stuck" = sR x_Stuck) (xd_Stuck:qU K x_Stuck "Stuck" = true)
  (gx_NoPart:nsIn K mainGlobals "NoPart" = sR x_NoPart) (xd_NoPart:qU K x_NoPart "NoPart" = true)
  (gx_TooMuch:nsIn K mainGlobals "TooMuch" = sR x_TooMuch) (xd_TooMuch:qU K x_TooMuch "TooMuch" = true)
  (xc_TooMuch:rF K x_TooMuch "TooMuch" = true) (xq_TooMuch:PySem.W.excIn K x_TooMuch vmB "ValueError.__new__" = true)
  : ∃ fd:FuncData,(∀ (s:Shared) (v:Value),BindsTo s fd ⟨[v],[]⟩ [("_law_script",v)])/\∀ base:Heap,K.In base->base.Ns mainGlobals mg->d9 l.prog w K mg base CX0 14 fa fd ["_law_script"] (Hv K):=by
 have e:=hfa.symm.trans (PySem.W.mg_of X G a17)
 cases e
 have F0:=cO (st:=cI) l0 c0 k0
 have b0:=F0.binds (ps:=["totals"]) fun _ _ _ _ _ _ us hl=>match us,hl with | [_],_=>rfl
 have F1:=cO (st:=lN) l1 c1 k1
 have b1:=F1.binds (ps:=["powers"]) fun _ _ _ _ _ _ us hl=>match us,hl with | [_],_=>rfl
 have F2:=cO (st:=gJ) l2 c2 k2
 have b2:=F2.binds (ps:=["key", "letters"]) fun _ _ _ _ _ _ us hl=>match us,hl with | [_,_],_=>rfl
 have F3:=cO (st:=cX) l3 c3 k3
 have b3:=F3.binds (ps:=["one"]) fun _ _ _ _ _ _ us hl=>match us,hl with | [_],_=>rfl
 have F4:=cO (st:=cU) l4 c4 k4
 have b4:=F4.binds (ps:=["one"]) fun _ _ _ _ _ _ us hl=>match us,hl with | [_],_=>rfl
 have F5:=cO (st:=qZ) l5 c5 k5
 have b5:=F5.binds (ps:=["one", "other"]) fun _ _ _ _ _ _ us hl=>match us,hl with | [_,_],_=>rfl
 have F6:=cO (st:=lK) l6 c6 k6
 have b6:=F6.binds (ps:=["_law_script", "_law_k"]) fun _ _ _ _ _ _ us hl=>match us,hl with | [_,_],_=>rfl
 have F7:=cO (st:=iT) l7 c7 k7
 have b7:=F7.binds (ps:=["_law_script", "_law_k", "_law_many"]) fun _ _ _ _ _ _ us hl=>match us,hl with | [_,_,_],_=>rfl
 have F8:=cO (st:=gR) l8 c8 k8
 have b8:=F8.binds (ps:=["_law_x"]) fun _ _ _ _ _ _ us hl=>match us,hl with | [_],_=>rfl
 have F9:=cO (st:=gY) l9 c9 k9
 have b9:=F9.binds (ps:=["_law_x", "_law_letters", "_law_most"]) fun _ _ _ _ _ _ us hl=>match us,hl with | [_,_,_],_=>rfl
 have F10:=cO (st:=fH) l10 c10 k10
 have b10:=F10.binds (ps:=["_law_found"]) fun _ _ _ _ _ _ us hl=>match us,hl with | [_],_=>rfl
 have F11:=cO (st:=pX) l11 c11 k11
 have b11:=F11.binds (ps:=["_law_script", "_law_k", "_law_letters", "_law_many", "_law_most"]) fun _ _ _ _ _ _ us hl=>match us,hl with | [_,_,_,_,_],_=>rfl
 have F12:=cO (st:=gP) l12 c12 k12
 have b12:=F12.binds (ps:=["_law_found", "_law_due"]) fun _ _ _ _ _ _ us hl=>match us,hl with | [_,_],_=>rfl
 have F13:=cO (st:=jf) l13 c13 k13
 have b13:=F13.binds (ps:=["_law_wide", "_law_high", "_law_letters", "_law_step"]) fun _ _ _ _ _ _ us hl=>match us,hl with | [_,_,_,_],_=>rfl
 have F14:=cO (st:=qP) l14 c14 k14
 have b14:=F14.binds (ps:=["_law_script", "_law_letters"]) fun _ _ _ _ _ _ us hl=>match us,hl with | [_,_],_=>rfl
 have F15:=cO (st:=eZ) l15 c15 k15
 have b15:=F15.binds (ps:=["_law_one", "_law_other"]) fun _ _ _ _ _ _ us hl=>match us,hl with | [_,_],_=>rfl
 have F16:=cO (st:=eY) l16 c16 k16
 have b16:=F16.binds (ps:=["_law_one", "_law_other"]) fun _ _ _ _ _ _ us hl=>match us,hl with | [_,_],_=>rfl
 have F17:=cO (st:=Ey) l17 c17 k17
 have b17:=F17.binds (ps:=["_law_script"]) fun _ _ _ _ _ _ us hl=>match us,hl with | [_],_=>rfl
 have T:Txt K mg ⟨f0,_,f1,_,f2,_,f3,_,f4,_,f5,_,f6,_,f7,_,f8,_,f9,_,f10,_,f11,_,f12,_,f13,_,f14,_,f15,_,f16,_,fa,_,n_MOST_TERMS,n_MOST_POWER,n_MOST_PAIRS,n_FIELD,x_EaselError,x_Nothing,x_Stuck,x_NoPart,x_TooMuch⟩:=⟨F0,PySem.W.mg_of X G a0,b0,F1,PySem.W.mg_of X G a1,b1,F2,PySem.W.mg_of X G a2,b2,F3,PySem.W.mg_of X G a3,b3,F4,PySem.W.mg_of X G a4,b4,F5,PySem.W.mg_of X G a5,b5,F6,PySem.W.mg_of X G a6,b6,F7,PySem.W.mg_of X G a7,b7,F8,PySem.W.mg_of X G a8,b8,F9,PySem.W.mg_of X G a9,b9,F10,PySem.W.mg_of X G a10,b10,F11,PySem.W.mg_of X G a11,b11,F12,PySem.W.mg_of X G a12,b12,F13,PySem.W.mg_of X G a13,b13,F14,PySem.W.mg_of X G a14,b14,F15,PySem.W.mg_of X G a15,b15,F16,PySem.W.mg_of X G a16,b16,F17,PySem.W.mg_of X G a17,b17,PySem.W.mg_none_of X G z_ValueError,PySem.W.mg_none_of X G z_all,PySem.W.mg_none_of X G z_any,PySem.W.mg_none_of X G z_bool,PySem.W.mg_none_of X G z_dict,PySem.W.mg_none_of X G z_int,PySem.W.mg_none_of X G z_isinstance,PySem.W.mg_none_of X G z_len,PySem.W.mg_none_of X G z_list,PySem.W.mg_none_of X G z_max,PySem.W.mg_none_of X G z_range,PySem.W.mg_none_of X G z_reversed,PySem.W.mg_none_of X G z_sorted,PySem.W.mg_none_of X G z_sum,PySem.W.mg_none_of X G z_tuple,PySem.W.mg_none_of X G z_zip,PySem.W.mg_of X G gk_MOST_TERMS,PySem.W.mg_of X G gk_MOST_POWER,PySem.W.mg_of X G gk_MOST_PAIRS,PySem.W.mg_of X G gk_FIELD,PySem.W.mg_of X G gx_EaselError,xd_EaselError,PySem.W.mg_of X G gx_Nothing,xd_Nothing,PySem.W.mg_of X G gx_Stuck,xd_Stuck,PySem.W.mg_of X G gx_NoPart,xd_NoPart,PySem.W.mg_of X G gx_TooMuch,xd_TooMuch,xc_TooMuch,xq_TooMuch⟩
 exact ⟨_,fun s v=>.of_eq rfl,fun base _ _=>Li hlaw (Pj T)⟩
theorem walk {l:PySem.W.OpenLaw}{q:Program}{loose:List Str}{XP:(Str->Option Value)->Heap->Prop}{YP:World->Heap->Prop}{d:DefRec}{K:Params->Yh}(hn:l.most=some 63)(hdf:d.params.defaults=[])
  (hY:∀ (w:World) (h:Heap),YP w h->(K w.params).In h)
  (F:∀ (w:World) (mg:Str->Option Value) (fa:Addr) (h:Heap),(K w.params).In h->h.Ns mainGlobals mg->mg d.name=some (.ref fa) ->
   ∃ fd:FuncData,(∀ (s:Shared) (u:Value),BindsTo s fd ⟨[u],[]⟩ [("_law_script",u)])/\∀ base:Heap,(K w.params).In base->base.Ns mainGlobals mg->d9 l.prog w (K w.params) mg base CX0 14 fa fd ["_law_script"] (Hv (K w.params))) :
  PySem.W.WalkO q loose XP YP l.row.toRowW d [] (fun f vs=>PySem.call f vs):=
 L2.Ec (n:=63) (k:=14) (x := "_law_script") (CX:=fun _=>CX0) (sp:=fun w=>Hv (K w.params)) hn (by decide) hdf ⟨fun _=>rfl,by decide,by decide⟩ hY F (fun _ _ a ns hl hO hS=>⟨a,ns,rfl,hS,hO,hl,fun _=>rfl⟩) fun _ _ _ _ _ z=>z
local macro_rules | `(tactic| trivial) => `(tactic| with_reducible exact Sm.lit (by decide))
local macro_rules | `(tactic| trivial) => `(tactic| with_reducible exact Sm.zero)
local macro_rules | `(tactic| trivial) => `(tactic| with_reducible exact Sm.neg (by trivial))
local macro_rules | `(tactic| trivial) => `(tactic| with_reducible exact Sm.sub (by trivial) (by trivial))
local macro_rules | `(tactic| trivial) => `(tactic| with_reducible exact Sm.add (by trivial) (by trivial))
local macro_rules | `(tactic| trivial) => `(tactic| with_reducible exact Sm.mul (by trivial) (by trivial))
local macro_rules | `(tactic| trivial) => `(tactic| with_reducible assumption)
theorem DX (h:Gh)(n:Nat)(c:Cell):(h.set n c).c n=some c:=by show (if n=n then some c else h.c n)=some c;rw [if_pos rfl]
theorem tO {h:Gh}{n m:Nat}{c:Cell}(e:m≠n):(h.set n c).c m=h.c m:=by show (if m=n then some c else h.c m)=_;rw [if_neg e]
theorem Ef (h:Gh)(c:Cell):(h.new c).c h.nx=some c:=by show (if h.nx=h.nx then some c else h.c h.nx)=some c;rw [if_pos rfl]
theorem rU {h:Gh}{m:Nat}{c:Cell}(e:m≠h.nx):(h.new c).c m=h.c m:=by show (if m=h.nx then some c else h.c m)=_;rw [if_neg e]
theorem FW {h:Gh}{n:Nat}{ws:List W}(e:h.c n=some (.lst ws)):view h (.loc n)=some ws:=by simp only [view,dU,e]
theorem wZ {a b:Int}(h:0<b):a.fmod b=a % b:=Int.fmod_eq_emod_of_nonneg a (Int.le_of_lt h)
theorem qG {a b:Int}(h:0<b):a.fdiv b=a / b:=Int.fdiv_eq_ediv_of_nonneg a (Int.le_of_lt h)
theorem Qe {A B:Prop}{c:Bool}(e:c=true)(h:A):by2 c A B:=by subst e;exact h
theorem N8 {c:Prop} [Decidable c] {A B:Prop} (h1:c->A) (h2:¬ c->B):by2 (decide c) A B:=by
 by_cases h:c
 ·rw [decide_eq_true h];exact h1 h
 ·rw [decide_eq_false h];exact h2 h
theorem gj {ws ws0:List W}{g:MG}{b:MS}{D:bL}(I:Nat->Sw->Gh->Prop)
  (step:∀ (i:Nat) (w:W) (Z : Sw) (h:Gh) (N:Sw->Gh->Prop),(∀ Z' h',I (i+1) Z' h'->N Z' h')->ws[i]?=some w->I i Z h->g w Z h fun Z1 h1=>b { D with nx:=N,ct:=N,bk:=D.nx } Z1 h1)
  (fin:∀ Z h,I ws.length Z h->D.nx Z h):∀ {Z : Sw} {h:Gh},I 0 Z h->eO ⟨ws0,none⟩ g b D ws Z h:=by
 induction ws generalizing I with
 | nil=>intro Z h h0;exact fin Z h h0
 | cons w ws ih=>
  intro Z h h0
  refine step 0 w Z h _ (fun Z' h' q=>?_) rfl h0
  exact ih (fun i=>I (i+1)) (fun i w Z h N hN e hi=>step (i+1) w Z h N hN (by simpa using e) hi) (fun Z h q=>fin Z h q) q
theorem jk {ws ws0:List W}{own:W->Option (List W)}{ix:List Nat}{tt:MT}{te:ME}{Z : Sw}{Q:WK}(I:Nat->List W->Gh->Prop)
  (step:∀ (i:Nat) (w:W) (acc:List W) (h:Gh) (N:List W->Gh->Prop),(∀ acc' h',I (i+1) acc' h'->N acc' h')->ws[i]?=some w->I i acc h ->
   ∃ vs,own w=some vs/\tt (vs.map some++n8 ix Z) h fun c h1=>by2 c (te (vs.map some++n8 ix Z) h1 fun v h2=>N (acc++[v]) h2) (N acc h1))
  (fin:∀ acc h,I ws.length acc h->Q (.lst acc) h):∀ {acc:List W} {h:Gh},I 0 acc h->oE ⟨ws0,none⟩ own ix tt te Z Q ws acc h:=by
 induction ws generalizing I with
 | nil=>intro acc h h0;exact fin acc h h0
 | cons w ws ih=>
  intro acc h h0
  obtain ⟨vs,ev,q⟩:=step 0 w acc h _ (fun acc' h' q=>ih (fun i=>I (i+1)) (fun i w acc h N hN e hi=>step (i+1) w acc h N hN (by simpa using e) hi) (fun acc h q=>fin acc h q) q) rfl h0
  show (match own w with
   | some vs=>_
   | none=>False)
  rw [ev]
  exact q
theorem Gj {lo:Int}{n i:Nat}{w:W}(e:(vX lo n)[i]?=some w):i<n/\w=.int (lo+(i:Int)):=by
 have hi:i<n:=by
  have:=(List.getElem?_eq_some_iff.mp e).1
  simpa [vX] using this
 unfold vX at e
 rw [List.getElem?_map,List.getElem?_range hi] at e
 exact ⟨hi,(Option.some.inj e).symm⟩
theorem GZ {lo:Int}{n:Nat}:(vX lo n).length=n:=by simp [vX]
theorem jQ {ma:MA}{j:Int}{g:MG}{b:MS}{D:bL}{Z : Sw}{h:Gh}(hm:∀ R,ma Z h R=R [.int j] h)(h1:-(2^62)<=j)(h2:j<2^62)(I:Nat->Sw->Gh->Prop)
  (step:∀ (i:Nat) (Z : Sw) (h:Gh) (N:Sw->Gh->Prop),(∀ Z' h',I (i+1) Z' h'->N Z' h')->i<j.toNat->I i Z h->g (.int (i:Int)) Z h fun Z1 h1=>b { D with nx:=N,ct:=N,bk:=D.nx } Z1 h1)
  (fin:∀ Z h,I j.toNat Z h->D.nx Z h) (h0:I 0 Z h):oX (mV ma) g b D Z h:=by
 unfold oX mV
 rw [hm]
 refine Ek.mk h1 h2 ?_
 refine gj I (fun i w Z h N hN e hi=>?_) (fun Z h q=>fin Z h (by rw [GZ] at q;exact q)) h0
 obtain ⟨hlt,rfl⟩:=Gj e
 rw [Int.zero_add]
 exact step i Z h N hN hlt hi
theorem Ez {ns:List Int}{k:Int}(h0:0<=k)(h1:k<((ns.map W.int).length:Int)):atI (ns.map W.int) k=some (.int (ns.getD k.toNat 0)):=by
 have hk:k.toNat<ns.length:=by rw [X6] at h1;omega
 have e:(ns.map W.int)[k.toNat]?=some (.int (ns.getD k.toNat 0)):=by
  rw [List.getElem?_map,List.getElem?_eq_getElem hk,List.getD_eq_getElem?_getD,List.getElem?_eq_getElem hk];rfl
 have:=Ea e
 rwa [show ((k.toNat:Nat):Int)=k by omega] at this
theorem ints_get {ns:List Int}{i:Nat}{w:W}(e:(ns.map W.int)[i]?=some w):∃ n,ns[i]?=some n/\w=.int n:=by
 rw [List.getElem?_map] at e
 cases q:ns[i]? with
 | none=>rw [q] at e;cases e
 | some n=>rw [q] at e;exact ⟨n,rfl,(Option.some.inj e).symm⟩
theorem lZ (a b:Int):eqW (.int a) (.int b)=(a==b):=by rw [eqW]
abbrev Tr:=Int×Int×Int
def tl (t:Tr):List Int:=[t.1,t.2.1,t.2.2]
def tw (t:Tr):W:=.tup [.int t.1,.int t.2.1,.int t.2.2]
def sc (k:Int)(t:Tr):Tr:=(t.1*k,t.2.1*k,t.2.2*k)
def crs (p q:Tr):Tr:=(p.2.1*q.2.2 - p.2.2*q.2.1,p.2.2*q.1 - p.1*q.2.2,p.1*q.2.1 - p.2.1*q.1)
def dt3 (p q:Tr):Int:=p.1*q.1+p.2.1*q.2.1+p.2.2*q.2.2
theorem ray {p q:Tr}(hp:p≠(0,0,0))(h:crs p q=(0,0,0)):∃ s t:Int,s≠0/\sc s q=sc t p:=by
 obtain ⟨a,b,c⟩:=p
 obtain ⟨x,y,z⟩:=q
 have h1:b*z - c*y=0:=congrArg (·.1) h
 have h2:c*x - a*z=0:=congrArg (·.2.1) h
 have h3:a*y - b*x=0:=congrArg (·.2.2) h
 by_cases ha:a=0
 ·by_cases hb:b=0
  ·by_cases hc:c=0
   ·exact absurd (by rw [ha,hb,hc]) hp
   ·refine ⟨c,z,hc,?_⟩
    simp only [sc]
    refine Prod.ext ?_ (Prod.ext ?_ ?_) <;> simp only <;> grind
  ·refine ⟨b,y,hb,?_⟩
   simp only [sc]
   refine Prod.ext ?_ (Prod.ext ?_ ?_) <;> simp only <;> grind
 ·refine ⟨a,x,ha,?_⟩
  simp only [sc]
  refine Prod.ext ?_ (Prod.ext ?_ ?_) <;> simp only <;> grind
theorem flat {n p q r:Tr}(hn:n≠(0,0,0))(hp:dt3 n p=0)(hq:dt3 n q=0)(hr:dt3 n r=0):dt3 (crs p q) r=0:=by
 obtain ⟨n1,n2,n3⟩:=n
 obtain ⟨p1,p2,p3⟩:=p
 obtain ⟨q1,q2,q3⟩:=q
 obtain ⟨r1,r2,r3⟩:=r
 simp only [dt3,crs] at *
 generalize hd:(p2*q3 - p3*q2)*r1+(p3*q1 - p1*q3)*r2+(p1*q2 - p2*q1)*r3=d
 have e1:n1*d=0:=by grind
 have e2:n2*d=0:=by grind
 have e3:n3*d=0:=by grind
 by_cases h:d=0
 ·exact h
 ·have f:∀ x:Int,x*d=0->x=0:=fun x e=>by
   rcases Int.mul_eq_zero.mp e with e | e
   ·exact e
   ·exact absurd e h
  exact absurd (by rw [f _ e1,f _ e2,f _ e3]) hn
theorem Rj (p q:Tr):eqW (tw p) (tw q)=decide (p=q):=by
 obtain ⟨a,b,c⟩:=p
 obtain ⟨x,y,z⟩:=q
 unfold tw
 rw [eqW,nQ,nQ,nQ,nQ,lZ,lZ,lZ]
 by_cases ha:a=x <;> by_cases hb:b=y <;> by_cases hc:c=z <;> simp [ha,hb,hc]
theorem tQ {h:Gh}{n:Nat}{ws:List W}(e:h.c n=some (.lst ws)):dU h (.loc n)=some ws:=by simp only [dU,e]
theorem vf:∀ bs:List Bool,Ei (bs.map W.bl)=some bs
 | []=>rfl
 | b::bs=>by rw [X5,Ei,vf bs];rfl
theorem RW {h:Gh}{n:Nat}{us:List W}{w:W}{Q:WK}(e:h.c n=some (.lst us))(hz:us.length<sizeLine)(k:Q .non (h.set n (.lst (us++[w])))):fD (.loc n) [w] h Q:=by
 show (match h.c n with
  | some (Cell.lst us)=>_
  | _=>False)
 rw [e]
 exact ⟨hz,k⟩
theorem c32:(10:Int)^(32:Int).toNat=100000000000000000000000000000000:=by decide
theorem c30:(10:Int)^(30:Int).toNat=1000000000000000000000000000000:=by decide
theorem c9:(10:Int)^(9:Int).toNat=1000000000:=by decide
def qu (c:MSp):Prop:=∀ {h:Gh} {ns:List Int} {k:Int} {Q:WK} {E:XWK},0<=k->Q (.int (ns.getD k.toNat 0)) h->c [.kls (ns.map .int),.int k] h Q E
theorem Dy:qu vV:=by
 intro h ns k Q E h0 q
 show br (decide (k<((ns.map W.int).length:Int))) _ _
 refine yt (fun hk=>?_) (fun hk=>?_)
 ·conv=>whnf
  rw [Ez h0 hk]
  exact q
 ·have e:ns.getD k.toNat 0=0:=by
   rw [List.getD_eq_getElem?_getD,List.getElem?_eq_none (by rw [X6] at hk;omega)];rfl
  rw [e] at q
  exact q
theorem bV (a:Int){b:Int}(h:0<b):0<=a.fmod b/\a.fmod b<b:=by
 rw [wZ h];exact ⟨Int.emod_nonneg _ (by omega),Int.emod_lt_of_pos _ h⟩
def uH (c:MSp):Prop:=∀ {h:Gh} {ns:List Int} {k many:Int} {Q:WK} {E:XWK},0<=k->k<=1000->0<=many->many<=1000 ->
 (∀ xs:List Int,(xs.length:Int)=many->Q (.lst (xs.map .int)) h)->c [.kls (ns.map .int),.int k,.int many] h Q E
theorem KZ {cl:MSp}(hcl:qu cl):uH (tU cl):=by
 intro h ns k many Q E k0 k1 m0 m1 q
 show cl [.kls (ns.map .int),.int k] h _ _
 refine hcl k0 ?_
 generalize ns.getD k.toNat 0=left
 have p62:(2:Int)^62=4611686018427387904:=by decide
 refine And.intro (.of (m:=64) (n:=10) (.lit rfl) (eX (by omega) (by omega)) (by decide) (by decide)) ?_
 refine And.intro (.of (m:=64) (n:=10) (.lit rfl) (eX (by omega) (by omega)) (by decide) (by decide)) ?_
 refine And.intro (show (4294967291:Int)≠0 by decide) ?_
 generalize decide (107*many<(Builtin.Int.intBits left:Nat))=free
 obtain ⟨s0,s1⟩:=bV (left+7919*k+11) (b:=4294967291) (by decide)
 generalize (left+7919*k+11).fmod 4294967291=seed at *
 dsimp only [nName,bY,cY,u5,aW]
 refine fW.mk (by decide) ?_
 have f32:(10:Int)^(32:Int).toNat≠0:=by rw [c32];decide
 have s32:Sm 8000 ((10:Int)^(32:Int).toNat):=by rw [c32];unfold Sm;decide +kernel
 refine jQ (j:=many) (fun _=>rfl) (by omega) (by omega) (fun i Z h'=>∃ (xs:List Int) (left seed:Int) (o7 o8:Option W),xs.length=i/\0<=seed/\seed<4294967291/\h'.c h.nx=some (.lst (xs.map .int))/\(∀ n,n≠h.nx->h'.c n=h.c n) /\
  Z = [some (.kls (ns.map .int)),some (.int k),some (.int many),some (.int left),some (.bl free),some (.int seed),some (.loc h.nx),o7,o8]) ?_ ?_ ⟨[],left,seed,none,none,rfl,s0,s1,Ef _ _,fun n hn=>rU hn,rfl⟩
 ·rintro i Z h' N hN hi ⟨xs,left,seed,o7,o8,hl,s0,s1,hc,ho,rfl⟩
  have hi:(i:Int)<many:=by omega
  have sz:(xs.map W.int).length<sizeLine:=by rw [X6,hl];exact Yd (show i<1000 by omega) (by decide)
  have app:∀ (x:Int) (left' seed':Int) (o7 o8:Option W),0<=seed'->seed'<4294967291->N [some (.kls (ns.map .int)),some (.int k),some (.int many),some (.int left'),some (.bl free),some (.int seed'),some (.loc h.nx),o7,o8] (h'.set h.nx (.lst (xs.map .int++[.int x]))):=by
   intro x left' seed' o7 o8 h0 h1
   refine hN _ _ ⟨xs++[x],left',seed',o7,o8,by simp [hl],h0,h1,by rw [DX];simp,fun n hn=>by rw [tO hn];exact ho n hn,rfl⟩
  refine ⟨fun _=>?_,fun _=>?_⟩
  ·show (match h'.c h.nx with
    | some (Cell.lst us)=>_
    | _=>False)
   rw [hc]
   refine And.intro ⟨by decide,by decide,by decide⟩ (And.intro f32 ?_)
   show (match h'.c h.nx with
    | some (Cell.lst us)=>_
    | _=>False)
   rw [hc]
   refine And.intro sz ?_
   refine And.intro ⟨by decide,by decide,by decide⟩ (And.intro ⟨f32,8000,by decide,s32⟩ ?_)
   exact app _ _ _ _ _ s0 s1
  ·refine And.intro (.of (m:=32) (n:=64) (eX (by omega) (by omega)) (.lit rfl) (by decide) (by decide)) ?_
   refine And.intro (.of (m:=10) (n:=10) (eX (by omega) (by omega)) (eX (by omega) (by omega)) (by decide) (by decide)) ?_
   refine And.intro (show (4294967291:Int)≠0 by decide) ?_
   obtain ⟨t0,t1⟩:=bV (seed*69069+362437+(i:Int)*(i:Int)) (b:=4294967291) (by decide)
   generalize (seed*69069+362437+(i:Int)*(i:Int)).fmod 4294967291=sd at *
   refine And.intro ⟨by decide,64,by decide,.lit rfl⟩ ?_
   have d0:0<=sd.fdiv 4096:=by rw [qG (by decide)];omega
   have d1:sd.fdiv 4096<4294967291:=by rw [qG (by decide)];omega
   refine And.intro (.of (m:=32) (n:=40) (eX (by omega) (by omega)) (eX (by omega) (by omega)) (by decide) (by decide)) ?_
   refine And.intro (show (999999999989:Int)≠0 by decide) ?_
   obtain ⟨n0,n1⟩:=bV (sd*(sd.fdiv 4096+(i:Int)+1)) (b:=999999999989) (by decide)
   generalize (sd*(sd.fdiv 4096+(i:Int)+1)).fmod 999999999989=nr at *
   show (match h'.c h.nx with
    | some (Cell.lst us)=>_
    | _=>False)
   rw [hc]
   have sn:Sm 41 nr:=eX (by omega) (by omega)
   have sn7:Sm 41 (nr+7):=eX (by omega) (by omega)
   refine And.intro (.of sn sn7 (by decide) (by decide)) ?_
   refine And.intro (.of (n:=33) (sn.mul sn7) (eX (by omega) (by omega)) (by decide) (by decide)) ?_
   refine And.intro ⟨by decide,by decide,by decide⟩ (And.intro f32 ?_)
   show (match h'.c h.nx with
    | some (Cell.lst us)=>_
    | _=>False)
   rw [hc]
   exact And.intro sz (app _ _ _ _ _ t0 t1)
 ·rintro Z h' ⟨xs,left,seed,o7,o8,hl,s0,s1,hc,ho,rfl⟩
  refine ⟨fun n c hn e=>by rw [ho n (by omega)];exact e,.inr ⟨h.nx,_,rfl,Yc _,hc,?_,q xs (by omega)⟩⟩
  have:∀ ys:List Int,Los h.nx (ys.map W.int):=fun ys=>by
   induction ys with
   | nil=>exact trivial
   | cons y ys ih=>exact ⟨trivial,ih⟩
  exact this xs
def tK (Q:Bool->Gh->Prop):WK:=fun w h=>match w with
 | .bl c=>Q c h
 | _=>False
def uK (Q:Bool->Gh->Prop):WK:=fun w h=>match Te h w with
 | some b=>Q b h
 | none=>False
def aK (b:ME)(Z : Sw)(Q:WK):WK:=fun x h=>match x with
 | .bl true=>b Z h Q
 | .bl false=>Q (.bl false) h
 | _=>False
def oK (b:ME)(Z : Sw)(Q:WK):WK:=fun x h=>match x with
 | .bl false=>b Z h Q
 | .bl true=>Q (.bl true) h
 | _=>False
def nK (Q:WK):WK:=fun x h=>match x with
 | .bl c=>Q (.bl (!c)) h
 | _=>False
def iK (R:Src->Gh->Prop):WK:=fun w h=>match Ql h w with
 | some s=>R s h
 | none=>False
def xK (f:Str->Bool)(Q:WK):WK:=fun w h=>match w with
 | .exc n=>Q (.bl (f n)) h
 | .exa n _=>Q (.bl (f n)) h
 | _=>False
def pK (Q:Option Int->Gh->Prop):WK:=fun w h=>match w with
 | .int i=>Q (some i) h
 | _=>False
def V6 (g:MG)(b:MS)(D:bL)(Z : Sw):Src->Gh->Prop:=fun s h=>eO s g b D s.ws Z h
def lcK (own:W->Option (List W))(ix:List Nat)(tt:MT)(te:ME)(Z : Sw)(Q:WK):Src->Gh->Prop:=fun s h=>fW s.ws.length (oE s own ix tt te Z Q s.ws [] h)
def rgK (R:Src->Gh->Prop):List W->Gh->Prop:=fun ws h=>match ws with
 | [.int j]=>Ek j (R ⟨vX 0 j.toNat,none⟩ h)
 | _=>False
def zpK (R:Src->Gh->Prop):List W->Gh->Prop:=fun ws h=>match ws with
 | [x,y]=>(match Jh h x y with
  | some s=>R s h
  | none=>False)
 | _=>False
theorem aO {m u:MS}{D:bL}{Z : Sw}{h:Gh}(x:m { D with nx:=u D } Z h):bY m u D Z h:=x
theorem bZ {N b c:Sw->Gh->Prop}{r:WK}{Z : Sw}{h:Gh}(x:N Z h):bL.nx ⟨N,r,b,c⟩ Z h:=x
theorem Xr {N b c:Sw->Gh->Prop}{r:WK}{Z : Sw}{h:Gh}(x:b Z h):bL.bk ⟨N,r,b,c⟩ Z h:=x
theorem WW {N b c:Sw->Gh->Prop}{r:WK}{Z : Sw}{h:Gh}(x:c Z h):bL.ct ⟨N,r,b,c⟩ Z h:=x
theorem uh {N b c:Sw->Gh->Prop}{r:WK}{w:W}{h:Gh}(x:r w h):bL.rt ⟨N,r,b,c⟩ w h:=x
theorem Kq {D:bL}{w:W}{h:Gh}(x:D.rt w h):bL.rt (bL.lost D) w h:=x
theorem Mv {D:bL}{Z : Sw}{h:Gh}(x:D.nx (Z.map fun _=>none) h):bL.nx (bL.lost D) Z h:=x
theorem bK {D:bL}{Z : Sw}{h:Gh}(x:D.nx Z h):eF D Z h:=x
theorem aZ {m:ME}{g:MG}{D:bL}{Z : Sw}{h:Gh}(x:m Z h fun w h1=>g w Z h1 D.nx):cY m g D Z h:=x
theorem nJ {m:ME}{D:bL}{Z : Sw}{h:Gh}(x:m Z h fun _ h1=>D.nx Z h1):qm m D Z h:=x
theorem cQ {m:ME}{D:bL}{Z : Sw}{h:Gh}(x:m Z h D.rt):iu m D Z h:=x
theorem lJ {c:Str}{E:XWK}{D:bL}{Z : Sw}{h:Gh}(x:E ⟨c,[]⟩ h):tE c E D Z h:=x
theorem cJ {t:MT}{a b:MS}{D:bL}{Z : Sw}{h:Gh}(x:t Z h fun c h1=>br c (a D Z h1) (b D Z h1)):nW t a b D Z h:=x
theorem Ln {t:MT}{a b:ME}{Q:WK}{Z : Sw}{h:Gh}(x:t Z h fun c h1=>br c (a Z h1 Q) (b Z h1 Q)):mIf t a b Z h Q:=x
theorem Iw {i:Nat}{d:Str}{mb:XWK->MS}{mh:MS}{D:bL}{Z : Sw}{h:Gh}(x:mb (fun x h'=>by2 (isX x.cls d) (mh D.lost (Z.set i (some (Ej x))) h') False) D Z h):Vg i d mb mh D Z h:=x
theorem iJ {n:Nat}{g:MGs}{w:W}{ws:List W}{Z : Sw}{h:Gh}{N:Sw->Gh->Prop}(e:w=.tup ws)(b:Nat.beq ws.length n=true)(x:g ws Z h N):mQ n g w Z h N:=by
 subst e
 unfold mQ
 dsimp only
 rw [b]
 exact x
theorem M5 {n:Nat}{g:MGs}{w:W}{ws:List W}{Z : Sw}{h:Gh}{N:Sw->Gh->Prop}(e:w=.lst ws)(b:Nat.beq ws.length n=true)(x:g ws Z h N):mQ n g w Z h N:=by
 subst e
 unfold mQ
 dsimp only
 rw [b]
 exact x
theorem RQ {n:Nat}{g:MGs}{w:W}{ws:List W}{Z : Sw}{h:Gh}{N:Sw->Gh->Prop}(e:w=.tup ws)(b:Nat.beq ws.length n=true)(x:g ws Z h N):V1 n g w Z h N:=by
 subst e
 unfold V1
 dsimp only
 rw [b]
 exact x
theorem cT {g:MG}{r:MGs}{w:W}{ws:List W}{Z : Sw}{h:Gh}{N:Sw->Gh->Prop}(x:g w Z h fun Z1 h1=>r ws Z1 h1 N):ju g r (w::ws) Z h N:=x
theorem m7 {Z : Sw}{h:Gh}{N:Sw->Gh->Prop}(x:N Z h):Js [] Z h N:=x
theorem aq {i:Nat}{w:W}{Z : Sw}{h:Gh}{Q:WK}(e:Z[i]?=some (some w))(x:Q w h):aG i Z h Q:=by
 unfold aG
 rw [e]
 exact x
theorem bC {w:W}{Z : Sw}{h:Gh}{Q:WK}(x:Q w h):mC w Z h Q:=x
theorem aP {r:M2}{ma mb:ME}{Z : Sw}{h:Gh}{Q:WK}(x:ma Z h fun a h1=>mb Z h1 fun b h2=>r a b h2 Q):mOp r ma mb Z h Q:=x
theorem Vy {r:W->Gh->WK->Prop}{ma:ME}{Z : Sw}{h:Gh}{Q:WK}(x:ma Z h fun a h1=>r a h1 Q):mUn r ma Z h Q:=x
theorem QC {i:Int}{h:Gh}{Q:WK}(x:Q (.int (-i)) h):W8 (.int i) h Q:=x
theorem ao {a:ME}{r:MA}{Z : Sw}{h:Gh}{Q:List W->Gh->Prop}(x:a Z h fun w h1=>r Z h1 fun ws h2=>Q (w::ws) h2):aA a r Z h Q:=x
theorem aD {Z : Sw}{h:Gh}{Q:List W->Gh->Prop}(x:Q [] h):aW Z h Q:=x
theorem bQ {n:Nat}{P:Prop}(e:Nat.ble n 1000=true)(x:P):fW n P:=by
 unfold fW
 rw [e]
 exact x
theorem cH {t:MA}{Z : Sw}{h:Gh}{Q:WK}(x:t Z h fun ws h1=>fW ws.length (Q (.tup ws) h1)):lq t Z h Q:=x
theorem CP {t:MA}{Z : Sw}{h:Gh}{Q:WK}(x:t Z h fun ws h1=>fW ws.length (Q (.lst ws) h1)):Nt t Z h Q:=x
theorem aR {c:MSp}{E:XWK}{ma:MA}{Z : Sw}{h:Gh}{Q:WK}(x:ma Z h fun ws h1=>c ws h1 Q E):bD c E ma Z h Q:=x
theorem cC {r:MC}{ma:MA}{Z : Sw}{h:Gh}{Q:WK}(x:ma Z h fun ws h1=>r ws h1 Q):mCB r ma Z h Q:=x
theorem bF {m:ME}{Z : Sw}{h:Gh}{Q:Bool->Gh->Prop}(x:m Z h (tK Q)):dz m Z h Q:=x
theorem nU {c:Bool}{h:Gh}{Q:Bool->Gh->Prop}(x:Q c h):tK Q (.bl c) h:=x
theorem gZ {m:ME}{Z : Sw}{h:Gh}{Q:Bool->Gh->Prop}(x:m Z h (uK Q)):zm m Z h Q:=x
theorem Eh {w:W}{b:Bool}{h:Gh}{Q:Bool->Gh->Prop}(e:Te h w=some b)(x:Q b h):uK Q w h:=by
 unfold uK
 rw [e]
 exact x
theorem mJ {t:MT}{Z : Sw}{h:Gh}{Q:Bool->Gh->Prop}(x:t Z h fun c h1=>Q (!c) h1):Ig t Z h Q:=x
theorem BL {t u:MT}{Z : Sw}{h:Gh}{Q:Bool->Gh->Prop}(x:t Z h fun c h1=>br c (u Z h1 Q) (Q false h1)):S6 t u Z h Q:=x
theorem u6 {t u:MT}{Z : Sw}{h:Gh}{Q:Bool->Gh->Prop}(x:t Z h fun c h1=>br c (Q true h1) (u Z h1 Q)):mOr t u Z h Q:=x
theorem jY {Z : Sw}{h:Gh}{Q:Bool->Gh->Prop}(x:Q true h):yd Z h Q:=x
theorem uY {a b:ME}{Z : Sw}{h:Gh}{Q:WK}(x:a Z h (aK b Z Q)):uM a b Z h Q:=x
theorem Qp {a b:ME}{Z : Sw}{h:Gh}{Q:WK}(x:a Z h (oK b Z Q)):W2 a b Z h Q:=x
theorem MJ {a:ME}{Z : Sw}{h:Gh}{Q:WK}(x:a Z h (nK Q)):HY a Z h Q:=x
theorem U8 {b:ME}{Z : Sw}{h:Gh}{Q:WK}{c:Bool}(x:br c (b Z h Q) (Q (.bl false) h)):aK b Z Q (.bl c) h:=by
 cases c with
 | true=>exact x.1 rfl
 | false=>exact x.2 rfl
theorem Xk {b:ME}{Z : Sw}{h:Gh}{Q:WK}{c:Bool}(x:br c (Q (.bl true) h) (b Z h Q)):oK b Z Q (.bl c) h:=by
 cases c with
 | true=>exact x.1 rfl
 | false=>exact x.2 rfl
theorem WR {h:Gh}{Q:WK}{c:Bool}(x:Q (.bl (!c)) h):nK Q (.bl c) h:=x
theorem Qm {f:Str->Bool}{m:ME}{Z : Sw}{h:Gh}{Q:WK}(x:m Z h (xK f Q)):Ks f m Z h Q:=x
theorem XD {f:Str->Bool}{n:Str}{h:Gh}{Q:WK}(x:Q (.bl (f n)) h):xK f Q (.exc n) h:=x
theorem uT {a b:Prop}(x:a):br true a b:=Vb rfl x
theorem sI {a b:Prop}(x:b):br false a b:=vC rfl x
theorem Qs {a b:Prop}(x:b):br (!true) a b:=sI x
theorem QM {a b:Prop}(x:a):br (!false) a b:=uT x
theorem kj {a b:Prop}(x:a):by2 true a b:=x
theorem Pz {a b:Prop}(x:b):by2 false a b:=x
theorem tM {i j:Int}{h:Gh}{Q:WK}(x:Q (.int (i - j)) h):El (.int i) (.int j) h Q:=x
theorem eE {i j:Int}{h:Gh}{Q:WK}(x:Q (.int (i+j)) h):cg (.int i) (.int j) h Q:=x
theorem eH {i j:Int}{h:Gh}{Q:WK}(c:oA i j)(x:Q (.int (i*j)) h):lE (.int i) (.int j) h Q:=⟨c,x⟩
theorem iV {i j:Int}{h:Gh}{Q:WK}(c:xJ i j)(x:Q (.int (i.fdiv j)) h):wQ (.int i) (.int j) h Q:=⟨c,x⟩
theorem dB {i j:Int}{h:Gh}{Q:WK}(c:j≠0)(x:Q (.int (i.fmod j)) h):lg (.int i) (.int j) h Q:=⟨c,x⟩
theorem U7 {i j:Int}{h:Gh}{Q:WK}(x:Q (.bl (decide (i<j))) h):kLt (.int i) (.int j) h Q:=x
theorem pQ {i j:Int}{h:Gh}{Q:WK}(x:Q (.bl (decide (i>j))) h):kGt (.int i) (.int j) h Q:=x
theorem Dn {i j:Int}{h:Gh}{Q:WK}(x:Q (.bl (decide (i=j))) h):kEq (.int i) (.int j) h Q:=by
 have e:eqW (.int i) (.int j)=decide (i=j):=lZ i j
 show Q (.bl (eqW (.int i) (.int j))) h
 rw [e]
 exact x
theorem Dz {i j:Int}{h:Gh}{Q:WK}(x:Q (.bl (decide (i≠j))) h):kNe (.int i) (.int j) h Q:=by
 have e:(!eqW (.int i) (.int j))=decide (i≠j):=by rw [lZ];by_cases z:i=j <;> simp [z]
 show Q (.bl (!eqW (.int i) (.int j))) h
 rw [e]
 exact x
theorem Us {i j:Bool}{h:Gh}{Q:WK}(x:Q (.bl (decide (i=j))) h):kEq (.bl i) (.bl j) h Q:=by
 have e:eqW (.bl i) (.bl j)=decide (i=j):=by rw [eqW];cases i <;> cases j <;> rfl
 show Q (.bl (eqW (.bl i) (.bl j))) h
 rw [e]
 exact x
theorem Uw {i j:Bool}{h:Gh}{Q:WK}(x:Q (.bl (decide (i≠j))) h):kNe (.bl i) (.bl j) h Q:=by
 have e:(!eqW (.bl i) (.bl j))=decide (i≠j):=by rw [eqW];cases i <;> cases j <;> rfl
 show Q (.bl (!eqW (.bl i) (.bl j))) h
 rw [e]
 exact x
theorem QV {p q:Tr}{h:Gh}{Q:WK}(x:Q (.bl (decide (p=q))) h):kEq (tw p) (tw q) h Q:=by
 show Q (.bl (eqW (tw p) (tw q))) h
 rw [Rj]
 exact x
theorem QS {p q:Tr}{h:Gh}{Q:WK}(x:Q (.bl (decide (p≠q))) h):kNe (tw p) (tw q) h Q:=by
 have e:(!eqW (tw p) (tw q))=decide (p≠q):=by rw [Rj];by_cases z:p=q <;> simp [z]
 show Q (.bl (!eqW (tw p) (tw q))) h
 rw [e]
 exact x
theorem Uq {p:Tr}{a b c:Int}{h:Gh}{Q:WK}(x:Q (.bl (decide (p=(a,b,c)))) h):kEq (tw p) (.tup [.int a,.int b,.int c]) h Q:=QV (q:=(a,b,c)) x
theorem Ut {p:Tr}{a b c:Int}{h:Gh}{Q:WK}(x:Q (.bl (decide (p≠(a,b,c)))) h):kNe (tw p) (.tup [.int a,.int b,.int c]) h Q:=QS (q:=(a,b,c)) x
theorem lA {x w:W}{i:Int}{ws:List W}{h:Gh}{Q:WK}(e:view h x=some ws)(a:atI ws i=some w)(k:Q w h):kIx x (.int i) h Q:=by
 unfold kIx
 dsimp only
 rw [e]
 dsimp only
 rw [a]
 exact k
theorem xr {w:W}{T:String}{b:Bool}{h:Gh}{Q:WK}(e:Td h w T=some b)(x:Q (.bl b) h):Fx [w,.ty T] h Q:=by
 unfold Fx
 dsimp only
 rw [e]
 exact x
theorem fQ {w:W}{xs:List W}{h:Gh}{Q:WK}(e:view h w=some xs)(x:Q (.int (xs.length:Int)) h):kLen [w] h Q:=by
 unfold kLen
 dsimp only
 rw [e]
 exact x
theorem je {us:List W}{h:Gh}{Q:WK}(x:Q (.tup us) h):gD [.lst us] h Q:=x
theorem Jm {w:W}{us:List W}{bs:List Bool}{h:Gh}{Q:WK}(e:dU h w=some us)(b:Ei us=some bs)(x:Q (.bl (bs.any id)) h):Je [w] h Q:=by
 unfold Je
 dsimp only
 rw [e]
 dsimp only
 rw [b]
 exact x
theorem Jr {w:W}{us:List W}{bs:List Bool}{h:Gh}{Q:WK}(e:dU h w=some us)(b:Ei us=some bs)(x:Q (.bl (bs.all id)) h):Qv [w] h Q:=by
 unfold Qv
 dsimp only
 rw [e]
 dsimp only
 rw [b]
 exact x
theorem Oe {w:W}{us:List W}{ns:List Int}{h:Gh}{Q:WK}(e:dU h w=some us)(b:kE us=some ns)(x:Q (.int ns.sum) h):Ws [w] h Q:=by
 unfold Ws
 dsimp only
 rw [e]
 dsimp only
 rw [b]
 exact x
theorem Ov {i:Int}{h:Gh}{Q:WK}(x:Q (.int (if i<0 then -i else i)) h):Xg [.int i] h Q:=x
theorem NT {b:Bool}{h:Gh}{Q:WK}(x:Q (.int (if b then 1 else 0)) h):Xy [.bl b] h Q:=x
theorem rR {mi:MI}{g:MG}{b:MS}{D:bL}{Z : Sw}{h:Gh}(x:mi Z h (V6 g b D Z)):oX mi g b D Z h:=x
theorem rM {ws:List W}{o:Option (Nat×List W)}{g:MG}{b:MS}{D:bL}{Z : Sw}{h:Gh}(x:eO ⟨ws,o⟩ g b D ws Z h):V6 g b D Z ⟨ws,o⟩ h:=x
theorem Mq {ws:List W}{g:MG}{b:MS}{D:bL}{Z : Sw}{h:Gh}(x:D.nx Z h):eO ⟨ws,none⟩ g b D [] Z h:=x
theorem Mt {ws r:List W}{w:W}{g:MG}{b:MS}{D:bL}{Z : Sw}{h:Gh}(x:g w Z h fun Z1 h1=>b { D with nx:=eO ⟨ws,none⟩ g b D r,ct:=eO ⟨ws,none⟩ g b D r,bk:=D.nx } Z1 h1):eO ⟨ws,none⟩ g b D (w::r) Z h:=x
theorem kZ {m:ME}{R:Src->Gh->Prop}{Z : Sw}{h:Gh}(x:m Z h (iK R)):nIt m Z h R:=x
theorem yW {w:W}{ws:List W}{o:Option (Nat×List W)}{h:Gh}{R:Src->Gh->Prop}(e:Ql h w=some ⟨ws,o⟩)(x:R ⟨ws,o⟩ h):iK R w h:=by
 unfold iK
 rw [e]
 exact x
theorem Ck {ma:MA}{R:Src->Gh->Prop}{Z : Sw}{h:Gh}(x:ma Z h (rgK R)):mV ma Z h R:=x
theorem UL {R:Src->Gh->Prop}{h:Gh}(x:R ⟨[.int 0,.int 1,.int 2],none⟩ h):rgK R [.int 3] h:=x
theorem Vk {R:Src->Gh->Prop}{h:Gh}(x:R ⟨[.int 0,.int 1],none⟩ h):rgK R [.int 2] h:=x
theorem Jy {ma:MA}{R:Src->Gh->Prop}{Z : Sw}{h:Gh}(x:ma Z h (zpK R)):S9 ma Z h R:=x
theorem RT {a b:W}{as bs:List W}{zs:List W}{R:Src->Gh->Prop}{h:Gh}(e:nO a=some as)(e':nO b=some bs)(z:kJ as bs=zs)(x:R ⟨zs,none⟩ h):zpK R [a,b] h:=by
 subst z
 have es:Jh h a b=some ⟨kJ as bs,none⟩:=by unfold Jh;rw [e,e']
 unfold zpK
 dsimp only
 rw [es]
 exact x
theorem Vj {n:Nat}{b:W}{as bs:List W}{zs:List W}{R:Src->Gh->Prop}{h:Gh}(e:h.c n=some (.lst as))(e':nO b=some bs)(z:kJ as bs=zs)(x:R ⟨zs,some (n,as)⟩ h):zpK R [.loc n,b] h:=by
 subst z
 have es:Jh h (.loc n) b=some ⟨kJ as bs,some (n,as)⟩:=by unfold Jh;rw [e'];dsimp only [nO];rw [e]
 unfold zpK
 dsimp only
 rw [es]
 exact x
theorem Wu {bs:List W}:kJ [] bs=[]:=by cases bs <;> rfl
theorem V0 {a:W}{as:List W}:kJ (a::as) []=[]:=rfl
theorem Ve {a b:W}{as bs l:List W}(e:kJ as bs=l):kJ (a::as) (b::bs)=.tup [a,b]::l:=by rw [kJ,e]
theorem n6 {own:W->Option (List W)}{ix:List Nat}{mi:MI}{tt:MT}{te:ME}{Z : Sw}{h:Gh}{Q:WK}(x:mi Z h (lcK own ix tt te Z Q)):mLC own ix mi tt te Z h Q:=x
theorem VB {ws:List W}{o:Option (Nat×List W)}{own:W->Option (List W)}{ix:List Nat}{tt:MT}{te:ME}{Z : Sw}{h:Gh}{Q:WK}(e:Nat.ble ws.length 1000=true)(x:oE ⟨ws,o⟩ own ix tt te Z Q ws [] h):lcK own ix tt te Z Q ⟨ws,o⟩ h:=bQ e x
theorem RP {ws acc:List W}{own:W->Option (List W)}{ix:List Nat}{tt:MT}{te:ME}{Z : Sw}{h:Gh}{Q:WK}(x:Q (.lst acc) h):oE ⟨ws,none⟩ own ix tt te Z Q [] acc h:=x
theorem Pq {ws r acc vs:List W}{w:W}{own:W->Option (List W)}{ix:List Nat}{tt:MT}{te:ME}{Z : Sw}{h:Gh}{Q:WK}(e:own w=some vs)(x:tt (vs.map some++n8 ix Z) h fun c h1=>by2 c (te (vs.map some++n8 ix Z) h1 fun v h2=>oE ⟨ws,none⟩ own ix tt te Z Q r (acc++[v]) h2) (oE ⟨ws,none⟩ own ix tt te Z Q r acc h1)):oE ⟨ws,none⟩ own ix tt te Z Q (w::r) acc h:=by
 unfold oE
 show match own w with
  | some vs=>tt (vs.map some++n8 ix Z) h fun c h1=>by2 c (te (vs.map some++n8 ix Z) h1 fun v h2=>oE ⟨ws,none⟩ own ix tt te Z Q r (acc++[v]) h2) (oE ⟨ws,none⟩ own ix tt te Z Q r acc h1)
  | none=>False
 rw [e]
 exact x
theorem Vw {n N:Nat}{body:XWK->MS}{ws:List W}{h:Gh}{Q:WK}{E:XWK}(hl:Nat.beq ws.length n=true)(x:body E { nx:=fun _ h'=>Q .non h',rt:=Q } (ws.map some++X7 (N - ws.length) none) h):mFn n N false body ws h Q E:=by
 unfold mFn
 rw [hl]
 exact x
theorem Qq {r:W->Option Int->Option Int->Gh->WK->Prop}{m:ME}{l u:MO}{Z : Sw}{h:Gh}{Q:WK}(x:m Z h fun a h1=>l Z h1 fun lo h2=>u Z h2 fun hi h3=>r a lo hi h3 Q):mSl r m l u Z h Q:=x
theorem Dj {m:ME}{Z : Sw}{h:Gh}{Q:Option Int->Gh->Prop}(x:m Z h (pK Q)):Km m Z h Q:=x
theorem Wd {i:Int}{h:Gh}{Q:Option Int->Gh->Prop}(x:Q (some i) h):pK Q (.int i) h:=x
def p3K (i j k:Nat)(D:bL)(Z : Sw):List W->Gh->Prop:=fun ws h=>match ws with
 | [x,y,z]=>D.nx (((Z.set i (some x)).set j (some y)).set k (some z)) h
 | _=>False
theorem JX {i j k:Nat}{ta:MA}{D:bL}{Z : Sw}{h:Gh}(x:ta Z h (p3K i j k D Z)):VD i j k ta D Z h:=x
theorem Qc {xs:List W}{n:Int}{a b:Prop}(e:decide ((xs.length:Int)≠n)=false)(x:b):br (decide ((xs.length:Int)≠n)) a b:=vC e x
theorem Kf {bs:List Bool}{a b:Prop}(e:bs.all id=true)(x:b):br (!(bs.all id)) a b:=vC (by rw [e];rfl) x
theorem UW {n d:Str}{a b:Prop}(e:isX n d=true)(x:a):by2 (isX n d) a b:=Qe e x
theorem Ua {n d:Str}{a b:Prop}(e:isX n d=true)(x:a):br (isX n d) a b:=Vb e x
theorem Uu {n d:Str}{a b:Prop}(e:isX n d=false)(x:b):br (isX n d) a b:=vC e x
theorem PN {α : Type}{a x:α}{l:List α}:(a::l).set 0 x=x::l:=rfl
theorem Qx {α : Type}{a x:α}{l l':List α}{n:Nat}(e:l.set n x=l'):(a::l).set (n+1) x=a::l':=by rw [List.set_cons_succ,e]
theorem aL {i:Nat}{w:W}{Z Z':Sw}{h:Gh}{N:Sw->Gh->Prop}(e:Z.set i (some w) = Z')(x:N Z' h):nName i w Z h N:=by
 subst e
 exact x
theorem Uh {i j k:Nat}{D:bL}{Z Z1 Z2 Z3:Sw}{h:Gh}{x y z:W}(e1:Z.set i (some x) = Z1)(e2:Z1.set j (some y) = Z2)(e3:Z2.set k (some z) = Z3)(q:D.nx Z3 h):p3K i j k D Z [x,y,z] h:=by
 subst e1 e2 e3
 exact q
def ini (ws:List W)(n:Nat):Sw:=ws.map some++X7 (n - ws.length) none
theorem Wk:ini [] 0=[]:=rfl
theorem Wr {n:Nat}{l:Sw}(e:ini [] n=l):ini [] (n+1)=none::l:=by
 subst e
 rfl
theorem V3 {n:Nat}{w:W}{ws:List W}{l:Sw}(e:ini ws n=l):ini (w::ws) (n+1)=some w::l:=by
 subst e
 unfold ini
 rw [List.length_cons,Nat.add_sub_add_right]
 rfl
theorem jj {n N:Nat}{body:XWK->MS}{ws:List W}{Z : Sw}{h:Gh}{Q:WK}{E:XWK}(hl:Nat.beq ws.length n=true)(e:ini ws N = Z)(x:body E { nx:=fun _ h'=>Q .non h',rt:=Q } Z h):mFn n N false body ws h Q E:=by
 subst e
 exact Vw hl x
theorem T9 {i:Nat}{n d:Str}{fs:List (Str×W)}{mh:MS}{D:bL}{Z Z':Sw}{h:Gh}(e:isX n d=true)(s:Z.set i (some (Ej ⟨n,fs⟩)) = Z')(x:mh D Z' h):by2 (isX (Xw.mk n fs).cls d) (mh D (Z.set i (some (Ej (Xw.mk n fs)))) h) False:=by
 subst s
 exact Qe e x
theorem Rh {own:W->Option (List W)}{ix:List Nat}{mi:MI}{tt:MT}{te:ME}{Z : Sw}{h:Gh}{Q:WK}(x:mLC own ix mi tt te Z h (Wc Q)):Ww own ix mi tt te Z h Q:=x
theorem w6 {mo mi:ME}{ms:J7}{w:W}{Z : Sw}{h:Gh}{N:Sw->Gh->Prop}(x:mo Z h fun o h1=>mi Z h1 fun i h2=>ms o i w h2 fun h3=>N Z h3):Nq mo mi ms w Z h N:=x
theorem GR {ws r us:List W}{n:Nat}{w:W}{g:MG}{b:MS}{D:bL}{Z : Sw}{h:Gh}(e:h.c n=some (.lst us))(x:g w Z h fun Z1 h1=>b { D with nx:=eO ⟨ws,some (n,us)⟩ g b D r,ct:=eO ⟨ws,some (n,us)⟩ g b D r,bk:=D.nx } Z1 h1):eO ⟨ws,some (n,us)⟩ g b D (w::r) Z h:=⟨e,x⟩
theorem GD {ws us:List W}{n:Nat}{g:MG}{b:MS}{D:bL}{Z : Sw}{h:Gh}(e:h.c n=some (.lst us))(x:D.nx Z h):eO ⟨ws,some (n,us)⟩ g b D [] Z h:=⟨e,x⟩
theorem LQ {ws us acc:List W}{n:Nat}{own:W->Option (List W)}{ix:List Nat}{tt:MT}{te:ME}{Z : Sw}{h:Gh}{Q:WK}(e:h.c n=some (.lst us))(x:Q (.lst acc) h):oE ⟨ws,some (n,us)⟩ own ix tt te Z Q [] acc h:=⟨e,x⟩
theorem M7 {ws us r acc vs:List W}{n:Nat}{w:W}{own:W->Option (List W)}{ix:List Nat}{tt:MT}{te:ME}{Z : Sw}{h:Gh}{Q:WK}(ec:h.c n=some (.lst us))(e:own w=some vs)(x:tt (vs.map some++n8 ix Z) h fun c h1=>by2 c (te (vs.map some++n8 ix Z) h1 fun v h2=>oE ⟨ws,some (n,us)⟩ own ix tt te Z Q r (acc++[v]) h2) (oE ⟨ws,some (n,us)⟩ own ix tt te Z Q r acc h1)):oE ⟨ws,some (n,us)⟩ own ix tt te Z Q (w::r) acc h:=by
 unfold oE
 refine ⟨ec,?_⟩
 show match own w with
  | some vs=>tt (vs.map some++n8 ix Z) h fun c h1=>by2 c (te (vs.map some++n8 ix Z) h1 fun v h2=>oE ⟨ws,some (n,us)⟩ own ix tt te Z Q r (acc++[v]) h2) (oE ⟨ws,some (n,us)⟩ own ix tt te Z Q r acc h1)
  | none=>False
 rw [e]
 exact x
theorem Wz {n:Nat}{ws:List W}{h:Gh}{R:Src->Gh->Prop}(e:h.c n=some (.lst ws))(x:R ⟨ws,some (n,ws)⟩ h):iK R (.loc n) h:=yW (by simp only [Ql,e]) x
theorem TX {n:Nat}{w:W}{i:Int}{ws:List W}{h:Gh}{Q:WK}(e:h.c n=some (.lst ws))(a:atI ws i=some w)(k:Q w h):kIx (.loc n) (.int i) h Q:=lA (FW e) a k
theorem zL {n N:Nat}{body:XWK->MS}{ws:List W}{Z : Sw}{h:Gh}{Q:WK}{E:XWK}(hl:Nat.beq ws.length n=true)(e:ini ws N = Z)(x:body E { nx:=fun _ h'=>vN true h .non h' Q,rt:=fun w h'=>vN true h w h' Q } Z h):mFn n N true body ws h Q E:=by
 subst e
 unfold mFn
 rw [hl]
 exact x
theorem JD {a b:List W}{h:Gh}{Q:WK}(e:Nat.ble (a.length+b.length) 1000=true)(x:Q (.lst (a++b)) h):cg (.lst a) (.lst b) h Q:=bQ e x
theorem Vh {a b:Bool}{h:Gh}{Q:WK}(x:Q (.bl (a==b)) h):kIs (.bl a) (.bl b) h Q:=x
theorem Lj {a b:Bool}{h:Gh}{Q:WK}(x:Q (.bl (!(a==b))) h):U9 (.bl a) (.bl b) h Q:=x
theorem VF {a b:Str}{h:Gh}{Q:WK}(x:Q (.bl (decide (a=b))) h):kEq (.str a) (.str b) h Q:=by
 have e:eqW (.str a) (.str b)=decide (a=b):=by rw [eqW];by_cases z:a=b <;> simp [z]
 show Q (.bl (eqW (.str a) (.str b))) h
 rw [e]
 exact x
theorem TV {a b:Str}{h:Gh}{Q:WK}(x:Q (.bl (decide (a≠b))) h):kNe (.str a) (.str b) h Q:=by
 have e:(!eqW (.str a) (.str b))=decide (a≠b):=by rw [eqW];by_cases z:a=b <;> simp [z]
 show Q (.bl (!eqW (.str a) (.str b))) h
 rw [e]
 exact x
theorem N5 {bs:List Bool}{a b:Prop}(e:bs.any id=false)(x:b):br (bs.any id) a b:=vC e x
local macro_rules | `(tactic| rfl') => `(tactic| repeat (first
 | with_reducible refine aO ?_ | with_reducible refine aZ ?_ | with_reducible refine aR ?_ | with_reducible refine ao ?_ | with_reducible refine aD ?_
 | ((with_reducible apply aq);exact rfl) | with_reducible refine bC ?_ | with_reducible refine aP ?_ | with_reducible refine aL (by repeat (first | with_reducible exact PN | with_reducible apply Qx)) ?_ | with_reducible refine Kq ?_ | with_reducible refine Mv ?_ | with_reducible refine bZ ?_ | with_reducible refine uh ?_ | with_reducible refine Xr ?_ | with_reducible refine WW ?_
 | with_reducible refine cJ ?_ | with_reducible refine Ln ?_ | with_reducible refine cQ ?_ | with_reducible refine nJ ?_ | with_reducible refine bK ?_ | with_reducible refine Iw ?_ | with_reducible refine lJ ?_
 | with_reducible refine bF ?_ | with_reducible refine nU ?_ | with_reducible refine gZ ?_ | ((with_reducible apply Eh);exact rfl) | with_reducible refine mJ ?_ | with_reducible refine BL ?_ | with_reducible refine u6 ?_ | with_reducible refine jY ?_
 | with_reducible refine uY ?_ | with_reducible refine Qp ?_ | with_reducible refine MJ ?_ | with_reducible refine U8 ?_ | with_reducible refine Xk ?_ | with_reducible refine WR ?_ | with_reducible refine Qm ?_ | with_reducible refine XD ?_
 | with_reducible refine uT ?_ | with_reducible refine sI ?_ | with_reducible refine Qs ?_ | with_reducible refine QM ?_ | with_reducible refine kj ?_ | with_reducible refine Pz ?_
 | with_reducible refine cH ?_ | with_reducible refine CP ?_ | ((with_reducible apply bQ);exact rfl) | with_reducible refine cC ?_ | with_reducible refine Vy ?_ | with_reducible refine QC ?_
 | ((with_reducible apply iJ);exact rfl;exact rfl) | ((with_reducible apply M5);exact rfl;exact rfl) | ((with_reducible apply RQ);exact rfl;exact rfl) | with_reducible refine cT ?_ | with_reducible refine m7 ?_
 | with_reducible refine tM ?_ | with_reducible refine eE ?_ | ((with_reducible apply eH);exact oA.of (by trivial) (by trivial) (by omega) (by omega)) | with_reducible refine U7 ?_ | with_reducible refine pQ ?_
 | with_reducible refine Dn ?_ | with_reducible refine Dz ?_ | with_reducible refine Us ?_ | with_reducible refine Uw ?_ | with_reducible refine QV ?_ | with_reducible refine QS ?_ | with_reducible refine Uq ?_ | with_reducible refine Ut ?_
 | ((with_reducible apply lA);exact rfl;exact rfl) | ((with_reducible apply xr);exact rfl) | ((with_reducible apply fQ);exact rfl) | with_reducible refine je ?_ | ((with_reducible apply Jm);exact rfl;exact rfl) | ((with_reducible apply Jr);exact rfl;exact rfl) | ((with_reducible apply Oe);exact rfl;exact rfl) | with_reducible refine NT ?_ | with_reducible refine Ov ?_
 | with_reducible refine rR ?_ | with_reducible refine rM ?_ | with_reducible refine Mq ?_ | with_reducible refine Mt ?_ | with_reducible refine kZ ?_ | ((with_reducible apply yW);exact rfl) | with_reducible refine Ck ?_ | with_reducible refine UL ?_ | with_reducible refine Vk ?_ | with_reducible refine Jy ?_ | ((with_reducible apply RT);exact rfl;exact rfl;(repeat (first | with_reducible exact Wu | with_reducible exact V0 | with_reducible apply Ve)))
 | with_reducible refine n6 ?_ | ((with_reducible apply VB);exact rfl) | with_reducible refine RP ?_ | ((with_reducible apply Pq);exact rfl) | ((with_reducible apply jj);exact rfl;repeat (first | with_reducible exact Wk | with_reducible apply V3 | with_reducible apply Wr)) | with_reducible refine Qq ?_ | with_reducible refine Dj ?_ | with_reducible refine Wd ?_ | with_reducible refine JX ?_ | with_reducible refine Uh (by repeat (first | with_reducible exact PN | with_reducible apply Qx)) (by repeat (first | with_reducible exact PN | with_reducible apply Qx)) (by repeat (first | with_reducible exact PN | with_reducible apply Qx)) ?_ | ((with_reducible apply Qc);exact rfl) | ((with_reducible apply Kf);exact rfl) | ((with_reducible apply T9);decide +kernel;(repeat (first | with_reducible exact PN | with_reducible apply Qx))) | ((with_reducible apply UW);decide +kernel) | ((with_reducible apply Ua);decide +kernel) | ((with_reducible apply Uu);decide +kernel) | with_reducible refine Rh ?_ | with_reducible refine w6 ?_ | ((with_reducible apply Wz);(with_reducible assumption)) | ((with_reducible apply GR);(with_reducible assumption)) | ((with_reducible apply GD);(with_reducible assumption)) | ((with_reducible apply LQ);(with_reducible assumption)) | ((with_reducible apply M7);(with_reducible assumption);exact rfl) | ((with_reducible apply TX);(with_reducible assumption);exact rfl) | ((with_reducible apply Vj);(with_reducible assumption);exact rfl;(repeat (first | with_reducible exact Wu | with_reducible exact V0 | with_reducible apply Ve))) | ((with_reducible apply zL);exact rfl;(repeat (first | with_reducible exact Wk | with_reducible apply V3 | with_reducible apply Wr))) | ((with_reducible apply JD);exact rfl) | with_reducible refine Vh ?_ | with_reducible refine Lj ?_ | with_reducible refine VF ?_ | with_reducible refine TV ?_ | ((with_reducible apply N5);decide +kernel)))
theorem Jq {r:MM}{mo:ME}{ma:MA}{Z : Sw}{h:Gh}{Q:WK}(x:mo Z h fun x h1=>yC h1 x (ma Z h1 fun xs h2=>r x xs h2 Q)):JZ r mo ma Z h Q:=x
theorem Ak {n:Nat}{us:List W}{h:Gh}{P:Prop}(e:h.c n=some (.lst us))(p:P):yC h (.loc n) P:=by
 simp only [yC,e]
 exact p
theorem Cq {ma:MA}{ws:List W}{Z : Sw}{h:Gh}{Q:WK}(hm:∀ R,ma Z h R=R ws h)(hz:Nat.ble ws.length 1000=true)(x:∀ g:Gh,g.c h.nx=some (.lst ws)->(∀ n,n≠h.nx->g.c n=h.c n)->g.nx=h.nx+1->Q (.loc h.nx) g):u5 ma Z h Q:=by
 unfold u5
 rw [hm]
 exact bQ hz (x _ (Ef _ _) (fun _ e=>rU e) rfl)
theorem PJ {h:Gh}{n:Nat}{us:List W}{w:W}{Q:WK}(e:h.c n=some (.lst us))(hz:us.length<=1000)(k:∀ g:Gh,g.c n=some (.lst (us++[w]))->(∀ m,m≠n->g.c m=h.c m)->g.nx=h.nx->Q .non g):fD (.loc n) [w] h Q:=
 RW e (Nat.lt_of_le_of_lt hz (by decide)) (k _ (DX _ _ _) (fun _ e=>tO e) rfl)
def rng (a m:Nat):List Nat:=List.range' a (m - a)
theorem Ke {a m x:Nat}:x∈rng a m↔a<=x/\x<m:=by
 unfold rng
 rw [List.mem_range'_1]
 omega
theorem Gm (a m:Nat):vX (a:Int) ((m:Int) - (a:Int)).toNat=(rng a m).map fun x:Nat=>W.int (x:Int):=by
 unfold vX rng
 rw [List.range'_eq_map_range,List.map_map,show ((m:Int) - (a:Int)).toNat=m - a by omega]
 refine List.map_congr_left fun x _=>?_
 simp
theorem CJ (m:Nat):vX 0 ((m:Nat):Int).toNat=(rng 0 m).map fun x:Nat=>W.int (x:Int):=by
 have:=Gm 0 m
 rw [show ((m:Int) - ((0:Nat):Int)).toNat=((m:Nat):Int).toNat by omega] at this
 exact this
theorem UJ {R:Src->Gh->Prop}{h:Gh}{m:Nat}(h2:m<=1000)(x:R ⟨(rng 0 m).map fun x:Nat=>W.int (x:Int),none⟩ h):rgK R [.int (m:Int)] h:=by
 rw [<-CJ] at x
 exact Ek.mk (by omega) (by omega) x
def nxt (l:List Nat):Nat:=match l.getLast? with
 | none=>0
 | some x=>x+1
def grow (m:Nat)(l:List Nat):List (List Nat):=(rng (nxt l) m).map fun p=>l++[p]
theorem Kp {a m i x:Nat}(e:(rng a m)[i]?=some x):x=a+i/\x<m:=by
 have hx:=Ke.mp (List.mem_of_getElem? e)
 unfold rng at e
 have hl:=(List.getElem?_eq_some_iff.mp e).1
 rw [List.length_range'] at hl
 rw [List.getElem?_eq_getElem (by rw [List.length_range'];exact hl),List.getElem_range'] at e
 have:=Option.some.inj e
 omega
abbrev Tm:=List Int×Int
def tmW (t:Tm):W:=.tup [.tup (t.1.map .int),.int t.2]
def smW (ts:List Tm):W:=.tup (ts.map tmW)
def Ge (h h':Gh):Prop:=h.nx<=h'.nx/\∀ n,n<h.nx->h'.c n=h.c n
theorem Ge.refl (h:Gh):Ge h h:=⟨Yc _,fun _ _=>rfl⟩
def Pw (ps:List Int):Prop:=∀ p∈ps,0<=p/\p<=60
def WF (L m:Nat)(ts:List Tm):Prop:=∀ t∈ts,t.1.length=L/\t.2≠0/\Sm m t.2/\Pw t.1
theorem Jk {i j:Int}{h:Gh}{Q:WK}(c:Vc i j)(x:Q (.int (i^j.toNat)) h):Ip (.int i) (.int j) h Q:=⟨c,x⟩
def V7 (c0:MSp):Prop:=∀ {h:Gh} {x:Int} {L mo:Nat} {Q:WK} {E:XWK},L<=8->mo<=60->(∀ ps:List Int,ps.length=L->Pw ps->(∀ p∈ps,p<=(mo:Int))->Q (.tup (ps.map .int)) h)->c0 [.int x,.int (L:Int),.int (mo:Int)] h Q E
theorem uX (n:Nat):∀ l:List Int,Los n (l.map .int)
 | []=>by simp [Los]
 | x::l=>by rw [X5,Los];exact ⟨by simp [Lo],uX n l⟩
theorem Fb:V7 jB:=by
 intro h x L mo Q E hL hmo q
 unfold jB
 refine zL rfl (Z:=[some (.int x),some (.int (L:Int)),some (.int (mo:Int)),none,none]) rfl ?_
 refine aO (aZ (Cq (ws:=[]) (fun R=>rfl) rfl fun g eg og xg=>?_))
 refine aL (Z':=[some (.int x),some (.int (L:Int)),some (.int (mo:Int)),some (.loc h.nx),none]) rfl (bZ (aO ?_))
 refine jQ (j:=(L:Int)) (fun _=>rfl) (by omega) (by omega) (fun i Z h'=>∃ (y:Int) (ps:List Int) (s4:Option W),Z = [some (.int y),some (.int (L:Int)),some (.int (mo:Int)),some (.loc h.nx),s4]/\ps.length=i/\(∀ p∈ps,0<=p/\p<=(mo:Int))/\h'.c h.nx=some (.lst (ps.map .int))/\∀ n,n≠h.nx->h'.c n=h.c n) ?_ ?_ ⟨x,[],none,rfl,rfl,fun _ h=>(nomatch h),eg,og⟩
 ·rintro i Z h' N hN hi ⟨y,ps,s4,rfl,e1,e0,e2,e3⟩
  refine aL (Z':=[some (.int y),some (.int (L:Int)),some (.int (mo:Int)),some (.loc h.nx),some (.int (i:Int))]) rfl ?_
  refine aO (nJ (Jq (aq rfl (Ak e2 ?_))))
  rfl'
  refine dB (by omega) ?_
  rfl'
  refine PJ e2 (by rw [X6];omega) fun g2 a1 a2 a3=>?_
  rfl'
  refine iV ⟨by omega,64,by decide,(eX (n:=20) (by omega) (by omega)).mono (by decide)⟩ ?_
  rfl'
  obtain ⟨b0,b1⟩:=bV y (b:=(mo:Int)+1) (by omega)
  exact hN _ _ ⟨_,ps++[y.fmod ((mo:Int)+1)],_,rfl,by simp [e1],fun p hp=>by
   rcases List.mem_append.mp hp with hp | hp
   ·exact e0 p hp
   ·rw [List.mem_singleton.mp hp];omega,by rw [a1];simp,fun n hn=>by rw [a2 n hn];exact e3 n hn⟩
 ·rintro Z h' ⟨y,ps,s4,rfl,e1,e0,e2,e3⟩
  unfold jW
  refine bZ (cQ (cC (ao (aq rfl (aD ?_)))))
  show (match dU h' (.loc h.nx) with
   | some us=>_
   | none=>False)
  rw [tQ e2]
  exact ⟨fun n c hn ec=>by rw [e3 n (by omega)];exact ec,.inl ⟨by rw [Lo];exact uX _ _,q ps (by omega) (fun p hp=>⟨(e0 p hp).1,Int.le_trans (e0 p hp).2 (by omega)⟩) fun p hp=>(e0 p hp).2⟩⟩
def Sv (c0:MSp):Prop:=∀ {h:Gh} {x:Int} {Q:WK} {E:XWK},(∀ n:Int,Sm 101 n->Q (.int n) h)->c0 [.int x] h Q E
theorem Bv:Sv jH:=by
 intro h x Q E q
 have b1:=bV (x.fdiv 3) (b:=7) (by decide)
 have b2:=bV (x.fdiv 3) (b:=201) (by decide)
 have b3:=bV (x.fdiv 3) (b:=2*(10:Int)^(30:Int).toNat) (by decide)
 have c3:=bV x (b:=3) (by decide)
 have q1:=q ((x.fdiv 3).fmod 7 - 3) (eX (by omega) (by omega))
 have q2:=q ((x.fdiv 3).fmod 201 - 100) (eX (by omega) (by omega))
 have q3:=q ((x.fdiv 3).fmod (2*(10:Int)^(30:Int).toNat) - (10:Int)^(30:Int).toNat) (by
  rw [c30] at b3 |-
  exact Sm.le (i:=1000000000000000000000000000000) (by unfold Sm;decide +kernel) (by omega))
 have dv:xJ x 3:=⟨by decide,64,by decide,.lit rfl⟩
 unfold jH
 rfl'
 refine iV dv ?_
 rfl'
 refine dB (by decide) ?_
 rfl'
 refine iV dv ?_
 rfl'
 refine dB (by decide) ?_
 rfl'
 refine iV dv ?_
 rfl'
 refine Jk ⟨by decide,by decide,by decide⟩ ?_
 have t0:(10:Int)^(30:Int).toNat≠0:=by rw [c30];decide
 have t1:Sm 8000 ((10:Int)^(30:Int).toNat):=by rw [c30];unfold Sm;decide +kernel
 generalize hT:(10:Int)^(30:Int).toNat=T at *
 refine eH (.of (m:=64) (n:=8000) (.lit rfl) t1 (by decide) (by decide)) ?_
 refine dB (fun e=>t0 (by omega)) ?_
 refine aP (bC (bC (Jk ⟨by decide,by decide,by decide⟩ ?_)))
 rw [hT]
 refine tM ?_
 rfl'
 refine dB (by decide) ?_
 have:x.fmod 3=0\/x.fmod 3=1\/x.fmod 3=2:=by omega
 rcases this with e | e | e <;> rw [e]
 ·exact lA rfl rfl q1
 ·exact lA rfl rfl q2
 ·exact lA rfl rfl q3
def kvW (ts:List Tm):List (List Int×W):=ts.map fun t=>(t.1,.int t.2)
def pA (ts:List Tm)(k:List Int)(n:Int):List Tm:=if ts.any (fun t=>decide (t.1=k)) then ts.map (fun t=>if t.1=k then (t.1,n) else t) else ts++[(k,n)]
theorem wO:∀ (ts:List Tm) (k:List Int),vq (kvW ts) k=((ts.find? fun t=>decide (t.1=k)).map fun t=>W.int t.2)
 | [],k=>rfl
 | t::ts,k=>by
  show vq ((t.1,.int t.2)::kvW ts) k=_
  rw [xu,List.find?_cons,wO ts k]
  by_cases e:t.1=k
  ·simp [e]
  ·simp [e]
theorem Il (ts:List Tm)(k:List Int)(n:Int):Nv (kvW ts) k (.int n)=kvW (pA ts k n):=by
 have e:(vq (kvW ts) k).isSome=ts.any fun t=>decide (t.1=k):=by
  rw [wO,Option.isSome_map,Bool.eq_iff_iff,List.find?_isSome,List.any_eq_true]
 unfold Nv pA
 rw [e]
 by_cases c:(ts.any fun t=>decide (t.1=k))=true
 ·rw [if_pos c,if_pos c]
  unfold kvW
  rw [List.map_map,List.map_map]
  refine List.map_congr_left fun t _=>?_
  simp only [Function.comp]
  by_cases e:t.1=k
  ·rw [if_pos e,if_pos e]
  ·rw [if_neg e,if_neg e]
 ·rw [if_neg c,if_neg c]
  simp [kvW]
theorem Ij {ts:List Tm}{k:List Int}{n:Int}{t:Tm}(h:t∈pA ts k n):t∈ts\/t=(k,n):=by
 unfold pA at h
 split at h
 ·obtain ⟨u,hu,rfl⟩:=List.mem_map.mp h
  by_cases e:u.1=k
  ·rw [if_pos e,e];exact .inr rfl
  ·rw [if_neg e];exact .inl hu
 ·rcases List.mem_append.mp h with h | h
  ·exact .inl h
  ·exact .inr (List.mem_singleton.mp h)
theorem uI (ts:List Tm)(k:List Int)(n:Int):(pA ts k n).length<=ts.length+1:=by
 unfold pA
 split
 ·rw [X6];omega
 ·simp
theorem oY (k:List Int):Jo (.tup (k.map .int))=some k:=by
 show kE (k.map .int)=some k
 induction k with
 | nil=>rfl
 | cons a k ih=>rw [X5];simp [kE,ih]
theorem Oa {h:Gh}{n:Nat}{ts:List Tm}{k:List Int}{x:Int}{N:Gh->Prop}(e:h.c n=some (.dtt (kvW ts)))(hz:ts.length<=990)(q:∀ g:Gh,g.c n=some (.dtt (kvW (pA ts k x)))->(∀ m,m≠n->g.c m=h.c m)->g.nx=h.nx->N g):ou (.loc n) (.tup (k.map .int)) (.int x) h N:=by
 unfold ou
 rw [oY]
 dsimp only
 rw [e]
 dsimp only
 refine fW.mk (Ye (m:=1000) (by unfold kvW;rw [X6];omega) (by decide)) ?_
 rw [Il]
 exact q _ (DX _ _ _) (fun _ e=>tO e) rfl
theorem Tq {h:Gh}{n:Nat}{ts:List Tm}{t:Tm}{k:List Int}{Q:WK}(e:h.c n=some (.dtt (kvW ts)))(f:(ts.find? fun t=>decide (t.1=k))=some t)(q:Q (.int t.2) h):Fj (.loc n) (.tup (k.map .int)) h Q:=by
 unfold Fj
 rw [oY]
 dsimp only
 rw [e]
 dsimp only
 rw [wO,f]
 exact q
theorem ux {Z : Sw}{h:Gh}{Q:WK}(x:∀ g:Gh,g.c h.nx=some (.dtt (kvW []))->(∀ n,n≠h.nx->g.c n=h.c n)->g.nx=h.nx+1->Q (.loc h.nx) g):zT Z h Q:=x _ (Ef _ _) (fun _ e=>rU e) rfl
theorem qF (ts:List Tm)(k:List Int)(n:Int)(nd:(ts.map (·.1)).Nodup):((pA ts k n).map (·.1)).Nodup:=by
 unfold pA
 split
 ·rw [List.map_map]
  have e:(((·.1):Tm->List Int) ∘ fun t:Tm=>if t.1=k then (t.1,n) else t)=(·.1):=by
   funext t
   simp only [Function.comp]
   split <;> rfl
  rw [e]
  exact nd
 ·rename_i c
  rw [List.map_append,List.nodup_append]
  refine ⟨nd,by simp,fun a ha b hb e=>c ?_⟩
  simp only [X5,List.map_nil,List.mem_singleton] at hb
  obtain ⟨t,ht,e2⟩:=List.mem_map.mp ha
  rw [List.any_eq_true]
  exact ⟨t,ht,by simp [e2,e,hb]⟩
def getM (ts:List Tm)(k:List Int):Int:=((ts.find? fun t=>decide (t.1=k)).map (·.2)).getD 0
def Iu (ts:List Tm)(k:List Int)(v:Int):List Tm:=pA ts k (getM ts k+v)
def mZ (ts:List Tm)(ks:List (List Int)):List Tm:=(ks.map fun k=>(k,getM ts k)).filter fun t=>decide (t.2≠0)
def lin (f:List Int->Int)(ts:List Tm):Int:=(ts.map fun t=>f t.1*t.2).sum
theorem cL (t:Tm)(ts:List Tm)(k:List Int):getM (t::ts) k=if t.1=k then t.2 else getM ts k:=by
 unfold getM
 rw [List.find?_cons]
 by_cases e:t.1=k
 ·rw [if_pos e,decide_eq_true e];rfl
 ·rw [if_neg e,decide_eq_false e]
theorem Fe (ts us:List Tm)(k:List Int):getM (ts++us) k=if k∈ts.map (·.1) then getM ts k else getM us k:=by
 induction ts with
 | nil=>simp
 | cons t ts ih=>
  rw [List.cons_append,cL,cL,ih,X5]
  by_cases e:t.1=k
  ·rw [if_pos e,if_pos e,if_pos (by simp [e])]
  ·rw [if_neg e,if_neg e]
   by_cases m:k∈ts.map (·.1)
   ·rw [if_pos m,if_pos (X8 _ m)]
   ·rw [if_neg m,if_neg (fun q=>by rcases List.mem_cons.mp q with q | q;exact e q.symm;exact m q)]
theorem getM_none {ts:List Tm}{k:List Int}(h:k∉ts.map (·.1)):getM ts k=0:=by
 induction ts with
 | nil=>rfl
 | cons t ts ih=>
  rw [X5] at h
  rw [cL,if_neg (fun e=>h (by simp [e])),ih fun m=>h (X8 _ m)]
theorem xq {ts:List Tm}{t:Tm}(nd:(ts.map (·.1)).Nodup)(h:t∈ts):getM ts t.1=t.2:=by
 induction ts with
 | nil=>cases h
 | cons u ts ih=>
  rw [X5,List.nodup_cons] at nd
  rw [cL]
  rcases List.mem_cons.mp h with rfl | h
  ·rw [if_pos rfl]
  ·rw [if_neg (fun e=>nd.1 (by rw [e];exact List.mem_map.mpr ⟨t,h,rfl⟩)),ih nd.2 h]
theorem DR (ts:List Tm)(k:List Int):(ts.any fun t=>decide (t.1=k))=decide (k∈ts.map (·.1)):=by
 rw [Bool.eq_iff_iff,List.any_eq_true,decide_eq_true_iff,List.mem_map]
 constructor
 ·rintro ⟨t,ht,e⟩;exact ⟨t,ht,by simpa using e⟩
 ·rintro ⟨t,ht,e⟩;exact ⟨t,ht,by simpa using e⟩
theorem get_map (ts:List Tm)(k r:List Int)(n:Int):getM (ts.map fun t=>if t.1=k then (t.1,n) else t) r=if r=k/\k∈ts.map (·.1) then n else getM ts r:=by
 induction ts with
 | nil=>simp [getM]
 | cons t ts ih=>
  rw [X5,cL,ih,cL,X5]
  by_cases e:t.1=k
  ·rw [if_pos e]
   dsimp only
   by_cases q:t.1=r
   ·rw [if_pos q,if_pos ⟨by rw [<-q,e],by simp [e]⟩]
   ·rw [if_neg q,if_neg q,if_neg (fun z=>q (by rw [e,z.1])),if_neg (fun z=>q (by rw [e,z.1]))]
  ·rw [if_neg e]
   by_cases q:t.1=r
   ·rw [if_pos q,if_pos q,if_neg (fun z=>e (by rw [q,z.1]))]
   ·rw [if_neg q,if_neg q]
    by_cases m:r=k/\k∈ts.map (·.1)
    ·rw [if_pos m,if_pos ⟨m.1,X8 _ m.2⟩]
    ·rw [if_neg m,if_neg (fun z=>m ⟨z.1,by rcases List.mem_cons.mp z.2 with y | y;exact absurd y.symm e;exact y⟩)]
theorem Bq {ts:List Tm}{k:List Int}(n:Int)(h:k∈ts.map (·.1)):pA ts k n=ts.map fun t=>if t.1=k then (t.1,n) else t:=by
 unfold pA
 rw [DR,if_pos (by simpa using h)]
theorem xH {ts:List Tm}{k:List Int}(n:Int)(h:k∉ts.map (·.1)):pA ts k n=ts++[(k,n)]:=by
 unfold pA
 rw [DR,if_neg (by simpa using h)]
theorem Ma (ts:List Tm)(k r:List Int)(n:Int):getM (pA ts k n) r=if r=k then n else getM ts r:=by
 by_cases h:k∈ts.map (·.1)
 ·rw [Bq n h,get_map]
  by_cases q:r=k
  ·rw [if_pos q,if_pos ⟨q,h⟩]
  ·rw [if_neg q,if_neg (fun z=>q z.1)]
 ·rw [xH n h,Fe]
  by_cases q:r=k
  ·rw [if_pos q,q,if_neg h,cL,if_pos rfl]
  ·rw [if_neg q]
   by_cases m:r∈ts.map (·.1)
   ·rw [if_pos m]
   ·rw [if_neg m,cL,if_neg (Ne.symm q),getM_none m]
    rfl
theorem Et (ts:List Tm)(k r:List Int)(v:Int):getM (Iu ts k v) r=getM ts r+if r=k then v else 0:=by
 unfold Iu
 rw [Ma]
 by_cases q:r=k
 ·rw [if_pos q,if_pos q,q]
 ·rw [if_neg q,if_neg q,Int.add_zero]
theorem keys_map (ts:List Tm)(k:List Int)(n:Int):(ts.map fun t=>if t.1=k then (t.1,n) else t).map (·.1)=ts.map (·.1):=by
 rw [List.map_map]
 refine List.map_congr_left fun t _=>?_
 simp only [Function.comp]
 split <;> rfl
theorem Gz (ts:List Tm)(k:List Int)(v:Int):(Iu ts k v).map (·.1)=if k∈ts.map (·.1) then ts.map (·.1) else ts.map (·.1)++[k]:=by
 unfold Iu
 by_cases h:k∈ts.map (·.1)
 ·rw [Bq _ h,keys_map,if_pos h]
 ·rw [xH _ h,if_neg h,List.map_append]
  rfl
theorem Ce {ts:List Tm}{k:List Int}{v:Int}(nd:(ts.map (·.1)).Nodup):((Iu ts k v).map (·.1)).Nodup:=qF ts k _ nd
theorem bT (f:List Int->Int)(t:Tm)(ts:List Tm):lin f (t::ts)=f t.1*t.2+lin f ts:=by unfold lin;simp
theorem Ci (f:List Int->Int)(ts us:List Tm):lin f (ts++us)=lin f ts+lin f us:=by unfold lin;simp
theorem wz:∀ {ks js:List (List Int)},ks.Perm js->ks.Pairwise (· < ·)->js.Pairwise (· < ·)->ks=js
 | [],js,p,_,_=>p.symm.eq_nil.symm
 | a::ks,[],p,_,_=>p.eq_nil
 | a::ks,b::js,p,h1,h2=>by
  have e:a=b:=by
   have ma:a∈b::js:=p.mem_iff.mp (List.mem_cons_self ..)
   have mb:b∈a::ks:=p.mem_iff.mpr (List.mem_cons_self ..)
   rcases List.mem_cons.mp ma with e | ma
   ·exact e
   ·rcases List.mem_cons.mp mb with e | mb
    ·exact e.symm
    ·exact absurd (List.lt_trans ((List.pairwise_cons.mp h1).1 b mb) ((List.pairwise_cons.mp h2).1 a ma)) (List.lt_irrefl _)
  subst e
  rw [wz (List.Perm.cons_inv p) (List.pairwise_cons.mp h1).2 (List.pairwise_cons.mp h2).2]
theorem DK {D:List Tm}{ks:List (List Int)}{u:Tm}(nd:(D.map (·.1)).Nodup)(p:∀ k∈ks,k∈D.map (·.1))(h:u∈mZ D ks):u∈D/\u.2≠0:=by
 unfold mZ at h
 obtain ⟨h1,h2⟩:=List.mem_filter.mp h
 obtain ⟨k,hk,rfl⟩:=List.mem_map.mp h1
 obtain ⟨t,ht,rfl⟩:=List.mem_map.mp (p k hk)
 rw [xq nd ht] at h2 |-
 exact ⟨ht,by simpa using h2⟩
theorem uq (D:List Tm)(ks:List (List Int)):(mZ D ks).length<=ks.length:=by
 unfold mZ
 exact Ye (List.length_filter_le _ _) (by rw [X6];exact Yc _)
theorem vD {D:List Tm}{ks:List (List Int)}(h:ks.Pairwise (· < ·)):((mZ D ks).map (·.1)).Pairwise (· < ·):=by
 unfold mZ
 rw [List.pairwise_map]
 refine List.Pairwise.filter _ ?_
 rw [List.pairwise_map]
 exact h
theorem gw {ks:List (List Int)}(h:ks.Pairwise (· < ·)):ks.Nodup:=by
 unfold List.Nodup
 refine h.imp fun {a b} h e=>?_
 rw [e] at h
 exact List.lt_irrefl _ h
theorem G9 {D:List Tm}(nd:(D.map (·.1)).Nodup)(nz:∀ t∈D,t.2≠0):mZ D (D.map (·.1))=D:=by
 unfold mZ
 rw [List.map_map]
 have e:D.map ((fun k=>(k,getM D k)) ∘ (·.1))=D:=(List.map_congr_left fun t ht=>by simp only [Function.comp];rw [xq nd ht];rfl).trans (List.map_id _)
 rw [e]
 exact List.filter_eq_self.mpr fun t ht=>by simpa using nz t ht
def fr (l:Nat)(x:Int)(r k:List Int):Int:=if r=k.set l 0 then x^(k.getD l 0).toNat else 0
theorem snoc_ind {α : Type}{P:List α->Prop}(h0:P [])(h1:∀ ts t,P ts->P (ts++[t]))(ts:List α):P ts:=by
 have:∀ us:List α,P us.reverse:=fun us=>by
  induction us with
  | nil=>exact h0
  | cons a us ih=>rw [List.reverse_cons];exact h1 _ _ ih
 have:=this ts.reverse
 rwa [List.reverse_reverse] at this
theorem IW {h:Gh}{n:Nat}{ts:List Tm}{k:List Int}{Q:WK}(e:h.c n=some (.dtt (kvW ts)))(m:k∈ts.map (·.1))(q:Q (.int (getM ts k)) h):Fj (.loc n) (.tup (k.map .int)) h Q:=by
 cases f:ts.find? fun t=>decide (t.1=k) with
 | none=>
  obtain ⟨t,ht,e⟩:=List.mem_map.mp m
  exact absurd (List.find?_eq_none.mp f t ht) (by simp [e])
 | some t=>
  have eg:getM ts k=t.2:=by unfold getM;rw [f];rfl
  rw [eg] at q
  exact Tq e f q
def Wh (c0:MSp):Prop:=∀ {h:Gh} {n:Nat} {ts:List Tm} {Q:WK} {E:XWK},h.c n=some (.dtt (kvW ts))->ts.length<=600->vo (ts.map (·.1))->(∀ ks:List (List Int),ks.Perm (ts.map (·.1))->ks.Pairwise (· < ·)->Q (smW (mZ ts ks)) h)->c0 [.loc n] h Q E
theorem lM {L:Nat}{ts:List Tm}(nd:(ts.map (·.1)).Nodup)(hL:∀ t∈ts,t.1.length=L):vo (ts.map (·.1)):=by
 intro h2 k hk e
 obtain ⟨t,ht,e1⟩:=List.mem_map.mp hk
 have L0:L=0:=by rw [<-hL t ht,e1,e];rfl
 have all:∀ k∈ts.map (·.1),k=[]:=fun k hk=>by
  obtain ⟨u,hu,e2⟩:=List.mem_map.mp hk
  rw [<-e2]
  exact List.eq_nil_of_length_eq_zero (by rw [hL u hu,L0])
 generalize ts.map (·.1)=ks at nd h2 all
 match ks,nd,h2,all with
 | a::b::r,nd,_,all=>
  have ea:=all a (by simp)
  have eb:=all b (by simp)
  rw [ea,eb] at nd
  simp at nd
 | [_],_,h2,_=>simp at h2
 | [],_,h2,_=>simp at h2
def V2 (c0:MSp):Prop:=∀ {h:Gh} {ns:List Int} {k:Int} {L m mo:Nat} {Q:WK} {E:XWK},0<=k->k<=900->L<=8->m<=60->mo<=60->(∀ (us:List Tm) (h':Gh),WF L 101 us->us.length<=m->(us.map (·.1)).Pairwise (· < ·)->(∀ t∈us,∀ p∈t.1,p<=(mo:Int))->Ge h h'->Q (smW us) h')->c0 [.kls (ns.map .int),.int k,.int (L:Int),.int (m:Int),.int (mo:Int)] h Q E
theorem w_sum {dr nu pw od:MSp}(hdr:uH dr)(hnu:Sv nu)(hpw:V7 pw)(hod:Wh od):V2 (uV dr nu pw od):=by
 intro h ns k L m mo Q E k0 k1 hL hm hmo q
 unfold uV
 refine jj rfl (Z:=[some (.kls (ns.map .int)),some (.int k),some (.int (L:Int)),some (.int (m:Int)),some (.int (mo:Int)),none,none,none]) rfl ?_
 refine aO (aZ (ux fun g eg og xg=>?_))
 refine aL (Z':=[some (.kls (ns.map .int)),some (.int k),some (.int (L:Int)),some (.int (m:Int)),some (.int (mo:Int)),some (.loc h.nx),none,none]) rfl (bZ (aO ?_))
 refine jQ (j:=(m:Int)) (fun _=>rfl) (by omega) (by omega) (fun i Z h'=>∃ (ts:List Tm) (s6 s7:Option W),Z = [some (.kls (ns.map .int)),some (.int k),some (.int (L:Int)),some (.int (m:Int)),some (.int (mo:Int)),some (.loc h.nx),s6,s7]/\h'.c h.nx=some (.dtt (kvW ts))/\ts.length<=i/\(ts.map (·.1)).Nodup/\(∀ t∈ts,t.1.length=L/\Sm 101 t.2/\Pw t.1/\∀ p∈t.1,p<=(mo:Int))/\h'.nx=h.nx+1/\∀ n,n≠h.nx->h'.c n=h.c n) ?_ ?_ ⟨[],none,none,rfl,eg,Yc _,List.nodup_nil,fun _ h=>(nomatch h),xg,og⟩
 ·rintro i Z h' N hN hi ⟨ts,s6,s7,rfl,a1,a2,a3,a4,a5,a6⟩
  refine aL (Z':=[some (.kls (ns.map .int)),some (.int k),some (.int (L:Int)),some (.int (m:Int)),some (.int (mo:Int)),some (.loc h.nx),some (.int (i:Int)),s7]) rfl ?_
  rfl'
  refine hdr (ns:=ns) (k:=k+(i:Int)) (many:=2) (by omega) (by omega) (by decide) (by decide) fun xs hx=>?_
  match xs,hx with
  | [a,b],_=>
   rfl'
   refine hnu fun n sn=>?_
   rfl'
   refine hpw hL hmo fun ps lp pw pm=>?_
   refine Oa a1 (by omega) fun g2 b1 b2 b3=>?_
   refine bZ (hN _ _ ⟨pA ts ps n,_,_,rfl,b1,by have:=uI ts ps n;omega,qF ts ps n a3,fun t ht=>?_,by rw [b3];exact a5,fun n hn=>by rw [b2 n hn];exact a6 n hn⟩)
   rcases Ij ht with ht | ht
   ·exact a4 t ht
   ·rw [ht];exact ⟨lp,sn,pw,pm⟩
 ·rintro Z h' ⟨ts,s6,s7,rfl,a1,a2,a3,a4,a5,a6⟩
  unfold tW
  rfl'
  refine hod a1 (by omega) (lM (L:=L) a3 fun t ht=>(a4 t ht).1) fun ks pk sk=>?_
  have hu:=fun u hm=>DK (u:=u) a3 (fun k hk=>pk.mem_iff.mp hk) hm
  have lu:=uq ts ks
  rw [pk.length_eq,X6] at lu
  exact q _ h' (fun u hm=>⟨(a4 u (hu u hm).1).1,(hu u hm).2,(a4 u (hu u hm).1).2.1,(a4 u (hu u hm).1).2.2.1⟩) (by omega) (vD sk) (fun u hm=>(a4 u (hu u hm).1).2.2.2) ⟨by omega,fun n hn=>a6 n (by omega)⟩
def Pv (ps:List Int):Prop:=∀ p∈ps,0<=p/\p<=61
theorem Iz {a b:List W}{h:Gh}{Q:WK}(hz:a.length+b.length<=1000)(q:Q (.tup (a++b)) h):cg (.tup a) (.tup b) h Q:=by
 cases a with
 | nil=>exact q
 | cons w a=>
  refine fW.mk (Ye (m:=1000) (by simp at hz;omega) (by decide)) ?_
  exact q
theorem Bo {Z : Sw}{h:Gh}{Q:Option Int->Gh->Prop}(x:Q none h):vI Z h Q:=x
theorem Vq {h:Gh}{n:Nat}{ts:List Tm}{k:List Int}{Q:WK}(e:h.c n=some (.dtt (kvW ts)))(q:Q (.int (getM ts k)) h):Ac (.loc n) [.tup (k.map .int),.int 0] h Q:=by
 unfold Ac
 dsimp only
 rw [e,oY]
 dsimp only
 rw [wO]
 have:(((ts.find? fun t=>decide (t.1=k)).map fun t=>W.int t.2).getD (.int 0))=.int (getM ts k):=by
  unfold getM
  cases ts.find? fun t=>decide (t.1=k) <;> rfl
 rw [this]
 exact q
theorem Kg {n:Nat}{kvs:List (List Int×W)}{h:Gh}{P:Prop}(e:h.c n=some (.dtt kvs))(p:P):Cw h (.loc n) P:=by
 unfold Cw
 dsimp only
 rw [e]
 exact p
theorem RZ {r:MM}{mo:ME}{ma:MA}{Z : Sw}{h:Gh}{Q:WK}(x:mo Z h fun x h1=>Cw h1 x (ma Z h1 fun xs h2=>r x xs h2 Q)):U4 r mo ma Z h Q:=x
theorem Bk:∀ l:List Int,nQ (l.map .int) (l.map .int)=true
 | []=>rfl
 | a::l=>by rw [X5,nQ,Bk l,eqW];simp
theorem Pb (t:Tm):eqW (tmW t) (tmW t)=true:=by
 unfold tmW
 simp only [eqW,nQ,Bk,beq_self_eq_true,Bool.and_self]
theorem Jl:∀ s:List Tm,nQ (s.map tmW) (s.map tmW)=true
 | []=>rfl
 | t::s=>by rw [X5,nQ,Jl s,Pb];rfl
theorem N6 (n:Nat)(t:Tm):plW (n+3) (tmW t)=true:=by simp [tmW,plW]
theorem VJ {t:Tm}{h:Gh}{Q:WK}(k:Q (.bl false) h):kNe (tmW t) (tmW t) h Q:=by
 show by2 (plW 30 (tmW t)&&plW 30 (tmW t)) (Q (.bl (!eqW (tmW t) (tmW t))) h) False
 rw [N6 27,Pb]
 exact k
theorem Qh (n:Nat)(s:List Tm):plW (n+4) (smW s)=true:=by
 unfold smW
 rw [plW,List.all_eq_true]
 intro w hw
 obtain ⟨t,_,rfl⟩:=List.mem_map.mp hw
 exact N6 n t
theorem Ra (s:List Tm):eqW (smW s) (smW s)=true:=by
 unfold smW
 rw [eqW,Jl]
theorem BW {s:List Tm}{h:Gh}{Q:WK}(k:Q (.bl false) h):kNe (smW s) (smW s) h Q:=by
 show by2 (plW 30 (smW s)&&plW 30 (smW s)) (Q (.bl (!eqW (smW s) (smW s))) h) False
 rw [Qh 26,Ra]
 exact k
theorem Cy {s:List Tm}{h:Gh}{Q:WK}(k:Q (.bl true) h):kEq (smW s) (smW s) h Q:=by
 show by2 (plW 30 (smW s)&&plW 30 (smW s)) (Q (.bl (eqW (smW s) (smW s))) h) False
 rw [Qh 26,Ra]
 exact k
theorem Ox {p:List Int}{n:Int}{h:Gh}{Q:WK}(q:Q (.tup ((p++[n]).map .int)) h)(hz:p.length<=900:=by omega):cg (.tup (p.map .int)) (.tup [.int n]) h Q:=by
 cases p with
 | nil=>exact q
 | cons a p=>
  refine fW.mk (Ye (m:=1000) (by simp at hz |-;omega) (by decide)) ?_
  rw [List.map_append] at q
  exact q
def Wt (c0:MSp):Prop:=∀ {h:Gh} {s:List Tm} {L:Nat} {Q:WK} {E:XWK},s.length<=1000->L<=8->(∀ t∈s,t.1.length=L)->Q (.bl true) h->c0 [smW s,smW s] h Q E
theorem Ub:Wt jL:=by
 intro h s L Q E hz hL hl q
 unfold jL
 refine jj rfl (Z:=[some (smW s),some (smW s),none,none]) rfl ?_
 have len:∀ (R:WK) (g:Gh),R (.int (s.length:Int)) g->kLen [smW s] g R:=fun R g hR=>fQ (xs:=s.map tmW) rfl (by rw [X6];exact hR)
 refine aO (cJ (u6 (mJ (gZ (cC (ao (aq rfl (ao (bC (aD (xr (b:=true) rfl (Eh rfl (vC rfl ?_)))))))))))))
 refine bF (aP (cC (ao (aq rfl (aD (len _ _ ?_))))))
 refine cC (ao (aq rfl (aD (len _ _ (Dz (nU (vC (by simp) ?_)))))))
 refine bK (bZ ?_)
 unfold kh
 refine aO (rR (Ck (ao (cC (ao (aq rfl (aD (len _ _ ?_))))))))
 refine aD (UJ hz (rM ?_))
 refine gj (fun i Z h'=>h'=h/\∃ s2 s3:Option W,Z = [some (smW s),some (smW s),s2,s3]) ?_ ?_ ⟨rfl,none,none,rfl⟩
 ·rintro i w Z h' N hN e ⟨rfl,s2,s3,rfl⟩
  rw [List.getElem?_map] at e
  cases qe:(rng 0 s.length)[i]? with
  | none=>rw [qe] at e;cases e
  | some i'=>
   rw [qe] at e
   cases e
   obtain ⟨ei,hi⟩:=Kp qe
   rw [Nat.zero_add] at ei
   subst ei
   have et:s[i']?=some s[i']:=List.getElem?_eq_getElem hi
   have hlt:=hl s[i'] (List.getElem_mem hi)
   generalize s[i']=t at et hlt
   have ix:∀ (R:WK),R (tmW t) h'->kIx (smW s) (.int (i':Int)) h' R:=fun R hR=>lA (ws:=s.map tmW) rfl (Ea (by rw [List.getElem?_map,et];rfl)) hR
   refine aL (Z':=[some (smW s),some (smW s),some (.int (i':Int)),s3]) rfl (aO (aZ (aP (aq rfl (aq rfl (ix _ ?_))))))
   refine aL (Z':=[some (smW s),some (smW s),some (.int (i':Int)),some (tmW t)]) rfl (bZ (aO (cJ ?_)))
   refine u6 (mJ (gZ (cC (ao (aq rfl (ao (bC (aD (xr (b:=true) rfl (Eh rfl (vC rfl ?_)))))))))))
   refine u6 (bF (aP (cC (ao (aq rfl (aD (fQ (xs:=[.tup (t.1.map .int),.int t.2]) rfl (bC (Dz (nU (vC rfl ?_)))))))))))
   refine u6 (mJ (gZ (cC (ao (aP (aq rfl (bC (lA (ws:=[.tup (t.1.map .int),.int t.2]) (w:=.tup (t.1.map .int)) rfl rfl ?_))))))))
   refine ao (bC (aD (xr (b:=true) rfl (Eh rfl (vC rfl ?_)))))
   refine bF (aP (aq rfl (aP (aq rfl (aq rfl (ix _ (VJ (nU (vC rfl ?_)))))))))
   refine bK (bZ (cJ (mJ (gZ (cC (ao ?_))))))
   refine n6 (kZ (aP (aP (aq rfl (bC (lA (ws:=[.tup (t.1.map .int),.int t.2]) (w:=.tup (t.1.map .int)) rfl rfl ?_))))))
   refine Qq (aq rfl (Dj (bC (Wd (Bo ?_)))))
   show cg (.tup (t.1.map .int)) (.tup [.int t.2]) h' _
   refine Ox ?_
   refine yW (ws:=(t.1++[t.2]).map .int) (o:=none) rfl (fW.mk (Ye (m:=1000) (by simp;omega) (by decide)) ?_)
   refine jk (fun j acc g=>g=h'/\acc=(X7 j true).map .bl) ?_ ?_ ⟨rfl,rfl⟩
   ·rintro j w acc g N' hN' e' ⟨rfl,rfl⟩
    obtain ⟨n,en,rfl⟩:=ints_get e'
    refine ⟨[.int n],rfl,jY (kj ?_)⟩
    rfl'
    refine hN' _ _ ⟨rfl,?_⟩
    rw [List.replicate_succ',List.map_append]
    rfl
   ·rintro acc g ⟨rfl,rfl⟩
    refine aD (Jr (us:=(X7 ((t.1++[t.2]).map W.int).length true).map .bl) (bs:=X7 ((t.1++[t.2]).map W.int).length true) rfl (vf _) ?_)
    have ea:(X7 ((t.1++[t.2]).map W.int).length true).all id=true:=by simp
    rw [ea]
    refine Eh rfl (vC rfl (bK ?_))
    exact hN _ _ ⟨rfl,_,_,rfl⟩
 ·rintro Z h' ⟨rfl,s2,s3,rfl⟩
  unfold jZ
  exact bZ (cQ (bC (uh q)))
def pack (k:List Int):Int:=k.foldl (fun a p=>a*65536+p) 0
def Kb (L:Nat)(k:List Int):Prop:=k.length=L/\∀ p∈k,0<=p/\p<=100
theorem cA (k:List Int)(p:Int):pack (k++[p])=pack k*65536+p:=by unfold pack;rw [List.foldl_append];rfl
theorem nj {L:Nat}{k:List Int}{p:Int}(h:Kb (L+1) (k++[p])):Kb L k/\0<=p/\p<=100:=by
 refine ⟨⟨by have:=h.1;simp at this;omega,fun q hq=>h.2 q (List.mem_append_left _ hq)⟩,h.2 p (by simp)⟩
theorem iy {L:Nat}{k:List Int}(h:k.length=L+1):∃ (a:List Int) (p:Int),k=a++[p]:=by
 refine ⟨k.dropLast,k.getLast (by intro e;rw [e] at h;simp at h),?_⟩
 exact (List.dropLast_concat_getLast _).symm
theorem jl:∀ {L:Nat} {k l:List Int},Kb L k->Kb L l->pack k=pack l->k=l
 | 0,k,l,h1,h2,_=>by rw [List.eq_nil_of_length_eq_zero h1.1,List.eq_nil_of_length_eq_zero h2.1]
 | L+1,k,l,h1,h2,e=>by
  obtain ⟨a,p,rfl⟩:=iy h1.1
  obtain ⟨b,q,rfl⟩:=iy h2.1
  obtain ⟨ha,p0,p1⟩:=nj h1
  obtain ⟨hb,q0,q1⟩:=nj h2
  rw [cA,cA] at e
  have e1:pack a=pack b:=by omega
  have e2:p=q:=by omega
  rw [jl ha hb e1,e2]
theorem zW:∀ {a b:List Int} {p q:Int},a.length=b.length->(a++[p]<b++[q]↔a<b\/a=b/\p<q)
 | [],[],p,q,_=>by simp [List.cons_lt_cons_iff]
 | [],_::_,_,_,h=>by simp at h
 | _::_,[],_,_,h=>by simp at h
 | x::a,y::b,p,q,h=>by
  have ih:=zW (a:=a) (b:=b) (p:=p) (q:=q) (by simpa using h)
  rw [List.cons_append,List.cons_append,List.cons_lt_cons_iff,List.cons_lt_cons_iff,ih]
  constructor
  ·rintro (h | ⟨h1,h2 | ⟨h2,h3⟩⟩)
   ·exact .inl (.inl h)
   ·exact .inl (.inr ⟨h1,h2⟩)
   ·exact .inr ⟨by rw [h1,h2],h3⟩
  ·rintro ((h | ⟨h1,h2⟩) | ⟨h1,h2⟩)
   ·exact .inl h
   ·exact .inr ⟨h1,.inl h2⟩
   ·obtain ⟨e1,e2⟩:=List.cons.inj h1
    exact .inr ⟨e1,.inr ⟨e2,h2⟩⟩
theorem DP:∀ {L:Nat} {k l:List Int},Kb L k->Kb L l->(k<l↔pack k<pack l)
 | 0,k,l,h1,h2=>by
  rw [List.eq_nil_of_length_eq_zero h1.1,List.eq_nil_of_length_eq_zero h2.1]
  constructor
  ·intro h;exact absurd h (List.lt_irrefl _)
  ·intro h;exact absurd h (Int.lt_irrefl _)
 | L+1,k,l,h1,h2=>by
  obtain ⟨a,p,rfl⟩:=iy h1.1
  obtain ⟨b,q,rfl⟩:=iy h2.1
  obtain ⟨ha,p0,p1⟩:=nj h1
  obtain ⟨hb,q0,q1⟩:=nj h2
  have ih:=DP ha hb
  rw [zW (by rw [ha.1,hb.1]),cA,cA]
  constructor
  ·rintro (h | ⟨h,h'⟩)
   ·have:=ih.mp h;omega
   ·rw [h];omega
  ·intro h
   rcases Int.lt_trichotomy (pack a) (pack b) with c | c | c
   ·exact .inl (ih.mpr c)
   ·exact .inr ⟨jl ha hb c,by omega⟩
   ·omega
def fC (k l:List Int):List Int:=List.zipWith (· + ·) k l
theorem GX {k l:List Int}(h:k.length=l.length):(fC k l).length=k.length:=by unfold fC;rw [List.length_zipWith,h,Nat.min_self]
theorem sY:∀ (k l:List Int),fC k l=fC l k
 | [],[]=>rfl
 | [],_::_=>rfl
 | _::_,[]=>rfl
 | a::k,b::l=>by
  show (a+b)::fC k l=(b+a)::fC l k
  rw [sY k l,Int.add_comm]
theorem lV:∀ {k l:List Int} {p q:Int},k.length=l.length->fC (k++[p]) (l++[q])=fC k l++[p+q]
 | [],[],p,q,_=>rfl
 | [],_::_,_,_,h=>by simp at h
 | _::_,[],_,_,h=>by simp at h
 | x::a,y::b,p,q,h=>by
  show (x+y)::fC (a++[p]) (b++[q])=(x+y)::(fC a b++[p+q])
  rw [lV (by simpa using h)]
theorem wJ:∀ {L:Nat} {k l:List Int},k.length=L->l.length=L->pack (fC k l)=pack k+pack l
 | 0,k,l,h1,h2=>by rw [List.eq_nil_of_length_eq_zero h1,List.eq_nil_of_length_eq_zero h2];rfl
 | L+1,k,l,h1,h2=>by
  obtain ⟨a,p,rfl⟩:=iy h1
  obtain ⟨b,q,rfl⟩:=iy h2
  have la:a.length=L:=by simpa using h1
  have lb:b.length=L:=by simpa using h2
  rw [lV (by rw [la,lb]),cA,cA,cA,wJ la lb]
  omega
theorem wV:∀ {k l:List Int} {p:Int},p∈fC k l->∃ a∈k,∃ b∈l,p=a+b
 | [],_,_,h=>by simp [fC] at h
 | _::_,[],_,h=>by simp [fC] at h
 | a::k,b::l,p,h=>by
  have h:p∈(a+b)::fC k l:=h
  rcases List.mem_cons.mp h with rfl | h
  ·exact ⟨a,by simp,b,by simp,rfl⟩
  ·obtain ⟨x,hx,y,hy,e⟩:=wV h
   exact ⟨x,X8 _ hx,y,X8 _ hy,e⟩
theorem ur:∀ {L:Nat} {k:List Int},Kb L k->0<=pack k/\(pack k).natAbs<2^(16*L)
 | 0,k,h=>by rw [List.eq_nil_of_length_eq_zero h.1];exact ⟨Int.le_refl _,by decide⟩
 | L+1,k,h=>by
  obtain ⟨a,p,rfl⟩:=iy h.1
  obtain ⟨ha,p0,p1⟩:=nj h
  obtain ⟨i0,i1⟩:=ur ha
  rw [cA,Nat.mul_succ,Nat.pow_add]
  generalize 2^(16*L)=A at *
  have:(2:Nat)^16=65536:=rfl
  rw [this]
  omega
def mulR (k:List Int)(n:Int)(vs:List Tm)(D:List Tm):List Tm:=vs.foldl (fun D s=>Iu D (fC k s.1) (n*s.2)) D
def gq (us vs:List Tm):List Tm:=us.foldl (fun D t=>mulR t.1 t.2 vs D) []
theorem fX (k:List Int)(n:Int)(vs D:List Tm)(s:Tm):mulR k n (vs++[s]) D=Iu (mulR k n vs D) (fC k s.1) (n*s.2):=by unfold mulR;rw [List.foldl_append];rfl
theorem fY (us vs:List Tm)(t:Tm):gq (us++[t]) vs=mulR t.1 t.2 vs (gq us vs):=by unfold gq;rw [List.foldl_append];rfl
theorem K1 {k:List Int}{n:Int}{vs D:List Tm}(h:(D.map (·.1)).Nodup):((mulR k n vs D).map (·.1)).Nodup:=by
 refine snoc_ind (P:=fun vs=>((mulR k n vs D).map (·.1)).Nodup) h (fun vs t ih=>?_) vs
 rw [fX]
 exact Ce ih
theorem jy (us vs:List Tm):((gq us vs).map (·.1)).Nodup:=by
 refine snoc_ind (P:=fun us=>((gq us vs).map (·.1)).Nodup) List.nodup_nil (fun us t ih=>?_) us
 rw [fY]
 exact K1 ih
theorem pY (k:List Int)(n:Int)(vs D:List Tm):(mulR k n vs D).length<=D.length+vs.length:=by
 refine snoc_ind (P:=fun vs=>(mulR k n vs D).length<=D.length+vs.length) (Yc _) (fun vs t ih=>?_) vs
 rw [fX,List.length_append,List.length_singleton]
 exact Ye (uI ..) (by omega)
theorem lD (us vs:List Tm):(gq us vs).length<=us.length*vs.length:=by
 refine snoc_ind (P:=fun us=>(gq us vs).length<=us.length*vs.length) (Nat.zero_le _) (fun us t ih=>?_) us
 rw [fY,List.length_append,List.length_singleton,Nat.add_mul,Nat.one_mul]
 exact Ye (pY ..) (by omega)
def dl (r k:List Int):Int:=if k=r then 1 else 0
theorem Gb (k:List Int)(n:Int)(r:List Int)(D vs:List Tm):getM (mulR k n vs D) r=getM D r+n*lin (fun l=>dl r (fC k l)) vs:=by
 refine snoc_ind (P:=fun vs=>getM (mulR k n vs D) r=getM D r+n*lin (fun l=>dl r (fC k l)) vs) (by show getM D r=getM D r+n*0;omega) (fun vs t ih=>?_) vs
 rw [fX,Et,Ci,ih]
 show _=_+n*(_+lin (fun l=>dl r (fC k l)) [t])
 rw [bT]
 show _=_+n*(_+(dl r (fC k t.1)*t.2+0))
 unfold dl
 by_cases c:fC k t.1=r
 ·rw [if_pos c.symm,if_pos c];grind
 ·rw [if_neg (Ne.symm c),if_neg c];grind
theorem lG (r:List Int)(us vs:List Tm):getM (gq us vs) r=lin (fun k=>lin (fun l=>dl r (fC k l)) vs) us:=by
 refine snoc_ind (P:=fun us=>getM (gq us vs) r=lin (fun k=>lin (fun l=>dl r (fC k l)) vs) us) rfl (fun us t ih=>?_) us
 rw [fY,Gb,ih,Ci,bT]
 show _=_+(_+0)
 rw [Int.add_zero,Int.mul_comm]
theorem wW (us:List Tm):lin (fun _=>0) us=0:=by
 induction us with
 | nil=>rfl
 | cons t us ih=>rw [bT,ih];omega
theorem wD (f g:List Int->Int):∀ us:List Tm,lin (fun k=>f k+g k) us=lin f us+lin g us
 | []=>rfl
 | t::us=>by rw [bT,bT,bT,wD f g us];grind
theorem rY (f:List Int->Int)(c:Int):∀ us:List Tm,lin (fun k=>f k*c) us=lin f us*c
 | []=>by show (0:Int)=0*c;omega
 | t::us=>by rw [bT,bT,rY f c us];grind
theorem wk (f:List Int->List Int->Int)(vs:List Tm):∀ us:List Tm,lin (fun k=>lin (fun l=>f k l) vs) us=lin (fun l=>lin (fun k=>f k l) us) vs
 | []=>by show (0:Int)=lin (fun _=>0) vs;rw [wW]
 | t::us=>by
  rw [bT,wk f vs us]
  have e:(fun l=>lin (fun k=>f k l) (t::us))=fun l=>f t.1 l*t.2+lin (fun k=>f k l) us:=by funext l;rw [bT]
  rw [e,wD,rY]
theorem tX (r:List Int)(us vs:List Tm):getM (gq us vs) r=getM (gq vs us) r:=by
 rw [lG,lG,wk]
 have:(fun l=>lin (fun k=>dl r (fC k l)) us)=fun l=>lin (fun k=>dl r (fC l k)) us:=by
  funext l
  have:(fun k=>dl r (fC k l))=fun k=>dl r (fC l k):=by funext k;rw [sY]
  rw [this]
 rw [this]
def rm (D rs:List Tm):Prop:=∃ ks:List (List Int),ks.Perm (D.map (·.1))/\ks.Pairwise (· < ·)/\rs=mZ D ks
theorem Bm (D:List Tm)(ks:List (List Int)):mZ D ks=(ks.filter fun k=>decide (getM D k≠0)).map fun k=>(k,getM D k):=by
 unfold mZ
 rw [List.filter_map]
 rfl
theorem rm.same {D F rs qs:List Tm}(e:∀ r,getM D r=getM F r)(a:rm D rs)(b:rm F qs):rs=qs:=by
 obtain ⟨ks,pk,sk,rfl⟩:=a
 obtain ⟨js,pj,sj,rfl⟩:=b
 rw [Bm,Bm]
 have key:(ks.filter fun k=>decide (getM D k≠0))=js.filter fun k=>decide (getM F k≠0):=by
  refine wz ?_ (sk.filter _) (sj.filter _)
  refine (List.perm_ext_iff_of_nodup ((gw sk).filter _) ((gw sj).filter _)).mpr fun r=>?_
  rw [List.mem_filter,List.mem_filter,decide_eq_true_iff,decide_eq_true_iff,e r]
  constructor
  ·rintro ⟨_,nz⟩
   exact ⟨pj.mem_iff.mpr (Decidable.byContradiction fun no=>nz (getM_none no)),nz⟩
  ·rintro ⟨_,nz⟩
   exact ⟨pk.mem_iff.mpr (Decidable.byContradiction fun no=>nz (by rw [<-e r];exact getM_none no)),nz⟩
 rw [key]
 exact List.map_congr_left fun k _=>by rw [e k]
def Ms (L:Nat)(us:List Tm):Prop:=us.length<=210/\(us.map (·.1)).Pairwise (· < ·)/\∀ t∈us,t.1.length=L/\t.2≠0/\Sm 101 t.2/\∀ p∈t.1,0<=p/\p<=40
theorem Ms.nil (L:Nat):Ms L []:=⟨by simp,.nil,fun _ h=>(nomatch h)⟩
theorem Bc {L:Nat}{k l:List Int}(hk:k.length=L/\∀ p∈k,0<=p/\p<=40)(hl:l.length=L/\∀ p∈l,0<=p/\p<=40):Kb L (fC k l):=by
 refine ⟨by rw [GX (by rw [hk.1,hl.1]),hk.1],fun p hp=>?_⟩
 obtain ⟨a,ha,b,hb,rfl⟩:=wV hp
 have:=hk.2 a ha
 have:=hl.2 b hb
 omega
theorem DW {L:Nat}{t:Tm}{vs D:List Tm}(ht:t.1.length=L/\∀ p∈t.1,0<=p/\p<=40)(hv:∀ t∈vs,t.1.length=L/\∀ p∈t.1,0<=p/\p<=40)(hD:∀ k∈D.map (·.1),Kb L k):∀ k∈(mulR t.1 t.2 vs D).map (·.1),Kb L k:=by
 revert hv
 refine snoc_ind (P:=fun vs=>(∀ t∈vs,t.1.length=L/\∀ p∈t.1,0<=p/\p<=40)->∀ k∈(mulR t.1 t.2 vs D).map (·.1),Kb L k) (fun _=>hD) (fun vs s ih hv k hk=>?_) vs
 rw [fX,Gz] at hk
 have hk:k∈(mulR t.1 t.2 vs D).map (·.1)\/k=fC t.1 s.1:=by
  split at hk
  ·exact .inl hk
  ·rcases List.mem_append.mp hk with hk | hk
   ·exact .inl hk
   ·exact .inr (List.mem_singleton.mp hk)
 rcases hk with hk | rfl
 ·exact ih (fun u hu=>hv u (List.mem_append_left _ hu)) k hk
 ·exact Bc ht (hv s (by simp))
theorem jo {L:Nat}{us vs:List Tm}(hu:∀ t∈us,t.1.length=L/\∀ p∈t.1,0<=p/\p<=40)(hv:∀ t∈vs,t.1.length=L/\∀ p∈t.1,0<=p/\p<=40):∀ k∈(gq us vs).map (·.1),Kb L k:=by
 revert hu
 refine snoc_ind (P:=fun us=>(∀ t∈us,t.1.length=L/\∀ p∈t.1,0<=p/\p<=40)->∀ k∈(gq us vs).map (·.1),Kb L k) (fun _ k hk=>by simp [gq] at hk) (fun us t ih hu=>?_) us
 rw [fY]
 exact DW (hu t (by simp)) hv (ih fun u h=>hu u (List.mem_append_left _ h))
def ikv (D:List Tm):List (Key×W):=D.map fun t=>(.inl (pack t.1),.int t.2)
theorem zB {L:Nat}{D:List Tm}{k:List Int}(hD:∀ j∈D.map (·.1),Kb L j)(hk:Kb L k):pB (ikv D) (.inl (pack k))=((D.find? fun t=>decide (t.1=k)).map fun t=>W.int t.2):=by
 unfold pB ikv
 induction D with
 | nil=>rfl
 | cons t D ih=>
  have ih:=ih fun j hj=>hD j (by rw [X5];exact X8 _ hj)
  rw [X5,List.find?_cons,List.find?_cons]
  by_cases c:t.1=k
  ·rw [decide_eq_true c,decide_eq_true (by rw [c])]
   rfl
  ·rw [decide_eq_false c,decide_eq_false (fun e=>c (jl (hD t.1 (by simp)) hk (Sum.inl.inj e)))]
   exact ih
theorem Mx {L:Nat}{D:List Tm}{k:List Int}(hD:∀ j∈D.map (·.1),Kb L j)(hk:Kb L k):(pB (ikv D) (.inl (pack k))).getD (.int 0)=.int (getM D k):=by
 rw [zB hD hk]
 unfold getM
 cases D.find? fun t=>decide (t.1=k) <;> rfl
theorem Le {L:Nat}{D:List Tm}{k:List Int}{n:Int}(hD:∀ j∈D.map (·.1),Kb L j)(hk:Kb L k):MN (ikv D) (.inl (pack k)) (.int n)=ikv (pA D k n):=by
 have ea:((ikv D).any fun kv=>decide (kv.1=Sum.inl (pack k)))=D.any fun t=>decide (t.1=k):=by
  unfold ikv
  rw [List.any_map,Bool.eq_iff_iff,List.any_eq_true,List.any_eq_true]
  constructor
  ·rintro ⟨t,ht,e⟩
   simp only [Function.comp,decide_eq_true_iff] at e
   exact ⟨t,ht,decide_eq_true (jl (hD t.1 (List.mem_map.mpr ⟨t,ht,rfl⟩)) hk (Sum.inl.inj e))⟩
  ·rintro ⟨t,ht,e⟩
   rw [decide_eq_true_iff] at e
   exact ⟨t,ht,by simp [e]⟩
 unfold MN pA
 rw [ea]
 by_cases c:(D.any fun t=>decide (t.1=k))=true
 ·rw [if_pos c,if_pos c]
  unfold ikv
  rw [List.map_map,List.map_map]
  refine List.map_congr_left fun t ht=>?_
  simp only [Function.comp]
  by_cases e:t.1=k
  ·rw [if_pos e,if_pos (by rw [e])]
  ·rw [if_neg e,if_neg (fun z=>e (jl (hD t.1 (List.mem_map.mpr ⟨t,ht,rfl⟩)) hk (Sum.inl.inj z)))]
 ·rw [if_neg c,if_neg c]
  simp [ikv]
theorem Ao:∀ {ks js:List Int},ks.Perm js->ks.Pairwise (· < ·)->js.Pairwise (· < ·)->ks=js
 | [],js,p,_,_=>p.symm.eq_nil.symm
 | a::ks,[],p,_,_=>p.eq_nil
 | a::ks,b::js,p,h1,h2=>by
  have e:a=b:=by
   have ma:a∈b::js:=p.mem_iff.mp (List.mem_cons_self ..)
   have mb:b∈a::ks:=p.mem_iff.mpr (List.mem_cons_self ..)
   rcases List.mem_cons.mp ma with e | ma
   ·exact e
   ·rcases List.mem_cons.mp mb with e | mb
    ·exact e.symm
    ·have:=(List.pairwise_cons.mp h1).1 b mb
     have:=(List.pairwise_cons.mp h2).1 a ma
     omega
  subst e
  rw [Ao (List.Perm.cons_inv p) (List.pairwise_cons.mp h1).2 (List.pairwise_cons.mp h2).2]
def Lh (a:List Int):List (List Int)->List (List Int)
 | []=>[a]
 | b::l=>if a<b then a::b::l else b::Lh a l
theorem mF (a:List Int):∀ l,(Lh a l).Perm (a::l)
 | []=>.refl _
 | b::l=>by
  unfold Lh
  split
  ·exact .refl _
  ·exact (List.Perm.cons b (mF a l)).trans (List.Perm.swap a b l)
theorem wM {a:List Int}:∀ {l:List (List Int)},l.Pairwise (· < ·)->a∉l->(Lh a l).Pairwise (· < ·)
 | [],_,_=>by simp [Lh]
 | b::l,h,n=>by
  rw [List.pairwise_cons] at h
  unfold Lh
  split
  ·rename_i c
   rw [List.pairwise_cons]
   refine ⟨fun x hx=>?_,List.pairwise_cons.mpr h⟩
   rcases List.mem_cons.mp hx with rfl | hx
   ·exact c
   ·exact List.lt_trans c (h.1 x hx)
  ·rename_i c
   rw [List.pairwise_cons]
   refine ⟨fun x hx=>?_,wM h.2 fun m=>n (X8 _ m)⟩
   rcases List.mem_cons.mp ((mF a l).mem_iff.mp hx) with rfl | hx
   ·rcases List.le_iff_lt_or_eq.mp (List.not_lt.mp c) with h | h
    ·exact h
    ·exact absurd (by rw [h];exact List.mem_cons_self ..) n
   ·exact h.1 x hx
theorem Fz:∀ (l:List (List Int)),l.Nodup->∃ ks:List (List Int),ks.Perm l/\ks.Pairwise (· < ·)
 | [],_=>⟨[],.refl _,.nil⟩
 | a::l,nd=>by
  rw [List.nodup_cons] at nd
  obtain ⟨ks,p,s⟩:=Fz l nd.2
  exact ⟨Lh a ks,(mF a ks).trans (p.cons a),wM s fun m=>nd.1 (p.mem_iff.mp m)⟩
def PkX (c0:MSp):Prop:=∀ {h:Gh} {k:List Int} {L:Nat} {Q:WK} {E:XWK},Kb L k->L<=8->Q (.int (pack k)) h->c0 [.tup (k.map .int)] h Q E
theorem nM {ws:List W}{i:Nat}{g:MG}{b:MS}{D:bL}{Z : Sw}{h:Gh}(hv:Z[i]?=some (some (.tup ws)))(x:eO ⟨ws,none⟩ g b D ws Z h):oX (nIt (aG i)) g b D Z h:=rR (kZ (aq hv (yW rfl (rM x))))
theorem CG {L:Nat}{k:List Int}(h:Kb L k)(i:Nat):Kb (min i L) (k.take i):=⟨by rw [List.length_take,h.1],fun p hp=>h.2 p (List.mem_of_mem_take hp)⟩
theorem QF:PkX pG:=by
 intro h k L Q E hk hL q
 unfold pG
 refine jj rfl (Z:=[some (.tup (k.map .int)),none,none]) rfl (aO (aZ (bC ?_)))
 refine aL (Z':=[some (.tup (k.map .int)),some (.int 0),none]) rfl (bZ (aO ?_))
 refine nM (ws:=k.map .int) rfl ?_
 refine gj (fun i Z h'=>h'=h/\∃ s2:Option W,Z = [some (.tup (k.map .int)),some (.int (pack (k.take i))),s2]) ?_ ?_ ⟨rfl,none,rfl⟩
 ·rintro i w Z h' N hN e ⟨rfl,s2,rfl⟩
  obtain ⟨p,ep,rfl⟩:=ints_get e
  have sp:=(ur (CG hk i)).2
  have s1:Sm 128 (pack (k.take i)):=Yd sp (Nat.pow_le_pow_right (by decide) (by omega))
  refine aL (Z':=[some (.tup (k.map .int)),some (.int (pack (k.take i))),some (.int p)]) rfl ?_
  refine aZ (aP (aP (aq rfl (bC (eH (.of s1 (n:=64) (.lit rfl) (by decide) (by decide)) (aq rfl (eE ?_)))))))
  refine aL (Z':=[some (.tup (k.map .int)),some (.int (pack (k.take (i+1)))),some (.int p)]) ?_ (bZ (hN _ _ ⟨rfl,_,rfl⟩))
  rw [List.take_succ,ep]
  show _=[some (W.tup (k.map .int)),some (.int (pack (k.take i++[p]))),some (.int p)]
  rw [cA]
  rfl
 ·rintro Z h' ⟨rfl,s2,rfl⟩
  rw [X6,List.take_length]
  unfold pF
  exact bZ (cQ (aq rfl (uh q)))
def UnX (c0:MSp):Prop:=∀ {h:Gh} {k:List Int} {L:Nat} {Q:WK} {E:XWK},Kb L k->L<=8->Q (.tup (k.map .int)) h->c0 [.int (pack k),.int (L:Int)] h Q E
theorem Fg {L i:Nat}{k:List Int}(h:Kb L k)(hi:i<L):(pack (k.take (L - i))).fmod 65536=k.getD (L - 1 - i) 0/\(pack (k.take (L - i))).fdiv 65536=pack (k.take (L - (i+1))):=by
 have lk:=h.1
 have e1:L - i=(L - 1 - i)+1:=by omega
 have e2:L - (i+1)=L - 1 - i:=by omega
 have ek:k[L - 1 - i]?=some (k[L - 1 - i]'(by omega)):=List.getElem?_eq_getElem (by omega)
 have hb:=h.2 (k[L - 1 - i]'(by omega)) (List.getElem_mem (by omega))
 rw [e2,e1,List.take_succ,ek]
 show (pack (k.take (L - 1 - i)++[k[L - 1 - i]'(by omega)])).fmod 65536=_/\(pack (k.take (L - 1 - i)++[k[L - 1 - i]'(by omega)])).fdiv 65536=_
 rw [cA,List.getD_eq_getElem?_getD,ek]
 have:=(ur (CG h (L - 1 - i))).1
 rw [wZ (by decide),qG (by decide)]
 constructor
 ·show _=k[L - 1 - i]'(by omega)
  omega
 ·omega
theorem Uo {n:Nat}{us:List W}{i:Nat}{Z : Sw}{h:Gh}{Q:WK}(hv:Z[i]?=some (some (.loc n)))(e:h.c n=some (.lst us))(x:Q (.tup us.reverse) h):uz (aG i) Z h Q:=by
 refine aq hv ?_
 show (match dU h (.loc n) with
  | some us=>Q (.tup us.reverse) h
  | none=>False)
 rw [tQ e]
 exact x
def dg (k:List Int)(L i:Nat):List Int:=(List.range i).map fun j=>k.getD (L - 1 - j) 0
theorem Qu {k:List Int}{L:Nat}(h:k.length=L):(dg k L L).reverse=k:=by
 have ll:(dg k L L).length=L:=by unfold dg;simp
 refine List.ext_getElem (by rw [List.length_reverse,ll,h]) fun j h1 h2=>?_
 rw [List.getElem_reverse]
 simp only [dg,List.getElem_map,List.getElem_range,X6,List.length_range]
 have:L - 1 - (L - 1 - j)=j:=by omega
 rw [this,List.getD_eq_getElem?_getD,List.getElem?_eq_getElem h2]
 rfl
set_option maxHeartbeats 1000000 in
theorem Tn:UnX jC:=by
 intro h k L Q E hk hL q
 unfold jC
 refine zL rfl (Z:=[some (.int (pack k)),some (.int L),none,none]) rfl ?_
 refine aO (aZ (Cq (ws:=[]) (fun R=>rfl) rfl fun g eg og xg=>?_))
 refine aL (Z':=[some (.int (pack k)),some (.int L),some (.loc h.nx),none]) rfl (bZ (aO ?_))
 refine jQ (j:=(L:Int)) (fun _=>rfl) (by omega) (by omega) (fun i Z h'=>i<=L/\∃ s3:Option W,Z = [some (.int (pack (k.take (L - i)))),some (.int L),some (.loc h.nx),s3]/\h'.c h.nx=some (.lst ((dg k L i).map .int))/\∀ n,n≠h.nx->h'.c n=h.c n) ?_ ?_ ⟨Nat.zero_le _,none,by rw [Nat.sub_zero,List.take_of_length_le (by rw [hk.1];exact Yc _)],eg,og⟩
 ·rintro i Z h' N hN hi ⟨_,s3,rfl,e2,o2⟩
  have hi:i<L:=by omega
  obtain ⟨u1,u2⟩:=Fg hk hi
  refine aL (Z':=[some (.int (pack (k.take (L - i)))),some (.int L),some (.loc h.nx),some (.int i)]) rfl ?_
  refine aO (nJ (Jq (aq rfl (Ak e2 (ao (aP (aq rfl (bC (dB (by decide) (aD ?_))))))))))
  refine PJ e2 (by rw [X6];unfold dg;simp;omega) fun g2 a1 a2 a3=>bZ ?_
  refine aZ (aP (aq rfl (bC (iV ⟨by decide,64,by decide,.lit rfl⟩ ?_))))
  rw [u2]
  refine aL (Z':=[some (.int (pack (k.take (L - (i+1))))),some (.int L),some (.loc h.nx),some (.int i)]) rfl (bZ (hN _ _ ⟨by omega,_,rfl,?_,fun n hn=>by rw [a2 n hn];exact o2 n hn⟩))
  rw [a1,u1]
  unfold dg
  rw [List.range_succ,List.map_append,List.map_append]
  rfl
 ·rintro Z h' ⟨_,s3,rfl,e2,o2⟩
  have eL:(L:Int).toNat=L:=by omega
  rw [eL] at e2
  unfold j9
  refine bZ (cQ (Uo rfl e2 ?_))
  rw [<-List.map_reverse,Qu hk.1]
  exact ⟨fun n c hn ec=>by rw [o2 n (by omega)];exact ec,.inl ⟨by rw [Lo];exact uX _ _,q⟩⟩
def ptW (t:Tm):W:=.tup [.int (pack t.1),.int t.2]
def PtX (c0:MSp):Prop:=∀ {h:Gh} {us:List Tm} {L:Nat} {Q:WK} {E:XWK},(∀ t∈us,Kb L t.1)->us.length<=1000->L<=8->Q (.lst (us.map ptW)) h->c0 [smW us] h Q E
theorem W3 {pk:MSp}(hpk:PkX pk):PtX (dY pk):=by
 intro h us L Q E hu hz hL q
 unfold dY
 refine jj rfl (Z:=[some (smW us)]) rfl (cQ (n6 (kZ (aq rfl (yW (ws:=us.map tmW) (o:=none) rfl (fW.mk (Ye (m:=1000) (by rw [X6];exact hz) (by decide)) ?_))))))
 refine jk (fun i acc g=>g=h/\acc=(us.take i).map ptW) ?_ ?_ ⟨rfl,rfl⟩
 ·rintro i w acc g N hN e ⟨rfl,rfl⟩
  rw [List.getElem?_map] at e
  cases qe:us[i]? with
  | none=>rw [qe] at e;cases e
  | some t=>
   rw [qe] at e
   cases e
   refine ⟨[.tup (t.1.map .int),.int t.2],rfl,jY (kj (cH (ao (aR (ao (aq rfl (aD ?_)))))))⟩
   refine hpk (hu t (List.mem_of_getElem? qe)) hL (ao (aq rfl (aD (bQ rfl (hN _ _ ⟨rfl,?_⟩)))))
   rw [List.take_succ,qe,List.map_append]
   rfl
 ·rintro acc g ⟨rfl,rfl⟩
  rw [X6,List.take_length]
  exact uh q
theorem Jd {L:Nat}{h:Gh}{n:Nat}{D:List Tm}{k:List Int}{Q:WK}(e:h.c n=some (.dct (ikv D)))(hD:∀ j∈D.map (·.1),Kb L j)(m:k∈D.map (·.1))(q:Q (.int (getM D k)) h):JC (.loc n) (.int (pack k)) h Q:=by
 show (match h.c n with
  | some (.dct kvs)=>(match pB kvs (.inl (pack k)) with
   | some w=>Q w h
   | none=>False)
  | _=>False)
 rw [e]
 show (match pB (ikv D) (.inl (pack k)) with
  | some w=>Q w h
  | none=>False)
 rw [zB hD (hD k m)]
 cases f:D.find? fun t=>decide (t.1=k) with
 | none=>
  obtain ⟨t,ht,e⟩:=List.mem_map.mp m
  exact absurd (List.find?_eq_none.mp f t ht) (by simp [e])
 | some t=>
  have eg:getM D k=t.2:=by unfold getM;rw [f];rfl
  rw [eg] at q
  exact q
def itW (t:Tm):W:=.tup [.int (pack t.1),.int t.2]
theorem Ly {L:Nat}{h:Gh}{n:Nat}{D:List Tm}{Z : Sw}{Q:WK}(hv:Z[0]?=some (some (.loc n)))(ec:h.c n=some (.dct (ikv D)))(hD:∀ j∈D.map (·.1),Kb L j)(nd:(D.map (·.1)).Nodup)(hz:D.length<=30000)
  (q:∀ rs,rm D rs->Q (.lst (rs.map itW)) h) :
  mLC ow1 [0] (nIt (mCB xT (aA (aG 0) aW))) (dz (mOp kNe (mOp JC (aG 1) (aG 0)) (mC (.int 0)))) (lq (aA (aG 0) (aA (mOp JC (aG 1) (aG 0)) aW))) Z h Q:=by
 have eb:n8 [0] Z = [some (.loc n)]:=by unfold n8;rw [X5,hv];rfl
 refine n6 (kZ (cC (ao (aq hv (aD ?_)))))
 show (match h.c n with
  | some (.dct kvs)=>∃ ks:List Int,yH kvs ks/\∀ js:List Int,js.Perm ks->js.Pairwise (· < ·)->_
  | _=>False)
 rw [ec]
 refine ⟨(D.map (·.1)).map pack,by unfold yH ikv;rw [List.map_map,List.map_map,List.map_map];rfl,fun js pj sj=>?_⟩
 obtain ⟨ks,pk,sk⟩:=Fz (D.map (·.1)) nd
 have ej:js=ks.map pack:=by
  refine Ao (pj.trans (pk.map pack).symm) sj ?_
  rw [List.pairwise_map]
  exact List.Pairwise.imp_of_mem (fun {a b} ha hb h=>(DP (hD a (pk.mem_iff.mp ha)) (hD b (pk.mem_iff.mp hb))).mp h) sk
 subst ej
 have q:=q _ ⟨ks,pk,sk,rfl⟩
 have lk:ks.length=D.length:=by rw [pk.length_eq,X6]
 refine yW (ws:=(ks.map pack).map .int) (o:=none) rfl (fW.mk (Ye (m:=30000) (by rw [X6,X6];omega) (by decide)) ?_)
 refine jk (fun i acc h'=>h'=h/\acc=(mZ D (ks.take i)).map itW) ?_ ?_ ⟨rfl,rfl⟩
 ·rintro i w acc h' N hN e ⟨rfl,rfl⟩
  rw [List.map_map,List.getElem?_map] at e
  cases qe:ks[i]? with
  | none=>rw [qe] at e;cases e
  | some k=>
   rw [qe] at e
   cases e
   have mk:=pk.mem_iff.mp (List.mem_of_getElem? qe)
   refine ⟨[.int (pack k)],rfl,?_⟩
   rw [eb]
   have eo:mZ D (ks.take (i+1))=mZ D (ks.take i)++([(k,getM D k)].filter fun t:Tm=>decide (t.2≠0)):=by
    unfold mZ
    rw [List.take_succ,qe,List.map_append,List.filter_append]
    rfl
   refine bF (aP (aP (aq rfl (aq rfl (Jd ec hD mk (bC (Dz (nU ?_))))))))
   refine N8 (fun ne=>?_) fun ne=>?_
   ·refine cH (ao (aq rfl (ao (aP (aq rfl (aq rfl (Jd ec hD mk (aD (bQ rfl ?_)))))))))
    refine hN _ _ ⟨rfl,?_⟩
    rw [eo,List.filter_cons,if_pos (by simpa using ne),List.map_append]
    rfl
   ·refine hN _ _ ⟨rfl,?_⟩
    rw [eo,List.filter_cons,if_neg (by simpa using ne)]
    simp
 ·rintro acc h' ⟨rfl,rfl⟩
  rw [X6,X6,List.take_length]
  exact q
def Wn (c0:MSp):Prop:=∀ {h:Gh} {n:Nat} {D:List Tm} {L:Nat} {Q:WK} {E:XWK},h.c n=some (.dct (ikv D))->(∀ j∈D.map (·.1),Kb L j)->(D.map (·.1)).Nodup->D.length<=30000->(∀ rs,rm D rs->(rs.length<=600->Q (.tup (rs.map itW)) h)/\(600<rs.length->E ⟨"TooMuch",[]⟩ h))->c0 [.loc n] h Q E
theorem Od:Wn dF:=by
 intro h n D L Q E ec hD nd hz q
 unfold dF
 refine jj rfl (Z:=[some (.loc n),none]) rfl (aO (aZ (cC (ao (Ly rfl ec hD nd hz fun rs hr=>aD (je ?_))))))
 obtain ⟨q1,q2⟩:=q rs hr
 refine aL (Z':=[some (.loc n),some (.tup (rs.map itW))]) rfl (bZ (aO (cJ (bF (aP (cC (ao (aq rfl (aD (fQ (xs:=rs.map itW) rfl ?_))))))))))
 rw [X6]
 refine bC (pQ (nU (yt (fun c=>lJ (q2 (by omega))) fun c=>bK (bZ ?_))))
 unfold eG
 exact cQ (aq rfl (uh (q1 (by omega))))
def Gk (rs:List Tm):Prop:=∃ t∈rs,∃ p∈t.1,60<p
instance (rs:List Tm):Decidable (Gk rs):=by unfold Gk;infer_instance
def CpX (c0:MSp):Prop:=∀ {h:Gh} {rs:List Tm} {L:Nat} {Q:WK} {E:XWK},(∀ t∈rs,t.1.length=L)->L<=8->rs.length<=600->(¬ Gk rs->Q .non h)->(Gk rs->E ⟨"TooMuch",[]⟩ h)->c0 [smW rs] h Q E
theorem Wx:CpX d7:=by
 intro h rs L Q E hl hL hz q1 q2
 unfold d7
 refine jj rfl (Z:=[some (smW rs),none,none]) rfl ?_
 refine nM (ws:=rs.map tmW) rfl ?_
 refine gj (fun i Z h'=>h'=h/\(∀ t∈rs.take i,∀ p∈t.1,¬ 60<p)/\∃ s1 s2:Option W,Z = [some (smW rs),s1,s2]) ?_ ?_ ⟨rfl,fun _ h=>by simp at h,none,none,rfl⟩
 ·rintro i w Z h' N hN e ⟨rfl,lo,s1,s2,rfl⟩
  rw [List.getElem?_map] at e
  cases qe:rs[i]? with
  | none=>rw [qe] at e;cases e
  | some t=>
   rw [qe] at e
   cases e
   have mt:=List.mem_of_getElem? qe
   have lt:=hl t mt
   refine iJ rfl rfl (cT (aL (Z':=[some (smW rs),some (.tup (t.1.map .int)),s2]) rfl (cT (aL (Z':=[some (smW rs),some (.tup (t.1.map .int)),some (.int t.2)]) rfl (m7 ?_)))))
   refine cJ (gZ (cC (ao (n6 (kZ (aq rfl (yW (ws:=t.1.map .int) (o:=none) rfl (fW.mk (Ye (m:=1000) (by rw [X6];omega) (by decide)) ?_))))))))
   refine jk (fun j acc g=>g=h'/\acc=((t.1.take j).map fun p=>decide (p>60)).map .bl) ?_ ?_ ⟨rfl,rfl⟩
   ·rintro j w acc g N' hN' e' ⟨rfl,rfl⟩
    obtain ⟨p,ep,rfl⟩:=ints_get e'
    refine ⟨[.int p],rfl,jY (kj (aP (aq rfl (bC (pQ (hN' _ _ ⟨rfl,?_⟩))))))⟩
    rw [List.take_succ,ep]
    simp
   ·rintro acc g ⟨rfl,rfl⟩
    rw [X6,List.take_length]
    refine aD (Jm (us:=(t.1.map fun p=>decide (p>60)).map .bl) (bs:=t.1.map fun p=>decide (p>60)) rfl (vf _) (Eh rfl ?_))
    have ea:(t.1.map fun p=>decide (p>60)).any id=decide (∃ p∈t.1,60<p):=by
     rw [Bool.eq_iff_iff,List.any_map,List.any_eq_true,decide_eq_true_iff]
     constructor
     ·rintro ⟨p,hp,e⟩;exact ⟨p,hp,by simpa using e⟩
     ·rintro ⟨p,hp,e⟩;exact ⟨p,hp,by simpa using e⟩
    rw [ea]
    refine yt (fun c=>lJ (q2 ⟨t,mt,c⟩)) fun c=>bK (hN _ _ ⟨rfl,fun u hu p hp h60=>?_,_,_,rfl⟩)
    rw [List.take_succ,qe] at hu
    rcases List.mem_append.mp hu with hu | hu
    ·exact lo u hu p hp h60
    ·have:u=t:=by simpa using hu
     exact c ⟨p,by rw [<-this];exact hp,h60⟩
 ·rintro Z h' ⟨rfl,lo,s1,s2,rfl⟩
  rw [X6,List.take_length] at lo
  exact bZ (q1 fun ⟨t,ht,p,hp,h60⟩=>lo t ht p hp h60)
def Over (us vs rs:List Tm):Prop:=20000<us.length*vs.length\/600<rs.length\/Gk rs
def Tc (c0:MSp):Prop:=∀ {h:Gh} {us vs:List Tm} {L:Nat} {Q:WK} {E:XWK},Ms L us->Ms L vs->L<=8->(∀ rs (h':Gh),rm (gq us vs) rs->Ge h h'->(¬ Over us vs rs->Q (smW rs) h')/\(Over us vs rs->E ⟨"TooMuch",[]⟩ h'))->c0 [smW us,smW vs] h Q E
theorem Q6 {L:Nat}{h:Gh}{n:Nat}{D:List Tm}{k:List Int}{x:Int}{N:Gh->Prop}(e:h.c n=some (.dct (ikv D)))(hD:∀ j∈D.map (·.1),Kb L j)(hk:Kb L k)(hz:D.length<=30000)(q:∀ g:Gh,g.c n=some (.dct (ikv (pA D k x)))->(∀ m,m≠n->g.c m=h.c m)->g.nx=h.nx->N g):Fl (.loc n) (.int (pack k)) (.int x) h N:=by
 show (match h.c n with
  | some (.dct kvs)=>fW (kvs.length+1) (N (h.set n (.dct (MN kvs (.inl (pack k)) (.int x)))))
  | _=>False)
 rw [e]
 refine fW.mk (Ye (m:=30001) (by unfold ikv;rw [X6];omega) (by decide)) ?_
 rw [Le hD hk]
 exact q _ (DX _ _ _) (fun _ e=>tO e) rfl
theorem O4 {L:Nat}{h:Gh}{n:Nat}{D:List Tm}{k:List Int}{Q:WK}(e:h.c n=some (.dct (ikv D)))(hD:∀ j∈D.map (·.1),Kb L j)(hk:Kb L k)(q:Q (.int (getM D k)) h):Hi (.loc n) [.int (pack k),.int 0] h Q:=by
 show (match h.c n,(some (Sum.inl (pack k)):Option Key) with
  | some (.dct kvs),some k=>Q ((pB kvs k).getD (.int 0)) h
  | _,_=>False)
 rw [e]
 show Q ((pB (ikv D) (.inl (pack k))).getD (.int 0)) h
 rw [Mx hD hk]
 exact q
theorem Ku {n:Nat}{kvs:List (Key×W)}{h:Gh}{P:Prop}(e:h.c n=some (.dct kvs))(p:P):zM h (.loc n) P:=by
 unfold zM
 dsimp only
 rw [e]
 exact p
theorem Om {r:MM}{mo:ME}{ma:MA}{Z : Sw}{h:Gh}{Q:WK}(x:mo Z h fun x h1=>zM h1 x (ma Z h1 fun xs h2=>r x xs h2 Q)):Uy r mo ma Z h Q:=x
theorem Lx {Z : Sw}{h:Gh}{Q:WK}(x:∀ g:Gh,g.c h.nx=some (.dct (ikv []))->(∀ n,n≠h.nx->g.c n=h.c n)->g.nx=h.nx+1->Q (.loc h.nx) g):Kv Z h Q:=x _ (Ef _ _) (fun _ e=>rU e) rfl
theorem sO {us vs:List Tm}{i:Nat}{t:Tm}(e:us[i]?=some t):gq (us.take (i+1)) vs=mulR t.1 t.2 vs (gq (us.take i) vs):=by
 rw [List.take_succ,e]
 exact fY ..
theorem rD {k:List Int}{n:Int}{vs D:List Tm}{i:Nat}{s:Tm}(e:vs[i]?=some s):mulR k n (vs.take (i+1)) D=Iu (mulR k n (vs.take i) D) (fC k s.1) (n*s.2):=by
 rw [List.take_succ,e]
 exact fX ..
theorem Ms.kb {L:Nat}{us:List Tm}(h:Ms L us):∀ t∈us,t.1.length=L/\∀ p∈t.1,0<=p/\p<=40:=fun t ht=>⟨(h.2.2 t ht).1,(h.2.2 t ht).2.2.2⟩
theorem rm.facts {L:Nat}{D rs:List Tm}(hD:∀ k∈D.map (·.1),Kb L k)(nd:(D.map (·.1)).Nodup)(a:rm D rs):(∀ t∈rs,Kb L t.1/\t.2≠0)/\(rs.map (·.1)).Pairwise (· < ·):=by
 obtain ⟨ks,pk,sk,rfl⟩:=a
 refine ⟨fun t ht=>?_,vD sk⟩
 have:=DK nd (fun k hk=>pk.mem_iff.mp hk) ht
 exact ⟨hD t.1 (List.mem_map.mpr ⟨t,this.1,rfl⟩),this.2⟩
theorem G6 {ws:List W}{i:Nat}{g:MG}{b:MS}{D:bL}{Z : Sw}{h:Gh}(hv:Z[i]?=some (some (.lst ws)))(x:eO ⟨ws,none⟩ g b D ws Z h):oX (nIt (aG i)) g b D Z h:=rR (kZ (aq hv (yW rfl (rM x))))
theorem Ib {w:W}{l:List W}:atI (w::l) 0=some w:=by
 unfold atI ixN
 simp
theorem lets {L:Nat}{us:List Tm}{Z : Sw}{h:Gh}{Q:WK}(hv:Z[0]?=some (some (smW us)))(hl:∀ t∈us,t.1.length=L)(q:∀ l:Nat,(us≠[]->l=L)->Q (.int l) h) :
  mIf (zm (aG 0)) (mCB kLen (aA (mOp kIx (mOp kIx (aG 0) (mC (.int 0))) (mC (.int 0))) aW)) (mC (.int 0)) Z h Q:=by
 cases us with
 | nil=>exact Ln (gZ (aq hv (Eh (b:=false) rfl (sI (bC (q 0 fun n=>absurd rfl n))))))
 | cons t us=>
  refine Ln (gZ (aq hv (Eh (b:=true) rfl (uT (cC (ao (aP (aP (aq hv (bC (lA (ws:=(t::us).map tmW) rfl (w:=tmW t) (by rw [X5];exact Ib) (bC (lA (ws:=[.tup (t.1.map .int),.int t.2]) rfl (w:=.tup (t.1.map .int)) Ib (aD (fQ (xs:=t.1.map .int) rfl ?_)))))))))))))))
  rw [X6]
  exact q _ fun _=>hl t (by simp)
theorem Xi {L l:Nat}{rs:List Tm}{un:MSp}(hun:UnX un){Z : Sw}{h:Gh}{Q:WK}(hv:Z[10]?=some (some (.tup (rs.map itW))))(hv9:Z[9]?=some (some (.int l)))(hr:∀ t∈rs,Kb L t.1)(hl:rs≠[]->l=L)(hL:L<=8)(hz:rs.length<=600)(q:Q (.lst (rs.map tmW)) h) :
  mLC (owT 2) [9] (nIt (aG 10)) yd (lq (aA (bD un EF (aA (aG 0) (aA (aG 2) aW))) (aA (aG 1) aW))) Z h Q:=by
 have eb:n8 [9] Z = [some (.int l)]:=by unfold n8;rw [X5,hv9];rfl
 refine n6 (kZ (aq hv (yW (ws:=rs.map itW) (o:=none) rfl (fW.mk (Ye (m:=1000) (by rw [X6];omega) (by decide)) ?_))))
 refine jk (fun i acc g=>g=h/\acc=(rs.take i).map tmW) ?_ ?_ ⟨rfl,rfl⟩
 ·rintro i w acc g N hN e ⟨rfl,rfl⟩
  rw [List.getElem?_map] at e
  cases qe:rs[i]? with
  | none=>rw [qe] at e;cases e
  | some t=>
   rw [qe] at e
   cases e
   have mt:=List.mem_of_getElem? qe
   have el:=hl (List.ne_nil_of_mem mt)
   subst el
   refine ⟨[.int (pack t.1),.int t.2],rfl,?_⟩
   rw [eb]
   refine jY (kj (cH (ao (aR (ao (aq rfl (ao (aq rfl (aD ?_)))))))))
   refine hun (hr t mt) hL (ao (aq rfl (aD (bQ rfl (hN _ _ ⟨rfl,?_⟩)))))
   rw [List.take_succ,qe,List.map_append]
   rfl
 ·rintro acc g ⟨rfl,rfl⟩
  rw [X6,List.take_length]
  exact q
abbrev ht (us vs:List Tm)(h:Gh)(r:Sw):Sw:=some (smW us)::some (smW vs)::some (.loc h.nx)::some (.lst (vs.map ptW))::r
set_option maxHeartbeats 2000000 in
theorem K8 {so un pt cp:MSp}(hso:Wn so)(hun:UnX un)(hpt:PtX pt)(hcp:CpX cp):Tc (uE so un pt cp):=by
 intro h us vs L Q E hu hv hL q
 have lu:=hu.1
 have lv:=hv.1
 have ku:=hu.kb
 have kv:=hv.kb
 have kbu:∀ t∈us,Kb L t.1:=fun t ht=>⟨(ku t ht).1,fun p hp=>by have:=(ku t ht).2 p hp;omega⟩
 have kbv:∀ t∈vs,Kb L t.1:=fun t ht=>⟨(kv t ht).1,fun p hp=>by have:=(kv t ht).2 p hp;omega⟩
 have kD:=jo ku kv
 obtain ⟨ks,pk,sk⟩:=Fz _ (jy us vs)
 have hO:rm (gq us vs) (mZ (gq us vs) ks):=⟨ks,pk,sk,rfl⟩
 unfold uE
 refine jj rfl (Z:=[some (smW us),some (smW vs),none,none,none,none,none,none,none,none,none,none]) rfl ?_
 refine aO (cJ (bF (aP (aP (cC (ao (aq rfl (aD (fQ (xs:=us.map tmW) rfl (cC (ao (aq rfl (aD (fQ (xs:=vs.map tmW) rfl ?_))))))))))))))
 rw [X6,X6]
 refine eH (.of (n:=8) (m:=8) (by unfold Sm;show (us.length:Int).natAbs<256;omega) (by unfold Sm;show (vs.length:Int).natAbs<256;omega) (by decide) (by decide)) (bC (pQ (nU ?_)))
 have em:(us.length:Int)*(vs.length:Int)=((us.length*vs.length:Nat):Int):=by rw [Int.natCast_mul]
 rw [em]
 generalize ez:us.length*vs.length=z
 refine yt (fun c=>lJ ((q _ h hO ⟨Yc _,fun _ _=>rfl⟩).2 (.inl (by omega)))) fun c=>bK (bZ ?_)
 have hz:us.length*vs.length<=20000:=by omega
 unfold sH
 refine aO (aZ (Lx fun g eg og xg=>?_))
 refine aL (Z':=[some (smW us),some (smW vs),some (.loc h.nx),none,none,none,none,none,none,none,none,none]) rfl (bZ ?_)
 refine aO (aZ (aR (ao (aq rfl (aD (hpt kbv (by omega) hL ?_))))))
 refine aL (Z':=ht us vs h [none,none,none,none,none,none,none,none]) rfl (bZ ?_)
 refine aO (rR (kZ (aR (ao (aq rfl (aD (hpt kbu (by omega) hL (yW (ws:=us.map ptW) (o:=none) rfl (rM ?_)))))))))
 refine gj (fun i Z h'=>∃ s4 s5 s6 s7 s8:Option W,Z = ht us vs h [s4,s5,s6,s7,s8,none,none,none]/\h'.c h.nx=some (.dct (ikv (gq (us.take i) vs)))/\h'.nx=h.nx+1/\∀ n,n≠h.nx->h'.c n=h.c n) ?_ ?_ ⟨none,none,none,none,none,rfl,eg,xg,og⟩
 ·rintro i w Z h' N hN e ⟨s4,s5,s6,s7,s8,rfl,e2,x2,o2⟩
  rw [List.getElem?_map] at e
  cases qe:us[i]? with
  | none=>rw [qe] at e;cases e
  | some t=>
   rw [qe] at e
   cases e
   have mt:=List.mem_of_getElem? qe
   have zi:(us.take i).length*vs.length<=20000:=Ye (Nat.mul_le_mul_right _ (by rw [List.length_take];omega)) hz
   have ldi:=Ye (lD (us.take i) vs) zi
   have kDi:∀ k∈(gq (us.take i) vs).map (·.1),Kb L k:=jo (fun u hu=>ku u (List.mem_of_mem_take hu)) kv
   refine iJ rfl rfl (cT (aL (Z':=ht us vs h [some (.int (pack t.1)),s5,s6,s7,s8,none,none,none]) rfl (cT (aL (Z':=ht us vs h [some (.int (pack t.1)),some (.int t.2),s6,s7,s8,none,none,none]) rfl (m7 ?_)))))
   refine G6 (ws:=vs.map ptW) rfl ?_
   refine gj (fun j Z h'=>∃ s6 s7 s8:Option W,Z = ht us vs h [some (.int (pack t.1)),some (.int t.2),s6,s7,s8,none,none,none]/\h'.c h.nx=some (.dct (ikv (mulR t.1 t.2 (vs.take j) (gq (us.take i) vs))))/\h'.nx=h.nx+1/\∀ n,n≠h.nx->h'.c n=h.c n) ?_ ?_ ⟨s6,s7,s8,rfl,e2,x2,o2⟩
   ·rintro j w Z h2 N2 hN2 e' ⟨s6,s7,s8,rfl,e3,x3,o3⟩
    rw [List.getElem?_map] at e'
    cases qf:vs[j]? with
    | none=>rw [qf] at e';cases e'
    | some s=>
     rw [qf] at e'
     cases e'
     have ms:=List.mem_of_getElem? qf
     have kDj:=DW (t:=t) (vs:=vs.take j) (ku t mt) (fun u hu=>kv u (List.mem_of_mem_take hu)) kDi
     have kz:=Bc (ku t mt) (kv s ms)
     have lj:=pY t.1 t.2 (vs.take j) (gq (us.take i) vs)
     rw [List.length_take] at lj
     refine iJ rfl rfl (cT (aL (Z':=ht us vs h [some (.int (pack t.1)),some (.int t.2),some (.int (pack s.1)),s7,s8,none,none,none]) rfl (cT (aL (Z':=ht us vs h [some (.int (pack t.1)),some (.int t.2),some (.int (pack s.1)),some (.int s.2),s8,none,none,none]) rfl (m7 ?_)))))
     refine aO (aZ (aP (aq rfl (aq rfl (eE ?_)))))
     rw [<-wJ (ku t mt).1 (kv s ms).1]
     refine aL (Z':=ht us vs h [some (.int (pack t.1)),some (.int t.2),some (.int (pack s.1)),some (.int s.2),some (.int (pack (fC t.1 s.1))),none,none,none]) rfl (bZ ?_)
     refine aZ (aP (Om (aq rfl (Ku e3 (ao (aq rfl (ao (bC (aD (O4 e3 kDj kz ?_))))))))))
     refine aP (aq rfl (aq rfl (eH (.of (hu.2.2 t mt).2.2.1 (hv.2.2 s ms).2.2.1 (by decide) (by decide)) (eE (w6 (aq rfl (aq rfl ?_)))))))
     refine Q6 e3 kDj kz (by omega) fun g2 a1 a2 a3=>bZ (hN2 _ _ ⟨_,_,_,rfl,?_,by omega,fun n hn=>by rw [a2 n hn];exact o3 n hn⟩)
     rw [rD qf]
     exact a1
   ·rintro Z h2 ⟨s6,s7,s8,rfl,e3,x3,o3⟩
    rw [X6,List.take_length] at e3
    refine bZ (hN _ _ ⟨_,_,_,_,_,rfl,?_,x3,o3⟩)
    rw [sO qe]
    exact e3
 ·rintro Z h' ⟨s4,s5,s6,s7,s8,rfl,e2,x2,o2⟩
  rw [X6,List.take_length] at e2
  have ge:Ge h h':=⟨by omega,fun n hn=>o2 n (by omega)⟩
  refine bZ ?_
  unfold ug
  refine aO (aZ (lets (L:=L) rfl (fun t ht=>(ku t ht).1) fun l el=>?_))
  refine aL (Z':=ht us vs h [s4,s5,s6,s7,s8,some (.int l),none,none]) rfl (bZ ?_)
  refine aO (aZ (aR (ao (aq rfl (aD ?_)))))
  refine hso e2 kD (jy us vs) (Ye (lD us vs) (by omega)) fun rs hr=>?_
  obtain ⟨q1,q2⟩:=q rs h' hr ge
  have fr:=(hr.facts kD (jy us vs)).1
  refine ⟨fun l6=>?_,fun l6=>q2 (.inr (.inl l6))⟩
  have hne:rs≠[]->l=L:=fun n=>el fun eu=>n (by
   subst eu
   obtain ⟨ks,pk,sk,rfl⟩:=hr
   have:ks=[]:=pk.eq_nil
   rw [this]
   rfl)
  refine aL (Z':=ht us vs h [s4,s5,s6,s7,s8,some (.int l),some (.tup (rs.map itW)),none]) rfl (bZ ?_)
  refine aO (aZ (cC (ao (Xi hun rfl rfl (fun t ht=>(fr t ht).1) hne hL l6 (aD (je ?_))))))
  refine aL (Z':=ht us vs h [s4,s5,s6,s7,s8,some (.int l),some (.tup (rs.map itW)),some (smW rs)]) rfl (bZ ?_)
  refine aO (nJ (aR (ao (aq rfl (aD ?_)))))
  refine hcp (fun t ht=>(fr t ht).1.1) hL l6 (fun lo=>bZ (cQ (aq rfl (uh (q1 fun o=>?_))))) fun hi=>q2 (.inr (.inr hi))
  rcases o with o | o | o
  ·omega
  ·omega
  ·exact lo o
theorem Jj {h:Gh}{n:Nat}{ts:List Tm}{k:List Int}{x:Int}{N:Gh->Prop}(e:h.c n=some (.dtt (kvW ts)))(hz:ts.length<=30000)(q:∀ g:Gh,g.c n=some (.dtt (kvW (pA ts k x)))->(∀ m,m≠n->g.c m=h.c m)->g.nx=h.nx->N g):ou (.loc n) (.tup (k.map .int)) (.int x) h N:=by
 unfold ou
 rw [oY]
 dsimp only
 rw [e]
 dsimp only
 refine fW.mk (Ye (m:=30001) (by unfold kvW;rw [X6];omega) (by decide)) ?_
 rw [Il]
 exact q _ (DX _ _ _) (fun _ e=>tO e) rfl
theorem LC {h:Gh}{n:Nat}{ts:List Tm}{Z : Sw}{Q:WK}(hv:Z[0]?=some (some (.loc n)))(ec:h.c n=some (.dtt (kvW ts)))(hz:ts.length<=30000)(hs:vo (ts.map (·.1)))
  (q:∀ ks:List (List Int),ks.Perm (ts.map (·.1))->ks.Pairwise (· < ·)->Q (.lst ((mZ ts ks).map tmW)) h) :
  mLC ow1 [0] (nIt (mCB wI (aA (aG 0) aW))) (dz (mOp kNe (mOp Fj (aG 1) (aG 0)) (mC (.int 0)))) (lq (aA (aG 0) (aA (mOp Fj (aG 1) (aG 0)) aW))) Z h Q:=by
 have eb:n8 [0] Z = [some (.loc n)]:=by unfold n8;rw [X5,hv];rfl
 refine n6 (kZ (cC (ao (aq hv (aD ?_)))))
 show (match h.c n with
  | some (.dtt kvs)=>vo (kvs.map (·.1))/\∀ ks:List (List Int),ks.Perm (kvs.map (·.1))->ks.Pairwise (· < ·)->_
  | _=>False)
 rw [ec]
 have ek:(kvW ts).map (·.1)=ts.map (·.1):=by unfold kvW;rw [List.map_map];rfl
 refine ⟨by rw [ek];exact hs,fun ks pk sk=>?_⟩
 rw [ek] at pk
 have q:=q ks pk sk
 have lk:ks.length=ts.length:=by rw [pk.length_eq,X6]
 refine yW (ws:=ks.map fun k=>.tup (k.map .int)) (o:=none) rfl (fW.mk (Ye (m:=30000) (by rw [X6];omega) (by decide)) ?_)
 refine jk (fun i acc h'=>h'=h/\acc=(mZ ts (ks.take i)).map tmW) ?_ ?_ ⟨rfl,rfl⟩
 ·rintro i w acc h' N hN e ⟨rfl,rfl⟩
  rw [List.getElem?_map] at e
  cases qe:ks[i]? with
  | none=>rw [qe] at e;cases e
  | some k=>
   rw [qe] at e
   cases e
   have mk:=pk.mem_iff.mp (List.mem_of_getElem? qe)
   refine ⟨[.tup (k.map .int)],rfl,?_⟩
   rw [eb]
   have eo:mZ ts (ks.take (i+1))=mZ ts (ks.take i)++([(k,getM ts k)].filter fun t:Tm=>decide (t.2≠0)):=by
    unfold mZ
    rw [List.take_succ,qe,List.map_append,List.filter_append]
    rfl
   refine bF (aP (aP (aq rfl (aq rfl (IW ec mk (bC (Dz (nU ?_))))))))
   refine N8 (fun ne=>?_) fun ne=>?_
   ·refine cH (ao (aq rfl (ao (aP (aq rfl (aq rfl (IW ec mk (aD (bQ rfl ?_)))))))))
    refine hN _ _ ⟨rfl,?_⟩
    rw [eo,List.filter_cons,if_pos (by simpa using ne),List.map_append]
    rfl
   ·refine hN _ _ ⟨rfl,?_⟩
    rw [eo,List.filter_cons,if_neg (by simpa using ne)]
    simp
 ·rintro acc h' ⟨rfl,rfl⟩
  rw [X6,List.take_length]
  exact q
def JR (c0:MSp):Prop:=∀ {h:Gh} {n:Nat} {ts:List Tm} {Q:WK} {E:XWK},h.c n=some (.dtt (kvW ts))->ts.length<=30000->vo (ts.map (·.1))->(∀ rs:List Tm,rm ts rs->Q (smW rs) h)->c0 [.loc n] h Q E
theorem yO:JR iG:=by
 intro h n ts Q E ec hz hs q
 unfold iG
 refine jj rfl (Z:=[some (.loc n)]) rfl (cQ (cC (ao (LC rfl ec hz hs fun ks pk sk=>aD (uh (q _ ⟨ks,pk,sk,rfl⟩))))))
theorem JR.x {c0:MSp}(h:JR c0):Wh c0:=fun e z s q=>h e (by omega) s fun rs ⟨ks,pk,sk,er⟩=>by rw [er];exact q ks pk sk
theorem Lg {k l:List Int}{i j:Nat}{Z : Sw}{h:Gh}{Q:WK}(hi:Z[i]?=some (some (.tup (k.map .int))))(hj:Z[j]?=some (some (.tup (l.map .int))))(hz:k.length<=8)(hl:k.length=l.length)(q:Q (.tup ((fC k l).map .int)) h) :
  mCB gD (aA (mLC (owT 2) [] (S9 (aA (aG i) (aA (aG j) aW))) yd (mOp cg (aG 0) (aG 1))) aW) Z h Q:=by
 have lz:∀ {as bs:List W},(kJ as bs).length<=as.length:=fun {as bs}=>by
  induction as generalizing bs with
  | nil=>exact Yc _
  | cons a as ih=>cases bs with
   | nil=>exact Nat.zero_le _
   | cons b bs=>exact Nat.succ_le_succ ih
 have ez:(kJ (k.map W.int) (l.map .int)).length=k.length:=by
  clear q hi hj lz hz
  induction k generalizing l with
  | nil=>rfl
  | cons a k ih=>cases l with
   | nil=>simp at hl
   | cons b l=>exact congrArg (· + 1) (ih (by simpa using hl))
 refine cC (ao (n6 (Jy (ao (aq hi (ao (aq hj (aD (RT (as:=k.map .int) (bs:=l.map .int) rfl rfl rfl ?_)))))))))
 refine fW.mk (Ye (m:=1000) (by rw [ez];omega) (by decide)) ?_
 refine jk (fun i acc g=>g=h/\acc=(fC (k.take i) (l.take i)).map .int) ?_ ?_ ⟨rfl,rfl⟩
 ·rintro i w acc g N hN e ⟨rfl,rfl⟩
  obtain ⟨a,b,ea,eb,rfl⟩:=qM e
  obtain ⟨p,ep,rfl⟩:=ints_get ea
  obtain ⟨r,er,rfl⟩:=ints_get eb
  refine ⟨[.int p,.int r],rfl,jY (kj (aP (aq rfl (aq rfl (eE (hN _ _ ⟨rfl,?_⟩))))))⟩
  rw [List.take_succ,List.take_succ,ep,er]
  show _=(fC (k.take i++[p]) (l.take i++[r])).map W.int
  rw [lV (by rw [List.length_take,List.length_take,hl]),List.map_append]
  rfl
 ·rintro acc g ⟨rfl,rfl⟩
  rw [ez,List.take_length,hl,List.take_length]
  exact aD (je q)
theorem P0 {rs:List Tm}{ms:List Int}(l:ms.length=rs.length)(hm:∀ (i:Nat) (t:Tm) (m:Int),rs[i]?=some t->ms[i]?=some m->(t.1=[]/\m=0\/m∈t.1/\∀ a∈t.1,a<=m)){M:Int}(hM:ms=[]/\M=0\/M∈ms/\∀ a,a∈ms->a<=M):M>60↔Gk rs:=by
 constructor
 ·intro g
  rcases hM with ⟨_,e⟩ | ⟨hM,_⟩
  ·omega
  ·obtain ⟨i,hi,e⟩:=List.mem_iff_getElem.mp hM
   have et:rs[i]?=some (rs[i]'(by omega)):=List.getElem?_eq_getElem _
   have em:ms[i]?=some M:=by rw [List.getElem?_eq_getElem hi,e]
   rcases hm i _ M et em with ⟨_,e0⟩ | ⟨h1,_⟩
   ·omega
   ·exact ⟨_,List.mem_of_getElem? et,M,h1,g⟩
 ·rintro ⟨t,ht,p,hp,h60⟩
  obtain ⟨i,hi,e⟩:=List.mem_iff_getElem.mp ht
  have et:rs[i]?=some t:=by rw [List.getElem?_eq_getElem hi,e]
  have em:ms[i]?=some (ms[i]'(by omega)):=List.getElem?_eq_getElem _
  have hm1:=hm i t _ et em
  have mm:=List.mem_of_getElem? em
  rcases hm1 with ⟨e0,_⟩ | ⟨_,h2⟩
  ·rw [e0] at hp;cases hp
  ·have:=h2 p hp
   rcases hM with ⟨e1,_⟩ | ⟨_,h3⟩
   ·exact absurd e1 (List.ne_nil_of_mem mm)
   ·have:=h3 _ mm
    omega
theorem TQ {rs:List Tm}{i:Nat}{Z : Sw}{h:Gh}{Q:WK}(hi:Z[i]?=some (some (smW rs)))(hz:rs.length<=30000)(q:∀ M:Int,(M>60↔Gk rs)->Q (.int M) h) :
  mCB Cd (aA (mLC (owT 2) [] (nIt (aG i)) yd (mCB rW (aA (aG 0) aW))) aW) Z h Q:=by
 refine cC (ao (n6 (kZ (aq hi (yW (ws:=rs.map tmW) (o:=none) rfl (fW.mk (Ye (m:=30000) (by rw [X6];omega) (by decide)) ?_))))))
 refine jk (fun j acc g=>g=h/\∃ ms:List Int,acc=ms.map .int/\ms.length=j/\j<=rs.length/\∀ (i:Nat) (t:Tm) (m:Int),rs[i]?=some t->ms[i]?=some m->(t.1=[]/\m=0\/m∈t.1/\∀ a∈t.1,a<=m)) ?_ ?_ ⟨rfl,[],rfl,rfl,Nat.zero_le _,fun _ _ _ _ h=>by simp at h⟩
 ·rintro j w acc g N hN e ⟨rfl,ms,rfl,lm,lj,hm⟩
  rw [List.getElem?_map] at e
  cases qe:rs[j]? with
  | none=>rw [qe] at e;cases e
  | some t=>
   rw [qe] at e
   cases e
   have hj:=(List.getElem?_eq_some_iff.mp qe).1
   refine ⟨[.tup (t.1.map .int),.int t.2],rfl,jY (kj (cC (ao (aq rfl (aD ?_)))))⟩
   refine ⟨t.1,rfl,fun M hM=>?_⟩
   refine hN _ _ ⟨rfl,ms++[M],by rw [List.map_append];rfl,by simp [lm],by omega,fun i u m hu hmm=>?_⟩
   by_cases c:i<ms.length
   ·rw [List.getElem?_append_left c] at hmm
    exact hm i u m hu hmm
   ·have ii:i<ms.length+1:=by have:=(List.getElem?_eq_some_iff.mp hmm).1;simpa using this
    have ei:i=j:=by omega
    subst ei
    rw [<-lm,List.getElem?_concat_length] at hmm
    cases hmm
    rw [qe] at hu
    cases hu
    exact hM
 ·rintro acc g ⟨rfl,ms,rfl,lm,lj,hm⟩
  rw [X6] at lm
  refine aD ⟨ms,rfl,fun M hM=>q M (P0 lm hm hM)⟩
def PrX (c0:MSp):Prop:=∀ {h:Gh} {us vs:List Tm} {L:Nat} {Q:WK} {E:XWK},Ms L us->Ms L vs->L<=8->(∀ rs (h':Gh),rm (gq us vs) rs->Ge h h'->(¬ Over us vs rs->Q (smW rs) h')/\(Over us vs rs->Q .non h'))->c0 [smW us,smW vs] h Q E
abbrev ho (us vs:List Tm)(h:Gh)(w:W)(r:Sw):Sw:=some (smW us)::some (smW vs)::some (.loc h.nx)::some w::r
set_option maxHeartbeats 2000000 in
theorem Rr {od:MSp}(hod:JR od):PrX (iB od):=by
 intro h us vs L Q E hu hv hL q
 have lu:=hu.1
 have lv:=hv.1
 have ku:=hu.kb
 have kv:=hv.kb
 have kD:=jo ku kv
 obtain ⟨ks,pk,sk⟩:=Fz _ (jy us vs)
 have hO:rm (gq us vs) (mZ (gq us vs) ks):=⟨ks,pk,sk,rfl⟩
 unfold iB
 refine jj rfl (Z:=[some (smW us),some (smW vs),none,none,none,none,none,none,none,none]) rfl ?_
 refine aO (cJ (bF (aP (aP (cC (ao (aq rfl (aD (fQ (xs:=us.map tmW) rfl (cC (ao (aq rfl (aD (fQ (xs:=vs.map tmW) rfl ?_))))))))))))))
 rw [X6,X6]
 refine eH (.of (n:=8) (m:=8) (by unfold Sm;show (us.length:Int).natAbs<256;omega) (by unfold Sm;show (vs.length:Int).natAbs<256;omega) (by decide) (by decide)) (bC (pQ (nU ?_)))
 have em:(us.length:Int)*(vs.length:Int)=((us.length*vs.length:Nat):Int):=by rw [Int.natCast_mul]
 rw [em]
 generalize ez:us.length*vs.length=z
 refine yt (fun c=>cQ (bC (uh ((q _ h hO (.refl h)).2 (.inl (by omega)))))) fun c=>bK (bZ ?_)
 have hz:us.length*vs.length<=20000:=by omega
 unfold iQ
 refine aO (aZ (ux fun g eg og xg=>?_))
 refine aL (Z':=[some (smW us),some (smW vs),some (.loc h.nx),none,none,none,none,none,none,none]) rfl (bZ (aO ?_))
 refine nM (ws:=us.map tmW) rfl ?_
 refine gj (fun i Z h'=>∃ s3 s4 s5 s6 s7:Option W,Z = [some (smW us),some (smW vs),some (.loc h.nx),s3,s4,s5,s6,s7,none,none]/\h'.c h.nx=some (.dtt (kvW (gq (us.take i) vs)))/\h'.nx=h.nx+1/\∀ n,n≠h.nx->h'.c n=h.c n) ?_ ?_ ⟨none,none,none,none,none,rfl,eg,xg,og⟩
 ·rintro i w Z h' N hN e ⟨s3,s4,s5,s6,s7,rfl,e2,x2,o2⟩
  rw [List.getElem?_map] at e
  cases qe:us[i]? with
  | none=>rw [qe] at e;cases e
  | some t=>
   rw [qe] at e
   cases e
   have mt:=List.mem_of_getElem? qe
   have zi:(us.take i).length*vs.length<=20000:=Ye (Nat.mul_le_mul_right _ (by rw [List.length_take];omega)) hz
   have ldi:=Ye (lD (us.take i) vs) zi
   refine iJ rfl rfl (cT (aL (Z':=ho us vs h (.tup (t.1.map .int)) [s4,s5,s6,s7,none,none]) rfl (cT (aL (Z':=ho us vs h (.tup (t.1.map .int)) [some (.int t.2),s5,s6,s7,none,none]) rfl (m7 ?_)))))
   refine nM (ws:=vs.map tmW) rfl ?_
   refine gj (fun j Z h'=>∃ s5 s6 s7:Option W,Z = ho us vs h (.tup (t.1.map .int)) [some (.int t.2),s5,s6,s7,none,none]/\h'.c h.nx=some (.dtt (kvW (mulR t.1 t.2 (vs.take j) (gq (us.take i) vs))))/\h'.nx=h.nx+1/\∀ n,n≠h.nx->h'.c n=h.c n) ?_ ?_ ⟨s5,s6,s7,rfl,e2,x2,o2⟩
   ·rintro j w Z h2 N2 hN2 e' ⟨s5,s6,s7,rfl,e3,x3,o3⟩
    rw [List.getElem?_map] at e'
    cases qf:vs[j]? with
    | none=>rw [qf] at e';cases e'
    | some s=>
     rw [qf] at e'
     cases e'
     have ms:=List.mem_of_getElem? qf
     have lj:=pY t.1 t.2 (vs.take j) (gq (us.take i) vs)
     rw [List.length_take] at lj
     refine iJ rfl rfl (cT (aL (Z':=ho us vs h (.tup (t.1.map .int)) [some (.int t.2),some (.tup (s.1.map .int)),s6,s7,none,none]) rfl (cT (aL (Z':=ho us vs h (.tup (t.1.map .int)) [some (.int t.2),some (.tup (s.1.map .int)),some (.int s.2),s7,none,none]) rfl (m7 ?_)))))
     refine aO (aZ (Lg rfl rfl (by rw [(ku t mt).1];exact hL) (by rw [(ku t mt).1,(kv s ms).1]) ?_))
     refine aL (Z':=ho us vs h (.tup (t.1.map .int)) [some (.int t.2),some (.tup (s.1.map .int)),some (.int s.2),some (.tup ((fC t.1 s.1).map .int)),none,none]) rfl (bZ ?_)
     refine aZ (aP (RZ (aq rfl (Kg e3 (ao (aq rfl (ao (bC (aD (Vq e3 ?_))))))))))
     refine aP (aq rfl (aq rfl (eH (.of (hu.2.2 t mt).2.2.1 (hv.2.2 s ms).2.2.1 (by decide) (by decide)) (eE (w6 (aq rfl (aq rfl ?_)))))))
     refine Jj e3 (by omega) fun g2 a1 a2 a3=>bZ (hN2 _ _ ⟨_,_,_,rfl,?_,by omega,fun n hn=>by rw [a2 n hn];exact o3 n hn⟩)
     rw [rD qf]
     exact a1
   ·rintro Z h2 ⟨s5,s6,s7,rfl,e3,x3,o3⟩
    rw [X6,List.take_length] at e3
    refine bZ (hN _ _ ⟨_,_,_,_,_,rfl,?_,x3,o3⟩)
    rw [sO qe]
    exact e3
 ·rintro Z h' ⟨s3,s4,s5,s6,s7,rfl,e2,x2,o2⟩
  rw [X6,List.take_length] at e2
  have ge:Ge h h':=⟨by omega,fun n hn=>o2 n (by omega)⟩
  have ld:=lD us vs
  refine bZ ?_
  unfold jt
  refine aO (aZ (aR (ao (aq rfl (aD ?_)))))
  refine hod e2 (by omega) (lM (L:=L) (jy us vs) fun t ht=>(kD t.1 (List.mem_map.mpr ⟨t,ht,rfl⟩)).1) fun rs hr=>?_
  obtain ⟨q1,q2⟩:=q rs h' hr ge
  have lr:rs.length<=20000:=by
   obtain ⟨ks,pk,sk,rfl⟩:=hr
   have:=uq (gq us vs) ks
   rw [pk.length_eq,X6] at this
   omega
  refine aL (Z':=[some (smW us),some (smW vs),some (.loc h.nx),s3,s4,s5,s6,s7,some (smW rs),none]) rfl (bZ (aO (aZ (TQ rfl (by omega) fun M hM=>?_))))
  refine aL (Z':=[some (smW us),some (smW vs),some (.loc h.nx),s3,s4,s5,s6,s7,some (smW rs),some (.int M)]) rfl (bZ (aO (cJ ?_)))
  refine u6 (bF (aP (cC (ao (aq rfl (aD (fQ (xs:=rs.map tmW) rfl ?_)))))))
  rw [X6]
  refine bC (pQ (nU (yt (fun c=>uT (cQ (bC (uh (q2 (.inr (.inl (by omega)))))))) fun c=>?_)))
  refine bF (aP (aq rfl (bC (pQ (nU (yt (fun d=>cQ (bC (uh (q2 (.inr (.inr (hM.mp d))))))) fun d=>bK (bZ ?_)))))))
  unfold jr
  refine cQ (aq rfl (uh (q1 fun o=>?_)))
  rcases o with o | o | o
  ·omega
  ·omega
  ·exact d (hM.mpr o)
theorem IK (c:Int):∀ k:Nat,(X7 k [W.int c]).flatten=(X7 k c).map .int
 | 0=>rfl
 | k+1=>by rw [List.replicate_succ,List.replicate_succ,List.flatten_cons,IK c k];rfl
theorem Lw {c:Int}{L:Nat}{h:Gh}{Q:WK}(hL:L<=8)(q:Q (.tup ((X7 L c).map .int)) h):Dl (.tup [.int c]) (.int L) h Q:=by
 have eL:(L:Int).toNat=L:=by omega
 refine ⟨⟨by omega,by omega,by rw [eL];simp;omega⟩,?_⟩
 rw [eL,IK]
 exact q
theorem Ms.ord {L:Nat}{D rs:List Tm}(hz:D.length<=210)(nd:(D.map (·.1)).Nodup)(hD:∀ t∈D,t.1.length=L/\Sm 101 t.2/\∀ p∈t.1,0<=p/\p<=40)(a:rm D rs):Ms L rs/\rs.length<=D.length/\∀ t∈rs,t∈D:=by
 obtain ⟨ks,pk,sk,rfl⟩:=a
 have hin:=fun u hu=>DK (u:=u) nd (fun k hk=>pk.mem_iff.mp hk) hu
 have lo:=uq D ks
 rw [pk.length_eq,X6] at lo
 exact ⟨⟨by omega,vD sk,fun t ht=>⟨(hD t (hin t ht).1).1,(hin t ht).2,(hD t (hin t ht).1).2⟩⟩,lo,fun t ht=>(hin t ht).1⟩
def FiX (c0:MSp):Prop:=∀ {h:Gh} {w v L:Nat} {Q:WK} {E:XWK},w<=30->v<=30->w*v<=200->2<=L->L<=8->(∀ (rs:List Tm) (h':Gh),Ms L rs->rs.length<=200->(∀ t∈rs,∀ p∈t.1,p<30)->Q (smW rs) h')->c0 [.int (w:Int),.int (v:Int),.int (L:Int),.int 1] h Q E
def fk (L i j:Nat):List Int:=[(i:Int)*1,(j:Int)*1]++X7 (L - 2) 0
abbrev hf (w v L:Nat)(h:Gh)(r:Sw):Sw:=some (.int w)::some (.int v)::some (.int L)::some (.int 1)::some (.loc h.nx)::r
abbrev hk (ns:List Int)(L:Nat)(r:Sw):Sw:=some (.kls (ns.map .int))::some (.int L)::r
theorem w_field {od:MSp}(hod:JR od):FiX (nH od):=by
 intro h w v L Q E hw hv hwv hL2 hL q
 unfold nH
 refine jj rfl (Z:=[some (.int w),some (.int v),some (.int L),some (.int 1),none,none,none]) rfl ?_
 refine aO (aZ (ux fun g eg og xg=>?_))
 refine aL (Z':=hf w v L h [none,none]) rfl (bZ (aO ?_))
 refine jQ (j:=(w:Int)) (fun _=>rfl) (by omega) (by omega) (fun i Z h'=>∃ (ts:List Tm) (s5 s6:Option W),Z = hf w v L h [s5,s6]/\h'.c h.nx=some (.dtt (kvW ts))/\ts.length<=i*v/\(ts.map (·.1)).Nodup/\i<=w/\(∀ t∈ts,t.1.length=L/\Sm 101 t.2/\∀ p∈t.1,0<=p/\p<30)) ?_ ?_ ⟨[],none,none,rfl,eg,Nat.zero_le _,List.nodup_nil,Nat.zero_le _,fun _ h=>(nomatch h)⟩
 ·rintro i Z h' N hN hi ⟨ts,s5,s6,rfl,a1,a2,a3,a5,a4⟩
  have hi:i<w:=by omega
  have hiv:i*v+v<=200:=by rw [<-Nat.succ_mul];exact Ye (Nat.mul_le_mul_right _ hi) hwv
  refine aL (Z':=hf w v L h [some (.int i),s6]) rfl ?_
  refine jQ (j:=(v:Int)) (fun _=>rfl) (by omega) (by omega) (fun j Z h'=>∃ (ts:List Tm) (s6:Option W),Z = hf w v L h [some (.int i),s6]/\h'.c h.nx=some (.dtt (kvW ts))/\ts.length<=i*v+j/\(ts.map (·.1)).Nodup/\j<=v/\(∀ t∈ts,t.1.length=L/\Sm 101 t.2/\∀ p∈t.1,0<=p/\p<30)) ?_ ?_ ⟨ts,s6,rfl,a1,a2,a3,Nat.zero_le _,a4⟩
  ·rintro j Z h2 N2 hN2 hj ⟨ts,s6,rfl,b1,b2,b3,b5,b4⟩
   have hj:j<v:=by omega
   refine aL (Z':=hf w v L h [some (.int i),some (.int j)]) rfl ?_
   have si:Sm 60 (i:Int):=(eX (n:=20) (by omega) (by omega)).mono (by decide)
   have sj:Sm 60 (j:Int):=(eX (n:=20) (by omega) (by omega)).mono (by decide)
   refine aZ (aP (bC (aP (aP (aq rfl (aP (bC (aq rfl (eH (.of (m:=64) (.lit rfl) sj (by decide) (by decide)) (eE (bC (dB (by decide) (eE ?_)))))))))))))
   refine w6 (aq rfl (aP (cH (ao (aP (aq rfl (aq rfl (eH (.of si (n:=64) (.lit rfl) (by decide) (by decide)) ?_))))))))
   refine ao (aP (aq rfl (aq rfl (eH (.of sj (n:=64) (.lit rfl) (by decide) (by decide)) (aD (bQ rfl ?_))))))
   refine aP (cH (ao (bC (aD (bQ rfl (aP (aq rfl (bC (tM ?_)))))))))
   have eL:(L:Int) - 2=((L - 2:Nat):Int):=by omega
   rw [eL]
   refine Lw (by omega) (Iz (by simp;omega) ?_)
   show ou (.loc h.nx) (.tup ((fk L i j).map .int)) _ _ _
   obtain ⟨v0,v1⟩:=bV ((i:Int)+3*(j:Int)) (b:=7) (by decide)
   have pl:=uI ts (fk L i j) (1+((i:Int)+3*(j:Int)).fmod 7)
   refine Jj b1 (by omega) fun g2 c1 c2 c3=>bZ (hN2 _ _ ⟨_,_,rfl,c1,by omega,qF _ _ _ b3,by omega,fun t ht=>?_⟩)
   rcases Ij ht with ht | ht
   ·exact b4 t ht
   ·rw [ht]
    refine ⟨by unfold fk;simp;omega,(eX (n:=20) (by dsimp only;omega) (by dsimp only;omega)).mono (by decide),fun p hp=>?_⟩
    unfold fk at hp
    rcases List.mem_append.mp hp with hp | hp
    ·simp only [List.mem_cons,List.not_mem_nil,or_false] at hp
     omega
    ·have:=List.eq_of_mem_replicate hp
     omega
  ·rintro Z h2 ⟨ts,s6,rfl,b1,b2,b3,b5,b4⟩
   have e:(v:Int).toNat=v:=by omega
   rw [e] at b2
   exact hN _ _ ⟨ts,_,_,rfl,b1,by rw [Nat.succ_mul];exact b2,b3,hi,b4⟩
 ·rintro Z h' ⟨ts,s5,s6,rfl,a1,a2,a3,a5,a4⟩
  have e:(w:Int).toNat=w:=by omega
  rw [e] at a2
  unfold ni
  refine bZ (cQ (aR (ao (aq rfl (aD ?_)))))
  refine hod a1 (by omega) (lM (L:=L) a3 fun t ht=>(a4 t ht).1) fun rs hr=>?_
  obtain ⟨m1,m2,m3⟩:=Ms.ord (L:=L) (by omega) a3 (fun t ht=>⟨(a4 t ht).1,(a4 t ht).2.1,fun p hp=>by have:=(a4 t ht).2.2 p hp;omega⟩) hr
  exact uh (q rs h' m1 (by omega) fun t ht p hp=>((a4 t (m3 t ht)).2.2 p hp).2)
theorem DY:∀ us:List Tm,jV (us.map tmW)=some (kvW us)
 | []=>rfl
 | t::us=>by
  show (match Jo (.tup (t.1.map W.int)) with
   | some ks=>(jV (us.map tmW)).map ((ks,W.int t.2)::·)
   | none=>none)=_
  rw [oY,DY us]
  rfl
theorem Qj {us:List Tm}{h:Gh}{Q:WK}(nd:(us.map (·.1)).Nodup)(x:∀ g:Gh,g.c h.nx=some (.dtt (kvW us))->(∀ n,n≠h.nx->g.c n=h.c n)->g.nx=h.nx+1->Q (.loc h.nx) g):xZ [.lst (us.map tmW)] h Q:=by
 show (match jV (us.map tmW) with
  | some ps=>(ps.map (·.1)).Nodup/\Q (.loc h.nx) (h.new (.dtt ps))
  | none=>False)
 rw [DY]
 refine ⟨?_,x _ (Ef _ _) (fun _ e=>rU e) rfl⟩
 have:(kvW us).map (·.1)=us.map (·.1):=by unfold kvW;rw [List.map_map];rfl
 rw [this]
 exact nd
theorem RD {us:List W}{h:Gh}{Q:WK}(x:Q (.lst us) h):Gv [.tup us] h Q:=x
theorem QB {a b:List W}{h:Gh}{Q:WK}(hz:a.length+b.length<=1000)(x:Q (.lst (a++b)) h):cg (.lst a) (.lst b) h Q:=fW.mk (Ye hz (by decide:1000<=sizeLine)) x
theorem Vx {L:Nat}{h:Gh}{Q:WK}(q:∀ b:Bool,(b=true->2<=L)->Q (.bl b) h):kIn (.int L) (.tup [.int 2,.int 3]) h Q:=by
 refine q _ fun e=>Decidable.byContradiction fun c=>?_
 have:L=0\/L=1:=by omega
 rcases this with rfl | rfl <;> exact absurd e (by decide)
theorem Ob {x:Int}{h:Gh}{Q:WK}(q:∀ m:Nat,m<=31->Q (.int m) h):kIx (.lst [.int 2,.int 31]) (.int (x.fmod 2)) h Q:=by
 have c3:=bV x (b:=2) (by decide)
 have:x.fmod 2=0\/x.fmod 2=1:=by omega
 rcases this with e | e <;> rw [e]
 ·exact lA rfl rfl (q 2 (by decide))
 ·exact lA rfl rfl (q 31 (by decide))
def fl (t:Tm):Tm:=(t.1,t.2*(1 - 2*t.1.sum.fmod 2))
theorem Vm {L:Nat}{us:List Tm}(h:Ms L us):Ms L (us.map fl):=by
 refine ⟨by rw [X6];exact h.1,?_,fun t ht=>?_⟩
 ·have e:(us.map fl).map (·.1)=us.map (·.1):=by rw [List.map_map];rfl
  rw [e]
  exact h.2.1
 ·obtain ⟨u,hu,rfl⟩:=List.mem_map.mp ht
  obtain ⟨h1,h2,h3,h4⟩:=h.2.2 u hu
  have c3:=bV u.1.sum (b:=2) (by decide)
  have:u.1.sum.fmod 2=0\/u.1.sum.fmod 2=1:=by omega
  refine ⟨h1,?_,?_,h4⟩
  ·unfold fl
   rcases this with e | e <;> rw [e] <;> omega
  ·unfold fl
   dsimp only
   unfold Sm at *
   rcases this with e | e <;> rw [e]
   ·rw [show u.2*(1 - 2*0)=u.2 by omega];exact h3
   ·rw [show u.2*(1 - 2*1) = -u.2 by omega,Int.natAbs_neg];exact h3
theorem RG {us:List Tm}{L:Nat}{i:Nat}{Z : Sw}{h:Gh}{Q:WK}(hi:Z[i]?=some (some (smW us)))(hu:Ms L us)(q:Q (smW (us.map fl)) h) :
  mCB gD (aA (mLC (owT 2) [] (nIt (aG i)) yd (lq (aA (aG 0) (aA (mOp lE (aG 1) (mOp El (mC (.int 1)) (mOp lE (mC (.int 2)) (mOp lg (mCB G7 (aA (aG 0) aW)) (mC (.int 2)))))) aW)))) aW) Z h Q:=by
 have lu:=hu.1
 refine cC (ao (n6 (kZ (aq hi (yW (ws:=us.map tmW) (o:=none) rfl (fW.mk (Ye (m:=30000) (by rw [X6];omega) (by decide)) ?_))))))
 refine jk (fun j acc g=>g=h/\acc=((us.take j).map fl).map tmW) ?_ ?_ ⟨rfl,rfl⟩
 ·rintro j w acc g N hN e ⟨rfl,rfl⟩
  rw [List.getElem?_map] at e
  cases qe:us[j]? with
  | none=>rw [qe] at e;cases e
  | some t=>
   rw [qe] at e
   cases e
   have h3:=(hu.2.2 t (List.mem_of_getElem? qe)).2.2.1
   have c3:=bV t.1.sum (b:=2) (by decide)
   refine ⟨[.tup (t.1.map .int),.int t.2],rfl,jY (kj (cH (ao (aq rfl (ao (aP (aq rfl (aP (bC (aP (bC (aP (cC (ao (aq rfl (aD ?_))))))))))))))))⟩
   have ei:kE (t.1.map .int)=some t.1:=oY t.1
   show (match kE (t.1.map W.int) with
    | some ns=>_
    | none=>False)
   rw [ei]
   refine bC (dB (by decide) ?_)
   have s1:Sm 60 (t.1.sum.fmod 2):=(eX (n:=20) (by omega) (by omega)).mono (by decide)
   have s2:Sm 60 (1 - 2*t.1.sum.fmod 2):=(eX (n:=20) (by omega) (by omega)).mono (by decide)
   refine eH (.of (m:=64) (.lit rfl) s1 (by decide) (by decide)) (tM (eH (.of h3 s2 (by decide) (by decide)) (aD (bQ rfl (hN _ _ ⟨rfl,?_⟩)))))
   rw [List.take_succ,qe,List.map_append,List.map_append]
   rfl
 ·rintro acc g ⟨rfl,rfl⟩
  rw [X6,List.take_length]
  exact aD (je q)
def TwX (c0:MSp):Prop:=∀ {h:Gh} {ns:List Int} {L:Nat} {Q:WK} {E:XWK},L<=8->(∀ us vs h',Ms L us->Ms L vs->Q (.tup [smW us,smW vs]) h')->c0 [.kls (ns.map .int),.int (L:Int)] h Q E
theorem Py {L m:Nat}{mo:Nat}{us:List Tm}(hm:m<=210)(hmo:mo<=31)(wf:WF L 101 us)(lu:us.length<=m)(su:(us.map (·.1)).Pairwise (· < ·))(pm:∀ t∈us,∀ p∈t.1,p<=(mo:Int)):Ms L us:=
 ⟨by omega,su,fun t ht=>⟨(wf t ht).1,(wf t ht).2.1,(wf t ht).2.2.1,fun p hp=>⟨((wf t ht).2.2.2 p hp).1,by have:=pm t ht p hp;omega⟩⟩⟩
section
variable {ce od su fi:MSp}(hce:qu ce)(hod:JR od)(hsu:V2 su)(hfi:FiX fi)
include hce hod hsu hfi
theorem EY {h:Gh}{ns:List Int}{L:Nat}{Q:WK}{E:XWK}{us vs:List Tm}{way:Int}{s2:Option W}(hu:Ms L us)(hv:Ms L vs)(q:∀ us vs h',Ms L us->Ms L vs->Q (.tup [smW us,smW vs]) h') :
  mD ce od su fi E { nx:=fun _ h'=>Q .non h',rt:=Q } (hk ns L [s2,some (smW us),some (smW vs),some (.int way)]) h:=by
 unfold mD
 have fin:∀ vs,Ms L vs->mR ce od su fi E { nx:=fun _ h'=>Q .non h',rt:=Q } (hk ns L [s2,some (smW us),some (smW vs),some (.int way)]) h:=fun vs hv=>by
  unfold mR
  exact cQ (cH (ao (aq rfl (ao (aq rfl (aD (bQ rfl (uh (q us vs h hu hv)))))))))
 refine aO (cJ (bF (aP (aq rfl (bC (Dn (nU ?_)))))))
 refine yt (fun c=>?_) fun c=>bK (bZ (fin vs hv))
 exact aZ (RG rfl hu (aL (Z':=hk ns L [s2,some (smW us),some (smW (us.map fl)),some (.int way)]) rfl (bZ (fin _ (Vm hu)))))
theorem Nb {h:Gh}{ns:List Int}{L:Nat}{Q:WK}{E:XWK}{us vs:List Tm}{way:Int}{s2:Option W}(hL:L<=8)(hu:Ms L us)(hv:Ms L vs)(q:∀ us vs h',Ms L us->Ms L vs->Q (.tup [smW us,smW vs]) h') :
  lU ce od su fi E { nx:=fun _ h'=>Q .non h',rt:=Q } (hk ns L [s2,some (smW us),some (smW vs),some (.int way)]) h:=by
 unfold lU
 refine aO (cJ (BL (bF (aP (aq rfl (cH (ao (bC (ao (bC (aD (bQ rfl (Vx fun b hb=>nU ?_)))))))))))))
 cases b with
 | false=>exact sI (sI (bK (bZ (EY hce hod hsu hfi hu hv q))))
 | true=>
  have hL2:=hb rfl
  refine uT (bF (aP (aq rfl (bC (Dn (nU ?_))))))
  refine yt (fun c=>?_) fun c=>bK (bZ (EY hce hod hsu hfi hu hv q))
  refine aO (aZ (aR (ao (bC (ao (bC (ao (aq rfl (ao (bC (aD ?_)))))))))))
  refine hfi (w:=10) (v:=10) (by decide) (by decide) (by decide) hL2 hL fun as h1 ma la pa=>?_
  refine aL (Z':=hk ns L [s2,some (smW as),some (smW vs),some (.int way)]) rfl (bZ ?_)
  refine aO (aZ (aR (ao (bC (ao (bC (ao (aq rfl (ao (bC (aD ?_)))))))))))
  refine hfi (w:=20) (v:=10) (by decide) (by decide) (by decide) hL2 hL fun bs h2 mb lb pb=>?_
  refine aL (Z':=hk ns L [s2,some (smW as),some (smW bs),some (.int way)]) rfl (bZ ?_)
  refine cJ (bF (aP (aP (aP (aR (ao (aq rfl (ao (bC (aD (hce (by decide) ?_)))))))))))
  refine bC (iV ⟨by decide,64,by decide,.lit rfl⟩ (bC (dB (by decide) (bC (Dn (nU ?_))))))
  refine yt (fun c=>?_) fun c=>bK (bZ (EY hce hod hsu hfi ma mb q))
  refine aZ (aR (ao (cC (ao (aP (cC (ao (aq rfl (aD (RD ?_))))))))))
  refine CP (ao (cH (ao (aP (cH (ao (bC (ao (bC (aD (bQ rfl ?_)))))))))))
  refine aP (cH (ao (bC (aD (bQ rfl (aP (aq rfl (bC (tM ?_)))))))))
  have eL:(L:Int) - 2=((L - 2:Nat):Int):=by omega
  rw [eL]
  refine Lw (by omega) (Iz (by simp;omega) ?_)
  refine ao (bC (aD (bQ rfl (aD (bQ rfl (QB (by rw [X6];show bs.length+1<=1000;omega) (aD ?_)))))))
  have ek:(bs.map tmW++[.tup [.tup ([W.int 40,.int 40]++(X7 (L - 2) (0:Int)).map .int),.int 5]]:List W)=(bs++[([40,40]++X7 (L - 2) 0,5)]).map tmW:=by
   rw [List.map_append]
   rfl
  rw [ek]
  have nk:((bs++[([40,40]++X7 (L - 2) 0,5)]:List Tm).map (·.1)).Nodup:=by
   rw [List.map_append,List.nodup_append]
   refine ⟨gw mb.2.1,by simp,fun a ha b hb e=>?_⟩
   obtain ⟨t,ht,rfl⟩:=List.mem_map.mp ha
   have eb:b=[40,40]++X7 (L - 2) 0:=by simpa using hb
   have:=pb t ht 40 (by rw [e,eb];simp)
   omega
  have fa:∀ t∈(bs++[([40,40]++X7 (L - 2) 0,5)]:List Tm),t.1.length=L/\Sm 101 t.2/\∀ p∈t.1,0<=p/\p<=40:=fun t ht=>by
   rcases List.mem_append.mp ht with ht | ht
   ·have:=mb.2.2 t ht
    exact ⟨this.1,this.2.2⟩
   ·have et:t=([40,40]++X7 (L - 2) 0,5):=by simpa using ht
    rw [et]
    refine ⟨by simp;omega,(eX (n:=20) (by dsimp only;omega) (by dsimp only;omega)).mono (by decide),fun p hp=>?_⟩
    rcases List.mem_append.mp hp with hp | hp
    ·simp only [List.mem_cons,List.not_mem_nil,or_false] at hp
     omega
    ·have:=List.eq_of_mem_replicate hp
     omega
  refine Qj nk fun g g1 g2 g3=>aD (hod g1 (by simp;omega) (lM (L:=L) nk fun t ht=>(fa t ht).1) fun rs hr=>?_)
  obtain ⟨m1,m2,m3⟩:=Ms.ord (L:=L) (by simp;omega) nk fa hr
  exact aL (Z':=hk ns L [s2,some (smW as),some (smW rs),some (.int way)]) rfl (bZ (EY hce hod hsu hfi ma m1 q))
theorem Pg:TwX (u0 ce od su fi):=by
 intro h ns L Q E hL q
 unfold u0
 refine jj rfl (Z:=hk ns L [none,none,none,none]) rfl ?_
 refine aO (aZ (aP (CP (ao (bC (ao (bC (aD (bQ rfl ?_)))))))))
 refine aP (aP (aR (ao (aq rfl (ao (bC (aD (hce (by decide) ?_))))))))
 refine bC (iV ⟨by decide,64,by decide,.lit rfl⟩ (bC (dB (by decide) (Ob fun mo hmo=>?_))))
 refine aL (Z':=hk ns L [some (.int mo),none,none,none]) rfl (bZ (aO (aZ (aR (ao (aq rfl (ao (bC (ao (aq rfl (ao (aP ?_))))))))))))
 refine aR (ao (aq rfl (ao (bC (aD (hce (by decide) (bC (dB (by decide) (ao (aq rfl (aD ?_)))))))))))
 obtain ⟨d0,d1⟩:=bV (ns.getD (1:Int).toNat 0) (b:=9) (by decide)
 obtain ⟨m,em⟩:=Int.eq_ofNat_of_zero_le d0
 rw [em] at d1 |-
 refine hsu (by decide) (by decide) hL (by omega) (by omega) fun us h1 wf lu su1 pm g1=>?_
 have Lu:Ms L us:=Py (m:=m) (by omega) hmo wf lu su1 pm
 refine aL (Z':=hk ns L [some (.int mo),some (smW us),none,none]) rfl (bZ (aO (aZ (aR (ao (aq rfl (ao (bC (ao (aq rfl (ao (aP ?_))))))))))))
 refine aR (ao (aq rfl (ao (bC (aD (hce (by decide) (bC (dB (by decide) (ao (aq rfl (aD ?_)))))))))))
 obtain ⟨e0,e1⟩:=bV (ns.getD (2:Int).toNat 0) (b:=9) (by decide)
 obtain ⟨m2,em2⟩:=Int.eq_ofNat_of_zero_le e0
 rw [em2] at e1 |-
 refine hsu (by decide) (by decide) hL (by omega) (by omega) fun vs h2 wf2 lv su2 pm2 g2=>?_
 have Lv:Ms L vs:=Py (m:=m2) (by omega) hmo wf2 lv su2 pm2
 refine aL (Z':=hk ns L [some (.int mo),some (smW us),some (smW vs),none]) rfl (bZ (aO (aZ (aP ?_))))
 refine aR (ao (aq rfl (ao (bC (aD (hce (by decide) (bC (dB (by decide) ?_))))))))
 generalize (ns.getD (3:Int).toNat 0).fmod 8=way
 refine aL (Z':=hk ns L [some (.int mo),some (smW us),some (smW vs),some (.int way)]) rfl (bZ ?_)
 refine aO (cJ (BL (bF (aP (aq rfl (bC (pQ (nU ?_))))))))
 refine yt (fun c=>?_) fun c=>sI (bK (bZ (Nb hce hod hsu hfi hL Lu Lv q)))
 refine bF (aP (aq rfl (bC (Dn (nU (yt (fun c2=>?_) fun c2=>bK (bZ (Nb hce hod hsu hfi hL Lu Lv q))))))))
 refine aO (aZ (aR (ao (aP (bC (aP (aP (aR (ao (aq rfl (ao (bC (aD (hce (by decide) ?_))))))))))))))
 refine bC (iV ⟨by decide,64,by decide,.lit rfl⟩ (bC (dB (by decide) (eE ?_))))
 refine ao (bC (ao (aq rfl (ao (bC (aD ?_))))))
 obtain ⟨f0,f1⟩:=bV ((ns.getD (3:Int).toNat 0).fdiv 8) (b:=4) (by decide)
 obtain ⟨w,ew⟩:=Int.eq_ofNat_of_zero_le (show 0<=24+((ns.getD (3:Int).toNat 0).fdiv 8).fmod 4 by omega)
 rw [ew]
 refine hfi (w:=w) (v:=1) (by omega) (by decide) (by omega) (by omega) hL fun as h3 ma la pa=>?_
 refine aL (Z':=hk ns L [some (.int mo),some (smW as),some (smW vs),some (.int way)]) rfl (bZ ?_)
 refine aZ (aR (ao (bC (ao (aP (bC (aP (aP (aR (ao (aq rfl (ao (bC (aD (hce (by decide) ?_)))))))))))))))
 refine bC (iV ⟨by decide,64,by decide,.lit rfl⟩ (bC (dB (by decide) (eE ?_))))
 refine ao (aq rfl (ao (bC (aD ?_))))
 obtain ⟨g0,g1⟩:=bV ((ns.getD (3:Int).toNat 0).fdiv 32) (b:=4) (by decide)
 obtain ⟨v,ev⟩:=Int.eq_ofNat_of_zero_le (show 0<=24+((ns.getD (3:Int).toNat 0).fdiv 32).fmod 4 by omega)
 rw [ev]
 refine hfi (w:=1) (v:=v) (by decide) (by omega) (by omega) (by omega) hL fun bs h4 mb lb pb=>?_
 exact aL (Z':=hk ns L [some (.int mo),some (smW as),some (smW bs),some (.int way)]) rfl (bZ (Nb hce hod hsu hfi hL ma mb q))
end
def RfX (c0:MSp):Prop:=∀ {h:Gh} {us vs:List Tm} {L:Nat} {Q:WK} {E:XWK},Ms L us->Ms L vs->L<=8->(∀ rs,rm (gq us vs) rs->Over us vs rs)->(∀ h',Q (.bl true) h')->c0 [smW us,smW vs] h Q E
theorem Bj {ti:MSp}(hti:Tc ti):RfX (iM ti):=by
 intro h us vs L Q E hu hv hL hO q
 unfold iM
 refine jj rfl (Z:=[some (smW us),some (smW vs),none,none]) rfl (aO (Iw ?_))
 refine nJ (aR (ao (aq rfl (ao (aq rfl (aD ?_))))))
 refine hti hu hv hL fun rs h' hr g=>⟨fun no=>absurd (hO rs hr) no,fun _=>?_⟩
 rfl'
 exact q h'
theorem Df {r:List Int}:∀ {vs:List Tm},(vs.map (·.1)).Nodup->lin (dl r) vs=getM vs r
 | [],_=>rfl
 | t::vs,nd=>by
  rw [X5,List.nodup_cons] at nd
  rw [bT,cL,Df nd.2]
  unfold dl
  by_cases c:t.1=r
  ·rw [if_pos c,if_pos c,getM_none (c ▸ nd.1)]
   omega
  ·rw [if_neg c,if_neg c]
   omega
theorem vU {f g:List Int->Int}:∀ {us:List Tm},(∀ t∈us,f t.1=g t.1)->lin f us=lin g us
 | [],_=>rfl
 | t::us,h=>by rw [bT,bT,h t (by simp),vU fun u hu=>h u (X8 _ hu)]
theorem Jz:∀ (k:List Int),fC k (X7 k.length 0)=k
 | []=>rfl
 | a::k=>by
  show (a+0)::fC k (X7 k.length 0)=a::k
  rw [Jz k,Int.add_zero]
def whole (L:Nat):List Tm:=[(X7 L 0,1)]
theorem wN (L:Nat):Ms L (whole L):=by
 refine ⟨by simp [whole],by simp [whole],fun t ht=>?_⟩
 have e:t=(X7 L 0,1):=by simpa [whole] using ht
 rw [e]
 refine ⟨by simp,by simp,(eX (n:=20) (by dsimp only;omega) (by dsimp only;omega)).mono (by decide),fun p hp=>?_⟩
 have:=List.eq_of_mem_replicate hp
 omega
theorem sW {L:Nat}{us:List Tm}(h:Ms L us)(r:List Int):getM (gq us (whole L)) r=getM us r:=by
 rw [lG,<-Df (gw h.2.1)]
 refine vU fun t ht=>?_
 unfold whole
 rw [bT]
 show dl r (fC t.1 (X7 L 0))*1+0=_
 rw [<-(h.2.2 t ht).1,Jz]
 omega
theorem Ms.self {L:Nat}{us:List Tm}(h:Ms L us):rm us us:=⟨us.map (·.1),.refl _,h.2.1,(G9 (gw h.2.1) fun t ht=>(h.2.2 t ht).2.1).symm⟩
theorem Ms.lo {L:Nat}{us:List Tm}(h:Ms L us):¬ Gk us:=fun ⟨t,ht,p,hp,h60⟩=>by have:=(h.2.2 t ht).2.2.2 p hp;omega
theorem CZ:rm [] []:=⟨[],.refl _,.nil,rfl⟩
theorem HS (us:List Tm)(r:List Int):getM (gq us []) r=getM [] r:=by
 rw [lG]
 exact wW us
theorem Bg {us vs rs:List Tm}(h:Over us vs rs):Over vs us rs:=by
 unfold Over at *
 rw [Nat.mul_comm]
 exact h
theorem qC {us vs:List Tm}{n:Nat}{rs:List Tm}(h1:us.length*vs.length<=210)(h2:rs.length<=210)(h3:¬ Gk rs):¬ Over us vs rs:=fun h=>by
 rcases h with h | h | h
 ·omega
 ·omega
 ·exact h3 h
theorem Qz {w:W}{h:Gh}{Q:WK}(x:Q (.bl (FT w)) h):kIs w .non h Q:=by cases w <;> exact x
section
variable {ti ce is tw pr rf:MSp}(hti:Tc ti)(hce:qu ce)(his:Wt is)(htw:TwX tw)(hpr:PrX pr)(hrf:RfX rf)
include hti hce his htw hpr hrf
theorem TY (ns:List Int){h:Gh}:Mh ti ce is tw pr rf [.kls (ns.map .int)] h (fun w _=>w=.bl true) EF:=by
 unfold Mh
 refine jj rfl (Z:=[some (.kls (ns.map .int)),none,none,none,none,none]) rfl (aO (aZ (aP (aR (ao (aq rfl (ao (bC (aD ?_)))))))))
 refine hce (by decide) (bC (dB (by decide) ?_))
 obtain ⟨c0,c1⟩:=bV (ns.getD (0:Int).toNat 0) (b:=9) (by decide)
 obtain ⟨L,eL⟩:=Int.eq_ofNat_of_zero_le c0
 rw [eL] at c1 |-
 have hL:L<=8:=by omega
 refine aL (Z':=hk ns L [none,none,none,none]) rfl (bZ (aO (aZ (aR (ao (aq rfl (ao (aq rfl (aD ?_)))))))))
 refine htw hL fun us vs h1 Lu Lv=>?_
 have lu:=Lu.1
 have lv:=Lv.1
 refine iJ rfl rfl (cT (aL (Z':=hk ns L [some (smW us),none,none,none]) rfl (cT (aL (Z':=hk ns L [some (smW us),some (smW vs),none,none]) rfl (m7 (bZ ?_))))))
 refine aO (aZ (aR (ao (aq rfl (ao (aq rfl (aD ?_)))))))
 refine hpr Lu Lv hL fun rs h2 hr g2=>?_
 have r1:∀ qs,rm (gq us vs) qs->qs=rs:=fun qs b=>b.same (fun _=>rfl) hr
 have r2:∀ qs,rm (gq vs us) qs->qs=rs:=fun qs b=>b.same (fun r=>tX r vs us) hr
 have fr:=(hr.facts (jo Lu.kb Lv.kb) (jy us vs)).1
 refine ⟨fun no=>?_,fun ov=>?_⟩
 ·refine aL (Z':=hk ns L [some (smW us),some (smW vs),some (smW rs),none]) rfl (bZ (aO (cJ (bF (aP (aq rfl (bC ?_)))))))
  refine Qz (nU (vC rfl (bK (bZ ?_))))
  have l6:rs.length<=600:=Nat.le_of_not_lt fun c=>no (.inr (.inl c))
  unfold Bu
  refine aO (cJ (mJ (gZ (aR (ao (aR (ao (aq rfl (ao (aq rfl (aD ?_)))))))))))
  refine hti Lu Lv hL fun qs h3 hq g3=>?_
  rw [r1 qs hq]
  refine ⟨fun _=>?_,fun ov=>absurd ov no⟩
  refine ao (aq rfl (aD (his (L:=L) (by omega) hL (fun t ht=>(fr t ht).1.1) (Eh rfl (vC rfl (bK (bZ ?_)))))))
  unfold Cm
  refine aO (cJ (bF (aP (aP (cC (ao (aq rfl (aD (fQ (xs:=us.map tmW) rfl (cC (ao (aq rfl (aD (fQ (xs:=vs.map tmW) rfl ?_))))))))))))))
  rw [X6,X6]
  refine eH (.of (n:=8) (m:=8) (by unfold Sm;show (us.length:Int).natAbs<256;omega) (by unfold Sm;show (vs.length:Int).natAbs<256;omega) (by decide) (by decide)) (bC (pQ (nU ?_)))
  refine yt (fun _=>cQ (bC (uh rfl))) fun _=>bK (bZ ?_)
  unfold Af
  refine aO (cJ (mJ (gZ (aR (ao (aR (ao (aq rfl (ao (aq rfl (aD ?_)))))))))))
  refine hti Lv Lu hL fun qs h4 hq g4=>?_
  rw [r2 qs hq]
  refine ⟨fun _=>?_,fun ov=>absurd (Bg ov) no⟩
  refine ao (aq rfl (aD (his (L:=L) (by omega) hL (fun t ht=>(fr t ht).1.1) (Eh rfl (vC rfl (bK (bZ ?_)))))))
  unfold Aq
  refine aO (aZ (cH (ao (cH (ao (aP (cH (ao (bC (aD (bQ rfl (aq rfl (Lw hL ?_)))))))))))))
  refine ao (bC (aD (bQ rfl (aD (bQ rfl ?_)))))
  refine aL (Z':=hk ns L [some (smW us),some (smW vs),some (smW rs),some (smW (whole L))]) rfl (bZ (aO (cJ (u6 (bF (aP (aR (ao (aq rfl (ao (cH (aD (bQ rfl (aD ?_))))))))))))))
  refine hti (vs:=[]) Lu (.nil L) hL fun qs h5 hq g5=>?_
  rw [hq.same (HS us) CZ]
  refine ⟨fun _=>?_,fun ov=>absurd ov (qC (n:=0) (by simp) (by simp) (Ms.nil L).lo)⟩
  refine cH (aD (bQ rfl (BW (s:=[]) (nU (sI ?_)))))
  refine bF (aP (aR (ao (cH (aD (bQ rfl (ao (aq rfl (aD ?_)))))))))
  refine hti (us:=[]) (.nil L) Lv hL fun qs h6 hq g6=>?_
  rw [hq.same (fun _=>rfl) CZ]
  refine ⟨fun _=>?_,fun ov=>absurd ov (qC (n:=0) (by simp) (by simp) (Ms.nil L).lo)⟩
  refine cH (aD (bQ rfl (BW (s:=[]) (nU (sI (bK (bZ ?_)))))))
  unfold Ed
  refine cQ (uY (aP (aR (ao (aq rfl (ao (aq rfl (aD ?_))))))))
  refine hti Lu (wN L) hL fun qs h7 hq g7=>?_
  rw [hq.same (sW Lu) Lu.self]
  refine ⟨fun _=>?_,fun ov=>absurd ov (qC (n:=0) (by simp [whole];omega) lu Lu.lo)⟩
  refine aq rfl (Cy (U8 (uT ?_)))
  refine aP (aR (ao (aq rfl (ao (aq rfl (aD ?_))))))
  refine hti (wN L) Lv hL fun qs h8 hq g8=>?_
  rw [hq.same (fun r=>(tX r _ _).trans (sW Lv r)) Lv.self]
  refine ⟨fun _=>?_,fun ov=>absurd ov (qC (n:=0) (by simp [whole];omega) lv Lv.lo)⟩
  exact aq rfl (Cy (uh rfl))
 ·refine aL (Z':=hk ns L [some (smW us),some (smW vs),some .non,none]) rfl (bZ (aO (cJ (bF (aP (aq rfl (bC ?_)))))))
  refine Qz (nU (Vb rfl ?_))
  refine cQ (uY (aR (ao (aq rfl (ao (aq rfl (aD ?_)))))))
  refine hrf Lu Lv hL (fun qs b=>by rw [r1 qs b];exact ov) fun h3=>U8 (uT ?_)
  refine aR (ao (aq rfl (ao (aq rfl (aD ?_)))))
  exact hrf Lv Lu hL (fun qs b=>by rw [r2 qs b];exact Bg ov) fun h4=>uh rfl
end
theorem Sd (ns:List Int)(_:ns.length<=63):G3 [.kls (ns.map W.int)] g0 (fun w _=>w=.bl true) EF:=by
 have od:JR bf:=yO
 have dr:uH gC:=KZ Dy
 have ti:Tc cR:=K8 Od Tn (W3 QF) Wx
 exact TY ti Dy Ub (Pg Dy od (w_sum dr Bv Fb od.x) (w_field od)) (Rr od) (Bj ti) ns
end My
def PySem.W.Fast.tw4070398375235028918:Unit:=()
def PySem.W.Fast.tw5881018079723087526:Unit:=()
def PySem.W.Fast.tw16023115881786037000:Unit:=()
def PySem.W.Fast.tw15527547632295958427:Unit:=()
def PySem.W.Fast.tw2816271345910754714:Unit:=()
def PySem.W.Fast.tw12436102009392375943:Unit:=()
def PySem.W.Fast.tw7955739681914972881:Unit:=()
def PySem.W.Fast.tw4938856116338493454:Unit:=()
def PySem.W.Fast.tw10893032919599580508:Unit:=()
def PySem.W.Fast.tw12149396460255115125:Unit:=()
def PySem.W.Fast.tw17531470054656741439:Unit:=()
def PySem.W.Fast.tw2096771492357581880:Unit:=()
def PySem.W.Fast.tw10967520702475380699:Unit:=()
def PySem.W.Fast.tw4942504141591816750:Unit:=()
def PySem.W.Fast.tw15193395377934232975:Unit:=()
def PySem.W.Fast.tw10715807430730018108:Unit:=()
def PySem.W.Fast.tw752240090471397865:Unit:=()
def PySem.W.Fast.tw6938475659842017975:Unit:=()
def PySem.W.Fast.tw15789190331004114940:Unit:=()
def PySem.W.Fast.tw7112813169960240393:Unit:=()
def PySem.W.Fast.tw2621784041966229749:Unit:=()
def PySem.W.Fast.tw12253262269437607345:Unit:=()
def PySem.W.Fast.tw5597091488451876438:Unit:=()
def PySem.W.Fast.tw1127168751169595010:Unit:=()
def PySem.W.Fast.tw8635633772456908946:Unit:=()
def PySem.W.Fast.tw1587203844833048937:Unit:=()
def PySem.W.Fast.tw4254376594893841100:Unit:=()
def PySem.W.Fast.tw8468017450247094388:Unit:=()
def PySem.W.Fast.tw12382467474792008057:Unit:=()
def PySem.W.Fast.tw422924385583143185:Unit:=()
def PySem.W.Fast.tw3142870608053466064:Unit:=()
def PySem.W.Fast.tw10259637778757943223:Unit:=()
def PySem.W.Fast.tw16981436752908369627:Unit:=()
def PySem.W.Fast.tw5353073919162326022:Unit:=()
def PySem.W.Fast.tw13789272168770864076:Unit:=()
def PySem.W.Fast.tw13299809073094411920:Unit:=()
def PySem.W.Fast.tw5932281279099154995:Unit:=()
def PySem.W.Fast.tw73870745081151823:Unit:=()
def PySem.W.Fast.tw2508478338545410558:Unit:=()
def PySem.W.Fast.tw11072849362112791774:Unit:=()
def PySem.W.Fast.tw12366687030656410454:Unit:=()
def PySem.W.Fast.tw472446671315771984:Unit:=()
def PySem.W.Fast.tw15367810046007840120:Unit:=()
def PySem.W.Fast.tw17264521553014896445:Unit:=()
def PySem.W.Fast.tw14312657715845490494:Unit:=()
def PySem.W.Fast.tw4678419089503209149:Unit:=()
def PySem.W.Fast.tw15233193409145847150:Unit:=()
def PySem.W.Fast.tw15882958043774884242:Unit:=()
def PySem.W.Fast.tw12953777778995675044:Unit:=()
def PySem.W.Fast.tw1251324623177055971:Unit:=()
def PySem.W.Fast.tw2405289721254265697:Unit:=()
def PySem.W.Fast.tw17063989059906484867:Unit:=()
def PySem.W.Fast.tw9913993087751294647:Unit:=()
def PySem.W.Fast.tw17201475394688529406:Unit:=()
def PySem.W.Fast.tw329767029495692302:Unit:=()
def PySem.W.Fast.tw7269056791695820795:Unit:=()
def PySem.W.Fast.tw17822168221830337895:Unit:=()
def PySem.W.Fast.tw14617280080602326485:Unit:=()
def PySem.W.Fast.tw11571888045707261143:Unit:=()
def PySem.W.Fast.tw9668481823037085261:Unit:=()
open PySem PySem.W PyProof.Rows
set_option maxRecDepth 100000 in
set_option maxHeartbeats 0 in
theorem PySem.Challenge.cw_easelroom_k53_products_holds : PySem.Challenge.rw_easelroom_k53_products.Holds := by
 w_on;o_law;k_head;(case hw=>w_witness2)
 k_fill
 refine My.walk (l:=PySem.Challenge.rw_easelroom_k53_products) rfl rfl (fun w h Y=>PySem.W.kIn_of Y) ?F
 case F=>
  intro w mg fa h KX G hmg
  refine' My.all_mk My.Sd KX G hmg ?a0 ?l0 ?c0 ?k0 ?a1 ?l1 ?c1 ?k1 ?a2 ?l2 ?c2 ?k2 ?a3 ?l3 ?c3 ?k3 ?a4 ?l4 ?c4 ?k4 ?a5 ?l5 ?c5 ?k5 ?a6 ?l6 ?c6 ?k6 ?a7 ?l7 ?c7 ?k7 ?a8 ?l8 ?c8 ?k8 ?a9 ?l9 ?c9 ?k9 ?a10 ?l10 ?c10 ?k10 ?a11 ?l11 ?c11 ?k11 ?a12 ?l12 ?c12 ?k12 ?a13 ?l13 ?c13 ?k13 ?a14 ?l14 ?c14 ?k14 ?a15 ?l15 ?c15 ?k15 ?a16 ?l16 ?c16 ?k16 ?a17 ?l17 ?c17 ?k17 ?z_ValueError ?z_all ?z_any ?z_bool ?z_dict ?z_int ?z_isinstance ?z_len ?z_list ?z_max ?z_range ?z_reversed ?z_sorted ?z_sum ?z_tuple ?z_zip ?gk_MOST_TERMS ?gk_MOST_POWER ?gk_MOST_PAIRS ?gk_FIELD ?gx_EaselError ?xd_EaselError ?gx_Nothing ?xd_Nothing ?gx_Stuck ?xd_Stuck ?gx_NoPart ?xd_NoPart ?gx_TooMuch ?xd_TooMuch ?xc_TooMuch ?xq_TooMuch
  (case a0 | l0 | c0 | k0 | a1 | l1 | c1 | k1 | a2 | l2 | c2 | k2 | a3 | l3 | c3 | k3 | a4 | l4 | c4 | k4 | a5 | l5 | c5 | k5 | a6 | l6 | c6 | k6 | a7 | l7 | c7 | k7 | a8 | l8 | c8 | k8 | a9 | l9 | c9 | k9=>k_is)
  (case a10 | l10 | c10 | k10 | a11 | l11 | c11 | k11 | a12 | l12 | c12 | k12 | a13 | l13 | c13 | k13 | a14 | l14 | c14 | k14 | a15 | l15 | c15 | k15 | a16 | l16 | c16 | k16 | a17 | l17 | c17 | k17 | z_ValueError | z_all | z_any | z_bool | z_dict | z_int | z_isinstance | z_len=>k_is)
  (case z_list | z_max | z_range | z_reversed | z_sorted | z_sum | z_tuple | z_zip | gk_MOST_TERMS | gk_MOST_POWER | gk_MOST_PAIRS | gk_FIELD | gx_EaselError=>k_is)
  (case xd_EaselError=>kernel_rfl)
  (case gx_Nothing=>k_is)
  (case xd_Nothing=>kernel_rfl)
  (case gx_Stuck=>k_is)
  (case xd_Stuck=>kernel_rfl)
  (case gx_NoPart=>k_is)
  (case xd_NoPart=>kernel_rfl)
  (case gx_TooMuch=>k_is)
  (case xd_TooMuch | xc_TooMuch=>kernel_rfl)
  (case xq_TooMuch=>k_exc)
