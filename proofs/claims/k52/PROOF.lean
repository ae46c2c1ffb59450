import PyProof.Rows.All
import Wide.All
import OpenK.AllK
import Wide.FinOn
import Lean
import PyProof.EqAt
import PyProof.EqKinds
import PyProof.TupleCall
import PySem.Challenge.RW_easelroom_k52_sums_and_differences
set_option Elab.async false
set_option linter.all false
set_option maxRecDepth 100000
namespace L2
open PySem PySem.Spec PyProof.Rows

abbrev Key := Sum Int Str
def keyIs : Key → Value → Bool
 | .inl k, v => Value.isInt k v
 | .inr x, v => Value.isStrOf x v
def keyH (w : World) : Key → Int
 | .inl k => hashInt k
 | .inr x => hashStr w x
theorem keyIs_shape : ∀ {k : Key} {v : Value}, keyIs k v = true → (∃ i t, k = Sum.inl i ∧ v = Value.int i t) ∨ (∃ x t, k = Sum.inr x ∧ v = Value.str x t)
 | .inl i, v, h => by
  obtain ⟨t, e⟩ := Value.isInt_shape (k := i) (v := v) h
  exact .inl ⟨i, t, rfl, e⟩
 | .inr x, v, h => by
  obtain ⟨t, e⟩ := Value.isStrOf_shape (x := x) (v := v) h
  exact .inr ⟨x, t, rfl, e⟩
theorem key_ll (a b : Int) : decide ((Sum.inl a : Key) = Sum.inl b) = (a == b) := by
 by_cases e : a = b
 ·subst e; simp
 ·have h : ¬ (Sum.inl a : Key) = Sum.inl b := fun q => e (Sum.inl.inj q)
  rw [decide_eq_false h]
  exact (beq_eq_false_iff_ne.mpr e).symm
theorem key_rr (a b : Str) : decide ((Sum.inr a : Key) = Sum.inr b) = decide (a = b) := by
 by_cases e : a = b
 ·subst e; simp
 ·have h : ¬ (Sum.inr a : Key) = Sum.inr b := fun q => e (Sum.inr.inj q)
  rw [decide_eq_false h, decide_eq_false e]
theorem key_lr (a : Int) (b : Str) : decide ((Sum.inl a : Key) = Sum.inr b) = false := decide_eq_false (fun q => nomatch q)
theorem key_rl (a : Str) (b : Int) : decide ((Sum.inr a : Key) = Sum.inl b) = false := decide_eq_false (fun q => nomatch q)

def mixKind (prog : Program) (w : World) : PySem.KeyKind prog w Key where
 is := keyIs
 hash := keyH w
 inj := fun v a b ha hb => by
  rcases keyIs_shape ha with ⟨i, t, rfl, rfl⟩ | ⟨x, t, rfl, rfl⟩
  ·rcases keyIs_shape hb with ⟨j, u, rfl, e⟩ | ⟨y, u, rfl, e⟩
   ·injection e with e1 _; rw [e1]
   ·exact nomatch e
  ·rcases keyIs_shape hb with ⟨j, u, rfl, e⟩ | ⟨y, u, rfl, e⟩
   ·exact nomatch e
   ·injection e with e1 _; rw [e1]
 byValue := fun k v h => by
  rcases keyIs_shape h with ⟨i, t, rfl, rfl⟩ | ⟨x, t, rfl, rfl⟩ <;> rfl
 pyHash := fun hv h => by
  rcases keyIs_shape hv with ⟨i, t, rfl, rfl⟩ | ⟨x, t, rfl, rfl⟩
  ·exact wpAny_pyHash_int h
  ·exact wpAny_pyHash_str h
 eqBool := fun hu hv h => by
  rcases keyIs_shape hu with ⟨i, t, rfl, rfl⟩ | ⟨x, t, rfl, rfl⟩
  ·rcases keyIs_shape hv with ⟨j, u, rfl, rfl⟩ | ⟨y, u, rfl, rfl⟩
   ·rw [key_ll] at h; exact wpAny_eqBool_int h
   ·rw [key_lr] at h; exact SeqAt.EqAt.int_str i t y u _ _ _ _ h
  ·rcases keyIs_shape hv with ⟨j, u, rfl, rfl⟩ | ⟨y, u, rfl, rfl⟩
   ·rw [key_rl] at h; exact SeqAt.EqAt.str_int x t j u _ _ _ _ h
   ·rw [key_rr] at h; exact wpAny_eqBool_str h
 «strs» := fun k x t v h => by
  rcases keyIs_shape h with ⟨i, u, rfl, e⟩ | ⟨y, u, rfl, e⟩
  ·exact nomatch e
  ·injection e with e1 _
   subst e1
   cases v <;> rfl

end L2

namespace L2
open PySem PySem.Spec PyProof.Rows

inductive V where
 | non | bl (b : Bool) | int (i : Int) | str (x : Str) | byt (b : Array UInt8) | flt (b : UInt64) | ref (a : Addr) | ty (n : String)
 deriving DecidableEq

def RelV : V → Value → Prop
 | .non, u => u = Value.none
 | .bl b, u => u = Value.bool b
 | .int i, u => ∃ t, u = Value.int i t
 | .str x, u => ∃ t, u = Value.str x t
 | .byt b, u => ∃ t, u = Value.bytes b t
 | .flt b, u => ∃ t, u = Value.float b t
 | .ref a, u => u = Value.ref a
 | .ty n, u => u = Value.type n

abbrev Vals : List V → List Value → Prop := Paired RelV
theorem Vals.length {xs : List V} {us : List Value} (r : Vals xs us) : xs.length = us.length := Paired.length r
theorem Vals.get : ∀ {xs : List V} {us : List Value} {i : Nat} {x : V}, Vals xs us → xs[i]? = some x → ∃ u, us[i]? = some u ∧ RelV x u
 | _, _, _, _, .nil, e => by simp at e
 | _, _, 0, _, .cons r _, e => by simp at e; subst e; exact ⟨_, rfl, r⟩
 | _, _, i + 1, x, .cons _ t, e => by
  obtain ⟨u, h1, h2⟩ := Vals.get (i := i) (x := x) t (by simpa using e)
  exact ⟨u, by simpa using h1, h2⟩
theorem Vals.append : ∀ {xs ys : List V} {us ws : List Value}, Vals xs us → Vals ys ws → Vals (xs ++ ys) (us ++ ws)
 | _, _, _, _, .nil, s => s
 | _, _, _, _, .cons r t, s => .cons r (Vals.append t s)
theorem Vals.take : ∀ {xs : List V} {us : List Value} (n : Nat), Vals xs us → Vals (xs.take n) (us.take n)
 | _, _, 0, _ => .nil
 | _, _, _ + 1, .nil => .nil
 | _, _, n + 1, .cons r t => .cons r (Vals.take n t)
theorem Vals.drop : ∀ {xs : List V} {us : List Value} (n : Nat), Vals xs us → Vals (xs.drop n) (us.drop n)
 | _, _, 0, r => r
 | _, _, _ + 1, .nil => .nil
 | _, _, n + 1, .cons _ t => Vals.drop n t
def RelO : Option V → Option Value → Prop
 | some v, some u => RelV v u
 | none, none => True
 | _, _ => False
def KV {κ : Type} : List (κ × V) → List (κ × Value) → Prop := Paired fun (p : κ × V) (q : κ × Value) => p.1 = q.1 ∧ RelV p.2 q.2

def kV : Key → V
 | .inl i => .int i
 | .inr x => .str x

inductive HO where
 /-- a list -/
 | lst (xs : List V)
 /-- a tuple (never changes) -/
 | tup (xs : List V)
 /-- a dict whose keys are ints and texts; one whose keys are tuples of ints and texts (the empty one is both) -/
 | dK (kvs : List (Key × V)) | dT (kvs : List (List Key × V))
 /-- a set of ints: its members, its size -/
 | set (S : Int → Bool) (n : Nat)
 /-- an instance of the class at C, its dict at dx, its attributes -/
 | ins (C dx : Addr) (fs : List (Str × V))
 /-- the dict of the instance at x -/
 | own (x : Addr)
 /-- the dict of an exception -/
 | xd (fs : List (Str × V))
 /-- a bound method, f of x -/
 | met (f x : Addr)
 /-- a range object lo, lo + 1, .. below hi -/
 | rng (lo hi : Int)
 /-- a thing that is known to the object (the script; a dict while a loop walks it): read, never written while it is so -/
 | frz (o : Obj) (u : HO)
 /-- a code object's table -/
 | tbl (ps : Array Value)
 /-- any other thing, by what is true of its one object (a def of one's own: SetO a S n := HO.ext fun h => ..) -/
 | ext (φ : Heap → Prop)

abbrev Hp := Addr → Option HO
def upd (H : Hp) (a : Addr) (o : HO) : Hp := fun b => if b = a then some o else H b
theorem upd_same {H : Hp} {a : Addr} {o : HO} : upd H a o a = some o := by unfold upd; rw [if_pos rfl]
theorem upd_ne {H : Hp} {a b : Addr} {o : HO} (h : b ≠ a) : upd H a o b = H b := by unfold upd; rw [if_neg h]
theorem ne_of_none {H : Hp} {a b : Addr} {o : HO} (h : H a = some o) (h' : H b = none) : a ≠ b := by
 intro e; subst e; rw [h] at h'; cases h'

section
variable (P : Program) (w : World)
def TupO (h : Heap) (a : Addr) (items : Array Value) : Prop := ∃ o, h.get? a = some o ∧ o.cls = .type "tuple" ∧ (∃ n, o.data = .seq items n) ∧ o.dict = none
theorem TupO.tup {h : Heap} {a : Addr} {items : Array Value} (x : TupO h a items) : IsTup h a items := let ⟨o, ho, hc, hd, _⟩ := x; ⟨o, ho, hc, hd⟩
theorem TupO.new (h : Heap) (items : Array Value) : TupO (h.push { cls := .type "tuple", data := .seq items }) h.objs.size items := ⟨_, Heap.get?_push_size _ rfl, rfl, ⟨_, rfl⟩, rfl⟩
def ObjOk (H : Hp) (h : Heap) (a : Addr) : HO → Prop
 | .lst xs => xs.length ≤ sizeLine ∧ ∃ (its : List Value) (n : Nat), Vals xs its ∧ h.get? a = some { cls := .type "list", data := .seq its.toArray n }
 | .tup xs => xs.length ≤ sizeLine ∧ ∃ its : List Value, Vals xs its ∧ TupO h a its.toArray
 | .dK kvs => kvs.length ≤ sizeLine ∧ (a == sysModules) = false ∧ ∃ vs, KV kvs vs ∧ h.DictOf (mixKind P w) a vs
 | .dT kvs => kvs.length ≤ sizeLine ∧ (a == sysModules) = false ∧ ∃ xs : List (List Key × Addr × Value),
   Paired (fun (p : List Key × V) (q : List Key × Addr × Value) => p.1 = q.1 ∧ H q.2.1 = some (.tup (p.1.map kV)) ∧ RelV p.2 q.2.2) kvs xs ∧
   ∃ o es ep, h.get? a = some o ∧ o.ExactDict ∧ o.data = .dict es ep ∧ es.toList = xs.map (entryOfKey (tupleKind (mixKind P w))) ∧ (xs.map (·.1)).Nodup
 | .set S n => h.SetOf (intKind P w) a S n
 | .ins C dx fs => H dx = some (.own a) ∧ fs.length ≤ 1000 ∧ dx ≠ a ∧ h.get? a = some (PySem.W.instObj C dx) ∧
   ∃ mA, h.Ns1 dx mA ∧ (∀ f, RelO (fs.lookup f) (mA f)) ∧ PySem.Within mA (fs.map (·.1))
 | .own _ => ∃ o, h.get? a = some o
 | .xd fs => ∃ mA, h.Ns1 a mA ∧ ∀ f, RelO (fs.lookup f) (mA f)
 | .rng lo hi => ∃ t u v, h.get? a = some { cls := .type "range", data := .fields #[.int lo t, .int hi u, .int 1 v] }
 | .frz o u => h.get? a = some o ∧ ObjOk H h a u
 | .tbl ps => h.get? a = some { cls := .none, data := .fields ps }
 | .met f x => h.get? a = some (PySem.W.methodObj (.ref f) (.ref x))
 | .ext φ => φ h ∧ (∃ o, h.get? a = some o) ∧ ∀ h1 h2 : Heap, φ h1 → (∀ o, h1.get? a = some o → h2.get? a = some o) → φ h2
def HOk (H : Hp) (h : Heap) : Prop := ∀ a o, H a = some o → ObjOk P w H h a o
end

section
variable {P : Program} {w : World} {H H' : Hp} {h h' : Heap} {a : Addr} {o : HO}
theorem ObjOk.lt (x : ObjOk P w H h a o) : a < h.objs.size := by
 cases o with
 | lst xs => obtain ⟨_, _, _, _, e⟩ := x; exact Heap.lt_size e
 | tup xs => obtain ⟨_, _, _, p⟩ := x; exact p.tup.lt
 | dK kvs => obtain ⟨_, _, _, _, o, _, _, e, _⟩ := x; exact Heap.lt_size e
 | dT kvs => obtain ⟨_, _, _, _, o, _, _, e, _⟩ := x; exact Heap.lt_size e
 | set S n => obtain ⟨o, _, _, _, e, _⟩ := x; exact Heap.lt_size e
 | ins C dx fs => obtain ⟨_, _, _, e, _⟩ := x; exact Heap.lt_size e
 | own y => obtain ⟨_, e⟩ := x; exact Heap.lt_size e
 | xd fs => obtain ⟨_, ⟨_, _, _, e, _⟩, _⟩ := x; exact Heap.lt_size e
 | rng lo hi => obtain ⟨_, _, _, e⟩ := x; exact Heap.lt_size e
 | frz ob u => obtain ⟨e, _⟩ := x; exact Heap.lt_size e
 | tbl ps => exact Heap.lt_size (show h.get? a = some _ from x)
 | met f y => exact Heap.lt_size (show h.get? a = some _ from x)
 | ext φ => obtain ⟨_, ⟨_, e⟩, _⟩ := x; exact Heap.lt_size e
theorem Paired.mapP {α β : Type} {F G : α → β → Prop} : ∀ {l₁ : List α} {l₂ : List β}, Paired F l₁ l₂ → (∀ a b, F a b → G a b) → Paired G l₁ l₂
 | _, _, .nil, _ => .nil
 | _, _, .cons r t, f => .cons (f _ _ r) (Paired.mapP t f)
theorem ObjOk.stay (x : ObjOk P w H h a o) (k : ∀ b u, (b = a ∨ H b = some (.own a)) → h.get? b = some u → h'.get? b = some u)
  (ho : ∀ b, H b = some (.own a) → H' b = some (.own a)) (ht : ∀ b xs, H b = some (.tup xs) → H' b = some (.tup xs)) : ObjOk P w H' h' a o := by
 induction o with
 | lst xs => obtain ⟨z, its, n, r, e⟩ := x; exact ⟨z, its, n, r, k _ _ (.inl rfl) e⟩
 | tup xs => obtain ⟨z, its, r, ob, e, c⟩ := x; exact ⟨z, its, r, ob, k _ _ (.inl rfl) e, c⟩
 | dK kvs => obtain ⟨z, y, vs, r, ob, es, ep, e, c⟩ := x; exact ⟨z, y, vs, r, ob, es, ep, k _ _ (.inl rfl) e, c⟩
 | dT kvs =>
  obtain ⟨z, y, xs, r, ob, es, ep, e, c⟩ := x
  exact ⟨z, y, xs, Paired.mapP r fun p q z => ⟨z.1, ht _ _ z.2.1, z.2.2⟩, ob, es, ep, k _ _ (.inl rfl) e, c⟩
 | set S n => obtain ⟨ob, es, ep, t, e, c⟩ := x; exact ⟨ob, es, ep, t, k _ _ (.inl rfl) e, c⟩
 | ins C dx fs =>
  obtain ⟨d, z, ne, e, mA, ⟨od, es, ep, e2, c⟩, r⟩ := x
  exact ⟨ho _ d, z, ne, k _ _ (.inl rfl) e, mA, ⟨od, es, ep, k _ _ (.inr d) e2, c⟩, r⟩
 | own y => obtain ⟨ob, e⟩ := x; exact ⟨ob, k _ _ (.inl rfl) e⟩
 | xd fs => obtain ⟨mA, ⟨od, es, ep, e, c⟩, r⟩ := x; exact ⟨mA, ⟨od, es, ep, k _ _ (.inl rfl) e, c⟩, r⟩
 | rng lo hi => obtain ⟨t, u, v, e⟩ := x; exact ⟨t, u, v, k _ _ (.inl rfl) e⟩
 | frz ob u ih => obtain ⟨e, q⟩ := x; exact ⟨k _ _ (.inl rfl) e, ih q⟩
 | tbl ps =>
  have e : h.get? a = some { cls := .none, data := .fields ps } := x
  show h'.get? a = some { cls := .none, data := .fields ps }
  exact k a _ (.inl rfl) e
 | met f y =>
  have e : h.get? a = some (PySem.W.methodObj (.ref f) (.ref y)) := x
  show h'.get? a = some (PySem.W.methodObj (.ref f) (.ref y))
  exact k a _ (.inl rfl) e
 | ext φ => obtain ⟨p, ⟨o, e⟩, st⟩ := x; exact ⟨st _ _ p fun o q => k _ _ (.inl rfl) q, ⟨o, k _ _ (.inl rfl) e⟩, st⟩
theorem HOk.lt (x : HOk P w H h) (e : H a = some o) : a < h.objs.size := (x a o e).lt
theorem HOk.fresh (x : HOk P w H h) (e : h.objs.size ≤ a) : H a = none := by
 cases q : H a with
 | none => rfl
 | some u => exact absurd (Nat.lt_of_lt_of_le (x.lt q) e) (Nat.lt_irrefl _)
theorem HOk.kept (x : HOk P w H h) (k : ∀ b u, h.get? b = some u → h'.get? b = some u) : HOk P w H h' := fun a o e =>
 (x a o e).stay (fun b u _ q => k b u q) (fun _ q => q) fun _ _ q => q
theorem HOk.laid (x : HOk P w H h) (k : ∀ b u, h.get? b = some u → h'.get? b = some u) (hp : h.objs.size ≤ a) (new : ObjOk P w (upd H a o) h' a o) : HOk P w (upd H a o) h' := fun b u e => by
 have hn := x.fresh hp
 by_cases hb : b = a
 ·subst hb; rw [upd_same] at e; cases e; exact new
 ·rw [upd_ne hb] at e
  exact (x b u e).stay (fun c v _ q => k c v q) (fun c q => by rw [upd_ne (ne_of_none q hn)]; exact q) fun c xs q => by rw [upd_ne (ne_of_none q hn)]; exact q
end

def Rd (H : Hp) (a : Addr) (u : HO) : Prop := H a = some u ∨ ∃ o, H a = some (.frz o u)
theorem Rd.ok {P : Program} {w : World} {H : Hp} {h : Heap} {a : Addr} {u : HO} (r : Rd H a u) (x : HOk P w H h) : ObjOk P w H h a u := by
 rcases r with r | ⟨o, r⟩
 ·exact x a u r
 ·obtain ⟨_, q⟩ := x a _ r
  exact q
def Mut : Option HO → Prop
 | some (.lst _) => True
 | some (.dK _) => True
 | some (.dT _) => True
 | some (.set _ _) => True
 | some (.ins _ _ _) => True
 | some (.ext _) => True
 | _ => False
section
variable {P : Program} {w : World} {H : Hp} {h h' : Heap} {x e : Addr} {o' : HO}
theorem HOk.write (ok : HOk P w H h) (mu : Mut (H x)) (he : e = x ∨ H e = some (.own x)) (k : ∀ b u, b ≠ e → h.get? b = some u → h'.get? b = some u) (heo : ∃ u, h'.get? e = some u)
  (new : ObjOk P w (upd H x o') h' x o') : HOk P w (upd H x o') h' := fun b u q => by
 have nown : ∀ c y, H c = some (.own y) → c ≠ x := fun c y r z => by subst z; rw [r] at mu; exact mu
 have ntup : ∀ c xs, H c = some (.tup xs) → c ≠ x := fun c xs r z => by subst z; rw [r] at mu; exact mu
 by_cases hb : b = x
 ·subst hb; rw [upd_same] at q; cases q; exact new
 ·rw [upd_ne hb] at q
  by_cases hbe : b = e
  ·have q' : H b = some (.own x) := by
    rcases he with z | z
    ·exact absurd (hbe.trans z) hb
    ·rw [hbe]; exact z
   rw [q] at q'; cases q'
   obtain ⟨v, hv⟩ := heo
   exact ⟨v, by rw [hbe]; exact hv⟩
  ·refine (ok b u q).stay (fun c v hc r => k c v ?_ r) (fun c r => by rw [upd_ne (nown c b r)]; exact r) fun c xs r => by rw [upd_ne (ntup c xs r)]; exact r
   rcases hc with rfl | hc
   ·exact hbe
   ·rintro rfl
    rcases he with z | z
    ·exact nown c b hc z
    ·rw [hc] at z; cases z; exact hb rfl
end

structure Un (fs ex : List Addr) (H H' : Hp) (h h' : Heap) : Prop where
 keep : ∀ b o, h.get? b = some o → H b = none → b ∉ fs → b ∉ ex → h'.get? b = some o
 slot : ∀ b o, h.get? b = some o → H b = none → b ∈ fs → b ∉ ex → ∃ sl, h'.get? b = some { o with slots := sl }
 free : ∀ b o, h.get? b = some o → H b = none → b ∉ ex → H' b = none
 there : ∀ b o, h.get? b = some o → b ∉ ex → ∃ o', h'.get? b = some o'
 tups : ∀ b xs, H b = some (.tup xs) → H' b = some (.tup xs)
 frzs : ∀ b o u, H b = some (.frz o u) → H' b = some (.frz o u)
 tbls : ∀ b ps, H b = some (.tbl ps) → ∃ more, H' b = some (.tbl (ps ++ more))
section
variable {fs fs' ex ex' : List Addr} {H H1 H2 : Hp} {h h1 h2 h' : Heap} {a x e : Addr} {o : HO}
theorem Un.any (u : Un fs ex H H1 h h1) {b : Addr} {ob : Obj} (q : h.get? b = some ob) (n : H b = none) (hx : b ∉ ex) : ∃ sl, h1.get? b = some { ob with slots := sl } := by
 by_cases hb : b ∈ fs
 ·exact u.slot b ob q n hb hx
 ·exact ⟨ob.slots, u.keep b ob q n hb hx⟩
theorem Un.kept (k : ∀ b u, h.get? b = some u → h'.get? b = some u) : Un fs ex H H h h' :=
 ⟨fun b ob q _ _ _ => k b ob q, fun b ob q _ _ _ => ⟨ob.slots, k b ob q⟩, fun _ _ _ n _ => n, fun b ob q _ => ⟨ob, k b ob q⟩, fun _ _ q => q, fun _ _ _ q => q, fun _ ps q => ⟨#[], by rw [q]; simp⟩⟩
theorem Un.refl : Un fs ex H H h h := Un.kept fun _ _ q => q
theorem Un.laid (k : ∀ b u, h.get? b = some u → h'.get? b = some u) (hp : h.objs.size ≤ a) (hn : H a = none) : Un fs ex H (upd H a o) h h' where
 keep := fun b u q _ _ _ => k b u q
 slot := fun b u q _ _ _ => ⟨u.slots, k b u q⟩
 free := fun b u q n _ => by rw [upd_ne (Nat.ne_of_lt (Nat.lt_of_lt_of_le (Heap.lt_size q) hp))]; exact n
 there := fun b u q _ => ⟨u, k b u q⟩
 tups := fun b xs q => by rw [upd_ne (ne_of_none q hn)]; exact q
 frzs := fun b u xs q => by rw [upd_ne (ne_of_none q hn)]; exact q
 tbls := fun b ps q => ⟨#[], by rw [upd_ne (ne_of_none q hn), q]; simp⟩
theorem Un.write (mu : Mut (H x)) (he : e = x ∨ H e = some (.own x)) (k : ∀ b u, b ≠ e → h.get? b = some u → h'.get? b = some u) (heo : ∃ u, h'.get? e = some u) : Un fs ex H (upd H x o) h h' := by
 have hx : ∀ b, H b = none → b ≠ x := fun b n z => by subst z; rw [n] at mu; exact mu
 have hb : ∀ b, H b = none → b ≠ e := fun b n z => by
  subst z
  rcases he with r | r
  ·exact hx b n r
  ·rw [n] at r; cases r
 have hm : ∀ b u, H b = some u → ¬ Mut (some u) → b ≠ x := fun b u q nm z => by subst z; rw [q] at mu; exact nm mu
 refine ⟨fun b u q n _ _ => k b u (hb b n) q, fun b u q n _ _ => ⟨u.slots, k b u (hb b n) q⟩, fun b u q n _ => by rw [upd_ne (hx b n)]; exact n, fun b u q _ => ?_,
  fun b xs q => by rw [upd_ne (hm b _ q fun z => z)]; exact q, fun b u xs q => by rw [upd_ne (hm b _ q fun z => z)]; exact q, fun b ps q => ⟨#[], by rw [upd_ne (hm b _ q fun z => z), q]; simp⟩⟩
 by_cases hbe : b = e
 ·subst hbe; exact heo
 ·exact ⟨u, k b u hbe q⟩
end

def trk (h : Heap) (H : Hp) : List Addr := (List.range h.objs.size).filter fun a => (H a).isSome
def hidT (h : Heap) (H : Hp) : Heap := PySem.W.hideAll h (trk h H)
theorem hidT_size (h : Heap) (H : Hp) : (hidT h H).objs.size = h.objs.size := PySem.W.hideAll_size _ _
theorem hidT_get {h : Heap} {H : Hp} {b : Addr} {o : Obj} (e : h.get? b = some o) (n : H b = none) : (hidT h H).get? b = some o :=
 PySem.W.hideAll_get _ e fun hm => by
  have q : (H b).isSome = true := (List.mem_filter.mp hm).2
  rw [n] at q; simp at q
theorem of_hidT {h : Heap} {H : Hp} {b : Addr} {o : Obj} (e : (hidT h H).get? b = some o) : h.get? b = some o ∧ H b = none := by
 have e' : h.get? b = some o := PySem.W.of_hideAll (trk h H) e
 refine ⟨e', ?_⟩
 cases q : H b with
 | none => rfl
 | some x =>
  have hm : b ∈ trk h H := List.mem_filter.mpr ⟨List.mem_range.mpr (Heap.lt_size e'), by simp [q]⟩
  have z : (hidT h H).get? b = none := PySem.W.hideAll_none (trk h H) hm
  rw [z] at e; cases e

def allNews (g h : Heap) (L : Addr) : List (Addr × Obj) := (List.range h.objs.size).filterMap fun a => if a = L ∨ (g.get? a).isSome = true then none else (h.get? a).map fun o => (a, o)
def rest (g h : Heap) (L d : Addr) : List (Addr × Obj) := (allNews g h L).filter fun p => decide (p.1 ≠ d)
end L2

namespace L2
open PySem PySem.Spec PyProof.Rows

structure Mod (K : PySem.W.Frag) (mg : Str → Option Value) (base : Heap) : Prop where
 kin : K.In base
 glob : base.Ns mainGlobals mg
 blt : ∃ mb, base.Ns builtinsNs mb ∧ ∀ x : Str, x ≠ "__name__" → mb x = bootBuiltins x
 nolimit : base.NoLimit

structure Cx where
 prog : Program
 w : World
 K : PySem.W.Frag
 mg : Str → Option Value
 base : Heap
 A : Around
 N : List Str
 s₀ : Shared
 H₀ : Hp
 env : Env
 outer : List Env
 stack : List Env
 ex : List Addr
 fn : Str → Bool
 calm : Bool
 pn : List (Addr × Obj)
 xe : Value → Shared → Prop
def frs (l : List Env) : List Addr := l.filterMap (·.frame)
abbrev Cx.fs (X : Cx) : List Addr := frs X.outer

def Vis (sc : Scope) (x : Str) : Prop := sc.names.lookup x = some .local ∨ sc.names.lookup x = some .cell ∨ sc.names.lookup x = some .free
def Loc (sc : Scope) (x : Str) : Prop := sc.names.lookup x = some .local ∨ sc.names.lookup x = some .cell
def Look (env : Env) (h : Heap) (m : Str → Option Value) (x : Str) (u : Value) : Prop :=
 (env.kindOf x = some .local ∧ m x = some u) ∨ ((env.kindOf x = some .cell ∨ env.kindOf x = some .free) ∧ ∃ c, env.cells.lookup x = some c ∧ h.IsCell c (some u))

def Still (H : Hp) (v : Value) : Prop := ∃ (a : Addr) (o : Obj) (u : HO) (vs : Array Value), v = .ref a ∧ H a = some (.frz o u) ∧ o.data = .fields vs ∧ vs[2]? = some .none
def Quiet (A : Around) (H : Hp) : Prop := ∀ v, A.handled = some v → Still H v
structure Cx.Ok (X : Cx) : Prop where
 mod : Mod X.K X.mg X.base
 kind : X.env.scope.kind = .function
 glob : X.env.globals = mainGlobals
 blt : X.env.builtins = builtinsNs
 above : X.s₀.heap.objs.size ≤ X.env.locals
 inj : ∀ x y c, X.env.cells.lookup x = some c → X.env.cells.lookup y = some c → x = y
 has : ∀ x, (X.env.kindOf x = some .cell ∨ X.env.kindOf x = some .free) → ∃ c, X.env.cells.lookup x = some c
 cab : ∀ x c, X.fn x = true → X.env.cells.lookup x = some c → X.s₀.heap.objs.size ≤ c
 hd : X.calm = true → X.A.handled = none
 qt : Quiet X.A X.H₀
 frames : X.A.frames = some X.stack
 stk : X.stack = X.outer ∨ (X.stack = X.env :: X.outer ∧ X.env.frame = some X.env.locals)
 exf : ∀ b ∈ X.ex, b ≠ X.env.locals ∧ ∀ x c, X.env.cells.lookup x = some c → c ≠ b
 bs : ∀ b o, X.base.get? b = some o → X.s₀.heap.get? b = some o ∧ X.H₀ b = none
 bsz : X.base.objs.size ≤ X.s₀.heap.objs.size
 noex : ∀ b o, X.base.get? b = some o → b ∉ X.ex
 exfs : ∀ b ∈ X.ex, b ∉ X.fs
 funs : X.s₀.heap.FunFrames X.base X.outer
 frf : ∀ b ∈ X.fs, X.H₀ b = none

structure Inv (X : Cx) (pins : List (Addr × Obj)) (σ : List (Option V)) (H : Hp) (s : Shared) : Prop where
 ok : X.Ok
 os : s.os = X.s₀.os
 bare : AllBare s.gens
 base : Un X.fs X.ex X.H₀ H X.s₀.heap s.heap
 loc : ∃ m, s.heap.Ns X.env.locals m ∧ ∀ (i : Nat) (x : Str) (v : V), X.N[i]? = some x → σ[i]? = some (some v) → Vis X.env.scope x → ∃ u, RelV v u ∧ Look X.env s.heap m x u
 cell : ∀ x c, X.env.cells.lookup x = some c → ∃ v, s.heap.IsCell c v
 free : H X.env.locals = none
 freeC : ∀ x c, X.env.cells.lookup x = some c → H c = none
 pin : ∀ p ∈ X.pn ++ pins, s.heap.get? p.1 = some p.2 ∧ H p.1 = none ∧ p.1 ≠ X.env.locals ∧ p.1 ∉ X.fs ∧ ∀ v, p.2.data ≠ .cell v
 hok : HOk X.prog X.w H s.heap
 len : σ.length = X.N.length

section
variable {X : Cx} {pins : List (Addr × Obj)} {σ : List (Option V)} {H H' : Hp} {s : Shared} {h' : Heap}

theorem Cx.Ok.nofr (ok : X.Ok) {b : Addr} {o : Obj} (e : X.base.get? b = some o) : b ∉ X.fs := fun hb => by
 have := (ok.funs.mem hb).1
 rw [e] at this; cases this
theorem Inv.bs (I : Inv X pins σ H s) : ∀ b o, X.base.get? b = some o → s.heap.get? b = some o ∧ H b = none := fun b o e =>
 ⟨I.base.keep b o (I.ok.bs b o e).1 (I.ok.bs b o e).2 (I.ok.nofr e) (I.ok.noex b o e), I.base.free b o (I.ok.bs b o e).1 (I.ok.bs b o e).2 (I.ok.noex b o e)⟩
theorem Inv.qt0 (I : Inv X pins σ H s) : Quiet X.A H := fun v e => let ⟨a, o, u, vs, h1, h2, h3⟩ := I.ok.qt v e; ⟨a, o, u, vs, h1, I.base.frzs a o u h2, h3⟩
theorem Inv.bk (I : Inv X pins σ H s) : ∀ b o, X.base.get? b = some o → s.heap.get? b = some o := fun b o e => (I.bs b o e).1
theorem Inv.mod (I : Inv X pins σ H s) : Mod X.K X.mg X.base := I.ok.mod
theorem Inv.kIn (I : Inv X pins σ H s) : X.K.In s.heap := I.ok.mod.kin.keeps I.bk
theorem Inv.lt (I : Inv X pins σ H s) : X.env.locals < s.heap.objs.size := let ⟨_, hn, _⟩ := I.loc; hn.lt
theorem Inv.sz (I : Inv X pins σ H s) : X.s₀.heap.objs.size ≤ s.heap.objs.size := Nat.le_trans I.ok.above (Nat.le_of_lt I.lt)
theorem Inv.nofs (I : Inv X pins σ H s) {a : Addr} (h : s.heap.objs.size ≤ a) : a ∉ X.fs := fun hb => by
 obtain ⟨_, o, ho, _⟩ := I.ok.funs.mem hb
 exact absurd (Nat.lt_of_lt_of_le (Heap.lt_size ho) (Nat.le_trans I.sz h)) (Nat.lt_irrefl _)
theorem Inv.cne (I : Inv X pins σ H s) : ∀ x c, X.env.cells.lookup x = some c → c ≠ X.env.locals := fun x c e z => by
 obtain ⟨v, o, ho, hd⟩ := I.cell x c e
 obtain ⟨m, ⟨o', es, ep, ho', hd', _⟩, _⟩ := I.loc
 rw [z, ho'] at ho; cases ho; rw [hd'] at hd; cases hd
theorem Inv.funs (I : Inv X pins σ H s) : s.heap.FunFrames X.base X.outer := by
 have all : ∀ (l : List Env), (∀ b ∈ frs l, b ∈ X.fs) → X.s₀.heap.FunFrames X.base l → s.heap.FunFrames X.base l := by
  intro l
  induction l with
  | nil => intro _ _; trivial
  | cons env r ih =>
   intro hs hl
   obtain ⟨hk, ⟨L, o, hf, hn, ho, hd⟩, hr⟩ := hl
   have hL : L ∈ X.fs := hs L (by unfold frs; rw [List.filterMap_cons, hf]; exact List.mem_cons_self)
   obtain ⟨sl, e⟩ := I.base.slot L o ho (I.ok.frf L hL) hL fun z => I.ok.exfs L z hL
   exact ⟨hk, ⟨L, _, hf, hn, e, hd⟩, ih (fun b hb => hs b (by unfold frs; rw [List.filterMap_cons, hf]; exact List.mem_cons_of_mem _ hb)) hr⟩
 exact all X.outer (fun _ hb => hb) I.ok.funs

theorem Inv.stack (I : Inv X pins σ H s) : s.heap.FunFrames X.base X.stack := by
 rcases I.ok.stk with e | ⟨e, hf⟩
 ·rw [e]; exact I.funs
 ·rw [e]
  obtain ⟨m, hn, _⟩ := I.loc
  refine .cons (by rw [I.ok.kind]; decide) hf hn ?_ I.funs
  exact Heap.get?_none_of_le (Nat.le_trans I.ok.bsz I.ok.above)
theorem Inv.stkSub (I : Inv X pins σ H s) : ∀ b ∈ frs X.stack, b ∈ X.env.locals :: X.fs := fun b hb => by
 rcases I.ok.stk with e | ⟨e, hf⟩
 ·rw [e] at hb; exact List.mem_cons_of_mem _ hb
 ·rw [e] at hb
  unfold frs at hb
  rw [List.filterMap_cons, hf] at hb
  exact hb
theorem Inv.stkFree (I : Inv X pins σ H s) : ∀ b ∈ frs X.stack, H b = none := fun b hb => by
 rcases List.mem_cons.mp (I.stkSub b hb) with e | hb
 ·rw [e]; exact I.free
 ·obtain ⟨_, o, ho, _⟩ := I.ok.funs.mem hb
  exact I.base.free b o ho (I.ok.frf b hb) fun z => I.ok.exfs b z hb

theorem Inv.stepG {g' : Array GenState} {t' : Nat} {d' : Drawn} {ch : List Addr} (I : Inv X pins σ H s)
  (hch : ∀ b ∈ ch, (b ∈ X.ex ∨ X.s₀.heap.get? b = none) ∧ b ≠ X.env.locals ∧ (∀ x c, X.env.cells.lookup x = some c → c ≠ b) ∧ ∀ p ∈ X.pn ++ pins, p.1 ≠ b)
  (keep : ∀ b o, b ≠ X.env.locals → b ∉ X.fs → b ∉ ch → s.heap.get? b = some o → H b = none → h'.get? b = some o)
  (slot : ∀ b o, b ≠ X.env.locals → b ∈ X.fs → b ∉ ch → s.heap.get? b = some o → H b = none → ∃ sl, h'.get? b = some { o with slots := sl }) (free : ∀ b o, b ∉ ch → s.heap.get? b = some o → H b = none → H' b = none)
  (there : ∀ b o, b ∉ ch → s.heap.get? b = some o → ∃ o', h'.get? b = some o')
  (tups : ∀ b xs, H b = some (.tup xs) → H' b = some (.tup xs)) (frzs : ∀ b o u, H b = some (.frz o u) → H' b = some (.frz o u)) (tbls : ∀ b ps, H b = some (.tbl ps) → ∃ more, H' b = some (.tbl (ps ++ more)))
  (ns : ∀ m, s.heap.Ns X.env.locals m → h'.Ns X.env.locals m) (hok : HOk X.prog X.w H' h') (hg : AllBare g') :
  Inv X pins σ H' { s with heap := h', gens := g', drawn := d', toks := t' } := by
 have neL : ∀ b o, X.s₀.heap.get? b = some o → b ≠ X.env.locals := fun b o e => Nat.ne_of_lt (Nat.lt_of_lt_of_le (Heap.lt_size e) I.ok.above)
 have neC : ∀ b o, X.s₀.heap.get? b = some o → b ∉ X.ex → b ∉ ch := fun b o e hx hb => by
  rcases (hch b hb).1 with z | z
  ·exact hx z
  ·rw [z] at e; cases e
 have cellK : ∀ x c, X.env.cells.lookup x = some c → ∀ v, s.heap.IsCell c v → h'.IsCell c v := fun x c e v ⟨o, ho, hd⟩ => by
  have nch : c ∉ ch := fun z => (hch c z).2.2.1 x c e rfl
  by_cases hc : c ∈ X.fs
  ·obtain ⟨sl, q⟩ := slot c o (I.cne x c e) hc nch ho (I.freeC x c e)
   exact ⟨_, q, hd⟩
  ·exact ⟨o, keep c o (I.cne x c e) hc nch ho (I.freeC x c e), hd⟩
 refine ⟨I.ok, I.os, hg, ⟨fun b o e n hb hx => ?_, fun b o e n hb hx => ?_, fun b o e n hx => ?_, fun b o e hx => ?_, fun b xs e => tups b xs (I.base.tups b xs e), fun b o xs e => frzs b o xs (I.base.frzs b o xs e), fun b ps e => ?_⟩, ?_, fun x c e => ?_, ?_, fun x c e => ?_, fun p hp => ?_, hok, I.len⟩
 ·exact keep b o (neL b o e) hb (neC b o e hx) (I.base.keep b o e n hb hx) (I.base.free b o e n hx)
 ·obtain ⟨sl, e1⟩ := I.base.slot b o e n hb hx
  obtain ⟨sl', e2⟩ := slot b _ (neL b o e) hb (neC b o e hx) e1 (I.base.free b o e n hx)
  exact ⟨sl', e2⟩
 ·obtain ⟨o', e1⟩ := I.base.there b o e hx
  exact free b o' (neC b o e hx) e1 (I.base.free b o e n hx)
 ·obtain ⟨o', e1⟩ := I.base.there b o e hx
  exact there b o' (neC b o e hx) e1
 ·obtain ⟨m1, e1⟩ := I.base.tbls b ps e
  obtain ⟨m2, e2⟩ := tbls b _ e1
  exact ⟨m1 ++ m2, by rw [e2, Array.append_assoc]⟩
 ·obtain ⟨m, hn, hl⟩ := I.loc
  refine ⟨m, ns m hn, fun i x v e1 e2 e3 => ?_⟩
  obtain ⟨u, r, l⟩ := hl i x v e1 e2 e3
  refine ⟨u, r, ?_⟩
  rcases l with l | ⟨k, c, e, z⟩
  ·exact .inl l
  ·exact .inr ⟨k, c, e, cellK x c e _ z⟩
 ·obtain ⟨v, z⟩ := I.cell x c e
  exact ⟨v, cellK x c e v z⟩
 ·obtain ⟨m, ⟨o, _, _, ho, _⟩, _⟩ := I.loc
  exact free _ o (fun z => (hch _ z).2.1 rfl) ho I.free
 ·obtain ⟨v, o, ho, hd⟩ := I.cell x c e
  exact free c o (fun z => (hch c z).2.2.1 x c e rfl) ho (I.freeC x c e)
 ·obtain ⟨e, n, ne, nf, d⟩ := I.pin p hp
  have nch : p.1 ∉ ch := fun z => (hch p.1 z).2.2.2 p hp rfl
  exact ⟨keep p.1 p.2 ne nf nch e n, free p.1 p.2 nch e n, ne, nf, d⟩
theorem Inv.step {g' : Array GenState} {t' : Nat} {d' : Drawn} {ch : List Addr} (I : Inv X pins σ H s)
  (hch : ∀ b ∈ ch, (b ∈ X.ex ∨ X.s₀.heap.objs.size ≤ b) ∧ b ≠ X.env.locals ∧ (∀ x c, X.env.cells.lookup x = some c → c ≠ b) ∧ ∀ p ∈ X.pn ++ pins, p.1 ≠ b)
  (keep : ∀ b o, b ≠ X.env.locals → b ∉ X.fs → b ∉ ch → s.heap.get? b = some o → H b = none → h'.get? b = some o)
  (slot : ∀ b o, b ≠ X.env.locals → b ∈ X.fs → b ∉ ch → s.heap.get? b = some o → H b = none → ∃ sl, h'.get? b = some { o with slots := sl }) (free : ∀ b o, b ∉ ch → s.heap.get? b = some o → H b = none → H' b = none)
  (there : ∀ b o, b ∉ ch → s.heap.get? b = some o → ∃ o', h'.get? b = some o')
  (tups : ∀ b xs, H b = some (.tup xs) → H' b = some (.tup xs)) (frzs : ∀ b o u, H b = some (.frz o u) → H' b = some (.frz o u)) (tbls : ∀ b ps, H b = some (.tbl ps) → ∃ more, H' b = some (.tbl (ps ++ more)))
  (ns : ∀ m, s.heap.Ns X.env.locals m → h'.Ns X.env.locals m) (hok : HOk X.prog X.w H' h') (hg : AllBare g') :
  Inv X pins σ H' { s with heap := h', gens := g', drawn := d', toks := t' } :=
 I.stepG (ch := ch) (fun b z => ⟨(hch b z).1.imp id fun q => Heap.get?_none_of_le q, (hch b z).2⟩) keep slot free there tups frzs tbls ns hok hg
theorem Inv.un {t' : Nat} (I : Inv X pins σ H s) (u : Un X.fs [] H H' s.heap h') (hok : HOk X.prog X.w H' h') : Inv X pins σ H' { s with heap := h', toks := t' } := by
 obtain ⟨m, ⟨o, es, ep, ho, r⟩, _⟩ := id I.loc
 obtain ⟨sl, hL⟩ := u.any ho I.free (by simp)
 exact I.step (g' := s.gens) (d' := s.drawn) (ch := []) (fun _ z => nomatch z) (fun b o _ hb _ e n => u.keep b o e n hb (by simp)) (fun b o _ hb _ e n => u.slot b o e n hb (by simp)) (fun b o _ e n => u.free b o e n (by simp)) (fun b o _ e => u.there b o e (by simp)) u.tups u.frzs u.tbls (fun m' hm => by
  obtain ⟨o', es', ep', ho', r'⟩ := hm
  rw [ho] at ho'; cases ho'
  exact ⟨_, es', ep', hL, r'⟩) hok I.bare
theorem Inv.call {g' : Array GenState} {t' : Nat} {d' : Drawn} {ch : List Addr} (I : Inv X pins σ H s) (u : Un (frs X.stack) ch H H' s.heap h') (hok : HOk X.prog X.w H' h') (hg : AllBare g')
  (hch : ∀ b ∈ ch, (b ∈ X.ex ∨ X.s₀.heap.objs.size ≤ b) ∧ b ≠ X.env.locals ∧ (∀ x c, X.env.cells.lookup x = some c → c ≠ b) ∧ ∀ p ∈ X.pn ++ pins, p.1 ≠ b) :
  Inv X pins σ H' { s with heap := h', gens := g', drawn := d', toks := t' } := by
 obtain ⟨m, ⟨o, es, ep, ho, r⟩, _⟩ := id I.loc
 obtain ⟨sl, hL⟩ := u.any ho I.free fun z => (hch _ z).2.1 rfl
 exact I.step (ch := ch) hch (fun b o hL hb hc e n => u.keep b o e n (fun z => (List.mem_cons.mp (I.stkSub b z)).elim hL hb) hc) (fun b o _ _ hc e n => u.any e n hc) (fun b o hc e n => u.free b o e n hc) (fun b o hc e => u.there b o e hc) u.tups u.frzs u.tbls (fun m' hm => by
  obtain ⟨o', es', ep', ho', r'⟩ := hm
  rw [ho] at ho'; cases ho'
  exact ⟨_, es', ep', hL, r'⟩) hok hg
theorem Inv.turned {t' : Nat} {it : Addr} (I : Inv X pins σ H s) (k : ∀ b o, b ≠ it → s.heap.get? b = some o → h'.get? b = some o) (hn : H it = none) (hL : it ≠ X.env.locals)
  (h1 : it ∈ X.ex ∨ X.s₀.heap.objs.size ≤ it) (h2 : ∀ x c, X.env.cells.lookup x = some c → c ≠ it) (h3 : ∀ p ∈ X.pn ++ pins, p.1 ≠ it) : Inv X pins σ H { s with heap := h', toks := t' } := by
 have nit : ∀ b u, H b = some u → b ≠ it := fun b u e z => by rw [z, hn] at e; cases e
 refine I.step (g' := s.gens) (d' := s.drawn) (ch := [it]) (fun b hb => ?_) (fun b o _ _ hc e _ => k b o (fun z => hc (by simp [z])) e) (fun b o _ _ hc e _ => ⟨o.slots, k b o (fun z => hc (by simp [z])) e⟩) (fun _ _ _ _ n => n)
  (fun b o hc e => ⟨o, k b o (fun z => hc (by simp [z])) e⟩) (fun _ _ e => e) (fun _ _ _ e => e) (fun b ps e => ⟨#[], by rw [e]; simp⟩) (fun m hm => ?_) (fun b u e => ?_) I.bare
 ·have e : b = it := by simpa using hb
  subst e
  exact ⟨h1, hL, h2, h3⟩
 ·obtain ⟨o, es, ep, ho, r⟩ := hm
  exact ⟨o, es, ep, k _ o (Ne.symm hL) ho, r⟩
 ·refine (I.hok b u e).stay (fun c v hc q => k c v ?_ q) (fun _ q => q) fun _ _ q => q
  rcases hc with z | z
  ·rw [z]; exact nit b u e
  ·exact nit c _ z
theorem Inv.tok (I : Inv X pins σ H s) (t : Nat) : Inv X pins σ H { s with toks := t } := I.un (h' := s.heap) (t' := t) Un.refl I.hok
theorem Inv.kept {t' : Nat} (I : Inv X pins σ H s) (k : ∀ b u, s.heap.get? b = some u → h'.get? b = some u) : Inv X pins σ H { s with heap := h', toks := t' } := I.un (Un.kept k) (I.hok.kept k)
theorem Inv.laid {a : Addr} {o : HO} {t' : Nat} (I : Inv X pins σ H s) (k : ∀ b u, s.heap.get? b = some u → h'.get? b = some u) (hp : s.heap.objs.size ≤ a) (new : ObjOk X.prog X.w (upd H a o) h' a o) :
  Inv X pins σ (upd H a o) { s with heap := h', toks := t' } := I.un (Un.laid k hp (I.hok.fresh hp)) (I.hok.laid k hp new)
theorem Inv.write {x e : Addr} {o : HO} {t' : Nat} (I : Inv X pins σ H s) (mu : Mut (H x)) (he : e = x ∨ H e = some (.own x)) (k : ∀ b u, b ≠ e → s.heap.get? b = some u → h'.get? b = some u) (heo : ∃ u, h'.get? e = some u)
  (new : ObjOk X.prog X.w (upd H x o) h' x o) : Inv X pins σ (upd H x o) { s with heap := h', toks := t' } := I.un (Un.write mu he k heo) (I.hok.write mu he k heo new)
theorem Inv.weak {σ' : List (Option V)} (I : Inv X pins σ H s) (hl : σ'.length = σ.length) (w : ∀ (i : Nat) v, σ'[i]? = some (some v) → σ[i]? = some (some v)) : Inv X pins σ' H s :=
 ⟨I.ok, I.os, I.bare, I.base, let ⟨m, hn, hl'⟩ := I.loc; ⟨m, hn, fun i x v e1 e2 e3 => hl' i x v e1 (w i v e2) e3⟩, I.cell, I.free, I.freeC, I.pin, I.hok, hl.trans I.len⟩
theorem Inv.pins_of {pins' : List (Addr × Obj)} (I : Inv X pins σ H s) (h : ∀ p ∈ pins', s.heap.get? p.1 = some p.2 ∧ H p.1 = none ∧ p.1 ≠ X.env.locals ∧ p.1 ∉ X.fs ∧ ∀ v, p.2.data ≠ .cell v) : Inv X pins' σ H s :=
 ⟨I.ok, I.os, I.bare, I.base, I.loc, I.cell, I.free, I.freeC, fun p hp => (List.mem_append.mp hp).elim (fun z => I.pin p (List.mem_append_left _ z)) (h p), I.hok, I.len⟩

theorem nodup_ix {N : List Str} (hN : N.Nodup) {i j : Nat} {x : Str} (a : N[i]? = some x) (b : N[j]? = some x) : i = j := by
 obtain ⟨h1, e1⟩ := List.getElem?_eq_some_iff.mp a
 obtain ⟨h2, e2⟩ := List.getElem?_eq_some_iff.mp b
 exact (List.getElem_inj hN).mp (e1.trans e2.symm)

theorem store_ok2 {M : Model} {A : Around} {E : Value → Shared → Prop} {i : Nat} {x : Str} {v : V} {u : Value} {Q : Unit → Shared → Prop} (I : Inv X pins σ H s) (hN : X.N.Nodup) (hi : X.N[i]? = some x) (hx : Loc X.env.scope x) (r : RelV v u)
  (h : ∀ s', Inv X pins (σ.set i (some v)) H s' → (∃ a, Heap.SameBut a s.heap s'.heap ∧ (a = X.env.locals ∨ X.env.cells.lookup x = some a)) → Q () s') (hf : X.fn x = true ∨ X.env.scope.names.lookup x = some .local := by first | exact .inl rfl | exact .inr rfl | assumption) : wpAny M A (storeName X.env x u) Q E s := by
 obtain ⟨m, hn, hl⟩ := id I.loc
 have hcls : (X.env.scope.kind == .class || (X.env.scope.kind == .module && X.env.locals != X.env.globals)) = false := by rw [I.ok.kind]; rfl
 have hiσ : i < σ.length := by rw [I.len]; exact (List.getElem?_eq_some_iff.mp hi).1
 have cne := I.cne
 have tracked : ∀ {a : Addr} {h' : Heap}, (∃ o, s.heap.get? a = some o ∧ H a = none) → Heap.SameBut a s.heap h' → HOk X.prog X.w H h' := fun {a h'} ha hs b ob e => by
  obtain ⟨_, _, hfree⟩ := ha
  refine (I.hok b ob e).stay (fun c w' hc q => (hs.2 c ?_).trans q) (fun _ q => q) fun _ _ q => q
  rintro rfl
  rcases hc with rfl | hc
  ·rw [hfree] at e; cases e
  ·rw [hfree] at hc; cases hc
 rcases hx with hk | hk
 ·refine wpAny_storeName_local hk hn (fun h' hn' hs => ?_) hcls
  obtain ⟨oL, _, _, hoL, _⟩ := id hn
  refine h _ ⟨I.ok, I.os, I.bare, ⟨fun b o e n hb hx => ?_, fun b o e n hb hx => ?_, I.base.free, fun b o e hx => ?_, I.base.tups, I.base.frzs, I.base.tbls⟩, ⟨_, hn', fun j y v' e1 e2 e3 => ?_⟩, fun y c e => ?_, I.free, I.freeC, fun p hp => ?_, tracked ⟨oL, hoL, I.free⟩ hs, by simpa using I.len⟩ ⟨_, hs, .inl rfl⟩
  ·exact (hs.2 b (Nat.ne_of_lt (Nat.lt_of_lt_of_le (Heap.lt_size e) I.ok.above))).trans (I.base.keep b o e n hb hx)
  ·obtain ⟨sl, e1⟩ := I.base.slot b o e n hb hx
   exact ⟨sl, (hs.2 b (Nat.ne_of_lt (Nat.lt_of_lt_of_le (Heap.lt_size e) I.ok.above))).trans e1⟩
  ·obtain ⟨o', e1⟩ := I.base.there b o e hx
   exact ⟨o', (hs.2 b (Nat.ne_of_lt (Nat.lt_of_lt_of_le (Heap.lt_size e) I.ok.above))).trans e1⟩
  ·by_cases hj : j = i
   ·subst hj
    rw [hi] at e1; cases e1
    rw [List.getElem?_set_self hiσ] at e2
    cases e2
    exact ⟨u, r, .inl ⟨hk, by simp⟩⟩
   ·rw [List.getElem?_set_ne (Ne.symm hj)] at e2
    obtain ⟨u', r', q⟩ := hl j y v' e1 e2 e3
    refine ⟨u', r', ?_⟩
    rcases q with ⟨k, e⟩ | ⟨k, c, e, z⟩
    ·refine .inl ⟨k, ?_⟩
     have : y ≠ x := fun e => hj (nodup_ix hN e1 (e ▸ hi))
     simp [this, e]
    ·exact .inr ⟨k, c, e, z.sameBut hs (cne y c e)⟩
  ·obtain ⟨w', z⟩ := I.cell y c e
   exact ⟨w', z.sameBut hs (cne y c e)⟩
  ·obtain ⟨e, n, ne, nf, d⟩ := I.pin p hp
   exact ⟨(hs.2 p.1 ne).trans e, n, ne, nf, d⟩
 ·have hfn : X.fn x = true := by
   rcases hf with z | z
   ·exact z
   ·rw [z] at hk; cases hk
  obtain ⟨c, hc⟩ := I.ok.has x (.inl hk)
  obtain ⟨w', z⟩ := I.cell x c hc
  refine wpAny_storeName_cell I.ok.kind hk hc z (fun h' hc' hs => ?_)
  obtain ⟨oc, hoc, hocd⟩ := id z
  refine h { s with heap := h' } ⟨I.ok, I.os, I.bare, ⟨fun b o e n hb hx => ?_, fun b o e n hb hx => ?_, I.base.free, fun b o e hx => ?_, I.base.tups, I.base.frzs, I.base.tbls⟩, ⟨m, hn.sameBut hs (Ne.symm (cne x c hc)), fun j y v' e1 e2 e3 => ?_⟩, fun y c' e => ?_, I.free, I.freeC, fun p hp => ?_, tracked ⟨oc, hoc, I.freeC x c hc⟩ hs, by simpa using I.len⟩ ⟨c, hs, .inr hc⟩
  ·exact (hs.2 b (Nat.ne_of_lt (Nat.lt_of_lt_of_le (Heap.lt_size e) (I.ok.cab x c hfn hc)))).trans (I.base.keep b o e n hb hx)
  ·obtain ⟨sl, e1⟩ := I.base.slot b o e n hb hx
   exact ⟨sl, (hs.2 b (Nat.ne_of_lt (Nat.lt_of_lt_of_le (Heap.lt_size e) (I.ok.cab x c hfn hc)))).trans e1⟩
  ·obtain ⟨o', e1⟩ := I.base.there b o e hx
   exact ⟨o', (hs.2 b (Nat.ne_of_lt (Nat.lt_of_lt_of_le (Heap.lt_size e) (I.ok.cab x c hfn hc)))).trans e1⟩
  ·by_cases hj : j = i
   ·subst hj
    rw [hi] at e1; cases e1
    rw [List.getElem?_set_self hiσ] at e2
    cases e2
    exact ⟨u, r, .inr ⟨.inl hk, c, hc, hc'⟩⟩
   ·rw [List.getElem?_set_ne (Ne.symm hj)] at e2
    obtain ⟨u', r', q⟩ := hl j y v' e1 e2 e3
    refine ⟨u', r', ?_⟩
    rcases q with q | ⟨k, c', e, z'⟩
    ·exact .inl q
    ·refine .inr ⟨k, c', e, z'.sameBut hs ?_⟩
     rintro rfl
     exact hj (nodup_ix hN e1 (I.ok.inj _ _ _ e hc ▸ hi))
  ·by_cases hcc : c' = c
   ·subst hcc; exact ⟨_, hc'⟩
   ·obtain ⟨w2, z2⟩ := I.cell y c' e
    exact ⟨w2, z2.sameBut hs hcc⟩
  ·obtain ⟨e, n, ne, nf, d⟩ := I.pin p hp
   refine ⟨(hs.2 p.1 ?_).trans e, n, ne, nf, d⟩
   intro q
   rw [q, hoc] at e
   have q' : oc = p.2 := Option.some.inj e
   exact d w' (by rw [← q']; exact hocd)
theorem store_ok {M : Model} {A : Around} {E : Value → Shared → Prop} {i : Nat} {x : Str} {v : V} {u : Value} {Q : Unit → Shared → Prop} (I : Inv X pins σ H s) (hN : X.N.Nodup) (hi : X.N[i]? = some x) (hx : Loc X.env.scope x) (r : RelV v u)
  (h : ∀ s', Inv X pins (σ.set i (some v)) H s' → Q () s') (hf : X.fn x = true ∨ X.env.scope.names.lookup x = some .local := by first | exact .inl rfl | exact .inr rfl | assumption) : wpAny M A (storeName X.env x u) Q E s :=
 store_ok2 I hN hi hx r (fun s' I' _ => h s' I') hf
theorem Inv.call' {s' : Shared} {ch : List Addr} (I : Inv X pins σ H s) (ho : s'.os = s.os) (u : Un (frs X.stack) ch H H' s.heap s'.heap) (hok : HOk X.prog X.w H' s'.heap) (hg : AllBare s'.gens)
  (hch : ∀ b ∈ ch, (b ∈ X.ex ∨ X.s₀.heap.objs.size ≤ b) ∧ b ≠ X.env.locals ∧ (∀ x c, X.env.cells.lookup x = some c → c ≠ b) ∧ ∀ p ∈ X.pn ++ pins, p.1 ≠ b) : Inv X pins σ H' s' := by
 obtain ⟨h', g', d', t', o'⟩ := s'
 have e : o' = s.os := ho
 subst e
 exact I.call (g' := g') (t' := t') (d' := d') u hok hg hch
end

abbrev XK := Value → Option Addr → Hp → Prop
abbrev St := List (Option V)
abbrev VK := V → Hp → Prop
abbrev TE := St → Hp → VK → Prop
abbrev TT := St → Hp → (Bool → Hp → Prop) → Prop
abbrev TA := St → Hp → (List V → Hp → Prop) → Prop
structure Ends where
 nx : St → Hp → Prop
 rt : VK
 bk : St → Hp → Prop := fun _ _ => False
 ct : St → Hp → Prop := fun _ _ => False
abbrev TS := Ends → St → Hp → Prop

def EP (X : Cx) (pins : List (Addr × Obj)) (σ : St) (Q : VK) (u : Value) (s' : Shared) : Prop := ∃ v H', Inv X pins σ H' s' ∧ RelV v u ∧ Q v H'
def TP (X : Cx) (pins : List (Addr × Obj)) (σ : St) (Q : Bool → Hp → Prop) (b : Bool) (s' : Shared) : Prop := ∃ H', Inv X pins σ H' s' ∧ Q b H'
def AP (X : Cx) (pins : List (Addr × Obj)) (σ : St) (Q : List V → Hp → Prop) (us : List Value) (s' : Shared) : Prop := ∃ vs H', Inv X pins σ H' s' ∧ Vals vs us ∧ Q vs H'
def SP (X : Cx) (pins : List (Addr × Obj)) (D : Ends) (f : Flow) (s' : Shared) : Prop :=
 match f with
 | .next => ∃ σ' H', Inv X pins σ' H' s' ∧ D.nx σ' H'
 | .brk => ∃ σ' H', Inv X pins σ' H' s' ∧ D.bk σ' H'
 | .cont => ∃ σ' H', Inv X pins σ' H' s' ∧ D.ct σ' H'
 | .ret u => ∃ v σ' H', Inv X pins σ' H' s' ∧ RelV v u ∧ D.rt v H'

def PE (X : Cx) (e : Expr) (t : TE) : Prop :=
 ∀ (pins : List (Addr × Obj)) (s : Shared) (σ : St) (H : Hp) (Q : VK), Inv X pins σ H s → t σ H Q → wpAny (model X.prog X.w) X.A (eval e X.env) (EP X pins σ Q) X.xe s
def PT (X : Cx) (e : Expr) (t : TT) : Prop :=
 ∀ (pins : List (Addr × Obj)) (s : Shared) (σ : St) (H : Hp) (Q : Bool → Hp → Prop), Inv X pins σ H s → t σ H Q → wpAny (model X.prog X.w) X.A (isTrue e X.env (eval e X.env)) (TP X pins σ Q) X.xe s
def PW (X : Cx) (e : Expr) (t : TT) : Prop :=
 ∀ (whole : Sem Value) (pins : List (Addr × Obj)) (s : Shared) (σ : St) (H : Hp) (Q : Bool → Hp → Prop), Inv X pins σ H s → t σ H Q → wpAny (model X.prog X.w) X.A (isTrue e X.env whole) (TP X pins σ Q) X.xe s
theorem PW.pt {X : Cx} {e : Expr} {t : TT} (h : PW X e t) : PT X e t := h _
def PA (X : Cx) (es : List Expr) (t : TA) : Prop :=
 ∀ (pos : Pos) (pins : List (Addr × Obj)) (s : Shared) (σ : St) (H : Hp) (Q : List V → Hp → Prop), Inv X pins σ H s → t σ H Q → wpAny (model X.prog X.w) X.A (spliced (backTo pos (starEach es X.env))) (AP X pins σ Q) X.xe s
def PS (X : Cx) (st : Stmt) (t : TS) : Prop :=
 ∀ (pins : List (Addr × Obj)) (s : Shared) (σ : St) (H : Hp) (D : Ends), Inv X pins σ H s → t D σ H → wpAny (model X.prog X.w) X.A (exec st X.env) (SP X pins D) X.xe s
def PSs (X : Cx) (st : List Stmt) (t : TS) : Prop :=
 ∀ (pins : List (Addr × Obj)) (s : Shared) (σ : St) (H : Hp) (D : Ends), Inv X pins σ H s → t D σ H → wpAny (model X.prog X.w) X.A (execs st X.env) (SP X pins D) X.xe s
theorem thn {α : Type} {t : Sem α} {Q Q' : α → Shared → Prop} {M : Model} {A : Around} {E : Value → Shared → Prop} {s : Shared} (h : wpAny M A t Q E s) (hQ : ∀ a s, Q a s → Q' a s) : wpAny M A t Q' E s := wpAny_mono h hQ fun _ _ x => x
end L2

namespace L2
open PySem PySem.Spec PyProof.Rows
section
variable {X : Cx}

def tVar (i : Nat) : TE := fun σ H Q => ∃ v, σ[i]? = some (some v) ∧ Q v H
def tC (v : V) : TE := fun _ H Q => Q v H
theorem pe_var {i : Nat} {x : Str} {pos : Pos} (hN : X.N[i]? = some x) (hv : Vis X.env.scope x) (hd : (x == ("__debug__" : Str)) = false := by decide) (hcd : (x == ("__classdict__" : Str)) = false := by decide) : PE X (.Name x pos) (tVar i) := by
 intro pins s σ H Q I h
 obtain ⟨v, e, h⟩ := h
 obtain ⟨m, hn, hl⟩ := I.loc
 obtain ⟨u, r, l⟩ := hl i x v hN e hv
 have fin : EP X pins σ Q u s := ⟨v, H, I, r, h⟩
 rcases l with ⟨hk, hm⟩ | ⟨hk, c, hc, hcell⟩
 ·exact wpAny_Name (wpAny_loadName_local I.ok.kind hk hn hm fin) hd
 ·rcases hk with hk | hk
  ·exact wpAny_Name (wpAny_loadName_cell I.ok.kind hk hc hcell fin) hd
  ·exact wpAny_Name (wpAny_loadName_free I.ok.kind hk hc hcell fin hcd) hd
theorem pe_int {i j pos} : PE X (.Constant (.int i) j pos) (tC (.int i)) := fun _ _ _ H _ I h => wpAny_Constant_int ⟨.int i, H, I.tok _, ⟨_, rfl⟩, h⟩
theorem pe_bl {b j pos} : PE X (.Constant (.bool b) j pos) (tC (.bl b)) := fun _ _ _ H _ I h => Constant_bool ⟨.bl b, H, I, rfl, h⟩
theorem pe_str {x j pos} : PE X (.Constant (.str x) j pos) (tC (.str x)) := fun _ _ _ H _ I h => Calls.Constant_str ⟨.str x, H, I.tok _, ⟨_, rfl⟩, h⟩

def Gl (X : Cx) (x : Str) : Prop := X.env.kindOf x = some .globalImplicit
theorem ld_glob {E : Value → Shared → Prop} {pins : List (Addr × Obj)} {s : Shared} {σ : St} {H : Hp} {x : Str} {u : Value} {pos : Pos} {Q : Value → Shared → Prop} (I : Inv X pins σ H s) (hg : Gl X x) (hm : X.mg x = some u) (h : Q u s)
  (hd : (x == ("__debug__" : Str)) = false := by decide) : wpAny (model X.prog X.w) X.A (eval (.Name x pos) X.env) Q E s :=
 Calls.Name_function_global I.ok.kind hg (Calls.loadGlobal_global (by rw [I.ok.glob]; exact I.mod.glob.keeps I.bk) hm h) hd
theorem ld_blt {E : Value → Shared → Prop} {pins : List (Addr × Obj)} {s : Shared} {σ : St} {H : Hp} {x : Str} {u : Value} {pos : Pos} {Q : Value → Shared → Prop} (I : Inv X pins σ H s) (hg : Gl X x) (hm : X.mg x = none) (hv : bootBuiltins x = some u) (h : Q u s)
  (hn : x ≠ "__name__" := by decide) (hd : (x == ("__debug__" : Str)) = false := by decide) : wpAny (model X.prog X.w) X.A (eval (.Name x pos) X.env) Q E s := by
 obtain ⟨mb, h1, h2⟩ := I.mod.blt
 exact Calls.Name_function_global I.ok.kind hg (Calls.loadGlobal_builtin (by rw [I.ok.glob]; exact I.mod.glob.keeps I.bk) hm (by rw [I.ok.blt]; exact h1.keeps I.bk) ((h2 x hn).trans hv) h) hd
theorem pe_glob {x : Str} {v : V} {u : Value} {pos : Pos} (hg : Gl X x) (hm : X.mg x = some u) (r : RelV v u) (hd : (x == ("__debug__" : Str)) = false := by decide) : PE X (.Name x pos) (tC v) :=
 fun _ _ _ H _ I h => ld_glob I hg hm ⟨v, H, I, r, h⟩ hd
theorem pe_bltn {x : Str} {v : V} {u : Value} {pos : Pos} (hg : Gl X x) (hm : X.mg x = none) (hv : bootBuiltins x = some u) (r : RelV v u) (hn : x ≠ "__name__" := by decide) (hd : (x == ("__debug__" : Str)) = false := by decide) : PE X (.Name x pos) (tC v) :=
 fun _ _ _ H _ I h => ld_blt I hg hm hv ⟨v, H, I, r, h⟩ hn hd

variable {a b : Expr} {ta tb : TE} {pos : Pos}
variable {tA tB' : TT} {rest : List Expr}
def tAnd (t u : TT) : TT := fun σ H Q => t σ H fun c H1 => if c = true then u σ H1 Q else Q false H1
def tOr (t u : TT) : TT := fun σ H Q => t σ H fun c H1 => if c = true then Q true H1 else u σ H1 Q
def tNot (t : TT) : TT := fun σ H Q => t σ H fun c H1 => Q (!c) H1
theorem pw_and1 (ha : PT X a tA) : PW X (.BoolOp .And [a] pos) tA := by
 intro wh pins s σ H Q I h
 refine isTrue_and (thn (ha pins s σ H Q I h) fun c s1 e => ?_)
 cases c with
 | true => exact isTrue_and_nil e
 | false => exact e
theorem pw_or1 (ha : PT X a tA) : PW X (.BoolOp .Or [a] pos) tA := by
 intro wh pins s σ H Q I h
 refine isTrue_or (thn (ha pins s σ H Q I h) fun c s1 e => ?_)
 cases c with
 | false => exact isTrue_or_nil e
 | true => exact e
theorem pw_and (ha : PT X a tA) (hb : PW X (.BoolOp .And (b :: rest) pos) tB') : PW X (.BoolOp .And (a :: b :: rest) pos) (tAnd tA tB') := by
 intro wh pins s σ H Q I h
 refine isTrue_and (thn (ha pins s σ H _ I h) fun c s1 ⟨H1, I1, q1⟩ => ?_)
 cases c with
 | true => exact hb wh pins s1 σ H1 Q I1 q1
 | false => exact ⟨H1, I1, q1⟩
theorem pw_or (ha : PT X a tA) (hb : PW X (.BoolOp .Or (b :: rest) pos) tB') : PW X (.BoolOp .Or (a :: b :: rest) pos) (tOr tA tB') := by
 intro wh pins s σ H Q I h
 refine isTrue_or (thn (ha pins s σ H _ I h) fun c s1 ⟨H1, I1, q1⟩ => ?_)
 cases c with
 | true => exact ⟨H1, I1, q1⟩
 | false => exact hb wh pins s1 σ H1 Q I1 q1
theorem pt_not (ha : PT X a tA) : PT X (.UnaryOp .Not a pos) (tNot tA) := by
 intro pins s σ H Q I h
 exact isTrue_not (ha pins s σ H (fun c H1 => Q (!c) H1) I h)
def tAndV (ta tb : TE) : TE := fun σ H Q => ta σ H fun x H1 => ∃ c, x = .bl c ∧ if c = true then tb σ H1 Q else Q (.bl false) H1
def tNotV (ta : TE) : TE := fun σ H Q => ta σ H fun x H1 => ∃ c, x = .bl c ∧ Q (.bl (!c)) H1
theorem pe_one {op} {t : TE} (h : PE X a t) : PE X (.BoolOp op [a] pos) t := fun pins s σ H Q I hw => BoolOp_one (h pins s σ H Q I hw)
theorem pe_and (ha : PE X a ta) (hb : PE X (.BoolOp .And (b :: rest) pos) tb) : PE X (.BoolOp .And (a :: b :: rest) pos) (tAndV ta tb) := by
 intro pins s σ H Q I h
 refine BoolOp_and (thn (ha pins s σ H _ I h) fun v s1 ⟨x, H1, I1, r1, q1⟩ => ?_)
 obtain ⟨c, rfl, q1⟩ := q1
 cases r1
 refine wpAny_truthy_bool ?_
 cases c with
 | true => exact hb pins s1 σ H1 Q I1 q1
 | false => exact ⟨.bl false, H1, I1, rfl, q1⟩
theorem pe_not (ha : PE X a ta) : PE X (.UnaryOp .Not a pos) (tNotV ta) := by
 intro pins s σ H Q I h
 refine UnaryOp_ (thn (ha pins s σ H _ I h) fun v s1 ⟨x, H1, I1, r1, q1⟩ => ?_)
 obtain ⟨c, rfl, q1⟩ := q1
 cases r1
 exact not_of (wpAny_truthy_bool ⟨.bl (!c), H1, I1, rfl, q1⟩)
end
end L2

namespace L2
open PySem PySem.Spec PyProof.Rows

def SqL (K : PySem.W.Frag) (H : Hp) (a : Addr) (xs : List V) : Prop :=
 Rd H a (.lst xs) ∨
  ∃ (o : Obj) (its : Array Value) (n : Nat), K.lookup a = some o ∧ o.cls = .type "list" ∧ o.dict = none ∧ o.data = .seq its n ∧ its.size ≤ sizeLine ∧ Vals xs its.toList
def SqT (K : PySem.W.Frag) (H : Hp) (a : Addr) (xs : List V) : Prop :=
 Rd H a (.tup xs) ∨
  ∃ (o : Obj) (its : Array Value) (n : Nat), K.lookup a = some o ∧ o.cls = .type "tuple" ∧ o.data = .seq its n ∧ its.size ≤ sizeLine ∧ Vals xs its.toList ∧ o.dict = none
def absV : Value → Option V
 | .none => some .non
 | .bool b => some (.bl b)
 | .int i _ => some (.int i)
 | .str x _ => some (.str x)
 | .bytes b _ => some (.byt b)
 | .float b _ => some (.flt b)
 | .ref a => some (.ref a)
 | .type n => some (.ty n)
 | _ => none
theorem RelV.abs {x : V} {u : Value} (r : RelV x u) : absV u = some x := by
 cases x with
 | non => cases r; rfl
 | bl _ => cases r; rfl
 | int _ => obtain ⟨t, rfl⟩ := r; rfl
 | str _ => obtain ⟨t, rfl⟩ := r; rfl
 | byt _ => obtain ⟨t, rfl⟩ := r; rfl
 | flt _ => obtain ⟨t, rfl⟩ := r; rfl
 | ref _ => cases r; rfl
 | ty _ => cases r; rfl
theorem RelV.inj {x y : V} {u : Value} (r : RelV x u) (q : RelV y u) : x = y := Option.some.inj (r.abs.symm.trans q.abs)
theorem Vals.inj : ∀ {xs ys : List V} {us : List Value}, Vals xs us → Vals ys us → xs = ys
 | _, _, _, .nil, .nil => rfl
 | _, _, _, .cons r t, .cons r' t' => by rw [r.inj r', Vals.inj t t']
section
variable {X : Cx} {pins : List (Addr × Obj)} {σ : St} {H : Hp} {s : Shared} {a : Addr} {xs ys : List V}
theorem SqL.of {K : PySem.W.Frag} (h : H a = some (.lst xs)) : SqL K H a xs := .inl (.inl h)
theorem SqT.of {K : PySem.W.Frag} (h : H a = some (.tup xs)) : SqT K H a xs := .inl (.inl h)
theorem Inv.list (I : Inv X pins σ H s) (h : SqL X.K H a xs) : ∃ its : List Value, Vals xs its ∧ PlainL s.heap a its.toArray ∧ xs.length ≤ sizeLine := by
 rcases h with h | ⟨o, its, n, hk, hc, hd, hs, hz, r⟩
 ·obtain ⟨z, its, n, r, e⟩ := h.ok I.hok
  exact ⟨its, r, ⟨_, n, e, rfl, rfl, rfl⟩, z⟩
 ·refine ⟨its.toList, r, ⟨o, n, I.kIn a o hk, hc, hd, by simpa using hs⟩, ?_⟩
  have e := r.length
  simp only [Array.length_toList] at e
  omega
theorem Inv.tupO (I : Inv X pins σ H s) (h : SqT X.K H a xs) : ∃ its : List Value, Vals xs its ∧ TupO s.heap a its.toArray ∧ xs.length ≤ sizeLine := by
 rcases h with h | ⟨o, its, n, hk, hc, hs, hz, r, hd⟩
 ·obtain ⟨z, its, r, p⟩ := h.ok I.hok
  exact ⟨its, r, p, z⟩
 ·refine ⟨its.toList, r, ⟨o, I.kIn a o hk, hc, ⟨n, by simpa using hs⟩, hd⟩, ?_⟩
  have e := r.length
  simp only [Array.length_toList] at e
  omega
theorem Inv.tuple (I : Inv X pins σ H s) (h : SqT X.K H a xs) : ∃ its : List Value, Vals xs its ∧ IsTup s.heap a its.toArray ∧ xs.length ≤ sizeLine := let ⟨its, r, p, z⟩ := I.tupO h; ⟨its, r, p.tup, z⟩
theorem Inv.list_inj (I : Inv X pins σ H s) (h : SqL X.K H a xs) (h' : SqL X.K H a ys) : xs = ys := by
 obtain ⟨its, r, ⟨o, n, e, _, _, d⟩, _⟩ := I.list h
 obtain ⟨its', r', ⟨o', n', e', _, _, d'⟩, _⟩ := I.list h'
 rw [e] at e'; cases e'
 rw [d] at d'
 injection d' with d1 _
 have : its = its' := by simpa using congrArg Array.toList d1
 subst this
 exact r.inj r'
theorem Inv.tuple_inj (I : Inv X pins σ H s) (h : SqT X.K H a xs) (h' : SqT X.K H a ys) : xs = ys := by
 obtain ⟨its, r, ⟨o, e, _, n, d⟩, _⟩ := I.tuple h
 obtain ⟨its', r', ⟨o', e', _, n', d'⟩, _⟩ := I.tuple h'
 rw [e] at e'; cases e'
 rw [d] at d'
 injection d' with d1 _
 have : its = its' := by simpa using congrArg Array.toList d1
 subst this
 exact r.inj r'
end

abbrev Cx.wish (X : Cx) (E : Value → Shared → Prop) : Cx := { X with xe := E }
abbrev Cx.nox (X : Cx) : Cx := X.wish fun _ _ => False
theorem Cx.Ok.wish {X : Cx} (ok : X.Ok) (E : Value → Shared → Prop) : (X.wish E).Ok :=
 ⟨ok.mod, ok.kind, ok.glob, ok.blt, ok.above, ok.inj, ok.has, ok.cab, ok.hd, ok.qt, ok.frames, ok.stk, ok.exf, ok.bs, ok.bsz, ok.noex, ok.exfs, ok.funs, ok.frf⟩
theorem Cx.Ok.unwish {X : Cx} {E : Value → Shared → Prop} (ok : (X.wish E).Ok) : X.Ok :=
 ⟨ok.mod, ok.kind, ok.glob, ok.blt, ok.above, ok.inj, ok.has, ok.cab, ok.hd, ok.qt, ok.frames, ok.stk, ok.exf, ok.bs, ok.bsz, ok.noex, ok.exfs, ok.funs, ok.frf⟩
section
variable {X : Cx} {pins : List (Addr × Obj)} {σ : St} {H : Hp} {s : Shared} {E : Value → Shared → Prop}
theorem Inv.wish (I : Inv X pins σ H s) (E : Value → Shared → Prop) : Inv (X.wish E) pins σ H s := ⟨I.ok.wish E, I.os, I.bare, I.base, I.loc, I.cell, I.free, I.freeC, I.pin, I.hok, I.len⟩
theorem Inv.unwish (I : Inv (X.wish E) pins σ H s) : Inv X pins σ H s := ⟨I.ok.unwish, I.os, I.bare, I.base, I.loc, I.cell, I.free, I.freeC, I.pin, I.hok, I.len⟩
theorem SP.unwish {D : Ends} {f : Flow} {s' : Shared} (h : SP (X.wish E) pins D f s') : SP X pins D f s' := by
 cases f with
 | next => obtain ⟨σ', H', I, q⟩ := h; exact ⟨σ', H', I.unwish, q⟩
 | brk => obtain ⟨σ', H', I, q⟩ := h; exact ⟨σ', H', I.unwish, q⟩
 | cont => obtain ⟨σ', H', I, q⟩ := h; exact ⟨σ', H', I.unwish, q⟩
 | ret u => obtain ⟨v, σ', H', I, r, q⟩ := h; exact ⟨v, σ', H', I.unwish, r, q⟩
theorem PSs.nox {st : List Stmt} {t : TS} (h : PSs X.nox st t) : PSs X st t := fun pins s σ H D I hw =>
 wpAny_mono (h pins s σ H D (I.wish _) hw) (fun _ _ q => q.unwish) fun _ _ z => False.elim z
end

section
variable {X : Cx} {st : Stmt} {rest : List Stmt} {t u : TS} {e : Expr} {te : TE} {pos : Pos}
def tNext : TS := fun D σ H => D.nx σ H
def tSeq (t u : TS) : TS := fun D σ H => t { D with nx := u D } σ H
theorem pss_nil : PSs X [] tNext := fun _ _ σ H _ I h => wpAny_execs_nil ⟨σ, H, I, h⟩
theorem pss_cons (h1 : PS X st t) (h2 : PSs X rest u) : PSs X (st :: rest) (tSeq t u) := by
 intro pins s σ H D I h
 refine wpAny_execs_cons (thn (h1 pins s σ H { D with nx := u D } I h) fun f s1 q => ?_)
 cases f with
 | next =>
  obtain ⟨σ', H', I', q⟩ := q
  exact h2 pins s1 σ' H' D I' q
 | ret v => exact q
 | brk => exact q
 | cont => exact q
theorem pss_one (h1 : PS X st t) : PSs X [st] t := by
 intro pins s σ H D I h
 refine wpAny_execs_cons (thn (h1 pins s σ H D I h) fun f s1 q => ?_)
 cases f with
 | next => exact wpAny_execs_nil q
 | ret v => exact q
 | brk => exact q
 | cont => exact q
theorem Inv.quiet {pins : List (Addr × Obj)} {σ : St} {H : Hp} {s : Shared} (I : Inv X pins σ H s) : interactive X.env = false := by simp [interactive, I.ok.kind]
def tDrop (te : TE) : TS := fun D σ H => te σ H fun _ H1 => D.nx σ H1
theorem ps_expr (he : PE X e te) (hs : swapsWith e none pos.line X.env = pure false := by rfl) : PS X (.Expr e pos) (tDrop te) := by
 intro pins s σ H D I h
 exact wpAny_Expr_any (thn (he pins s σ H _ I h) fun v s1 ⟨x, H1, I1, r1, q1⟩ => ⟨σ, H1, I1, q1⟩) I.quiet hs
def tRet (te : TE) : TS := fun D σ H => te σ H D.rt
theorem ps_ret (he : PE X e te) : PS X (.Return (some e) pos) (tRet te) := by
 intro pins s σ H D I h
 exact wpAny_Return_some (thn (he pins s σ H _ I h) fun v s1 ⟨x, H1, I1, r1, q1⟩ => ⟨x, σ, H1, I1, r1, q1⟩)
def tIfS (c : TT) (t u : TS) : TS := fun D σ H => c σ H fun b H1 => if b = true then t D σ H1 else u D σ H1
theorem ps_if {c : Expr} {a b : List Stmt} {tc : TT} (hc : PT X c tc) (ha : PSs X a t) (hb : PSs X b u) : PS X (.If c a b pos) (tIfS tc t u) := by
 intro pins s σ H D I h
 refine wpAny_If (thn (hc pins s σ H _ I h) fun d s1 ⟨H1, I1, q1⟩ => ?_)
 cases d with
 | true => exact ha pins s1 σ H1 D I1 q1
 | false => exact hb pins s1 σ H1 D I1 q1
end

abbrev TG := V → St → Hp → (St → Hp → Prop) → Prop
abbrev TGs := List V → St → Hp → (St → Hp → Prop) → Prop
def PG (X : Cx) (target : Expr) (t : TG) : Prop :=
 ∀ (pins : List (Addr × Obj)) (s : Shared) (σ : St) (H : Hp) (v : V) (u : Value) (Q : St → Hp → Prop), Inv X pins σ H s → RelV v u → t v σ H Q →
  wpAny (model X.prog X.w) X.A (assign target X.env u) (fun _ s' => ∃ σ' H', Inv X pins σ' H' s' ∧ Q σ' H') X.xe s
def PGs (X : Cx) (ts : List Expr) (t : TGs) : Prop :=
 ∀ (pins : List (Addr × Obj)) (s : Shared) (σ : St) (H : Hp) (vs : List V) (us : List Value) (Q : St → Hp → Prop), Inv X pins σ H s → Vals vs us → t vs σ H Q →
  wpAny (model X.prog X.w) X.A (assignInOrder ((assignEach ts X.env).map (·.2)) us) (fun _ s' => ∃ σ' H', Inv X pins σ' H' s' ∧ Q σ' H') X.xe s
abbrev TSet := V → V → V → Hp → (Hp → Prop) → Prop
def PSet (X : Cx) (t : TSet) : Prop :=
 ∀ (pins : List (Addr × Obj)) (s : Shared) (σ : St) (H : Hp) (o i v : V) (ov iv u : Value) (Q : Hp → Prop), Inv X pins σ H s → RelV o ov → RelV i iv → RelV v u → t o i v H Q →
  wpAny (model X.prog X.w) X.A (setItem ov iv u) (fun _ s' => ∃ H', Inv X pins σ H' s' ∧ Q H') X.xe s
section
variable {X : Cx} {pos : Pos}
def gName (i : Nat) : TG := fun v σ H Q => Q (σ.set i (some v)) H
theorem pg_name {i : Nat} {x : Str} (hN : X.N.Nodup) (hi : X.N[i]? = some x) (hx : Loc X.env.scope x) (hf : X.fn x = true ∨ X.env.scope.names.lookup x = some .local := by first | exact .inl rfl | exact .inr rfl | assumption) : PG X (.Name x pos) (gName i) := by
 intro pins s σ H v u Q I r h
 exact wpAny_assign_Name (store_ok I hN hi hx r (fun s' I' => ⟨_, H, I', h⟩) hf)
def gNil : TGs := fun vs σ H Q => vs = [] ∧ Q σ H
def gCons (t : TG) (u : TGs) : TGs := fun vs σ H Q => ∃ v r, vs = v :: r ∧ t v σ H fun σ' H' => u r σ' H' Q
theorem pgs_nil : PGs X [] gNil := by
 intro pins s σ H vs us Q I r h
 obtain ⟨e, h⟩ := h
 subst e
 cases r
 exact assignInOrder_nil ⟨σ, H, I, h⟩
theorem pgs_cons {e : Expr} {es : List Expr} {t : TG} {u : TGs} (h1 : PG X e t) (h2 : PGs X es u)
  (hs : (assignEach (e :: es) X.env).map (·.2) = assign e X.env :: (assignEach es X.env).map (·.2) := by rfl) : PGs X (e :: es) (gCons t u) := by
 intro pins s σ H vs us Q I r h
 obtain ⟨v, vr, e1, h⟩ := h
 subst e1
 cases r with
 | cons r rr =>
  rw [hs]
  refine assignInOrder_cons (thn (h1 pins s σ H _ _ _ I r h) fun _ s1 ⟨σ1, H1, I1, q1⟩ => ?_)
  exact h2 pins s1 σ1 H1 _ _ Q I1 rr q1
def gSub (to ti : TE) (t : TSet) : TG := fun v σ H Q => to σ H fun o H1 => ti σ H1 fun i H2 => t o i v H2 fun H3 => Q σ H3
theorem pg_sub {o i : Expr} {to ti : TE} {t : TSet} (ho : PE X o to) (hi : PE X i ti) (hs : PSet X t)
  (ha : ∀ v, assign (.Subscript o i pos) X.env v = (do
   let ov ← holding [v] (eval o X.env)
   let iv ← holding [v, ov] (eval i X.env)
   standAt pos
   holding [v, ov, iv] (setItem ov iv v)
   release [v, ov, iv] []) := by intro _; rfl) : PG X (.Subscript o i pos) (gSub to ti t) := by
 intro pins s σ H v u Q I r h
 rw [ha]
 refine wpAny_bind (wpAny_holding (thn (ho pins s σ H _ I h) fun ov s1 ⟨x, H1, I1, r1, q1⟩ => ?_))
 refine wpAny_bind (wpAny_holding (thn (hi pins s1 σ H1 _ I1 q1) fun iv s2 ⟨y, H2, I2, r2, q2⟩ => ?_))
 refine wpAny_bind (wpAny_standAt (wpAny_bind (wpAny_holding (thn (hs pins s2 σ H2 x y v ov iv u _ I2 r1 r2 r q2) fun _ s3 ⟨H3, I3, q3⟩ => ?_))))
 exact wpAny_release ⟨σ, H3, I3, q3⟩
def tAsg (te : TE) (g : TG) : TS := fun D σ H => te σ H fun x H1 => g x σ H1 D.nx
theorem ps_asg {tg e : Expr} {te : TE} {g : TG} (he : PE X e te) (hg : PG X tg g) (hs : swapsWithSole [tg] e pos.line X.env = pure false := by rfl) (hw : swappedStores [tg] e X.env = pure none := by rfl)
  (h1 : (assignEach [tg] X.env).map (·.2) = [assign tg X.env] := by rfl) : PS X (.Assign [tg] e pos) (tAsg te g) := by
 intro pins s σ H D I h
 refine wpAny_Assign_stores (thn (he pins s σ H _ I h) fun v s1 ⟨x, H1, I1, r1, q1⟩ => ?_) hs hw
 rw [h1]
 exact thn (hg pins s1 σ H1 x v _ I1 r1 q1) fun _ s2 q => q
theorem ps_set {i : Nat} {x : Str} {e : Expr} {te : TE} {pos' : Pos} (hN : X.N.Nodup) (hi : X.N[i]? = some x) (hx : Loc X.env.scope x) (he : PE X e te) (hs : swapsWith e (some (.Name x pos')) pos.line X.env = pure false := by rfl) (hf : X.fn x = true ∨ X.env.scope.names.lookup x = some .local := by first | exact .inl rfl | exact .inr rfl | assumption) :
  PS X (.Assign [.Name x pos'] e pos) (tAsg te (gName i)) := by
 intro pins s σ H D I h
 refine wpAny_Assign_Name (thn (he pins s σ H _ I h) fun v s1 ⟨y, H1, I1, r1, q1⟩ => ?_) hs
 exact store_ok I1 hN hi hx r1 (fun s2 I2 => ⟨_, H1, I2, q1⟩) hf
end

section
variable {X : Cx} {pos : Pos}
end

theorem entry_unchain : entryFor table "proto.unchain" = some Builtin.«proto.unchain» := entryFor_of_tree (by kernel_rfl)
def QuietAt (A : Around) (h : Heap) : Prop := ∀ v, A.handled = some v → ∃ (a : Addr) (o : Obj) (vs : Array Value), v = .ref a ∧ h.get? a = some o ∧ o.data = .fields vs ∧ vs[2]? = some .none
theorem quiet_heap {A : Around} {P : Program} {w : World} {H : Hp} {h : Heap} (q : Quiet A H) (x : HOk P w H h) : QuietAt A h := fun v e => by
 obtain ⟨a, o, u, vs, h1, h2, h3, h4⟩ := q v e
 exact ⟨a, o, vs, h1, (x a _ h2).1, h3, h4⟩
theorem raise_over {α : Type} {prog : Program} {w : World} {A : Around} {E : Value → Shared → Prop} {s : Shared} {e : Addr} {oe : Obj} {ws : Array Value} {Q : α → Shared → Prop} (hq : QuietAt A s.heap) (he : s.heap.get? e = some oe) (hd : oe.data = .fields ws) (hz : 2 < ws.size) (hne : ∀ v, A.handled = some v → v ≠ .ref e)
  (h : ∀ h', (∀ b, b ≠ e → h'.get? b = s.heap.get? b) → (∃ o', h'.get? e = some o' ∧ o'.cls = oe.cls) → E (.ref e) { s with heap := h' }) : wpAny (model prog w) A (raiseNew (.ref e) : Sem α) Q E s := by
 unfold raiseNew
 refine wpAny_bind (wpAny_handled ?_)
 cases hh : A.handled with
 | none =>
  dsimp only
  refine wpAny_bind (wpAny_pure (wpAny_throw ?_))
  exact h s.heap (fun _ _ => rfl) ⟨oe, he, rfl⟩
 | some v =>
  obtain ⟨a, o, vs, rfl, ho, hdo, h2⟩ := hq v hh
  dsimp only
  have ne : (Value.ref a != Value.ref e) = true := by
   have := hne _ hh
   simp only [bne_iff_ne, ne_eq]
   exact this
  rw [if_pos ne]
  refine wpAny_bind (wpAny_holding (wpAny_runValue (codeAny_builtin entry_unchain ?_)))
  unfold Builtin.«proto.unchain»
  dsimp only
  refine wpAny_bind (wpAny_field ho hdo h2 ?_)
  rw [if_pos (show (Value.none == Value.none) = true from rfl)]
  refine wpAny_bind (wpAny_pure (wpAny_pure ?_))
  dsimp only
  refine wpAny_bind ?_
  unfold updateField
  refine wpAny_bind (wpAny_load he ?_)
  rw [hd]
  dsimp only
  rw [if_pos hz]
  refine wpAny_update he (wpAny_throw ?_)
  have hd3 := Obj.data_mapFields hd (·.setIfInBounds 2 (Value.ref a))
  exact h _ (fun b hb => Heap.get?_update_other _ _ (Ne.symm hb)) ⟨_, Heap.get?_update_self _ he (Obj.isFreed_of_fields hd3), Obj.cls_mapFields _ _⟩
theorem range_end {prog : Program} {w : World} {A : Around} {E : Value → Shared → Prop} {s : Shared} {it : Addr} {x left step : Int} {Q : Option Value → Shared → Prop} (hh : QuietAt A s.heap) (hit : IsRangeIter s.heap it x left step) (hleft : left ≤ 0)
  (hQ : ∀ h', Heap.ExtBut it s.heap h' → Q none { s with heap := h' }) : wpAny (model prog w) A (pyNext (.ref it)) Q E s := by
 have hT : s.TypeIs (.ref it) "range_iterator" := ⟨_, hit, rfl⟩
 unfold pyNext
 refine wpAny_bind (wpAny_attempt (wpAny_callSpecial?_slot (name := Str.ofString "__next__") hT F.slot_range_iterator_next
  (wpAny_call_entry F.slot_range_iterator_next hT F.entry_range_iterator_next ?_ (F.args_range_iterator_next_1 _))))
 show wpAny _ _ (field (.ref it) 0 >>= _) _ _ s
 refine wpAny_bind (wpAny_field hit rfl (x := rawInt x) rfl ?_)
 show wpAny _ _ (field (.ref it) 1 >>= _) _ _ s
 refine wpAny_bind (wpAny_field hit rfl (x := rawInt left) rfl ?_)
 show wpAny _ _ (field (.ref it) 2 >>= _) _ _ s
 refine wpAny_bind (wpAny_field hit rfl (x := rawInt step) rfl ?_)
 show wpAny _ _ (if left ≤ 0 then _ else _) _ _ s
 rw [if_pos hleft]
 refine wpAny_bind (wpAny_rule ?_)
 refine wpAny_bind ?_
 show wpAny _ _ (newExc (.type "StopIteration") [] >>= _) _ _ _
 refine wpAny_bind ?_
 simp only [newExc, newTuple]
 refine wpAny_bind (wpAny_newObj_type ?_ (by size_fits))
 refine wpAny_bind (m := firstArgMember _ _) (wpAny_of_eq (a := Value.none) (by first | rfl | (simp only [firstArgMember]; rfl)) ?_)
 refine wpAny_newObj_type ?_ (by size_fits)
 refine raise_over (A := A.in1) (fun v e => ?_) (Heap.get?_push_size _ rfl) rfl (by simp; omega) (fun v e => ?_) fun h' h1 ⟨o', h2, h3⟩ => ?_
 ·obtain ⟨a, o, vs, r1, r2, r3⟩ := hh v e
  exact ⟨a, o, vs, r1, Heap.get?_push_of_some _ (Heap.get?_push_of_some _ r2), r3⟩
 ·obtain ⟨a, o, vs, r1, r2, r3⟩ := hh v e
  rw [r1]
  intro q
  have q : a = _ := Value.ref.inj q
  have := Heap.lt_size r2
  rw [q] at this
  exact absurd this (Nat.not_lt.mpr (by simp [Heap.push]))
 refine wpAny_bind (wpAny_isInstance (T := "StopIteration") (b := true) ⟨_, h2, h3⟩ isSubtype_stop ?_)
 refine wpAny_pure (hQ _ fun b o hb e => ?_)
 rw [h1 b ?_]
 ·exact Heap.get?_push_of_some _ (Heap.get?_push_of_some _ e)
 ·have := Heap.lt_size e
  exact Nat.ne_of_lt (Nat.lt_of_lt_of_le this (by simp [Heap.push]))
structure It where
 go : Nat → Hp → Prop
 yld : Nat → Hp → V → Hp → Prop
 stop : Nat → Hp → Prop
 cm : Bool
def FpOk (X : Cx) (pins : List (Addr × Obj)) (H : Hp) (b : Addr) : Prop :=
 H b = none ∧ b ≠ X.env.locals ∧ b ∉ X.fs ∧ (b ∈ X.ex ∨ X.s₀.heap.objs.size ≤ b) ∧ (∀ x c, X.env.cells.lookup x = some c → c ≠ b) ∧ ∀ p ∈ X.pn ++ pins, p.1 ≠ b
theorem Inv.fpOk {X : Cx} {pins : List (Addr × Obj)} {σ : St} {H H' : Hp} {s : Shared} {b : Addr} (I : Inv X pins σ H s) (hb : s.heap.objs.size ≤ b) (hn : H' b = none) : FpOk X pins H' b := by
 refine ⟨hn, Nat.ne_of_gt (Nat.lt_of_lt_of_le I.lt hb), I.nofs hb, .inr (Nat.le_trans I.sz hb), fun x c e z => ?_, fun p hp z => ?_⟩
 ·obtain ⟨v, q⟩ := I.cell x c e
  exact absurd (Nat.lt_of_lt_of_le q.lt (by rw [z]; exact hb)) (Nat.lt_irrefl _)
 ·exact absurd (Nat.lt_of_lt_of_le (Heap.lt_size (I.pin p hp).1) (by rw [z]; exact hb)) (Nat.lt_irrefl _)
structure Turn (P : Program) (w : World) (K : PySem.W.Frag) (tg : Expr) (J : It) (fp : List Addr) (it : Addr) (tn : Nat → Heap → Prop) : Prop where
 mem : it ∈ fp
 obj : ∀ i h, tn i h → ∀ b ∈ fp, ∃ o, h.get? b = some o ∧ ∀ v, o.data ≠ .cell v
 keep : ∀ i h h', tn i h → (∀ b ∈ fp, ∀ o, h.get? b = some o → h'.get? b = some o) → tn i h'
 item : ∀ (X : Cx), X.prog = P → X.w = w → X.K = K → (J.cm = true → X.calm = true) → ∀ (i : Nat) (pins : List (Addr × Obj)) (s : Shared) (σ : St) (H : Hp) (E : Value → Shared → Prop), Inv X pins σ H s → (∀ b ∈ fp, FpOk X pins H b) → tn i s.heap → J.go i H →
  wpAny (model P w) X.A (pyNext (.ref it)) (fun r s1 => ∃ u, r = some u ∧
   wpAny (model P w) X.A (letOwnedTupleGo tg (.ref it) u) (fun _ s2 => ∃ x H', Inv X pins σ H' s2 ∧ RelV x u ∧ J.yld i H x H' ∧ tn (i + 1) s2.heap ∧ ∀ b ∈ fp, H' b = none) E s1) E s
 done : ∀ (X : Cx), X.prog = P → X.w = w → X.K = K → (J.cm = true → X.calm = true) → ∀ (i : Nat) (pins : List (Addr × Obj)) (s : Shared) (σ : St) (H : Hp) (E : Value → Shared → Prop), Inv X pins σ H s → (∀ b ∈ fp, FpOk X pins H b) → tn i s.heap → J.stop i H →
  wpAny (model P w) X.A (pyNext (.ref it)) (fun r s1 => r = none ∧ Inv X pins σ H s1) E s
 self : ∀ (A : Around) (i : Nat) (s : Shared) (Q : Value → Shared → Prop) (E : Value → Shared → Prop), tn i s.heap → Q (.ref it) s → wpAny (model P w) A (pyIter (.ref it)) Q E s
abbrev TI := St → Hp → (It → Hp → Prop) → Prop
def PIE (X : Cx) (pins : List (Addr × Obj)) (σ : St) (tg : Expr) (R : It → Hp → Prop) (itv : Value) (s2 : Shared) : Prop :=
 ∃ (it : Addr) (fp : List Addr) (tn : Nat → Heap → Prop) (J : It) (H' : Hp), itv = .ref it ∧ Inv X pins σ H' s2 ∧ Turn X.prog X.w X.K tg J fp it tn ∧ tn 0 s2.heap ∧ (∀ b ∈ fp, FpOk X pins H' b) ∧ R J H'
def PI (X : Cx) (tg iter : Expr) (wi : TI) : Prop :=
 ∀ (pins : List (Addr × Obj)) (s : Shared) (σ : St) (H : Hp) (R : It → Hp → Prop), Inv X pins σ H s → wi σ H R →
  wpAny (model X.prog X.w) X.A (eval iter X.env) (fun v s1 => wpAny (model X.prog X.w) X.A (pyIter v) (PIE X pins σ tg R) X.xe s1) X.xe s

theorem go_of {M : Model} {A : Around} {E : Value → Shared → Prop} {s : Shared} {tg : Expr} {it : Addr} {u : Value} {o : Obj} {n : String} {vs : Array Value} {Q : Unit → Shared → Prop} (ho : s.heap.get? it = some o) (hc : o.cls = .type n) (hd : o.data = .fields vs)
    (hn : ["enumerate", "zip", "dict_itemiterator", "dict_reverseitemiterator", "odict_iterator", "itertools.zip_longest", "itertools.pairwise"].contains n = false) (hQ : Q () s) : wpAny M A (letOwnedTupleGo tg (.ref it) u) Q E s := by
  unfold letOwnedTupleGo
  cases tg <;> first
    | exact wpAny_pure hQ
    | (cases u <;> first
        | exact wpAny_pure hQ
        | (refine wpAny_bind (wpAny_load ho ?_)
           rw [hc, hd]
           show wpAny M A (if (["enumerate", "zip", "dict_itemiterator", "dict_reverseitemiterator", "odict_iterator", "itertools.zip_longest", "itertools.pairwise"].contains n && vs[0]? == some (rawInt _)) = true then _ else _) Q E s
           rw [if_neg (by intro h; rw [hn, Bool.false_and] at h; cases h)]
           exact wpAny_pure hQ))

def Itl (K : PySem.W.Frag) (a : Addr) : It :=
 ⟨fun i H => ∃ xs x, SqL K H a xs ∧ xs[i]? = some x, fun i H x H' => H' = H ∧ ∀ xs, SqL K H a xs → xs[i]? = some x, fun i H => ∃ xs, SqL K H a xs ∧ xs.length ≤ i, true⟩
def Itt (K : PySem.W.Frag) (a : Addr) : It :=
 ⟨fun i H => ∃ xs x, SqT K H a xs ∧ xs[i]? = some x, fun i H x H' => H' = H ∧ ∀ xs, SqT K H a xs → xs[i]? = some x, fun i H => ∃ xs, SqT K H a xs ∧ xs.length ≤ i, true⟩
def Itr (lo : Int) (n : Nat) : It := ⟨fun i _ => i < n, fun i H x H' => H' = H ∧ x = .int (lo + i), fun i _ => n ≤ i, false⟩
theorem turn_list {P : Program} {w : World} {K : PySem.W.Frag} {tg : Expr} (a it : Addr) : Turn P w K tg (Itl K a) [it] it (fun i h => h.IsListIter it a i) where
 mem := by simp
 obj := fun i h st b hb => by
  have e : b = it := by simpa using hb
  subst e
  obtain ⟨o, e, c, d⟩ := st
  exact ⟨o, e, fun v z => by rw [d] at z; cases z⟩
 keep := fun i h h' st k => st.at fun o e => k it (by simp) o e
 item := by
  intro X hP hw hK hc i pins s σ H E I hf st hg
  subst hP hw hK
  obtain ⟨xs, x, hq, hx⟩ := hg
  obtain ⟨its, rv, p, hz⟩ := I.list hq
  obtain ⟨u, hu, ru⟩ := rv.get hx
  obtain ⟨f0, f1, f2, f3, f4, f5⟩ := hf it (by simp)
  refine wpAny_pyNext_list_item st p.isList (x := u) (by simpa using hu) fun h' st' sb => ?_
  have I1 : Inv X pins σ H { s with heap := h' } := I.turned (t' := s.toks) (fun b o hb e => (sb.2 b hb).trans e) f0 f1 f3 f4 f5
  obtain ⟨o, e, c, d⟩ := id st'
  exact ⟨u, rfl, go_of (s := { s with heap := h' }) e c d (by decide) ⟨x, H, I1, ru, ⟨rfl, fun ys hy => by rw [I.list_inj hy hq]; exact hx⟩, st', fun b hb => (hf b hb).1⟩⟩
 done := by
  intro X hP hw hK hc i pins s σ H E I hf st hg
  subst hP hw hK
  obtain ⟨xs, hq, hx⟩ := hg
  obtain ⟨its, rv, p, hz⟩ := I.list hq
  obtain ⟨f0, f1, f2, f3, f4, f5⟩ := hf it (by simp)
  have hl := rv.length
  exact wpAny_pyNext_list_end (I.ok.hd (hc rfl)) st p.isList (by simp; omega) fun h' eb => ⟨rfl, I.turned (t' := s.toks) (fun b o hb e => eb b o hb e) f0 f1 f3 f4 f5⟩
 self := fun _ _ _ _ _ st h => wpAny_pyIter_listiter st h
theorem turn_tuple {P : Program} {w : World} {K : PySem.W.Frag} {tg : Expr} (a it : Addr) : Turn P w K tg (Itt K a) [it] it (fun i h => h.IsTupleIter it a i) where
 mem := by simp
 obj := fun i h st b hb => by
  have e : b = it := by simpa using hb
  subst e
  obtain ⟨o, e, c, d⟩ := st
  exact ⟨o, e, fun v z => by rw [d] at z; cases z⟩
 keep := fun i h h' st k => st.at fun o e => k it (by simp) o e
 item := by
  intro X hP hw hK hc i pins s σ H E I hf st hg
  subst hP hw hK
  obtain ⟨xs, x, hq, hx⟩ := hg
  obtain ⟨its, rv, p, hz⟩ := I.tuple hq
  obtain ⟨u, hu, ru⟩ := rv.get hx
  obtain ⟨f0, f1, f2, f3, f4, f5⟩ := hf it (by simp)
  refine wpAny_pyNext_tuple_item st (show s.heap.IsTuple a its.toArray from p) (x := u) (by simpa using hu) fun h' st' sb => ?_
  have I1 : Inv X pins σ H { s with heap := h' } := I.turned (t' := s.toks) (fun b o hb e => (sb.2 b hb).trans e) f0 f1 f3 f4 f5
  obtain ⟨o, e, c, d⟩ := id st'
  exact ⟨u, rfl, go_of (s := { s with heap := h' }) e c d (by decide) ⟨x, H, I1, ru, ⟨rfl, fun ys hy => by rw [I.tuple_inj hy hq]; exact hx⟩, st', fun b hb => (hf b hb).1⟩⟩
 done := by
  intro X hP hw hK hc i pins s σ H E I hf st hg
  subst hP hw hK
  obtain ⟨xs, hq, hx⟩ := hg
  obtain ⟨its, rv, p, hz⟩ := I.tuple hq
  obtain ⟨f0, f1, f2, f3, f4, f5⟩ := hf it (by simp)
  have hl := rv.length
  exact wpAny_pyNext_tuple_end (I.ok.hd (hc rfl)) st (show s.heap.IsTuple a its.toArray from p) (by simp; omega) fun h' eb => ⟨rfl, I.turned (t' := s.toks) (fun b o hb e => eb b o hb e) f0 f1 f3 f4 f5⟩
 self := fun _ _ _ _ _ st h => wpAny_pyIter_tupleiter st h
theorem turn_range {P : Program} {w : World} {K : PySem.W.Frag} {tg : Expr} (it : Addr) (lo : Int) (n : Nat) : Turn P w K tg (Itr lo n) [it] it (fun i h => IsRangeIter h it (lo + (i : Nat) * 1) ((n : Int) - (i : Nat)) 1) where
 mem := by simp
 obj := fun i h st b hb => by
  have e : b = it := by simpa using hb
  subst e
  exact ⟨_, st, fun v z => by
   have z' : Data.fields _ = Data.cell v := z
   cases z'⟩
 keep := fun i h h' st k => k it (by simp) _ st
 item := by
  intro X hP hw hK hc i pins s σ H E I hf st hg
  subst hP hw hK
  obtain ⟨f0, f1, f2, f3, f4, f5⟩ := hf it (by simp)
  refine wpAny_pyNext_range_item st (by have : i < n := hg; omega) fun h' st' kk => ?_
  have I1 : Inv X pins σ H { s with heap := h', toks := s.toks + 1 } := I.turned (fun b o hb e => (kk.2 b hb).trans e) f0 f1 f3 f4 f5
  have st2 : IsRangeIter h' it (lo + ((i + 1 : Nat) : Int) * 1) ((n : Int) - ((i + 1 : Nat) : Int)) 1 := by
   have e1 : lo + ((i + 1 : Nat) : Int) * 1 = lo + ((i : Nat) : Int) * 1 + 1 := by omega
   have e2 : (n : Int) - ((i + 1 : Nat) : Int) = (n : Int) - ((i : Nat) : Int) - 1 := by omega
   rw [e1, e2]
   exact st'
  refine ⟨_, rfl, go_of (s := { s with heap := h', toks := s.toks + 1 }) (n := "range_iterator") st' rfl rfl (by decide) ⟨.int (lo + i), H, I1, ⟨s.toks, ?_⟩, ⟨rfl, rfl⟩, st2, fun b hb => (hf b hb).1⟩⟩
  rw [Int.mul_one]
 done := by
  intro X hP hw hK hc i pins s σ H E I hf st hg
  subst hP hw hK
  obtain ⟨f0, f1, f2, f3, f4, f5⟩ := hf it (by simp)
  exact range_end (quiet_heap I.qt0 I.hok) st (by have : n ≤ i := hg; omega) fun h' eb => ⟨rfl, I.turned (t' := s.toks) (fun b o hb e => eb b o hb e) f0 f1 f3 f4 f5⟩
 self := fun _ _ _ _ _ st h => wpAny_pyIter_rangeiter st h
end L2

namespace L2
open PySem PySem.Spec PyProof.Rows
section
variable {X : Cx} {tg : Expr}
theorem range_it {pins : List (Addr × Obj)} {σ : St} {H : Hp} {s : Shared} {R : It → Hp → Prop} {E : Value → Shared → Prop} {lo hi : Int} {t u v : Tok} {tk : Nat} (I : Inv X pins σ H s) (h1 : -(2 ^ 62) ≤ lo) (h2 : lo < 2 ^ 62) (h3 : -(2 ^ 62) ≤ hi) (h4 : hi < 2 ^ 62)
  (q : R (Itr lo (hi - lo).toNat) H) : wpAny (model X.prog X.w) X.A (pyIter (.ref s.heap.objs.size)) (PIE X pins σ tg R) E { s with heap := s.heap.push { cls := .type "range", data := .fields #[.int lo t, .int hi u, .int 1 v] }, toks := tk } := by
 refine wpAny_pyIter_range (IsRange.new ..) (small_one h1 h2 h3 h4) ?_
 have I1 : Inv X pins σ H { s with heap := s.heap.push { cls := .type "range", data := .fields #[.int lo t, .int hi u, .int 1 v] }, toks := tk } := I.kept fun b o e => Heap.get?_push_of_some _ e
 refine ⟨(s.heap.push { cls := .type "range", data := .fields #[.int lo t, .int hi u, .int 1 v] }).objs.size, [(s.heap.push { cls := .type "range", data := .fields #[.int lo t, .int hi u, .int 1 v] }).objs.size], _, _, H, rfl,
  I1.kept (t' := tk) fun b o e => Heap.get?_push_of_some _ e, turn_range _ lo (hi - lo).toNat, ?_, fun b hb => ?_, q⟩
 ·have e1 : lo + ((0 : Nat) : Int) * 1 = lo := by simp
  have e2 : (((hi - lo).toNat : Nat) : Int) - ((0 : Nat) : Int) = Builtin.Range.rangeSize lo hi 1 := by rw [rangeSize_one]; split <;> omega
  show IsRangeIter _ _ (lo + ((0 : Nat) : Int) * 1) ((((hi - lo).toNat : Nat) : Int) - ((0 : Nat) : Int)) 1
  rw [e1, e2]
  exact Heap.get?_push_size _ rfl
 ·have e : b = (s.heap.push { cls := .type "range", data := .fields #[.int lo t, .int hi u, .int 1 v] }).objs.size := by simpa using hb
  subst e
  exact I1.fpOk (Nat.le_refl _) (I1.hok.fresh (Nat.le_refl _))
def iRng1 (ta : TA) : TI := fun σ H R => ta σ H fun vs H1 => ∃ j : Int, vs = [.int j] ∧ -(2 ^ 62) ≤ j ∧ j < 2 ^ 62 ∧ R (Itr 0 j.toNat) H1
theorem pi_range1 {a : Expr} {ta : TA} {p pos : Pos} (hg : Gl X "range") (hm : X.mg "range" = none) (ha : PA X [a] ta) (hs : starEach [a] X.env = [(false, eval a X.env)] := by rfl) : PI X tg (.Call (.Name "range" p) [a] [] pos) (iRng1 ta) := by
 intro pins s σ H R I h
 refine Call_ (ld_blt I hg hm boot_range (PyProof.Rows.callWith_type1 (thn (ha pos pins s σ H _ I h) fun us s1 ⟨vs, H1, I1, r1, q1⟩ => ?_) hs rfl))
 obtain ⟨j, e, q1, q2, q⟩ := q1
 subst e
 cases r1 with
 | cons r rr =>
  cases rr
  obtain ⟨t, rfl⟩ := r
  exact call_range_1 (range_it I1 (by omega) (by omega) q1 q2 (by simpa using q))
def tFor (wi : TI) (g : TG) (tb : TS) : TS := fun D σ H => wi σ H fun J H1 => ∃ W : Nat → Nat → St → Hp → Prop, (∃ m, W 0 m σ H1) ∧ ∀ i m σ H, W i m σ H →
 (J.stop i H ∧ D.nx σ H) ∨ (J.go i H ∧ ∃ N : St → Hp → Prop, (∀ σ' H', N σ' H' → ∃ m', m' < m ∧ W (i + 1) m' σ' H') ∧ ∀ x H', J.yld i H x H' → g x σ H' fun σ2 H2 => tb { D with nx := N, ct := N, bk := D.nx } σ2 H2)
def pinsAt (fp : List Addr) (h : Heap) : List (Addr × Obj) := fp.filterMap fun b => (h.get? b).map fun o => (b, o)
theorem mem_pinsAt {fp : List Addr} {h : Heap} {b : Addr} {o : Obj} (hb : b ∈ fp) (e : h.get? b = some o) : (b, o) ∈ pinsAt fp h := List.mem_filterMap.mpr ⟨b, hb, by rw [e]; rfl⟩
theorem of_pinsAt {fp : List Addr} {h : Heap} {p : Addr × Obj} (hp : p ∈ pinsAt fp h) : p.1 ∈ fp ∧ h.get? p.1 = some p.2 := by
 obtain ⟨b, hb, e⟩ := List.mem_filterMap.mp hp
 cases q : h.get? b with
 | none => rw [q] at e; cases e
 | some o =>
  rw [q] at e
  have e' : (b, o) = p := Option.some.inj e
  subst e'
  exact ⟨hb, q⟩
theorem Inv.pinned {pins : List (Addr × Obj)} {σ : St} {H : Hp} {s : Shared} {fp : List Addr} (I : Inv X pins σ H s) (hf : ∀ b ∈ fp, FpOk X pins H b) (ho : ∀ b ∈ fp, ∃ o, s.heap.get? b = some o ∧ ∀ v, o.data ≠ .cell v) : Inv X (pins ++ pinsAt fp s.heap) σ H s :=
 I.pins_of fun p hp => (List.mem_append.mp hp).elim (fun z => I.pin p (List.mem_append_right _ z)) fun z => by
  obtain ⟨hb, e⟩ := of_pinsAt z
  obtain ⟨f0, f1, f2, _⟩ := hf p.1 hb
  obtain ⟨o, e', d⟩ := ho p.1 hb
  rw [e] at e'; cases e'
  exact ⟨e, f0, f1, f2, d⟩
theorem Inv.unpinned {pins pl : List (Addr × Obj)} {σ : St} {H : Hp} {s : Shared} (I : Inv X (pins ++ pl) σ H s) : Inv X pins σ H s := I.pins_of fun p hp => I.pin p (List.mem_append_right _ (List.mem_append_left _ hp))
theorem ps_for {iter : Expr} {body : List Stmt} {wi : TI} {g : TG} {tb : TS} {pos : Pos} (hp : PassesOwn (model X.prog X.w) X.A X.env X.xe) (hc : X.calm = true) (hi : PI X tg iter wi) (hg : PG X tg g) (hb : PSs X body tb)
  (hs : ∀ x, foldedSetIterable iter X.env x = pure x := by intro _; rfl) : PS X (.For tg iter body [] pos) (tFor wi g tb) := by
 intro pins s σ H D I h
 refine wpAny_For (thn (hi pins s σ H _ I h) fun v s1 h1 => thn h1 fun itv s2 h2 => ?_) hs
 obtain ⟨it, fp, tn, J, H2, e, I2, T, st2, f2, W, ⟨m0, w0⟩, turn⟩ := h2
 subst e
 -- what stays true of the iterator's objects through the loop
 have stat : ∀ {H' : Hp}, (∀ b ∈ fp, H' b = none) → ∀ b ∈ fp, FpOk X pins H' b := fun hn b hb => ⟨hn b hb, (f2 b hb).2⟩
 refine codeAny_forLoop_any (fun n s' => ∃ i σ' H', Inv X pins σ' H' s' ∧ tn i s'.heap ∧ (∀ b ∈ fp, H' b = none) ∧ W i n σ' H') ?_ m0 ⟨0, σ, H2, I2, st2, fun b hb => (f2 b hb).1, w0⟩
 rintro n s3 ⟨i, σ3, H3, I3, st3, fr3, w3⟩
 rcases turn i n σ3 H3 w3 with ⟨stop, qn⟩ | ⟨go, N, hN, step⟩
 ·refine wpAny_passesOwn hp (thn (T.done X rfl rfl rfl (fun _ => hc) i pins s3 σ3 H3 X.xe I3 (stat fr3) st3 stop) fun r s4 ⟨hr, I4⟩ => ?_)
  subst hr
  exact wpAny_execs_nil ⟨σ3, H3, I4, qn⟩
 ·refine wpAny_passesOwn hp (thn (T.item X rfl rfl rfl (fun _ => hc) i pins s3 σ3 H3 X.xe I3 (stat fr3) st3 go) fun r s4 ⟨u, hr, h4⟩ => ?_)
  subst hr
  refine wpAny_passesOwn hp (thn h4 fun _ s5 ⟨x, H5, I5, r5, y5, st5, fr5⟩ => ?_)
  have I5' := I5.pinned (stat fr5) (T.obj _ _ st5)
  refine wpAny_passesOwn hp (thn (hg _ s5 σ3 H5 x u _ I5' r5 (step x H5 y5)) fun _ s6 ⟨σ6, H6, I6, q6⟩ => ?_)
  refine wpAny_passesOwn hp (thn (hb _ s6 σ6 H6 _ I6 q6) fun f s7 q7 => ?_)
  have again : ∀ {σ7 : St} {H7 : Hp}, Inv X (pins ++ pinsAt fp s5.heap) σ7 H7 s7 → N σ7 H7 → ∃ m, m < n ∧ ∃ i σ' H', Inv X pins σ' H' s7 ∧ tn i s7.heap ∧ (∀ b ∈ fp, H' b = none) ∧ W i m σ' H' := fun {σ7 H7} I7 n7 => by
   obtain ⟨m', hm, w7⟩ := hN σ7 H7 n7
   refine ⟨m', hm, i + 1, σ7, H7, I7.unpinned, T.keep _ _ _ st5 fun b hb o e => (I7.pin (b, o) (List.mem_append_right _ (List.mem_append_right _ (mem_pinsAt hb e)))).1, fun b hb => ?_, w7⟩
   obtain ⟨o, e, d⟩ := T.obj _ _ st5 b hb
   exact (I7.pin (b, o) (List.mem_append_right _ (List.mem_append_right _ (mem_pinsAt hb e)))).2.1
  cases f with
  | next => obtain ⟨σ7, H7, I7, n7⟩ := q7; exact again I7 n7
  | cont => obtain ⟨σ7, H7, I7, n7⟩ := q7; exact again I7 n7
  | brk => obtain ⟨σ7, H7, I7, q7⟩ := q7; exact ⟨σ7, H7, I7.unpinned, q7⟩
  | ret v => obtain ⟨x7, σ7, H7, I7, r7, q7⟩ := q7; exact ⟨x7, σ7, H7, I7.unpinned, r7, q7⟩
end

theorem for_tup {K : PySem.W.Frag} {a : Addr} {xs : List V} {g : TG} {tb : TS} {D : Ends} {σ : St} {H : Hp} (Pv : Nat → St → Hp → Prop) (h0 : Pv 0 σ H) (hl : ∀ i σ H, i ≤ xs.length → Pv i σ H → SqT K H a xs)
  (hs : ∀ i x σ H, xs[i]? = some x → Pv i σ H → g x σ H fun σ2 H2 => tb { D with nx := Pv (i + 1), ct := Pv (i + 1), bk := D.nx } σ2 H2) (hd : ∀ σ H, Pv xs.length σ H → D.nx σ H) :
  ∃ W : Nat → Nat → St → Hp → Prop, (∃ m, W 0 m σ H) ∧ ∀ i m σ H, W i m σ H →
   ((Itt K a).stop i H ∧ D.nx σ H) ∨ ((Itt K a).go i H ∧ ∃ N : St → Hp → Prop, (∀ σ' H', N σ' H' → ∃ m', m' < m ∧ W (i + 1) m' σ' H') ∧ ∀ x H', (Itt K a).yld i H x H' → g x σ H' fun σ2 H2 => tb { D with nx := N, ct := N, bk := D.nx } σ2 H2) := by
 refine ⟨fun i m σ H => m = xs.length - i ∧ i ≤ xs.length ∧ Pv i σ H, ⟨xs.length, by simp, Nat.zero_le _, h0⟩, ?_⟩
 rintro i m σ H ⟨rfl, hi, p⟩
 have q := hl i σ H hi p
 by_cases hlt : i < xs.length
 ·refine .inr ⟨⟨xs, xs[i], q, by simp [hlt]⟩, Pv (i + 1), fun σ' H' p' => ⟨xs.length - (i + 1), by omega, rfl, hlt, p'⟩, fun x H' y => ?_⟩
  obtain ⟨e, y⟩ := y
  subst e
  exact hs i x σ _ (y xs q) p
 ·have e : i = xs.length := by omega
  subst e
  exact .inl ⟨⟨xs, q, Nat.le_refl _⟩, hd σ H p⟩
end L2

namespace L2
open PySem PySem.Spec PyProof.Rows

abbrev R2 := V → V → Hp → VK → Prop
def OpR (X : Cx) (f : Value → Value → Sem Value) (r : R2) : Prop :=
 ∀ (pins : List (Addr × Obj)) (s : Shared) (σ : St) (H : Hp) (x y : V) (v u : Value) (Q : VK), Inv X pins σ H s → RelV x v → RelV y u → r x y H Q →
  wpAny (model X.prog X.w) X.A (f v u) (EP X pins σ Q) X.xe s
def UnR (X : Cx) (f : Value → Sem Value) (r : V → Hp → VK → Prop) : Prop :=
 ∀ (pins : List (Addr × Obj)) (s : Shared) (σ : St) (H : Hp) (x : V) (v : Value) (Q : VK), Inv X pins σ H s → RelV x v → r x H Q →
  wpAny (model X.prog X.w) X.A (f v) (EP X pins σ Q) X.xe s
def CallR (X : Cx) (f : Value) (r : List V → Hp → VK → Prop) : Prop :=
 ∀ (pins : List (Addr × Obj)) (s : Shared) (σ : St) (H : Hp) (xs : List V) (us : List Value) (Q : VK), Inv X pins σ H s → Vals xs us → r xs H Q →
  wpAny (model X.prog X.w) X.A (call f us) (EP X pins σ Q) X.xe s
def TruR (X : Cx) (r : V → Hp → (Bool → Hp → Prop) → Prop) : Prop :=
 ∀ (pins : List (Addr × Obj)) (s : Shared) (σ : St) (H : Hp) (x : V) (v : Value) (Q : Bool → Hp → Prop), Inv X pins σ H s → RelV x v → r x H Q →
  wpAny (model X.prog X.w) X.A (truthy v) (TP X pins σ Q) X.xe s

def tOp (r : R2) (ta tb : TE) : TE := fun σ H Q => ta σ H fun x H1 => tb σ H1 fun y H2 => r x y H2 Q
def tUn (r : V → Hp → VK → Prop) (ta : TE) : TE := fun σ H Q => ta σ H fun x H1 => r x H1 Q
def rI (C : Int → Int → Prop) (g : Int → Int → V) : R2 := fun x y H Q => ∃ i j, x = .int i ∧ y = .int j ∧ C i j ∧ Q (g i j) H
def rI0 (g : Int → Int → V) : R2 := fun x y H Q => ∃ i j, x = .int i ∧ y = .int j ∧ Q (g i j) H
def rU (g : Int → V) : V → Hp → VK → Prop := fun x H Q => ∃ i, x = .int i ∧ Q (g i) H

section
variable {X : Cx} {a b c : Expr} {ta tb tc : TE} {pos : Pos}

theorem binT (ha : PE X a ta) (hb : PE X b tb) {pins : List (Addr × Obj)} {s : Shared} {σ : St} {H : Hp} {R : V → V → Hp → Prop} (I : Inv X pins σ H s)
  (h : ta σ H fun x H1 => tb σ H1 fun y H2 => R x y H2) {Q : Value → Shared → Prop} {f : Value → Value → Sem Value}
  (hf : ∀ v u s2 x y H2, Inv X pins σ H2 s2 → RelV x v → RelV y u → R x y H2 → wpAny (model X.prog X.w) X.A (f v u) Q X.xe s2) :
  wpAny (model X.prog X.w) X.A (eval a X.env) (fun v s₁ => wpAny (model X.prog X.w) X.A (eval b X.env) (fun u s₂ => wpAny (model X.prog X.w) X.A (f v u) Q X.xe s₂) X.xe s₁) X.xe s := by
 refine thn (ha pins s σ H _ I h) fun v s1 ⟨x, H1, I1, r1, q1⟩ => ?_
 refine thn (hb pins s1 σ H1 _ I1 q1) fun u s2 ⟨y, H2, I2, r2, q2⟩ => ?_
 exact hf v u s2 x y H2 I2 r1 r2 q2

theorem pe_op {op : Operator} {r : R2} (ho : OpR X (binaryOp op) r) (ha : PE X a ta) (hb : PE X b tb) : PE X (.BinOp a op b pos) (tOp r ta tb) := by
 intro pins s σ H Q I h
 exact wpAny_BinOp (binT ha hb I h fun v u s2 x y H2 I2 rx ry q => ho pins s2 σ H2 x y v u Q I2 rx ry q)
theorem pe_un {op : UnaryOp} {r : V → Hp → VK → Prop} (ho : UnR X (unaryOp op) r) (ha : PE X a ta) : PE X (.UnaryOp op a pos) (tUn r ta) := by
 intro pins s σ H Q I h
 exact UnaryOp_ (thn (ha pins s σ H _ I h) fun v s1 ⟨x, H1, I1, r1, q1⟩ => ho pins s1 σ H1 x v Q I1 r1 q1)
theorem opI {f : Value → Value → Sem Value} {C : Int → Int → Prop} {g : Int → Int → Int}
  (rule : ∀ (i j : Int) (t u : Tok) (s : Shared) (Q : Value → Shared → Prop) (E : Value → Shared → Prop), C i j → Q (.int (g i j) s.toks) { s with toks := s.toks + 1 } → wpAny (model X.prog X.w) X.A (f (.int i t) (.int j u)) Q E s) :
  OpR X f (rI C fun i j => .int (g i j)) := by
 intro pins s σ H x y v u Q I rx ry h
 obtain ⟨i, j, rfl, rfl, hc, q⟩ := h
 obtain ⟨t, rfl⟩ := rx
 obtain ⟨t', rfl⟩ := ry
 exact rule i j t t' s _ _ hc ⟨.int (g i j), H, I.tok _, ⟨_, rfl⟩, q⟩
theorem opI0 {f : Value → Value → Sem Value} {g : Int → Int → Int}
  (rule : ∀ (i j : Int) (t u : Tok) (s : Shared) (Q : Value → Shared → Prop) (E : Value → Shared → Prop), Q (.int (g i j) s.toks) { s with toks := s.toks + 1 } → wpAny (model X.prog X.w) X.A (f (.int i t) (.int j u)) Q E s) :
  OpR X f (rI0 fun i j => .int (g i j)) := by
 intro pins s σ H x y v u Q I rx ry h
 obtain ⟨i, j, rfl, rfl, q⟩ := h
 obtain ⟨t, rfl⟩ := rx
 obtain ⟨t', rfl⟩ := ry
 exact rule i j t t' s _ _ ⟨.int (g i j), H, I.tok _, ⟨_, rfl⟩, q⟩
theorem opB0 {f : Value → Value → Sem Value} {g : Int → Int → Bool}
  (rule : ∀ (i j : Int) (t u : Tok) (s : Shared) (Q : Value → Shared → Prop) (E : Value → Shared → Prop), Q (.bool (g i j)) s → wpAny (model X.prog X.w) X.A (f (.int i t) (.int j u)) Q E s) :
  OpR X f (rI0 fun i j => .bl (g i j)) := by
 intro pins s σ H x y v u Q I rx ry h
 obtain ⟨i, j, rfl, rfl, q⟩ := h
 obtain ⟨t, rfl⟩ := rx
 obtain ⟨t', rfl⟩ := ry
 exact rule i j t t' s _ _ ⟨.bl (g i j), H, I, rfl, q⟩

def CPow (i j : Int) : Prop := 0 ≤ j ∧ j ≤ 1000000 ∧ i.natAbs < 2 ^ 64
theorem op_add : OpR X (binaryOp .Add) (rI0 fun i j => .int (i + j)) := opI0 fun _ _ _ _ _ _ _ q => add_int q
theorem op_sub : OpR X (binaryOp .Sub) (rI0 fun i j => .int (i - j)) := opI0 fun _ _ _ _ _ _ _ q => sub_int q
theorem op_modN : OpR X (binaryOp .Mod) (rI (fun _ j => j ≠ 0) fun i j => .int (i.fmod j)) := opI fun _ _ _ _ _ _ _ hc q => mod_int' hc q
theorem op_pow : OpR X (binaryOp .Pow) (rI CPow fun i j => .int (i ^ j.toNat)) := opI fun _ _ _ _ _ _ _ hc q => pow_int_small hc.1 hc.2.1 hc.2.2 q
theorem unI {f : Value → Sem Value} {g : Int → Int}
  (rule : ∀ (i : Int) (t : Tok) (s : Shared) (Q : Value → Shared → Prop) (E : Value → Shared → Prop), Q (.int (g i) s.toks) { s with toks := s.toks + 1 } → wpAny (model X.prog X.w) X.A (f (.int i t)) Q E s) :
  UnR X f (rU fun i => .int (g i)) := by
 intro pins s σ H x v Q I rx h
 obtain ⟨i, rfl, q⟩ := h
 obtain ⟨t, rfl⟩ := rx
 exact rule i t s _ _ ⟨.int (g i), H, I.tok _, ⟨_, rfl⟩, q⟩
theorem un_neg : UnR X (unaryOp .USub) (rU fun i => .int (-i)) := unI fun _ _ _ _ _ q => neg_int q
end

section
variable {X : Cx} {a b c : Expr} {ta tb tc : TE} {pos : Pos}
theorem fin_bl {pins : List (Addr × Obj)} {σ : St} {H : Hp} {s : Shared} {Q : VK} {k k' : Bool} (I : Inv X pins σ H s) (q : Q (.bl k) H) (e : k = k') : EP X pins σ Q (.bool k') s := by
 subst e
 exact ⟨.bl k, H, I, rfl, q⟩
theorem op_lt : OpR X (compareOp .Lt) (rI0 fun i j => .bl (decide (i < j))) := opB0 fun _ _ _ _ _ _ _ q => lt_int q
theorem op_gt : OpR X (compareOp .Gt) (rI0 fun i j => .bl (decide (j < i))) := opB0 fun _ _ _ _ _ _ _ q => gt_int q
theorem OpR.or {f : Value → Value → Sem Value} {r r' : R2} (h : OpR X f r) (h' : OpR X f r') : OpR X f (fun x y H Q => r x y H Q ∨ r' x y H Q) := by
 intro pins s σ H x y v u Q I rx ry q
 rcases q with q | q
 ·exact h pins s σ H x y v u Q I rx ry q
 ·exact h' pins s σ H x y v u Q I rx ry q

theorem nomark (b : Expr) {op : CmpOp} (h : op ≠ .In := by decide) (h2 : op ≠ .NotIn := by decide) : behindInMarks op b = false := by
 have e1 : (op == CmpOp.In) = false := by cases op <;> first | rfl | exact absurd rfl h
 have e2 : (op == CmpOp.NotIn) = false := by cases op <;> first | rfl | exact absurd rfl h2
 cases b <;> simp [behindInMarks, e1, e2]
theorem pe_cmpR {op : CmpOp} {r : R2} (ho : OpR X (compareOp op) r) (ha : PE X a ta) (hb : PE X b tb) (hm : behindInMarks op b = false) : PE X (.Compare a [op] [b] pos) (tOp r ta tb) := by
 intro pins s σ H Q I h
 exact wpAny_Compare1 (binT ha hb I h fun v u s2 x y H2 I2 rx ry q => ho pins s2 σ H2 x y v u Q I2 rx ry q) hm
def tTest (t : TE) : TT := fun σ H Q => t σ H fun x H' => ∃ k, x = .bl k ∧ Q k H'
theorem pt_cmpR {op : CmpOp} {r : R2} (ho : OpR X (compareOp op) r) (ha : PE X a ta) (hb : PE X b tb) (hm : behindInMarks op b = false) : PT X (.Compare a [op] [b] pos) (tTest (tOp r ta tb)) := by
 intro pins s σ H Q I h
 refine wpAny_isTrue_Compare1 (thn (ha pins s σ H _ I h) fun v s1 ⟨x, H1, I1, r1, q1⟩ => thn (hb pins s1 σ H1 _ I1 q1) fun u s2 ⟨y, H2, I2, r2, q2⟩ =>
  thn (ho pins s2 σ H2 x y v u _ I2 r1 r2 q2) fun c s3 ⟨z, H3, I3, r3, k, e, q3⟩ => ?_) hm
 subst e
 cases r3
 exact wpAny_truthy_bool ⟨H3, I3, q3⟩
def TruV (K : PySem.W.Frag) (x : V) (H : Hp) (k : Bool) : Prop :=
 match x with
 | .non => k = false
 | .bl b => k = b
 | .int i => k = (i != 0)
 | .str y => y.length ≤ sizeLine ∧ k = ((y.length : Int) != 0)
 | .byt y => y.size ≤ sizeLine ∧ k = ((y.size : Int) != 0)
 | .ref p => (∃ xs, SqL K H p xs ∧ k = !xs.isEmpty) ∨ (∃ xs, SqT K H p xs ∧ k = !xs.isEmpty) ∨ ∃ kvs, H p = some (.dK kvs) ∧ k = !kvs.isEmpty
 | _ => False
theorem isEmpty_kv {κ : Type} {kvs : List (κ × V)} {vs : List (κ × Value)} (r : KV kvs vs) : (!vs.isEmpty) = !kvs.isEmpty := by
 cases r <;> rfl
theorem isEmpty_of {xs : List V} {its : List Value} (r : Vals xs its) : (!its.toArray.isEmpty) = !xs.isEmpty := by
 cases r <;> simp
theorem line63 : (sizeLine : Nat) < 2 ^ 63 := by rw [sizeLine_eq]; decide
theorem tru_ok : TruR X (fun x H Q => ∃ k, TruV X.K x H k ∧ Q k H) := by
 intro pins s σ H x v Q I rx h
 obtain ⟨k, e, q⟩ := h
 have hl := line63
 have hs : sizeLine = 16777216 := sizeLine_eq
 cases x with
 | non =>
  cases rx
  have e' : k = false := e
  subst e'
  exact truthy_none ⟨H, I, q⟩
 | bl b =>
  cases rx
  have e' : k = b := e
  subst e'
  exact wpAny_truthy_bool ⟨H, I, q⟩
 | int i =>
  obtain ⟨t, rfl⟩ := rx
  have e' : k = (i != 0) := e
  subst e'
  exact PySem.P.truthy_int ⟨H, I, q⟩
 | str y =>
  obtain ⟨t, rfl⟩ := rx
  obtain ⟨hy, e'⟩ : y.length ≤ sizeLine ∧ k = ((y.length : Int) != 0) := e
  subst e'
  exact PySem.P.truthy_str (by omega) ⟨H, I.tok _, q⟩
 | byt y =>
  obtain ⟨t, rfl⟩ := rx
  obtain ⟨hy, e'⟩ : y.size ≤ sizeLine ∧ k = ((y.size : Int) != 0) := e
  subst e'
  exact PySem.W.truthy_bytes (by omega) ⟨H, I.tok _, q⟩
 | ref p =>
  cases rx
  have e' : (∃ xs, SqL X.K H p xs ∧ k = !xs.isEmpty) ∨ (∃ xs, SqT X.K H p xs ∧ k = !xs.isEmpty) ∨ ∃ kvs, H p = some (.dK kvs) ∧ k = !kvs.isEmpty := e
  rcases e' with ⟨xs, hx, e'⟩ | ⟨xs, hx, e'⟩ | ⟨kvs, hx, e'⟩
  ·subst e'
   obtain ⟨its, r, pl, hz⟩ := I.list hx
   have hlen := r.length
   exact wpAny_truthy_list pl.isList (by simp only [List.size_toArray]; omega) ⟨H, I.tok _, by rw [isEmpty_of r]; exact q⟩
  ·subst e'
   obtain ⟨its, r, pl, hz⟩ := I.tuple hx
   have hlen := r.length
   exact truthy_tuple pl (by simp only [List.size_toArray]; omega) ⟨H, I.tok _, by rw [isEmpty_of r]; exact q⟩
  ·subst e'
   obtain ⟨hz, hS, vs, r, m⟩ : kvs.length ≤ sizeLine ∧ (p == sysModules) = false ∧ ∃ vs, KV kvs vs ∧ s.heap.DictOf (mixKind X.prog X.w) p vs := I.hok p _ hx
   have hlen : kvs.length = vs.length := Paired.length r
   exact wpAny_truthy_dict hS m (by omega) ⟨H, I.tok _, by rw [isEmpty_kv r]; exact q⟩
 | _ => exact (show False from e).elim
theorem pt_truth (ha : PE X a ta) (he : ∀ whole, isTrue a X.env whole = (do let v ← whole; standAt a.pos; holding [v] (truthy v))) :
  PT X a (fun σ H Q => ta σ H fun x H' => ∃ k, TruV X.K x H' k ∧ Q k H') := by
 intro pins s σ H Q I h
 exact isTrue_plain (thn (ha pins s σ H _ I h) fun v s1 ⟨x, H1, I1, r1, q1⟩ => tru_ok pins s1 σ H1 x v Q I1 r1 q1) (he _)

theorem vals1 {x : V} {us : List Value} (r : Vals [x] us) : ∃ u, us = [u] ∧ RelV x u := by
 cases r with
 | cons r1 r2 => cases r2; exact ⟨_, rfl, r1⟩
theorem vals2 {x y : V} {us : List Value} (r : Vals [x, y] us) : ∃ u w', us = [u, w'] ∧ RelV x u ∧ RelV y w' := by
 cases r with
 | cons r1 r2 =>
  cases r2 with
  | cons r3 r4 => cases r4; exact ⟨_, _, rfl, r1, r3⟩
end
end L2

namespace L2
open PySem PySem.Spec PyProof.Rows

structure ObjM (h : Heap) (x dx C : Addr) (mA : Str → Option Value) : Prop where
 obj : h.get? x = some (PySem.W.instObj C dx)
 ns : h.Ns1 dx mA
 ne : dx ≠ x

theorem lookIn_ns {h : Heap} {dx : Addr} {mA : Str → Option Value} (n : h.Ns1 dx mA) : ∃ od, h.get? dx = some od ∧ ∀ name, PySem.W.lookIn name od = some (mA name) := by
 obtain ⟨o, es, ep, ho, hd, hk, _, hm⟩ := n
 refine ⟨o, ho, fun name => ?_⟩
 have e := hm name
 unfold nsFind findBy at e
 rw [← Array.find?_toList] at e
 unfold PySem.W.lookIn
 rw [hd]
 dsimp only
 split
 ·rename_i y q
  rw [q] at e
  exact congrArg some e
 ·rename_i q
  rw [q] at e
  have a : es.toList.any (·.refKey) = false := by
   rw [List.any_eq_false]
   intro y hy
   obtain ⟨z, t, hkey⟩ := hk y (Array.mem_toList_iff.mp hy)
   simp [DictEntry.refKey, hkey]
  have a' : ¬ es.toList.any (·.refKey) = true := by rw [a]; exact Bool.false_ne_true
  rw [if_neg a']
  exact congrArg some e

theorem ObjM.look {h : Heap} {x dx C : Addr} {mA : Str → Option Value} (I : ObjM h x dx C mA) : ∃ od, PySem.W.InstAt h x (PySem.W.instObj C dx) C (some od) ∧ ∀ name, PySem.W.lookIn name od = some (mA name) :=
 let ⟨od, ho, hl⟩ := lookIn_ns I.ns
 ⟨od, ⟨I.obj, rfl, rfl, ho⟩, hl⟩

section
variable {prog : Program} {w : World} {A : Around} {E : Value → Shared → Prop} {s : Shared} {K : PySem.W.Frag} {x dx C f : Addr} {mA : Str → Option Value} {name : Str} {v : Value}

theorem get_map {expr : Bool} {Q : Value → Shared → Prop} (X : K.In s.heap) (I : ObjM s.heap x dx C mA) (hg : PySem.W.plainGet K C name = true) (hh : PySem.W.hasDictIn K C = true)
  (ha : PySem.W.findIn K (.ref C) name = some none) (hv : mA name = some v) (hv' : PySem.W.handedIn v = true) (h : Q v { s with toks := s.toks + 1 }) :
  wpAny (model prog w) A (getAttr (.ref x) name expr) Q E s := by
 obtain ⟨od, J, hl⟩ := I.look
 exact PySem.W.get_value X J (PySem.W.plainGet_of hg).1 (PySem.W.findObj_own hh ha rfl (by rw [hl, hv])) hv' h

end

section
variable {P : Program} {w : World} {H H' : Hp} {h h' : Heap} {a C dx : Addr} {fs fs' : List (Str × V)}
end

structure Cls (K : PySem.W.Frag) (C : Addr) : Prop where
 pg : PySem.W.plainGet K C Str.empty = true
 hd : PySem.W.hasDictIn K C = true
 po : PySem.W.plainOver K C = true
 sa : PySem.W.findIn K (.ref C) "__setattr__" = some (some (.builtin "object.__setattr__"))
structure Con (K : PySem.W.Frag) (C : Addr) (f : Str) (v : V) (u : Value) : Prop where
 at_ : PySem.W.findIn K (.ref C) f = some (some u)
 rel : RelV v u
 get : PySem.W.specialIn K u "__get__" = some none
 cp : PySem.W.copiedNames.contains f = false
structure Meth (K : PySem.W.Frag) (C : Addr) (m : Str) (f : Addr) : Prop where
 at_ : PySem.W.findIn K (.ref C) m = some (some (.ref f))
 fn : PySem.W.isFn K (.ref f) = true
 kp : PySem.W.keepIn K (.ref f) = true

section
variable {X : Cx} {pins : List (Addr × Obj)} {σ : St} {H : Hp} {s : Shared} {a C dx : Addr} {fs : List (Str × V)} {f : Str} {v : V} {A : Around} {E : Value → Shared → Prop}

end

section
variable {X : Cx} {o e value : Expr} {f : Str} {pos pos' tpos : Pos} {ta tv : TE}
end

section
variable {X : Cx} {pins : List (Addr × Obj)} {σ : St} {H : Hp} {s : Shared} {A : Around} {E : Value → Shared → Prop} {Q : Value → Shared → Prop} {c : Value} {b : Bool}
inductive TyOf (K : PySem.W.Frag) (H : Hp) : V → Value → Prop where
 | non : TyOf K H .non (.type "NoneType")
 | bl (x : Bool) : TyOf K H (.bl x) (.type "bool")
 | int (i : Int) : TyOf K H (.int i) (.type "int")
 | str (x : Str) : TyOf K H (.str x) (.type "str")
 | flt (x : UInt64) : TyOf K H (.flt x) (.type "float")
 | lst {a : Addr} {xs : List V} (e : H a = some (.lst xs)) : TyOf K H (.ref a) (.type "list")
 | frz {a : Addr} {o : Obj} {xs : List V} (e : H a = some (.frz o (.lst xs))) : TyOf K H (.ref a) (.type "list")
 | tup {a : Addr} {xs : List V} (e : H a = some (.tup xs)) : TyOf K H (.ref a) (.type "tuple")
 | dK {a : Addr} {kvs : List (Key × V)} (e : H a = some (.dK kvs)) : TyOf K H (.ref a) (.type "dict")
 | dT {a : Addr} {kvs : List (List Key × V)} (e : H a = some (.dT kvs)) : TyOf K H (.ref a) (.type "dict")
 | ins {a C dx : Addr} {fs : List (Str × V)} (e : H a = some (.ins C dx fs)) (cl : Cls K C) (ha : PySem.W.findIn K (.ref C) "__class__" = some (some (.builtin "object.__class__")))
   (hn : PySem.W.specialIn K (.builtin "object.__class__") "__get__" = some (some (.builtin "getset_descriptor.__get__"))) (htk : PySem.W.takesIn K (.builtin "object.__class__") = some true)
   (hm : PySem.W.mroIn K C (.type "object") = some true) : TyOf K H (.ref a) (.ref C)
end
end L2

namespace L2
open PySem PySem.Spec PyProof.Rows

structure Room (k : Nat) (A : Around) : Prop where
 hd : 9 ≤ k → A.handled = none
 dp : A.depth + 3 * k + 5 < recursionLimit
 un : A.units + 16 * k + 200 < cLine
theorem Room.mono {j k : Nat} {A : Around} (r : Room k A) (h : j ≤ k) : Room j A := ⟨fun z => r.hd (Nat.le_trans z h), by have := r.dp; omega, by have := r.un; omega⟩
theorem Room.deeper {k : Nat} {A : Around} (r : Room (k + 1) A) (env : Env) : Room k (A.deeper env) :=
 ⟨fun z => r.hd (Nat.le_succ_of_le z), by have := r.dp; show A.depth + 1 + 3 * k + 5 < _; omega, by have := r.un; show A.units + 3 + 16 * k + 200 < _; omega⟩
theorem Room.calm {k : Nat} {A : Around} (r : Room k A) (h : 9 ≤ k) : A.handled.isNone = true := by rw [r.hd h]; rfl
theorem Room.depth {k : Nat} {A : Around} (r : Room k A) : A.depth < recursionLimit := by have := r.dp; omega
theorem Room.units {k : Nat} {A : Around} (r : Room k A) : A.units + 64 < cLine := by have := r.un; omega
def tNil : TA := fun _ H Q => Q [] H
def tCons (ta : TE) (tr : TA) : TA := fun σ H Q => ta σ H fun x H1 => tr σ H1 fun xs H2 => Q (x :: xs) H2
section
variable {X : Cx} {e : Expr} {es : List Expr} {te : TE} {t : TA} {pos : Pos}
theorem pa_nil : PA X [] tNil := fun _ _ _ _ H Q I h => Calls.spliced_nil ⟨[], H, I, .nil, h⟩
theorem pa_cons (ha : PE X e te) (hr : PA X es t) (hs : starEach (e :: es) X.env = (false, eval e X.env) :: starEach es X.env := by rfl) : PA X (e :: es) (tCons te t) := by
 intro pos pins s σ H Q I h
 rw [hs]
 show wpAny _ _ (spliced ((false, eval e X.env) :: backTo pos (starEach es X.env))) _ _ s
 refine Calls.spliced_cons (thn (ha pins s σ H _ I h) fun u s1 ⟨x, H1, I1, r1, q1⟩ => ?_)
 exact thn (hr pos pins s1 σ H1 _ I1 q1) fun us s2 ⟨xs, H2, I2, r2, q2⟩ => ⟨x :: xs, H2, I2, .cons r1 r2, q2⟩

def tTup (t : TA) : TE := fun σ H Q => t σ H fun xs H1 => xs.length ≤ sizeLine ∧ ∀ p, H1 p = none → Q (.ref p) (upd H1 p (.tup xs))
def tLst (t : TA) : TE := fun σ H Q => t σ H fun xs H1 => xs.length ≤ sizeLine ∧ ∀ p, H1 p = none → Q (.ref p) (upd H1 p (.lst xs))
theorem pe_tup {x1} (h : PA X es t) : PE X (.Tuple es x1 pos) (tTup t) := by
 intro pins s σ H Q I hq
 refine wpAny_Tuple_spliced (thn (h pos pins s σ H _ I hq) fun us s1 ⟨xs, H1, I1, r, z, q⟩ => ⟨by rw [← r.length]; exact z, ?_⟩)
 have hf : H1 s1.heap.objs.size = none := I1.hok.fresh (Nat.le_refl _)
 refine ⟨.ref s1.heap.objs.size, upd H1 s1.heap.objs.size (.tup xs), I1.laid (t' := s1.toks) (fun b u e => Heap.get?_push_of_some _ e) (Nat.le_refl _) ?_, rfl, q _ hf⟩
 exact ⟨z, us, r, ⟨_, Heap.get?_push_size _ rfl, rfl, ⟨_, rfl⟩, rfl⟩⟩
theorem pe_lst (h : PA X es t) : PE X (.List es pos) (tLst t) := by
 intro pins s σ H Q I hq
 refine wpAny_List_spliced (thn (h pos pins s σ H _ I hq) fun us s1 ⟨xs, H1, I1, r, z, q⟩ => ⟨by rw [← r.length]; exact z, ?_⟩)
 have hf : H1 s1.heap.objs.size = none := I1.hok.fresh (Nat.le_refl _)
 refine ⟨.ref s1.heap.objs.size, upd H1 s1.heap.objs.size (.lst xs), I1.laid (t' := s1.toks) (fun b u e => Heap.get?_push_of_some _ e) (Nat.le_refl _) ?_, rfl, q _ hf⟩
 exact ⟨z, us, 0, r, Heap.get?_push_size _ rfl⟩
end

abbrev Sp := List V → Hp → VK → XK → Prop
abbrev CXT := List Env → Hp → Shared → XK → Value → Shared → Prop

structure Env0 (P : Program) (w : World) (K : PySem.W.Frag) (mg : Str → Option Value) (base : Heap) (A : Around) (outer : List Env) (s : Shared) (H : Hp) : Prop where
 frames : A.frames = some outer
 mod : Mod K mg base
 bs : ∀ b o, base.get? b = some o → s.heap.get? b = some o ∧ H b = none
 bsz : base.objs.size ≤ s.heap.objs.size
 funs : s.heap.FunFrames base outer
 frf : ∀ b ∈ frs outer, H b = none
 hok : HOk P w H s.heap
 bare : AllBare s.gens
 qt : Quiet A H
def CE (outer : List Env) (P : Program) (w : World) (H : Hp) (s : Shared) (Q : VK) (u : Value) (s' : Shared) : Prop :=
 ∃ v H', s'.os = s.os ∧ AllBare s'.gens ∧ Un (frs outer) [] H H' s.heap s'.heap ∧ HOk P w H' s'.heap ∧ RelV v u ∧ Q v H'
def CR (CX : CXT) (outer : List Env) (P : Program) (w : World) (H : Hp) (s : Shared) (Q : VK) (E : XK) (r : Result) (s' : Shared) : Prop :=
 match r with
 | .ok (.ret u) => CE outer P w H s Q u s'
 | .ok _ => False
 | .error e => CX outer H s E e s'
structure FnOk (P : Program) (w : World) (K : PySem.W.Frag) (mg : Str → Option Value) (base : Heap) (CX : CXT) (k : Nat) (f : Addr) (fd : FuncData) (ps : List Str) (sp : Sp) : Prop where
 len : ∀ vs H Q E, sp vs H Q E → vs.length = ps.length
 run : ∀ (A : Around) (outer : List Env) (s : Shared) (H : Hp) (args : Args) (us : List Value) (vs : List V) (Q : VK) (E : XK), Room k A → Env0 P w K mg base A outer s H → BindsTo s fd args (ps.zip us) → Vals vs us → sp vs H Q E →
  codeAny (model P w) A (.call (.ref f) args) (CR CX outer P w H s Q E) s
theorem FnOk.mono {P : Program} {w : World} {K : PySem.W.Frag} {mg : Str → Option Value} {base : Heap} {CX : CXT} {j k : Nat} {f : Addr} {fd : FuncData} {ps : List Str} {sp : Sp} (F : FnOk P w K mg base CX j f fd ps sp) (h : j ≤ k) :
  FnOk P w K mg base CX k f fd ps sp := ⟨F.len, fun A outer s H args us vs Q E hr => F.run A outer s H args us vs Q E (hr.mono h)⟩
theorem FnOk.imp {P : Program} {w : World} {K : PySem.W.Frag} {mg : Str → Option Value} {base : Heap} {CX : CXT} {k : Nat} {f : Addr} {fd : FuncData} {ps : List Str} {sp sp' : Sp} (F : FnOk P w K mg base CX k f fd ps sp)
  (h : ∀ vs H Q E, sp' vs H Q E → sp vs H Q E) : FnOk P w K mg base CX k f fd ps sp' :=
 ⟨fun vs H Q E q => F.len vs H Q E (h _ _ _ _ q), fun A outer s H args us vs Q E hr he hb hv hs => F.run A outer s H args us vs Q E hr he hb hv (h _ _ _ _ hs)⟩

section
variable {X : Cx} {pins : List (Addr × Obj)} {σ : St} {H : Hp} {s s' : Shared}
theorem Inv.env0 (I : Inv X pins σ H s) : Env0 X.prog X.w X.K X.mg X.base X.A X.stack s H :=
 ⟨I.ok.frames, I.ok.mod, I.bs, Nat.le_trans I.ok.bsz I.sz, I.stack, I.stkFree, I.hok, I.bare, I.qt0⟩
theorem Inv.after {Q : VK} {u : Value} (I : Inv X pins σ H s) (h : CE X.stack X.prog X.w H s Q u s') : EP X pins σ Q u s' := by
 obtain ⟨v, H', os, bare, un, hok, r, q⟩ := h
 obtain ⟨hh, g, d, t, os'⟩ := s'
 obtain rfl : os' = s.os := os
 exact ⟨v, H', I.call (h' := hh) (g' := g) (d' := d) (t' := t) (ch := []) un hok bare (fun b z => absurd z (by simp)), r, q⟩
end

def tCall (sp : Sp) (dvs : List V) (E : XK) (t : TA) : TE := fun σ H Q => t σ H fun vs H1 => sp (vs ++ dvs) H1 Q E
def Binds (K : PySem.W.Frag) (fd : FuncData) (ps : List Str) (ds : List Value) : Prop :=
 ∀ (s : Shared) (us : List Value), K.In s.heap → (us ++ ds).length = ps.length → BindsTo s fd ⟨us, []⟩ (ps.zip (us ++ ds))
theorem Binds.all {K : PySem.W.Frag} {fd : FuncData} {ps : List Str} (h : ∀ us : List Value, us.length = ps.length → bindArgs fd ⟨us, []⟩ = pure (ps.zip us)) : Binds K fd ps [] := fun s us _ hl => by
 rw [List.append_nil] at hl ⊢
 exact .of_eq (h us hl)

def Passes (CX : CXT) (X : Cx) (E : XK) : Prop := ∀ (pins : List (Addr × Obj)) (σ : St) (H : Hp) (s : Shared) (e : Value) (s' : Shared), Inv X pins σ H s → CX X.stack H s E e s' → X.xe e s'

section
variable {X : Cx} {CX : CXT} {k : Nat} {f C : Addr} {fd : FuncData} {ps : List Str} {sp : Sp} {dvs : List V} {ds : List Value} {E : XK} {x m : Str} {p pos apos : Pos} {e o : Expr} {es : List Expr} {ta : TE} {t : TA}

theorem run_fn {pins : List (Addr × Obj)} {σ : St} {H : Hp} {s : Shared} {Q : VK} {us : List Value} {vs : List V} (F : FnOk X.prog X.w X.K X.mg X.base CX k f fd ps sp) (hr : Room k X.A) (hb : Binds X.K fd ps ds) (hd : Vals dvs ds) (hx : Passes CX X E)
  (I : Inv X pins σ H s) (r : Vals vs us) (h : sp (vs ++ dvs) H Q E) : wpAny (model X.prog X.w) X.A (call (.ref f) us) (EP X pins σ Q) X.xe s := by
 have r2 : Vals (vs ++ dvs) (us ++ ds) := r.append hd
 have hl : (us ++ ds).length = ps.length := by rw [← r2.length]; exact F.len _ _ _ _ h
 refine wpAny_call (codeAny_mono (F.run X.A X.stack s H ⟨us, []⟩ (us ++ ds) (vs ++ dvs) Q E hr I.env0 (hb s us I.kIn hl) r2 h) fun r s' hq => ?_)
 cases r with
 | error e => exact hx pins σ H s e s' I hq
 | ok fl =>
  cases fl with
  | ret u => exact I.after hq
  | next => exact False.elim hq
  | brk => exact False.elim hq
  | cont => exact False.elim hq

theorem pe_call (F : FnOk X.prog X.w X.K X.mg X.base CX k f fd ps sp) (hr : Room k X.A) (hg : Gl X x) (hm : X.mg x = some (.ref f)) (hk : PySem.W.keepIn X.K (.ref f) = true) (hb : Binds X.K fd ps ds) (hd : Vals dvs ds) (hx : Passes CX X E)
  (ha : PA X (e :: es) t) (hdb : (x == ("__debug__" : Str)) = false := by decide) (he : starEach (e :: es) X.env = (false, eval e X.env) :: starEach es X.env := by rfl) (hpl : (backTo pos (starEach es X.env)).any (·.1) = false := by rfl) :
  PE X (.Call (.Name x p) (e :: es) [] pos) (tCall sp dvs E t) := by
 intro pins s σ H Q I h
 refine wpAny_Call_Name_kw (ld_glob I hg hm ?_ hdb)
 refine PySem.W.callWith_K (h₀ := X.base) I.ok.mod.kin hk (thn (ha pos pins s σ H _ I h) fun us s1 ⟨vs, H1, I1, r, q⟩ => ⟨I1.kIn, ?_⟩) he hpl
 exact run_fn F hr hb hd hx I1 r q
structure Mk (K : PySem.W.Frag) (C f : Addr) : Prop where
 makes : PySem.W.makesIn K C = true
 init : PySem.W.findIn K (.ref C) "__init__" = some (some (.ref f))
 fn : PySem.W.isFn K (.ref f) = true
 kp : PySem.W.keepIn K (.ref C) = true

end

section
variable {X : Cx} {CX : CXT} {k : Nat} {f C : Addr} {fd : FuncData} {ps ks : List Str} {sp : Sp} {E : XK} {x m : Str} {p pos apos kpos : Pos} {e o : Expr} {es : List Expr} {kws : List Keyword} {te ta : TE} {t tk : TA} {nm : Option Str}
structure KBinds (K : PySem.W.Frag) (fd : FuncData) (ps ks : List Str) (g : List Value → List Value → List Value) (gV : List V → List V → List V) : Prop where
 to : ∀ (s : Shared) (us ws : List Value), K.In s.heap → (g us ws).length = ps.length → BindsTo s fd ⟨us, ks.zip ws⟩ (ps.zip (g us ws))
 rel : ∀ {vs : List V} {us : List Value} {zs : List V} {ws : List Value}, Vals vs us → Vals zs ws → Vals (gV vs zs) (g us ws)
variable {g : List Value → List Value → List Value} {gV : List V → List V → List V}
end

structure FnScope (N P : List Str) (sc : Scope) : Prop where
 kind : sc.kind = .function
 co : sc.isCoroutine = false
 gen : sc.isGenerator = false
 nd : N.Nodup
 pre : N.take P.length = P
 par : ∀ x ∈ P, sc.names.lookup x = some .local ∨ sc.names.lookup x = some .cell
 nofree : ∀ y ∈ sc.names, y.2 ≠ .free

theorem bindL_out {kindOf : Str → Option NameKind} {x : Str} : ∀ {binds : List (Str × Value)} {m : Str → Option Value}, (∀ v, (x, v) ∉ binds) → bindL kindOf binds m x = m x
 | [], _, _ => rfl
 | (n, v) :: r, m, h => by
  unfold bindL
  rw [bindL_out fun w hw => h w (List.mem_cons_of_mem _ hw)]
  split
  ·have : x ≠ n := by rintro rfl; exact h v List.mem_cons_self
   simp [this]
  ·rfl
theorem bindC_out {kindOf : Str → Option NameKind} {x : Str} : ∀ {binds : List (Str × Value)} {m : Str → Option Value}, (∀ v, (x, v) ∉ binds) → bindC kindOf binds m x = m x
 | [], _, _ => rfl
 | (n, v) :: r, m, h => by
  unfold bindC
  rw [bindC_out fun w hw => h w (List.mem_cons_of_mem _ hw)]
  split
  ·rfl
  ·have : x ≠ n := by rintro rfl; exact h v List.mem_cons_self
   simp [this]
theorem bindL_get {kindOf : Str → Option NameKind} {x : Str} {v : Value} : ∀ {P : List Str} {vs : List Value} {i : Nat} {m : Str → Option Value}, P.Nodup → P[i]? = some x → vs[i]? = some v → kindOf x = some .local →
  bindL kindOf (P.zip vs) m x = some v
 | [], _, _, _, _, h, _, _ => by simp at h
 | _ :: _, [], _, _, _, _, h, _ => by simp at h
 | p :: P, w :: vs, 0, m, nd, h1, h2, hk => by
  simp at h1 h2; subst h1; subst h2
  show bindL kindOf ((p, w) :: P.zip vs) m p = _
  unfold bindL
  rw [bindL_out fun v hv => (List.nodup_cons.mp nd).1 (List.of_mem_zip hv).1, if_pos hk]
  simp
 | p :: P, w :: vs, i + 1, m, nd, h1, h2, hk => by
  show bindL kindOf ((p, w) :: P.zip vs) m x = _
  unfold bindL
  exact bindL_get (i := i) (List.nodup_cons.mp nd).2 (by simpa using h1) (by simpa using h2) hk
theorem bindC_get {kindOf : Str → Option NameKind} {x : Str} {v : Value} : ∀ {P : List Str} {vs : List Value} {i : Nat} {m : Str → Option Value}, P.Nodup → P[i]? = some x → vs[i]? = some v → kindOf x ≠ some .local →
  bindC kindOf (P.zip vs) m x = some v
 | [], _, _, _, _, h, _, _ => by simp at h
 | _ :: _, [], _, _, _, _, h, _ => by simp at h
 | p :: P, w :: vs, 0, m, nd, h1, h2, hk => by
  simp at h1 h2; subst h1; subst h2
  show bindC kindOf ((p, w) :: P.zip vs) m p = _
  unfold bindC
  rw [bindC_out fun v hv => (List.nodup_cons.mp nd).1 (List.of_mem_zip hv).1, if_neg hk]
  simp
 | p :: P, w :: vs, i + 1, m, nd, h1, h2, hk => by
  show bindC kindOf ((p, w) :: P.zip vs) m x = _
  unfold bindC
  exact bindC_get (i := i) (List.nodup_cons.mp nd).2 (by simpa using h1) (by simpa using h2) hk

def start (N : List Str) (vs : List V) : St := vs.map some ++ List.replicate (N.length - vs.length) none

def cxOf (CX : CXT) (P : Program) (w : World) (K : PySem.W.Frag) (mg : Str → Option Value) (base : Heap) (N : List Str) (qual : Str) (scope : Scope) (f : Addr) (cd : Value) (A : Around) (outer : List Env) (s : Shared) (H : Hp) (E : XK) : Cx where
 prog := P
 w := w
 K := K
 mg := mg
 base := base
 A := A.deeper (envOfC qual scope s.heap.objs.size f cd)
 N := N
 s₀ := s
 H₀ := H
 env := envOfC qual scope s.heap.objs.size f cd
 outer := outer
 stack := envOfC qual scope s.heap.objs.size f cd :: outer
 ex := []
 calm := A.handled.isNone
 fn := fun _ => true
 pn := []
 xe := fun e s' => wpAny (model P w) (A.deeper (envOfC qual scope s.heap.objs.size f cd)) (leaving (envOfC qual scope s.heap.objs.size f cd) e) (fun _ s'' => CX outer H s E e s'') (fun e' s'' => CX outer H s E e' s'') s'

theorem cell_has {sc : Scope} {n : Nat} {x : Str} (h : sc.names.lookup x = some .cell) : ∃ c, (cellsFrom n sc.names []).lookup x = some c := by
 have q := PySem.W.cellsFrom_some sc.names n [] (.inl h)
 exact Option.isSome_iff_exists.mp q

theorem inv_start {CX : CXT} {P : Program} {w : World} {K : PySem.W.Frag} {mg : Str → Option Value} {base : Heap} {N ps : List Str} {qual : Str} {scope : Scope} {f : Addr} {cd : Value} {A : Around} {outer : List Env} {s s1 : Shared} {H : Hp} {E : XK} {us : List Value} {vs : List V}
  (S : FnScope N ps scope) (e0 : Env0 P w K mg base A outer s H) (hl : vs.length = ps.length) (r : Vals vs us)
  (x : InCallC s s.heap.objs.size (bindL (envOfC qual scope s.heap.objs.size f cd).kindOf (ps.zip us) fun _ => none) (cellsFrom (s.heap.objs.size + 1) scope.names []) (bindC (envOfC qual scope s.heap.objs.size f cd).kindOf (ps.zip us) fun _ => none) s1) :
  Inv (cxOf CX P w K mg base N qual scope f cd A outer s H E) [] (start N vs) H s1 := by
 have hpl : ps.length ≤ N.length := by have := congrArg List.length S.pre; rw [List.length_take] at this; omega
 obtain ⟨h1, tk, rfl, hk⟩ := x.done
 have noA : ∀ b : Addr, b ∉ (cxOf CX P w K mg base N qual scope f cd A outer s H E).ex := fun b z => absurd (show b ∈ ([] : List Addr) from z) (by simp)
 refine ⟨⟨e0.mod, S.kind, rfl, rfl, Nat.le_refl _, fun y z c h1 h2 => ?_, fun y hy => ?_, fun y c _ h => ?_, fun z => Option.isNone_iff_eq_none.mp (show A.handled.isNone = true from z), e0.qt, Around.frames_deeper e0.frames, .inr ⟨rfl, rfl⟩, fun b z => absurd z (noA b), e0.bs, e0.bsz, fun b _ _ => noA b, fun b z => absurd z (noA b), e0.funs, e0.frf⟩,
  rfl, e0.bare, Un.kept hk, ⟨_, x.toInCall.ns, fun i y v h1 h2 h3 => ?_⟩, fun y c h => ⟨_, x.cell y c h⟩, e0.hok.fresh (Nat.le_refl _), fun y c h => ?_, fun p hp => absurd (show p ∈ ([] : List (Addr × Obj)) from hp) (by simp), e0.hok.kept hk, ?_⟩
 ·exact name_of_addr x.apart (PySem.mem_of_lookup h1) (PySem.mem_of_lookup h2)
 ·have hy : scope.names.lookup y = some .cell ∨ scope.names.lookup y = some .free := hy
  rcases hy with hy | hy
  ·exact cell_has hy
  ·exact absurd rfl (S.nofree _ (PySem.mem_of_lookup hy))
 ·exact Nat.le_of_lt (x.above y c (PySem.mem_of_lookup h))
 ·have hi : i < vs.length := by
   unfold start at h2
   by_cases hi : i < vs.length
   ·exact hi
   ·rw [List.getElem?_append_right (by simpa using hi)] at h2
    rw [List.getElem?_replicate] at h2
    split at h2 <;> cases h2
  have ha : vs[i]? = some v := by
   unfold start at h2
   rw [List.getElem?_append_left (by simpa using hi), List.getElem?_map] at h2
   cases e : vs[i]? with
   | none => rw [e] at h2; cases h2
   | some a => rw [e] at h2; cases h2; rfl
  obtain ⟨u, hu, rv⟩ := r.get ha
  have hp : ps[i]? = some y := by
   rw [← S.pre, List.getElem?_take_of_lt (by omega)]; exact h1
  have ndP : ps.Nodup := by rw [← S.pre]; exact S.nd.sublist (List.take_sublist _ _)
  refine ⟨u, rv, ?_⟩
  rcases S.par y (List.mem_of_getElem? hp) with k | k
  ·exact .inl ⟨k, bindL_get ndP hp hu k⟩
  ·obtain ⟨c, e⟩ := cell_has (n := s.heap.objs.size + 1) k
   refine .inr ⟨.inl k, c, e, ?_⟩
   have q := x.cell y c e
   rw [bindC_get ndP hp hu (by show scope.names.lookup y ≠ _; rw [k]; decide)] at q
   exact q
 ·exact e0.hok.fresh (Nat.le_of_lt (x.above y c (PySem.mem_of_lookup h)))
 ·unfold start
  show _ = N.length
  rw [List.length_append, List.length_map, List.length_replicate]
  omega

theorem fn_of {CX : CXT} {P : Program} {w : World} {K : PySem.W.Frag} {mg : Str → Option Value} {base : Heap} {k : Nat} {f : Addr} {name qual : Str} {params : Arguments} {body : List Stmt} {scope : Scope} {dV kV doc pm cdv ct oc : Value} {an od : Option Addr}
  {osl : Array (Option Value)} {N ps : List Str} {sp : Sp} (lk : K.lookup f = some ⟨oc, od, .func (PySem.W.fnOf name qual params body scope dV kV doc pm an cdv ct), osl⟩) (hcd : PySem.W.codeIn K cdv qual = true) (S : FnScope N ps scope)
  (len : ∀ vs H Q E, sp vs H Q E → vs.length = ps.length)
  (hbody : ∀ (A : Around) (outer : List Env) (s : Shared) (H : Hp) (vs : List V) (Q : VK) (E : XK), Room k (A.deeper (envOfC qual scope s.heap.objs.size f cdv)) → sp vs H Q E →
   ∃ t, PSs (cxOf CX P w K mg base N qual scope f cdv A outer s H E) body t ∧ t { nx := fun _ H' => Q .non H', rt := Q } (start N vs) H) :
  FnOk P w K mg base CX (k + 1) f (PySem.W.fnOf name qual params body scope dV kV doc pm an cdv ct) ps sp := by
 refine ⟨len, fun A outer s H args us vs Q E hr e0 hb r hsp => ?_⟩
 have hl := len _ _ _ _ hsp
 have KX : K.In s.heap := e0.mod.kin.keeps fun b o e => (e0.bs b o e).1
 have lim : s.heap.NoLimit := e0.mod.nolimit.keeps fun b o e => (e0.bs b o e).1
 have hkind : ∀ y ∈ ps.zip us, scope.names.lookup y.1 = some .local ∨ (scope.names.lookup y.1 = some .cell ∧ ((cellsFrom (s.heap.objs.size + 1) scope.names []).lookup y.1).isSome = true) := fun ⟨n, v⟩ hy => by
  rcases S.par n (List.of_mem_zip hy).1 with q | q
  ·exact .inl q
  ·exact .inr ⟨q, PySem.W.cellsFrom_some _ _ _ (.inl q)⟩
 refine codeAny_call_function hr.depth (KX _ _ lk) rfl S.co S.gen rfl (PySem.W.codeRec_of KX hcd) (hb _ _ _ _ ?_)
 refine wpAny_newFunctionEnv_cells S.kind hkind fun env he s1 x => ?_
 subst he
 refine ⟨lim.keeps x.toInCall.keep, codeAny_func ?_⟩
 obtain ⟨t, ht, hq⟩ := hbody A outer s H vs Q E (hr.deeper _) hsp
 have I : Inv (cxOf CX P w K mg base N qual scope f cdv A outer s H E) [] (start N vs) H s1 := inv_start S e0 hl r x
 refine wpAny_mono (ht [] s1 (start N vs) H _ I hq) (fun fl s' hs => ?_) fun e s' hs => hs
 have fin : ∀ {σ' : St} {H' : Hp} {v : V} {u : Value}, Inv (cxOf CX P w K mg base N qual scope f cdv A outer s H E) [] σ' H' s' → RelV v u → Q v H' → CE outer P w H s Q u s' :=
  fun {σ' H' v u} J rv q => ⟨v, H', J.os, J.bare, J.base, J.hok, rv, q⟩
 cases fl with
 | ret u =>
  obtain ⟨v, σ', H', J, rv, q⟩ := hs
  exact fin J rv q
 | next =>
  obtain ⟨σ', H', J, q⟩ := hs
  exact fin (v := V.non) (u := Value.none) J rfl q
 | brk =>
  obtain ⟨_, _, _, q⟩ := hs
  exact False.elim q
 | cont =>
  obtain ⟨_, _, _, q⟩ := hs
  exact False.elim q
end L2

namespace L2
open PySem PySem.Spec PyProof.Rows
section
variable {X : Cx} {x : Str} {p pos : Pos} {e : Expr} {es : List Expr} {t : TA} {id T : String} {r : List V → Hp → VK → Prop}

def tCB (r : List V → Hp → VK → Prop) (t : TA) : TE := fun σ H Q => t σ H fun vs H1 => r vs H1 Q
theorem pe_callB (hc : CallR X (.builtin id) r) (hg : Gl X x) (hm : X.mg x = none) (hv : bootBuiltins x = some (.builtin id)) (ha : PA X (e :: es) t) (hn : x ≠ "__name__" := by decide) (hdb : (x == ("__debug__" : Str)) = false := by decide)
  (he : starEach (e :: es) X.env = (false, eval e X.env) :: starEach es X.env := by rfl) (hpl : (backTo pos (starEach es X.env)).any (·.1) = false := by rfl) : PE X (.Call (.Name x p) (e :: es) [] pos) (tCB r t) := by
 intro pins s σ H Q I h
 refine wpAny_Call_Name_kw (ld_blt I hg hm hv ?_ hn hdb)
 exact PyProof.Rows.callWith_builtin1 (thn (ha pos pins s σ H _ I h) fun us s1 ⟨vs, H1, I1, r1, q1⟩ => hc pins s1 σ H1 vs us Q I1 r1 q1) he hpl
theorem pe_callTy (hc : CallR X (.type T) r) (hg : Gl X x) (hm : X.mg x = none) (hv : bootBuiltins x = some (.type T)) (ha : PA X (e :: es) t) (hn : x ≠ "__name__" := by decide) (hdb : (x == ("__debug__" : Str)) = false := by decide)
  (he : starEach (e :: es) X.env = (false, eval e X.env) :: starEach es X.env := by rfl) (hpl : (backTo pos (starEach es X.env)).any (·.1) = false := by rfl) : PE X (.Call (.Name x p) (e :: es) [] pos) (tCB r t) := by
 intro pins s σ H Q I h
 refine wpAny_Call_Name_kw (ld_blt I hg hm hv ?_ hn hdb)
 exact PyProof.Rows.callWith_type1 (thn (ha pos pins s σ H _ I h) fun us s1 ⟨vs, H1, I1, r1, q1⟩ => hc pins s1 σ H1 vs us Q I1 r1 q1) he hpl
end
end L2

namespace HT
open PySem PyProof.Rows

section
open PySem.SeqAt
open PySem.AutoSeq1 (wpAny_loadPart')
open PySem.MeetsSeq PySem.MeetsSeq2 PySem.MeetsSeq3

end

section
variable {prog : Program} {w : World} {A : Around} {E : Value → Shared → Prop} {s : Shared}

theorem cat_tup {t b : Addr} {vs ws : List Value} {Q : Value → Shared → Prop} (ht : IsTup s.heap t vs.toArray) (hb : IsTup s.heap b ws.toArray) (hv : vs ≠ [])
  (h1 : ws = [] → Q (.ref t) s) (h2 : ws ≠ [] → Q (.ref s.heap.objs.size) { s with heap := s.heap.push { cls := .type "tuple", data := .seq (vs ++ ws).toArray } })
  (hsz : vs.length + ws.length ≤ sizeLine) : wpAny (model prog w) A (binaryOp .Add (.ref t) (.ref b)) Q E s := by
 obtain ⟨⟨cls, dd, data, sl⟩, ho, hc, n, hd⟩ := id ht
 obtain ⟨⟨cls2, dd2, data2, sl2⟩, ho2, hc2, n2, hd2⟩ := id hb
 simp only at hc hd hc2 hd2
 subst hc hd hc2 hd2
 have e : vs.toArray ++ ws.toArray = (vs ++ ws).toArray := by simp
 by_cases hw : ws = []
 ·exact concat_meets ⟨_, ho, rfl⟩ ⟨_, ho2, rfl⟩ noFill_tuple_add seq_tuple_add PySem.F.slot_tuple_add PySem.F.entry_tuple_add (PySem.F.args_tuple_add_2 _ _)
   (tuple_addW1 t b vs.toArray ws.toArray n n2 dd dd2 sl sl2 (by simpa using hv) (by simp [hw])) ⟨ho, ho2, h1 hw⟩
 ·refine concat_meets ⟨_, ho, rfl⟩ ⟨_, ho2, rfl⟩ noFill_tuple_add seq_tuple_add PySem.F.slot_tuple_add PySem.F.entry_tuple_add (PySem.F.args_tuple_add_2 _ _)
   (tuple_addW2 t b vs.toArray ws.toArray n n2 dd dd2 sl sl2 (by simpa using hv) (by simpa using hw) (by rw [List.size_toArray, List.size_toArray]; exact hsz)) ⟨ho, ho2, ?_⟩
  rw [e]
  exact h2 hw

def sIx (n d : Nat) : Option Int → Nat
 | none => d
 | some v => if v < 0 then (v + (n : Int)).toNat else min v.toNat n
theorem sIx_none (n d : Nat) : sIx n d none = d := rfl
theorem sIx_nat (n d k : Nat) : sIx n d (some (k : Int)) = min k n := by
 show (if (k : Int) < 0 then ((k : Int) + (n : Int)).toNat else min (k : Int).toNat n) = min k n
 rw [if_neg (by omega), Int.toNat_natCast]
theorem sIx_le (n d : Nat) (hd : d ≤ n) (o : Option Int) : sIx n d o ≤ n := by
 cases o with
 | none => exact hd
 | some v =>
  show (if v < 0 then (v + (n : Int)).toNat else min v.toNat n) ≤ n
  by_cases hv : v < 0
  ·rw [if_pos hv]; omega
  ·rw [if_neg hv]; exact Nat.min_le_right _ _
theorem clip_eq (v : Int) (n d : Nat) : (if v < 0 then max (v + (n : Int)) 0 else min v (n : Int)) = ((sIx n d (some v) : Nat) : Int) := by
 show (if v < 0 then max (v + (n : Int)) 0 else min v (n : Int)) = (((if v < 0 then (v + (n : Int)).toNat else min v.toNat n) : Nat) : Int)
 by_cases hv : v < 0
 ·simp only [if_pos hv]; omega
 ·simp only [if_neg hv]; omega
theorem adjust_gen (lo hi : Option Int) (n : Nat) : Builtin.Slice.sliceAdjust lo hi 1 (n : Int) = (((sIx n 0 lo : Nat) : Int), ((sIx n n hi : Nat) : Int)) := by
 have h1 : ¬ ((1 : Int) < 0) := by omega
 unfold Builtin.Slice.sliceAdjust
 simp only [h1, if_false]
 refine Prod.ext ?_ ?_
 ·cases lo with
  | none => rfl
  | some v => exact clip_eq v n 0
 ·cases hi with
  | none => rfl
  | some v => exact clip_eq v n n
theorem places_gen (i j : Nat) : Builtin.Slice.slicePlaces (i : Int) (j : Int) 1 = j - i := by
 unfold Builtin.Slice.slicePlaces
 have h1 : (1 : Int) > 0 := by omega
 simp only [h1, if_true, Int.ediv_one]
 split <;> omega
theorem slicePart_ {v : Value} {o : Option Int} {Q : Option Int → Shared → Prop} (p : IsPart v o) (h : Q o s) : wpAny (model prog w) A (Builtin.Slice.slicePartIndex v) Q E s := by
 cases p with
 | none => exact slicePart_none h
 | int i t => exact slicePart_int h
theorem sliceApplied_gen {sl : Addr} {vl vu : Value} {lo hi : Option Int} {n : Nat} {Q : Int × Int × Nat → Shared → Prop} (hs : s.heap.IsSliceOf sl vl vu .none) (pl : IsPart vl lo) (pu : IsPart vu hi)
  (h : Q (((sIx n 0 lo : Nat) : Int), 1, sIx n n hi - sIx n 0 lo) s) : wpAny (model prog w) A (Builtin.Slice.sliceApplied (.ref sl) (pure (n : Int))) Q E s := by
 obtain ⟨os, hos, hcs, hds⟩ := id hs
 unfold Builtin.Slice.sliceApplied Builtin.Slice.sliceFields
 refine wpAny_bind (wpAny_bind (wpAny_field hos hds (x := vl) rfl (wpAny_bind (wpAny_field hos hds (x := vu) rfl (wpAny_bind (wpAny_field hos hds (x := .none) rfl (wpAny_pure ?_)))))))
 refine wpAny_bind (slicePart_none ?_)
 show wpAny _ _ (if ((1 : Int) == 0) = true then _ else _) _ _ s
 rw [if_neg (by decide)]
 refine wpAny_bind (slicePart_ pl (wpAny_bind (slicePart_ pu (wpAny_bind (wpAny_pure ?_)))))
 show wpAny _ _ (match Builtin.Slice.sliceAdjust lo hi 1 (n : Int) with | (lo, hi) => pure (lo, (1 : Int), Builtin.Slice.slicePlaces lo hi 1)) _ _ s
 rw [adjust_gen lo hi n]
 show wpAny _ _ (pure (((sIx n 0 lo : Nat) : Int), (1 : Int), Builtin.Slice.slicePlaces ((sIx n 0 lo : Nat) : Int) ((sIx n n hi : Nat) : Int) 1)) _ _ s
 rw [places_gen]
 exact wpAny_pure h
theorem pick_gen (xs : Array Value) (i k : Nat) : ((List.range k).filterMap fun (m : Nat) => xs[((i : Int) + (m : Int) * 1).toNat]?).toArray = ((xs.toList.drop i).take k).toArray := by
 have e : (fun (m : Nat) => xs[((i : Int) + (m : Int) * 1).toNat]?) = fun m => xs[i + m]? := by
  funext m
  have : ((i : Int) + (m : Int) * 1).toNat = i + m := by omega
  rw [this]
 rw [e]
 have := pick_run xs i k
 rw [List.filterMap_map] at this
 have e2 : ((fun x => xs[x]?) ∘ fun x => i + x) = fun m => xs[i + m]? := rfl
 rw [e2] at this
 rw [this]

theorem getItem_tuple_cut {t sl : Addr} {items : Array Value} {vl vu : Value} {lo hi : Option Int} {Q : Value → Shared → Prop} (ht : IsTup s.heap t items) (hs : s.heap.IsSliceOf sl vl vu .none) (pl : IsPart vl lo) (pu : IsPart vu hi)
  (hw : ¬ (sIx items.size 0 lo = 0 ∧ sIx items.size items.size hi = items.size))
  (h : Q (.ref s.heap.objs.size) { s with heap := s.heap.push { cls := .type "tuple", data := .seq ((items.toList.drop (sIx items.size 0 lo)).take (sIx items.size items.size hi - sIx items.size 0 lo)).toArray } })
  (hsz : items.size ≤ sizeLine) : wpAny (model prog w) A (getItem (.ref t) (.ref sl)) Q E s := by
 have htake : sizeOk (.seq ((items.toList.drop (sIx items.size 0 lo)).take (sIx items.size items.size hi - sIx items.size 0 lo)).toArray) := by
  show ((items.toList.drop (sIx items.size 0 lo)).take (sIx items.size items.size hi - sIx items.size 0 lo)).toArray.size ≤ sizeLine
  rw [List.size_toArray, List.length_take, List.length_drop, Array.length_toList]
  omega
 have hj : sIx items.size items.size hi ≤ items.size := sIx_le _ _ (Nat.le_refl _) hi
 obtain ⟨os, hos, hcs, hds⟩ := id hs
 have hTs : s.TypeIs (.ref sl) "slice" := ⟨os, hos, hcs⟩
 unfold getItem
 try with_reducible refine wpAny_holding ?_
 first | refine wpAny_bind (wpAny_pure ?_) | skip
 refine wpAny_bind (wpAny_sequenceKey ht.typeIs (by decide) ?_)
 refine wpAny_bind (wpAny_callSpecial?_slot (name := Str.ofString "__getitem__") ht.typeIs PyProof.Rows.slot_tuple_getitem
  (wpAny_call_entry PyProof.Rows.slot_tuple_getitem ht.typeIs entry_tuple_getitem ?_ (args_tuple_getitem _ _)))
 show wpAny _ _ (Builtin.Tuple.tupleItemsOf (.ref t) >>= _) _ _ s
 refine wpAny_bind (tupleItemsOf_ ht ?_)
 refine wpAny_bind (wpAny_typeOf hTs ?_)
 rw [if_pos (by decide)]
 refine wpAny_bind (sliceApplied_gen hs pl pu ?_)
 have hno : ¬ ((((sIx items.size 0 lo : Nat) : Int) == 0 && (1 : Int) == 1 && (sIx items.size items.size hi - sIx items.size 0 lo) == items.size) = true) := by
  intro q
  rw [Bool.and_eq_true, Bool.and_eq_true] at q
  have q1 : ((sIx items.size 0 lo : Nat) : Int) = 0 := eq_of_beq q.1.1
  have q2 : sIx items.size items.size hi - sIx items.size 0 lo = items.size := eq_of_beq q.2
  exact hw ⟨by omega, by omega⟩
 show wpAny _ _ (if (((sIx items.size 0 lo : Nat) : Int) == 0 && (1 : Int) == 1 && (sIx items.size items.size hi - sIx items.size 0 lo) == items.size) = true then _ else _) _ _ s
 rw [if_neg hno, pick_gen]
 first
  | exact wpAny_bind (m := Builtin.Tuple.tupleExact _) (wpAny_newObj_type (wpAny_pure ⟨_, rfl, wpAny_pure h⟩) htake)
  | exact wpAny_bind (m := Builtin.Tuple.tupleExact _) (wpAny_newObj_type (wpAny_bind (wpAny_pure (wpAny_pure ⟨_, rfl, wpAny_pure h⟩))) htake)
  | exact wpAny_bind (wpAny_bind (m := Builtin.Tuple.tupleExact _) (wpAny_newObj_type (wpAny_pure (wpAny_pure ⟨_, rfl, wpAny_pure h⟩)) htake))
  | exact wpAny_bind (wpAny_bind (m := Builtin.Tuple.tupleExact _) (wpAny_newObj_type (wpAny_pure ⟨_, rfl, wpAny_pure h⟩) htake))
end
end HT

namespace L2
open PySem PySem.Spec PyProof.Rows

abbrev TO := St → Hp → (Option Int → Hp → Prop) → Prop
def PO (X : Cx) (e : Option Expr) (t : TO) : Prop :=
 ∀ (pins : List (Addr × Obj)) (s : Shared) (σ : St) (H : Hp) (Q : Option Int → Hp → Prop), Inv X pins σ H s → t σ H Q →
  wpAny (model X.prog X.w) X.A (evalPart e X.env) (fun u s' => ∃ o H', Inv X pins σ H' s' ∧ IsPart u o ∧ Q o H') X.xe s
def tNoPart : TO := fun _ H Q => Q none H
def tPart (t : TE) : TO := fun σ H Q => t σ H fun x H1 => ∃ i, x = .int i ∧ Q (some i) H1

section
variable {X : Cx} {e : Expr} {te : TE} {lo hi : Option Expr} {tl th : TO} {pos p2 : Pos}

theorem po_none : PO X none tNoPart := by
 intro pins s σ H Q I h
 rw [evalPart_none]
 exact wpAny_pure ⟨none, H, I, .none, h⟩
theorem po_some (h : PE X e te) : PO X (some e) (tPart te) := by
 intro pins s σ H Q I hw
 rw [evalPart_some]
 refine thn (h pins s σ H _ I hw) fun u s1 ⟨x, H1, I1, r1, q1⟩ => ?_
 obtain ⟨i, rfl, q⟩ := q1
 obtain ⟨t, rfl⟩ := r1
 exact ⟨some i, H1, I1, .int i t, q⟩

def SlR (X : Cx) (r : V → Option Int → Option Int → Hp → VK → Prop) : Prop :=
 ∀ (pins : List (Addr × Obj)) (s : Shared) (σ : St) (H : Hp) (x : V) (v vl vu : Value) (lo hi : Option Int) (sl : Addr) (Q : VK), Inv X pins σ H s → RelV x v → s.heap.IsSliceOf sl vl vu .none → IsPart vl lo → IsPart vu hi → r x lo hi H Q →
  ∃ T id, typeLookup (.type T) "__getitem__" = pure (some (.builtin id)) ∧ s.TypeIs v T ∧ wpAny (model X.prog X.w) X.A (getItem v (.ref sl)) (EP X pins σ Q) X.xe s
theorem SlR.or {r r' : V → Option Int → Option Int → Hp → VK → Prop} (h : SlR X r) (h' : SlR X r') : SlR X (fun x lo hi H Q => r x lo hi H Q ∨ r' x lo hi H Q) := by
 intro pins s σ H x v vl vu lo hi sl Q I rx hs pl pu q
 rcases q with q | q
 ·exact h pins s σ H x v vl vu lo hi sl Q I rx hs pl pu q
 ·exact h' pins s σ H x v vl vu lo hi sl Q I rx hs pl pu q
def tSl (r : V → Option Int → Option Int → Hp → VK → Prop) (te : TE) (tl th : TO) : TE := fun σ H Q => te σ H fun x H1 => tl σ H1 fun l H2 => th σ H2 fun u H3 => r x l u H3 Q
theorem pe_slice {r : V → Option Int → Option Int → Hp → VK → Prop} (hr : SlR X r) (he : PE X e te) (hl : PO X lo tl) (hu : PO X hi th) : PE X (.Subscript e (.Slice lo hi none p2) pos) (tSl r te tl th) := by
 intro pins s σ H Q I h
 refine Subscript_ (thn (he pins s σ H _ I h) fun v s1 ⟨x, H1, I1, r1, q1⟩ => ?_)
 refine wpAny_Slice (thn (hl pins s1 σ H1 _ I1 q1) fun vl s2 ⟨l, H2, I2, pl, q2⟩ => thn (hu pins s2 σ H2 _ I2 q2) fun vu s3 ⟨u, H3, I3, pu, q3⟩ => ?_)
 rw [evalPart_none]
 refine wpAny_pure ?_
 have I4 : Inv X pins σ H3 { s3 with heap := s3.heap.push { cls := .type "slice", data := .fields #[vl, vu, .none] } } := I3.kept (t' := s3.toks) fun b ob q => Heap.get?_push_of_some _ q
 obtain ⟨T, id, hT, ht, hg⟩ := hr pins { s3 with heap := s3.heap.push { cls := .type "slice", data := .fields #[vl, vu, .none] } } σ H3 x v vl vu l u s3.heap.objs.size Q I4 r1 (Heap.IsSliceOf.new ..) pl pu q3
 show wpAny (model X.prog X.w) X.A (subscriptTail e (.Slice lo hi none p2) v (.ref s3.heap.objs.size)) (EP X pins σ Q) X.xe { s3 with heap := s3.heap.push { cls := .type "slice", data := .fields #[vl, vu, .none] } }
 exact tail_any (ops := [.ref s3.heap.objs.size, v]) ht hT hg (by with_unfolding_all rfl)

def cutV (xs : List V) (lo hi : Option Int) : List V := (xs.drop (HT.sIx xs.length 0 lo)).take (HT.sIx xs.length xs.length hi - HT.sIx xs.length 0 lo)
theorem cutV_length (xs : List V) (lo hi : Option Int) : (cutV xs lo hi).length ≤ xs.length := by
 unfold cutV
 rw [List.length_take, List.length_drop]
 omega
def rSlT (K : PySem.W.Frag) : V → Option Int → Option Int → Hp → VK → Prop := fun x lo hi H Q => ∃ a xs, x = .ref a ∧ SqT K H a xs ∧
 ¬ (HT.sIx xs.length 0 lo = 0 ∧ HT.sIx xs.length xs.length hi = xs.length) ∧ ∀ p, H p = none → Q (.ref p) (upd H p (.tup (cutV xs lo hi)))
theorem sl_tup : SlR X (rSlT X.K) := by
 intro pins s σ H x v vl vu lo hi sl Q I rx hs pl pu h
 obtain ⟨a, xs, rfl, hx, hw, q⟩ := h
 cases rx
 obtain ⟨its, r, ht, hz⟩ := I.tuple hx
 have hlen : its.toArray.size = xs.length := by rw [List.size_toArray]; exact r.length.symm
 refine ⟨"tuple", _, PyProof.Rows.slot_tuple_getitem.lookup, ht.typeIs, ?_⟩
 refine HT.getItem_tuple_cut ht hs pl pu (by rw [hlen]; exact hw) ?_ (by rw [hlen]; exact hz)
 rw [hlen]
 refine ⟨.ref s.heap.objs.size, _, I.laid (t' := s.toks) (o := .tup (cutV xs lo hi)) (fun b ob q => Heap.get?_push_of_some _ q) (Nat.le_refl _) ?_, rfl, q _ (I.hok.fresh (Nat.le_refl _))⟩
 exact ⟨Nat.le_trans (cutV_length xs lo hi) hz, _, (r.drop (HT.sIx xs.length 0 lo)).take (HT.sIx xs.length xs.length hi - HT.sIx xs.length 0 lo), TupO.new _ _⟩

def rCatT (K : PySem.W.Frag) : R2 := fun x y H Q => ∃ a b xs ys, x = .ref a ∧ y = .ref b ∧ SqT K H a xs ∧ SqT K H b ys ∧ xs ≠ [] ∧ xs.length + ys.length ≤ sizeLine ∧
 (ys = [] → Q (.ref a) H) ∧ (ys ≠ [] → ∀ p, H p = none → Q (.ref p) (upd H p (.tup (xs ++ ys))))
theorem Vals.nil_iff {xs : List V} {us : List Value} (r : Vals xs us) : us = [] ↔ xs = [] := by
 cases r with
 | nil => simp
 | cons _ _ => simp
theorem op_catT : OpR X (binaryOp .Add) (rCatT X.K) := by
 intro pins s σ H x y v u Q I rx ry h
 obtain ⟨a, b, xs, ys, rfl, rfl, ha, hb, hx, hz, q1, q2⟩ := h
 cases rx
 cases ry
 obtain ⟨its, r1, p1, _⟩ := I.tuple ha
 obtain ⟨its2, r2, p2, _⟩ := I.tuple hb
 refine HT.cat_tup p1 p2 (fun z => hx (r1.nil_iff.mp z)) (fun z => ⟨.ref a, H, I, rfl, q1 (r2.nil_iff.mp z)⟩) (fun z => ?_) (by rw [← r1.length, ← r2.length]; exact hz)
 refine ⟨.ref s.heap.objs.size, _, I.laid (t' := s.toks) (o := .tup (xs ++ ys)) (fun b ob q => Heap.get?_push_of_some _ q) (Nat.le_refl _) ?_, rfl, q2 (fun w => z (r2.nil_iff.mpr w)) _ (I.hok.fresh (Nat.le_refl _))⟩
 exact ⟨by rw [List.length_append]; exact hz, _, r1.append r2, TupO.new _ _⟩
end
end L2

namespace L2
open PySem PySem.Spec PyProof.Rows

def ixN (n : Nat) (i : Int) : Option Nat := if 0 ≤ i then (if i < n then some i.toNat else none) else if -(n : Int) ≤ i then some (i + n).toNat else none
def atI {α : Type} (xs : List α) (i : Int) : Option α := (ixN xs.length i).bind fun j => xs[j]?
theorem ixN_seq {n : Nat} {i : Int} {j : Nat} (h : ixN n i = some j) : seqIndex? i n = some j ∧ j < n ∧ -(n : Int) ≤ i ∧ i < n := by
 unfold ixN at h
 by_cases h0 : 0 ≤ i
 ·rw [if_pos h0] at h
  by_cases h1 : i < n
  ·rw [if_pos h1] at h
   have e : i.toNat = j := Option.some.inj h
   exact ⟨by rw [seqIndex_of h0 h1, e], by omega, by omega, h1⟩
  ·rw [if_neg h1] at h; cases h
 ·rw [if_neg h0] at h
  by_cases h1 : -(n : Int) ≤ i
  ·rw [if_pos h1] at h
   have e : (i + n).toNat = j := Option.some.inj h
   exact ⟨by rw [seqIndex_neg (by omega) h1, e], by omega, h1, by omega⟩
  ·rw [if_neg h1] at h; cases h
theorem atI_get {α : Type} {xs : List α} {i : Int} {v : α} (h : atI xs i = some v) : ∃ j, seqIndex? i xs.length = some j ∧ xs[j]? = some v ∧ j < xs.length ∧ -(xs.length : Int) ≤ i ∧ i < xs.length := by
 unfold atI at h
 cases e : ixN xs.length i with
 | none => rw [e] at h; cases h
 | some j =>
  rw [e] at h
  obtain ⟨h1, h2, h3, h4⟩ := ixN_seq e
  exact ⟨j, h1, h, h2, h3, h4⟩
theorem atI_nat {α : Type} {xs : List α} {j : Nat} {v : α} (h : xs[j]? = some v) : atI xs (j : Int) = some v := by
 have hj : j < xs.length := (List.getElem?_eq_some_iff.mp h).1
 have e : ixN xs.length (j : Int) = some j := by
  unfold ixN
  rw [if_pos (by omega), if_pos (by omega)]; simp
 unfold atI; rw [e]; exact h
def PlainIx (b : Expr) : Prop := ∀ o i, subscripted b false o i = operate [o, i] (getItem o i)
def IxR (X : Cx) (r : R2) : Prop :=
 ∀ (value slice : Expr) (pins : List (Addr × Obj)) (s : Shared) (σ : St) (H : Hp) (x y : V) (v u : Value) (Q : VK), Inv X pins σ H s → RelV x v → RelV y u → r x y H Q →
  subscripted slice false v u = operate [v, u] (getItem v u) → wpAny (model X.prog X.w) X.A (subscriptTail value slice v u) (EP X pins σ Q) X.xe s
def MtR (X : Cx) (id : String) (r : V → List V → Hp → VK → Prop) : Prop :=
 ∀ (pins : List (Addr × Obj)) (s : Shared) (σ : St) (H : Hp) (x : V) (xs : List V) (v : Value) (us : List Value) (Q : VK), Inv X pins σ H s → RelV x v → Vals xs us → r x xs H Q →
  wpAny (model X.prog X.w) X.A (call (.builtin id) (v :: us)) (EP X pins σ Q) X.xe s
section
variable {X : Cx} {a b : Expr} {ta tb : TE} {pos : Pos}
theorem IxR.or {r r' : R2} (h : IxR X r) (h' : IxR X r') : IxR X (fun x y H Q => r x y H Q ∨ r' x y H Q) := by
 intro value slice pins s σ H x y v u Q I rx ry q hs
 rcases q with q | q
 ·exact h value slice pins s σ H x y v u Q I rx ry q hs
 ·exact h' value slice pins s σ H x y v u Q I rx ry q hs
theorem pe_ix {r : R2} (hr : IxR X r) (ha : PE X a ta) (hb : PE X b tb) (hs : PlainIx b) : PE X (.Subscript a b pos) (tOp r ta tb) := by
 intro pins s σ H Q I h
 exact Subscript_ (binT ha hb I h fun v u s2 x y H2 I2 rx ry q => hr a b pins s2 σ H2 x y v u Q I2 rx ry q (hs _ _))

def rIxL (K : PySem.W.Frag) : R2 := fun x y H Q => ∃ p xs i v, x = .ref p ∧ y = .int i ∧ SqL K H p xs ∧ atI xs i = some v ∧ Q v H
def rIxT (K : PySem.W.Frag) : R2 := fun x y H Q => ∃ p xs i v, x = .ref p ∧ y = .int i ∧ SqT K H p xs ∧ atI xs i = some v ∧ Q v H
def rIxS : R2 := fun x y H Q => ∃ z i c, x = .str z ∧ y = .int i ∧ z.length ≤ sizeLine ∧ atI z.cps.toList i = some c ∧ Q (.str ⟨#[c]⟩) H
theorem ix_list : IxR X (rIxL X.K) := by
 intro value slice pins s σ H x y v u Q I rx ry h hs
 obtain ⟨p, xs, i, z, rfl, rfl, hq, he, q⟩ := h
 cases rx
 obtain ⟨t, rfl⟩ := ry
 obtain ⟨its, r, pl, hz⟩ := I.list hq
 obtain ⟨j, h1, h2, h3, h4, h5⟩ := atI_get he
 obtain ⟨w, ew, rw'⟩ := r.get h2
 have hl := r.length
 have hn := line63
 have fin : EP X pins σ Q w s := ⟨z, H, I, rw', q⟩
 by_cases h0 : 0 ≤ i
 ·have hj : i.toNat = j := by
   rw [seqIndex_of h0 h5] at h1
   exact Option.some.inj h1
  exact item_listR pl.isList h0 (by omega) (by rw [hj]; simpa using ew) fin hs
 ·have hj : (i + (its.toArray.size : Int)).toNat = j := by
   rw [seqIndex_neg (by omega) h4] at h1
   rw [List.size_toArray, ← hl]
   exact Option.some.inj h1
  exact subscriptTail_builtinR (x := w) pl.isList.typeIs slot_list_getitem.lookup
   (wpAny_getItem_list_neg (Q := fun r s' => r = w ∧ EP X pins σ Q r s') pl.isList (by omega) (by rw [List.size_toArray] <;> omega) (by omega) (by rw [hj]; simpa using ew) ⟨rfl, fin⟩) hs
theorem ix_tup : IxR X (rIxT X.K) := by
 intro value slice pins s σ H x y v u Q I rx ry h hs
 obtain ⟨p, xs, i, z, rfl, rfl, hq, he, q⟩ := h
 cases rx
 obtain ⟨t, rfl⟩ := ry
 obtain ⟨its, r, pl, hz⟩ := I.tuple hq
 obtain ⟨j, h1, h2, h3, h4, h5⟩ := atI_get he
 obtain ⟨w, ew, rw'⟩ := r.get h2
 have hl := r.length
 have hn := line63
 have fin : EP X pins σ Q w s := ⟨z, H, I, rw', q⟩
 exact subscriptTail_builtinR (x := w) pl.typeIs slot_tuple_getitem.lookup
  (getItem_tuple (j := j) (Q := fun r s' => r = w ∧ EP X pins σ Q r s') pl (by omega) (by omega) (by rw [List.size_toArray, ← hl]; exact h1) (by simpa using ew) ⟨rfl, fin⟩) hs
theorem ix_str : IxR X rIxS := by
 intro value slice pins s σ H x y v u Q I rx ry h hs
 obtain ⟨z, i, c, rfl, rfl, hz, he, q⟩ := h
 obtain ⟨t, rfl⟩ := rx
 obtain ⟨t', rfl⟩ := ry
 obtain ⟨j, h1, h2, h3, h4, h5⟩ := atI_get he
 have hl : z.cps.toList.length = z.length := by simp [Str.length]
 rw [hl] at h1 h4 h5
 have hn := line63
 exact tail_any (typeIs_str s z t) slot_str_getitem.lookup (getItem_str (c := c) (by
  have e1 : decide (i < -(2 ^ 63 : Int)) = false := decide_eq_false (by omega)
  have e2 : decide (i ≥ 2 ^ 63) = false := decide_eq_false (by omega)
  rw [e1, e2, Bool.or_false]) (by rw [h1]; simpa using h2) ⟨.str ⟨#[c]⟩, H, I.tok _, ⟨_, rfl⟩, q⟩) hs
def rIx (K : PySem.W.Frag) : R2 := fun x y H Q => rIxL K x y H Q ∨ rIxT K x y H Q ∨ rIxS x y H Q
theorem ix_seq : IxR X (rIx X.K) := ix_list.or (ix_tup.or ix_str)

theorem slice_bounds (lo hi : Option Int) (n : Nat) : (sliceBounds lo hi none n).1 = ((HT.sIx n 0 lo : Nat) : Int) ∧ (sliceBounds lo hi none n).2.1 = ((HT.sIx n n hi : Nat) : Int) ∧ (sliceBounds lo hi none n).2.2 = 1 := by
 refine ⟨?_, ?_, rfl⟩
 ·cases lo with
  | none => simp [sliceBounds, HT.sIx]
  | some i =>
   simp only [sliceBounds, HT.sIx, Option.getD_none, show (1 : Int) > 0 by decide, if_true]
   by_cases h : i < 0
   ·simp only [h, if_true] <;> omega
   ·simp only [h, if_false] <;> omega
 ·cases hi with
  | none => simp [sliceBounds, HT.sIx]
  | some i =>
   simp only [sliceBounds, HT.sIx, Option.getD_none, show (1 : Int) > 0 by decide, if_true]
   by_cases h : i < 0
   ·simp only [h, if_true] <;> omega
   ·simp only [h, if_false] <;> omega
theorem slicePick_cut (its : List Value) (lo hi : Option Int) : slicePick its.toArray lo hi none = ((its.drop (HT.sIx its.length 0 lo)).take (HT.sIx its.length its.length hi - HT.sIx its.length 0 lo)).toArray := by
 obtain ⟨h1, h2, h3⟩ := slice_bounds lo hi its.toArray.size
 unfold slicePick
 rw [h1, h2, h3]
 simp only [sliceRange_one, pick_run, List.size_toArray] <;> rfl
def rSlL (K : PySem.W.Frag) : V → Option Int → Option Int → Hp → VK → Prop := fun x lo hi H Q => ∃ a xs, x = .ref a ∧ SqL K H a xs ∧ ∀ p, H p = none → Q (.ref p) (upd H p (.lst (cutV xs lo hi)))
theorem sl_list : SlR X (rSlL X.K) := by
 intro pins s σ H x v vl vu lo hi sl Q I rx hs pl pu h
 obtain ⟨a, xs, rfl, hx, q⟩ := h
 cases rx
 obtain ⟨its, r, ht, hz⟩ := I.list hx
 have hlen := r.length
 refine ⟨"list", _, slot_list_getitem.lookup, ht.isList.typeIs, ?_⟩
 refine wpAny_getItem_list_slice ht.isList hs pl pu .none (by simp) ?_ (by rw [List.size_toArray] <;> omega)
 rw [slicePick_cut, ← hlen]
 refine ⟨.ref s.heap.objs.size, _, I.laid (t' := s.toks) (o := .lst (cutV xs lo hi)) (fun b ob q => Heap.get?_push_of_some _ q) (Nat.le_refl _) ?_, rfl, q _ (I.hok.fresh (Nat.le_refl _))⟩
 exact ⟨Nat.le_trans (cutV_length xs lo hi) hz, _, 0, (r.drop (HT.sIx xs.length 0 lo)).take (HT.sIx xs.length xs.length hi - HT.sIx xs.length 0 lo), Heap.get?_push_size _ rfl⟩

def flatV : V → Bool
 | .non => true
 | .bl _ => true
 | .int _ => true
 | .str _ => true
 | _ => false
def eqV : V → V → Bool
 | .non, .non => true
 | .bl a, .bl b => a == b
 | .bl a, .int b => (if a then 1 else 0) == b
 | .int a, .bl b => a == (if b then 1 else 0)
 | .int a, .int b => a == b
 | .str a, .str b => a == b
 | _, _ => false
theorem eqAt_V {A : Around} {s : Shared} {y x : V} {u v : Value} (ry : RelV y u) (rx : RelV x v) (fy : flatV y = true) (fx : flatV x = true) : SeqAt.EqAt A s u v (eqV y x) := by
 cases y with
 | non =>
  cases ry
  cases x with
  | non => cases rx; exact SeqAt.EqAt.same _
  | bl b => cases rx; exact SeqAt.EqAt.none_bool b
  | int b => obtain ⟨t, rfl⟩ := rx; exact SeqAt.EqAt.none_int b t
  | str b => obtain ⟨t, rfl⟩ := rx; exact SeqAt.EqAt.none_str b t
  | _ => exact absurd (show false = true from fx) Bool.false_ne_true
 | bl a =>
  cases ry
  cases x with
  | non => cases rx; exact SeqAt.EqAt.bool_none a
  | bl b => cases rx; exact SeqAt.EqAt.bool_bool a b
  | int b => obtain ⟨t, rfl⟩ := rx; exact SeqAt.EqAt.bool_int a b t
  | str b => obtain ⟨t, rfl⟩ := rx; exact SeqAt.EqAt.bool_str a b t
  | _ => exact absurd (show false = true from fx) Bool.false_ne_true
 | int a =>
  obtain ⟨t', rfl⟩ := ry
  cases x with
  | non => cases rx; exact SeqAt.EqAt.int_none a t'
  | bl b => cases rx; exact SeqAt.EqAt.int_bool a t' b
  | int b => obtain ⟨t, rfl⟩ := rx; exact SeqAt.EqAt.int_int a t' b t
  | str b => obtain ⟨t, rfl⟩ := rx; exact SeqAt.EqAt.int_str a t' b t
  | _ => exact absurd (show false = true from fx) Bool.false_ne_true
 | str a =>
  obtain ⟨t', rfl⟩ := ry
  cases x with
  | non => cases rx; exact SeqAt.EqAt.str_none a t'
  | bl b => cases rx; exact SeqAt.EqAt.str_bool a t' b
  | int b => obtain ⟨t, rfl⟩ := rx; exact SeqAt.EqAt.str_int a t' b t
  | str b => obtain ⟨t, rfl⟩ := rx; exact SeqAt.EqAt.str_str a t' b t
  | _ => exact absurd (show false = true from fx) Bool.false_ne_true
 | _ => exact absurd (show false = true from fy) Bool.false_ne_true
theorem call_len_seq : CallR X (.builtin "len") (fun xs H Q => ∃ p ys, xs = [.ref p] ∧ (SqL X.K H p ys ∨ SqT X.K H p ys) ∧ Q (.int ys.length) H) := by
 intro pins s σ H xs us Q I r h
 obtain ⟨p, ys, rfl, hq, q⟩ := h
 obtain ⟨u, rfl, rx⟩ := vals1 r
 cases rx
 have hn := line63
 rcases hq with hq | hq
 ·obtain ⟨its, r', pl, hz⟩ := I.list hq
  have hlen := r'.length
  exact Calls.call_len_list pl.isList (by simp only [List.size_toArray] <;> omega) ⟨.int ys.length, H, I.tok _, ⟨s.toks + 1, by rw [List.size_toArray, hlen]⟩, q⟩
 ·obtain ⟨its, r', pl, hz⟩ := I.tuple hq
  have hlen := r'.length
  exact len_tuple pl (by simp only [List.size_toArray] <;> omega) ⟨.int ys.length, H, I.tok _, ⟨s.toks + 1, by rw [List.size_toArray, hlen]⟩, q⟩
theorem call_tuple_of : CallR X (.type "tuple") (fun xs H Q => ∃ p ys, xs = [.ref p] ∧ ((SqL X.K H p ys ∧ ∀ l, H l = none → Q (.ref l) (upd H l (.tup ys))) ∨ (SqT X.K H p ys ∧ Q (.ref p) H))) := by
 intro pins s σ H xs us Q I r h
 obtain ⟨p, ys, rfl, h⟩ := h
 obtain ⟨u, rfl, rx⟩ := vals1 r
 cases rx
 rcases h with ⟨hq, q⟩ | ⟨hq, q⟩
 ·obtain ⟨its, r', pl, hz⟩ := I.list hq
  have hlen := r'.length
  refine call_tuple_list pl.isList (fun h' kp => ?_) (by simp only [List.size_toArray] <;> omega)
  have I1 : Inv X pins σ H { s with heap := h' } := I.kept (t' := s.toks) kp
  have I2 : Inv X pins σ (upd H h'.objs.size (.tup ys)) { s with heap := h'.push { cls := .type "tuple", data := .seq its.toArray } } :=
   I1.laid (t' := s.toks) (fun b o e => Heap.get?_push_of_some _ e) (Nat.le_refl _) (show ObjOk X.prog X.w _ _ _ (.tup ys) from ⟨hz, its, r', TupO.new _ _⟩)
  exact ⟨.ref h'.objs.size, _, I2, rfl, q _ (I1.hok.fresh (Nat.le_refl _))⟩
 ·obtain ⟨its, r', pl, hz⟩ := I.tuple hq
  exact call_tuple_same pl ⟨.ref p, H, I, rfl, q⟩

def tyV (K : PySem.W.Frag) (T : String) (x : V) (H : Hp) : Prop := match x with
 | .str _ => T = "str"
 | .int _ => T = "int"
 | .ref p => (T = "list" ∧ ∃ xs, SqL K H p xs) ∨ (T = "tuple" ∧ ∃ o, K.lookup p = some o ∧ o.cls = .type "tuple" ∧ o.dict = none) ∨
   (T = "dict" ∧ ((∃ kvs, H p = some (.dK kvs)) ∨ ∃ kvs, H p = some (.dT kvs))) ∨ (T = "set" ∧ ∃ S n, H p = some (.set S n))
 | _ => False
theorem tyV_is {pins : List (Addr × Obj)} {σ : St} {H : Hp} {s : Shared} {T : String} {x : V} {v : Value} (I : Inv X pins σ H s) (r : RelV x v) (ty : tyV X.K T x H) :
  s.TypeIs v T ∧ ∀ a, v = .ref a → ∃ ob, s.heap.get? a = some ob ∧ ob.dict = none := by
 cases x with
 | str z =>
  obtain ⟨t, rfl⟩ := r
  cases (show T = "str" from ty)
  exact ⟨typeIs_str s z t, fun _ e => nomatch e⟩
 | int i =>
  obtain ⟨t, rfl⟩ := r
  cases (show T = "int" from ty)
  exact ⟨typeIs_int s i t, fun _ e => nomatch e⟩
 | ref p =>
  cases r
  rcases ty with ⟨rfl, xs, hq⟩ | ⟨rfl, o, hk, hc, hd⟩ | ⟨rfl, hk⟩ | ⟨rfl, S, n, hk⟩
  ·obtain ⟨its, _, pl, _⟩ := I.list hq
   refine ⟨pl.isList.typeIs, fun a e => ?_⟩
   cases e
   obtain ⟨o, n, e, c, hd, _⟩ := pl
   exact ⟨o, e, hd⟩
  ·refine ⟨⟨o, I.kIn p o hk, hc⟩, fun a e => ?_⟩
   cases e
   exact ⟨o, I.kIn _ o hk, hd⟩
  ·have z : ∃ o, s.heap.get? p = some o ∧ o.ExactDict := by
    rcases hk with ⟨kvs, hk⟩ | ⟨kvs, hk⟩
    ·obtain ⟨_, _, _, _, o, _, _, e, ex, _⟩ := I.hok p _ hk
     exact ⟨o, e, ex⟩
    ·obtain ⟨_, _, _, _, o, _, _, e, ex, _⟩ := I.hok p _ hk
     exact ⟨o, e, ex⟩
   obtain ⟨o, e, ex⟩ := z
   refine ⟨⟨o, e, ex.1⟩, fun a e2 => ?_⟩
   cases e2
   exact ⟨o, e, ex.2.1⟩
  ·obtain ⟨o, _, _, _, e, ex, _⟩ := I.hok p _ hk
   refine ⟨⟨o, e, ex.1⟩, fun a e2 => ?_⟩
   cases e2
   exact ⟨o, e, ex.2.1⟩
 | _ => exact False.elim ty
def tBM0 (K : PySem.W.Frag) (T : String) (r : V → List V → Hp → VK → Prop) (to : TE) : TE := fun σ H Q => to σ H fun x H1 => tyV K T x H1 ∧ r x [] H1 Q
def tBM (K : PySem.W.Frag) (T : String) (r : V → List V → Hp → VK → Prop) (to : TE) (t : TA) : TE := fun σ H Q => to σ H fun x H1 => tyV K T x H1 ∧ t σ H1 fun xs H2 => r x xs H2 Q
variable {o e : Expr} {es : List Expr} {to : TE} {t : TA} {name : Str} {apos cpos : Pos} {T id : String} {r : V → List V → Hp → VK → Prop}
theorem pe_bm0 (pa : PlainAttrs T) (slot : Slot T name id) (hty : typeOf (.builtin id) = pure (.type "method_descriptor")) (hm : MtR X id r) (ho : PE X o to)
  (hbase : attributeBase o name X.env (eval o X.env) = eval o X.env := by rfl) (hline : (apos.endLine == cpos.line) = true := by rfl) : PE X (.Call (.Attribute o name apos) [] [] cpos) (tBM0 X.K T r to) := by
 intro pins s σ H Q I h
 refine wpAny_Call_method0_late hbase hline (thn (ho pins s σ H _ I h) fun v s1 ⟨x, H1, I1, r1, ty, q1⟩ => ?_)
 obtain ⟨h1, h2⟩ := tyV_is I1 r1 ty
 exact ⟨T, id, pa, slot, hty, h1, h2, Calls.callWith_builtin rfl (PySem.evalArgs_none (hm pins s1 σ H1 x [] v [] Q I1 r1 .nil q1))⟩
theorem pe_bm (pa : PlainAttrs T) (slot : Slot T name id) (hty : typeOf (.builtin id) = pure (.type "method_descriptor")) (hm : MtR X id r) (ho : PE X o to) (ha : PA X (e :: es) t)
  (hbase : attributeBase o name X.env (eval o X.env) = eval o X.env := by rfl)
  (hfew : ((backTo cpos (starEach (e :: es) X.env)).all (fun x => !x.1) && (backToKw cpos (keywordEach [] X.env)).all (fun x => x.1.isSome)
   && decide ((e :: es).length + ([] : List Keyword).length + (if ([] : List Keyword).isEmpty then 0 else 1) < 30)) = true := by rfl)
  (hline : (apos.endLine == cpos.line) = true := by rfl) (hs : starEach (e :: es) X.env = (false, eval e X.env) :: starEach es X.env := by rfl) (hplain : (backTo cpos (starEach es X.env)).any (·.1) = false := by rfl) :
  PE X (.Call (.Attribute o name apos) (e :: es) [] cpos) (tBM X.K T r to t) := by
 intro pins s σ H Q I h
 refine wpAny_Call_method_late hbase hfew hline rfl (thn (ho pins s σ H _ I h) fun v s1 ⟨x, H1, I1, r1, ty, q1⟩ => ?_)
 obtain ⟨h1, h2⟩ := tyV_is I1 r1 ty
 refine ⟨T, id, pa, slot, hty, h1, h2, ?_⟩
 have hA := ha cpos pins s1 σ H1 _ I1 q1
 rw [hs] at hA ⊢
 refine Calls.callWith_builtin (by show (false || (backTo cpos (starEach es X.env)).any (·.1)) = false; rw [hplain] <;> rfl) (Calls.evalArgs_plain ?_)
 exact thn hA fun us s2 ⟨vs, H2, I2, r2, q2⟩ => hm pins s2 σ H2 x vs v us Q I2 r1 r2 q2
/- xs.append(e), list.index on a module's tuple .. are MtR facts of 06m -/
end
end L2

namespace L2
open PySem PySem.Spec PyProof.Rows

def MtM (X : Cx) (id : String) (r : V → List V → Hp → VK → Prop) : Prop :=
 ∀ (pins : List (Addr × Obj)) (s : Shared) (σ : St) (H : Hp) (x : V) (xs : List V) (v : Value) (us : List Value) (Q : VK), Inv X pins σ H s → RelV x v → Vals xs us → r x xs H Q →
  wpAny (model X.prog X.w) X.A (call (.builtin id) (v :: us)) (EP X pins σ Q) X.xe s

theorem Vals.one : ∀ {x : V} {us : List Value}, Vals [x] us → ∃ u, us = [u] ∧ RelV x u
 | _, _, .cons r .nil => ⟨_, rfl, r⟩
theorem Vals.zero : ∀ {us : List Value}, Vals [] us → us = []
 | _, .nil => rfl
theorem Vals.rep {xs : List V} {us : List Value} (h : Vals xs us) : ∀ k : Nat, Vals (List.replicate k xs).flatten (List.replicate k us).flatten
 | 0 => .nil
 | k + 1 => by
  rw [List.replicate_succ, List.replicate_succ, List.flatten_cons, List.flatten_cons]
  exact Vals.append h (Vals.rep h k)
theorem foldl_rep (its : List Value) : ∀ (k : Nat) (acc : List Value),
  List.foldl (fun x1 x2 => x1 ++ x2) acc.toArray (List.replicate k its.toArray) = (acc ++ (List.replicate k its).flatten).toArray
 | 0, acc => by simp
 | k + 1, acc => by
  have e : acc.toArray ++ its.toArray = (acc ++ its).toArray := by simp
  have e2 : (acc ++ its) ++ (List.replicate k its).flatten = acc ++ (List.replicate (k + 1) its).flatten := by
   rw [List.replicate_succ, List.flatten_cons, List.append_assoc]
  rw [← e2, ← foldl_rep its k (acc ++ its), ← e, List.replicate_succ, List.foldl_cons]

section
variable {X : Cx} {pins : List (Addr × Obj)} {σ : St} {H : Hp} {s : Shared} {l b : Addr} {xs ys zs : List V}

theorem Inv.lset {its its' : List Value} {n : Nat} {f : Array Value → Array Value} {t' : Nat} (I : Inv X pins σ H s) (hH : H l = some (.lst xs))
  (e : s.heap.get? l = some { cls := .type "list", data := .seq its.toArray n }) (hf : f its.toArray = its'.toArray) (hv : Vals ys its') (hz : ys.length ≤ sizeLine) :
  Inv X pins σ (upd H l (.lst ys)) { s with heap := s.heap.update l (Obj.mapSeq f), toks := t' } := by
 have q := PySem.IsL.update e f
 rw [hf] at q
 refine I.write (x := l) (e := l) (by rw [hH]; exact trivial) (.inl rfl) (fun b' u hb hu => (Heap.get?_update_other s.heap (Obj.mapSeq f) (Ne.symm hb)).trans hu) ⟨_, q⟩ ?_
 exact ⟨hz, its', _, hv, q⟩
theorem Inv.lnew {its : List Value} {t' : Nat} (I : Inv X pins σ H s) (hv : Vals ys its) (hz : ys.length ≤ sizeLine) :
  Inv X pins σ (upd H s.heap.objs.size (.lst ys)) { s with heap := s.heap.push { cls := .type "list", data := .seq its.toArray }, toks := t' } :=
 I.laid (fun _ _ q => Heap.get?_push_of_some _ q) (Nat.le_refl _) ⟨hz, its, 0, hv, Heap.get?_push_size _ rfl⟩
theorem Inv.fresh (I : Inv X pins σ H s) : H s.heap.objs.size = none := I.hok.fresh (Nat.le_refl _)
theorem Inv.lstM (I : Inv X pins σ H s) (hH : H l = some (.lst xs)) : xs.length ≤ sizeLine ∧ ∃ (its : List Value) (n : Nat), Vals xs its ∧ xs.length = its.length ∧ s.heap.get? l = some { cls := .type "list", data := .seq its.toArray n } := by
 obtain ⟨z, its, n, r, e⟩ := I.hok l _ hH
 exact ⟨z, its, n, r, r.length, e⟩

end

section
variable {X : Cx}

def rAppend : V → List V → Hp → VK → Prop := fun x vs H Q => ∃ l xs y, x = .ref l ∧ vs = [y] ∧ H l = some (.lst xs) ∧ xs.length < sizeLine ∧ Q .non (upd H l (.lst (xs ++ [y])))
theorem mt_append : MtM X "list.append" rAppend := by
 intro pins s σ H x vs v us Q I rx rv h
 obtain ⟨l, xs, y, rfl, rfl, hH, hz, q⟩ := h
 cases rx
 obtain ⟨u, rfl, ru⟩ := rv.one
 obtain ⟨z, its, n, r, hl, e⟩ := I.lstM hH
 refine call_meets F.slot_list_append ⟨_, e, rfl⟩ F.entry_list_append (F.args_list_append_2 _ _) (PySem.list_append l its.toArray n u (by rw [List.size_toArray]; omega)) ⟨e, ?_⟩
 refine ⟨.non, _, I.lset (its' := its ++ [u]) hH e (by simp) (r.append (.cons ru .nil)) ?_, rfl, q⟩
 rw [List.length_append, List.length_singleton]
 omega

def rCat : R2 := fun x y H Q => ∃ l b xs zs, x = .ref l ∧ y = .ref b ∧ H l = some (.lst xs) ∧ H b = some (.lst zs) ∧ xs.length + zs.length ≤ sizeLine ∧ ∀ p, H p = none → Q (.ref p) (upd H p (.lst (xs ++ zs)))
theorem op_cat : OpR X (binaryOp .Add) rCat := by
 intro pins s σ H x y v u Q I rx ry h
 obtain ⟨l, b, xs, zs, rfl, rfl, hH, hB, hz, q⟩ := h
 cases rx
 cases ry
 obtain ⟨z, its, n, r, hl, e⟩ := I.lstM hH
 obtain ⟨z2, its2, n2, r2, hl2, e2⟩ := I.lstM hB
 refine PySem.P.add_list e e2 ?_ (by rw [List.size_toArray, List.size_toArray]; omega)
 have ea : its.toArray ++ its2.toArray = (its ++ its2).toArray := by simp
 rw [ea]
 exact ⟨.ref _, _, I.lnew (t' := s.toks) (r.append r2) (by rw [List.length_append]; omega), rfl, q _ I.fresh⟩
theorem len_rep {α : Type} (xs : List α) (k : Nat) : (List.replicate k xs).flatten.length = k * xs.length := by
 induction k with
 | zero => simp
 | succ k ih => rw [List.replicate_succ, List.flatten_cons, List.length_append, ih, Nat.succ_mul, Nat.add_comm]
end

section
variable {prog : Program} {w : World} {A : Around} {E : Value → Shared → Prop} {s : Shared}
end

section
variable {X : Cx}
end
end L2

namespace Att
open PySem PySem.W PySem.Calls PyProof.Rows

theorem ints_of_wellAll {P : Params} {h : Heap} : ∀ (ns : List Int) (vs : List Value), WellAll P h vs (ns.map WData.int) → IntsAre vs ns := by
 intro ns
 induction ns with
 | nil =>
  intro vs w
  rw [List.map_nil] at w
  cases w
  exact .nil
 | cons n ns ih =>
  intro vs w
  rw [List.map_cons] at w
  cases w with
  | cons a b =>
   cases a
   exact .cons _ _ (ih _ b)

theorem script_of {l : OpenLaw} {n : Nat} (hn : l.most = some n) {P : Params} {h : Heap} {args : List WData} {vals : List Value}
  (hpre : l.row.toRowW.claim.pre args = true) (hwl : WellAll P h vals args) :
  ∃ a vs ns, vals = [Value.ref a] ∧ args = [WData.list (ns.map WData.int)] ∧ h.get? a = some { cls := .type "list", data := .seq vs.toArray } ∧ IntsAre vs ns ∧ ns.length ≤ n := by
 have hsh : WShape.hasAll [] args [.list .int] = true := (pre_splitW hpre).1
 have hc : l.pre.holds [] { args := args } = true := (pre_splitW hpre).2
 obtain ⟨d, r, rfl, h1, h2⟩ := hasAllW_cons hsh
 obtain rfl := hasAllW_nil h2
 obtain ⟨xs, rfl, h3⟩ := hasW_list h1
 obtain ⟨ns, rfl⟩ := items_int h3
 have hlen : ns.length ≤ n := by
  unfold OpenLaw.pre at hc
  have h4 : (WTm.not (.lt (.lit (.int (n : Int))) (.len (.arg 0)))).holds [] { args := [.list (ns.map .int)] } = true := by
   have h4 := (holds_andW hc).1
   rw [hn] at h4
   exact h4
  have h5 := condW_of h4 (w_not (w_lt w_lit (w_len_list (w_arg rfl))))
  rw [List.length_map] at h5
  refine Nat.le_of_not_lt fun q => ?_
  have q' : (n : Int) < ((ns.length : Nat) : Int) := by omega
  first
   | (rw [decide_eq_true q'] at h5; exact absurd h5 (by decide))
   | (simp at h5; omega)
 cases hwl with
 | cons w1 w2 =>
  cases w2
  cases w1 with
  | list ho hall => exact ⟨_, _, ns, rfl, rfl, ho, ints_of_wellAll ns _ hall, hlen⟩

theorem post_true (l : OpenLaw) (args : List WData) : l.row.toRowW.claim.post args (.bool true) args = true :=
 postW_of (r := l.row.toRowW) (X := (true == true))
  (show WShape.has [] (.bool true) .bool = true by first | rfl | decide | simp [WShape.has, WShape.arms, WShape.armsAll])
  (show (WTm.eq .res (.lit (.bool true))).value [] { args := args, res := some (.bool true), after := args } = some (.bool (true == true)) from w_eq_bool (w_res rfl) w_lit) rfl

theorem attach_call {l : OpenLaw} {n : Nat} {q : Program} {loose : List Str} {XP : (Str → Option Value) → Heap → Prop} {YP : World → Heap → Prop} {d : DefRec}
  (hn : l.most = some n) (hdf : d.params.defaults = [])
  (call : ∀ (w : World) (s₀ s₁ : Shared) (mg mb : Str → Option Value) (fa : Addr) (o : Obj) (pm cd doc : Value) (a : Addr) (vs : List Value) (ns : List Int),
   Ground q loose [] XP w s₀ mg mb s₁.heap → YP w s₁.heap →
   s₁.heap.get? fa = some o → o.data = .func (docDef d.name d.params d.body d.scope pm cd doc) → s₁.heap.CodeRec cd d.name → mg d.name = some (.ref fa) →
   s₁.heap.get? a = some { cls := .type "list", data := .seq vs.toArray } → IntsAre vs ns → ns.length ≤ n → s₁.gens = #[] →
   codeAny (model l.prog w) callerA (.call (.ref fa) ⟨[.ref a], []⟩) (fun r s' => r = .ok (.ret (.bool true)) ∧ OldK s₁.heap s'.heap ∧ s'.os = s₁.os ∧ AllBare s'.gens) s₁) :
  WalkO q loose XP YP l.row.toRowW d [] (fun f vs => PySem.call f vs) := by
 intro w s₀ s₁ mg mb G Y fa o pm cd doc dV kV ho hd hcd hD hmg hg args vals as hpre hlay hrd hwl hlo
 obtain rfl : dV = .none := Dflts.none hD hdf
 obtain rfl : kV = .none := Dflts.noKw hD
 obtain ⟨a, vs, ns, rfl, rfl, hobj, hints, hlen⟩ := script_of hn hpre hwl
 refine enter_call (codeAny_mono (call w s₀ s₁ mg mb fa o pm cd doc a vs ns G Y ho (fd_plain hd) hcd hmg hobj hints hlen hg) fun r s' hq => ?_)
 obtain ⟨rfl, h2, h3, h4⟩ := hq
 exact ⟨.inl ⟨.bool true, .bool true, [], rfl, fun _ => rfl, .bool true, post_true l _, fun _ => ⟨List.Pairwise.nil, fun _ hm => (nomatch hm)⟩⟩, h2, h3, h4⟩

section
variable {prog : Program} {w : World} {A : Around} {E : Value → Shared → Prop} {s : Shared} {K : Frag}

def ledger (h : Heap) (L d : Addr) : List (Addr × Obj) := (List.range h.objs.size).filterMap fun a => if a = L ∨ a = d then none else (h.get? a).map fun o => (a, o)
end
end Att

namespace L2
open PySem PySem.Spec PyProof.Rows

theorem vals_ints : ∀ {vs : List Value} {ns : List Int}, IntsAre vs ns → Vals (ns.map V.int) vs
 | _, _, .nil => .nil
 | _, _, .cons n t h => .cons ⟨t, rfl⟩ (vals_ints h)

def Only (H : Hp) : Prop := ∀ b, H b = none ∨ ∃ o xs, H b = some (.frz o (.lst xs))

theorem law_call {P : Program} {w : World} {K : PySem.W.Frag} {mg mb : Str → Option Value} {CX : CXT} {k : Nat} {fa a : Addr} {fd : FuncData} {x : Str} {sp : Sp} {s₁ : Shared} {vs : List Value} {ns : List Int}
  (KX : K.In s₁.heap) (hns : s₁.heap.Ns mainGlobals mg) (hb : s₁.heap.Ns builtinsNs mb) (hbb : ∀ x : Str, x ≠ "__name__" → mb x = bootBuiltins x) (hlim : s₁.heap.NoLimit) (hg : s₁.gens = #[])
  (ha : s₁.heap.get? a = some { cls := .type "list", data := .seq vs.toArray }) (hi : IntsAre vs ns) (hl : ns.length ≤ sizeLine) (hr : Room k callerA)
  (F : ∀ base : Heap, K.In base → base.Ns mainGlobals mg → FnOk P w K mg base CX k fa fd [x] sp) (hbind : ∀ (s : Shared) (u : Value), BindsTo s fd ⟨[u], []⟩ [(x, u)])
  (hsp : ∀ H : Hp, Only H → SqL K H a (ns.map V.int) → sp [.ref a] H (fun v _ => v = .bl true) fun _ _ _ => False)
  (hCX : ∀ H e s', CX [] H s₁ (fun _ _ _ => False) e s' → False) :
  codeAny (model P w) callerA (.call (.ref fa) ⟨[.ref a], []⟩) (fun r s' => r = .ok (.ret (.bool true)) ∧ OldK s₁.heap s'.heap ∧ s'.os = s₁.os ∧ AllBare s'.gens) s₁ := by
 have rv := vals_ints hi
 have lenV := hi.length
 -- from an abstract heap in which nothing but the script may be tracked
 have core : ∀ H : Hp, Only H → SqL K H a (ns.map V.int) → HOk P w H s₁.heap → (∀ b, H b ≠ none → b = a) → (H a ≠ none → K.lookup a = none) →
   codeAny (model P w) callerA (.call (.ref fa) ⟨[.ref a], []⟩) (fun r s' => r = .ok (.ret (.bool true)) ∧ OldK s₁.heap s'.heap ∧ s'.os = s₁.os ∧ AllBare s'.gens) s₁ := by
  intro H hO hS hok hA hK
  have base_of : ∀ {b : Addr} {o : Obj}, s₁.heap.get? b = some o → H b = none → (hidT s₁.heap H).get? b = some o := fun e n => hidT_get e n
  have noA : ∀ {b : Addr} {o : Obj} {es : Array DictEntry} {ep : Nat}, s₁.heap.get? b = some o → o.data = .dict es ep → H b = none := fun {b o es ep} e d => by
   cases q : H b with
   | none => rfl
   | some u =>
    have e' : b = a := hA b (by rw [q]; simp)
    subst e'
    rw [ha] at e; cases e
    have d' : Data.seq vs.toArray _ = Data.dict es ep := d
    cases d'
  have nsK : ∀ {b : Addr} {m : Str → Option Value}, s₁.heap.Ns b m → (hidT s₁.heap H).Ns b m := fun {b m} ⟨o, es, ep, e, d, r⟩ => ⟨o, es, ep, base_of e (noA e d), d, r⟩
  have hKb : K.In (hidT s₁.heap H) := fun b o e => base_of (KX b o e) (by
   cases q : H b with
   | none => rfl
   | some u =>
    have e' : b = a := hA b (by rw [q]; simp)
    subst e'
    rw [hK (by rw [q]; simp)] at e; cases e)
  have hM : Mod K mg (hidT s₁.heap H) := ⟨hKb, nsK hns, ⟨mb, nsK hb, hbb⟩, let ⟨mc, h1, h2⟩ := hlim; ⟨mc, nsK h1, h2⟩⟩
  have e0 : Env0 P w K mg (hidT s₁.heap H) callerA [] s₁ H := ⟨rfl, hM, fun b o e => of_hidT e, Nat.le_of_eq (hidT_size _ _), trivial, fun b hb => absurd (show b ∈ ([] : List Addr) from hb) (by simp), hok, .of_eq hg, fun v e => (nomatch e)⟩
  refine codeAny_mono ((F _ hKb (nsK hns)).run callerA [] s₁ H ⟨[.ref a], []⟩ [.ref a] [.ref a] _ _ hr e0 (hbind s₁ (.ref a)) (.cons rfl .nil) (hsp H hO hS)) fun r s' h => ?_
  cases r with
  | error e => exact (hCX H e s' h).elim
  | ok fl =>
   cases fl with
   | next => exact False.elim h
   | brk => exact False.elim h
   | cont => exact False.elim h
   | ret u =>
    obtain ⟨v, H', os, bare, un, hok', r', q⟩ := h
    have q' : v = .bl true := q
    subst q'
    obtain rfl : u = Value.bool true := r'
    refine ⟨rfl, OldK.of_keep fun b o e => ?_, os, bare⟩
    cases q : H b with
    | none => exact un.keep b o e q (by intro z; exact absurd (show b ∈ ([] : List Addr) from z) (by simp)) (by simp)
    | some u =>
     rcases hO b with z | ⟨ob, xs, z⟩
     ·rw [q] at z; cases z
     ·have z2 := un.frzs b ob _ z
      obtain ⟨e1, _⟩ := hok b _ z
      obtain ⟨e2, _⟩ := hok' b _ z2
      rw [e] at e1; cases e1
      exact e2
 cases hk : K.lookup a with
 | some o =>
  -- the script is one of the module's own objects
  have e := KX a o hk
  rw [ha] at e
  cases e
  refine core (fun _ => none) (fun _ => .inl rfl) (.inr ⟨_, vs.toArray, _, hk, rfl, rfl, rfl, by rw [List.size_toArray, lenV]; exact hl, by simpa using rv⟩) (fun b u z => by have z' : (none : Option HO) = some u := z; cases z') (fun b z => absurd rfl z) fun z => absurd rfl z
 | none =>
  refine core (fun b => if b = a then some (.frz { cls := .type "list", data := .seq vs.toArray } (.lst (ns.map V.int))) else none) (fun b => ?_) (.inl (.inr ⟨{ cls := .type "list", data := .seq vs.toArray }, if_pos rfl⟩)) (fun b u z => ?_) (fun b z => ?_) fun _ => hk
  ·by_cases hb : b = a
   ·exact .inr ⟨_, _, if_pos hb⟩
   ·exact .inl (if_neg hb)
  ·by_cases hb : b = a
   ·have z' := (if_pos hb).symm.trans z
    cases z'
    subst hb
    exact ⟨ha, by rw [List.length_map]; exact hl, vs, _, rv, ha⟩
   ·have z' := (if_neg hb).symm.trans z
    cases z'
  ·by_cases hb : b = a
   ·exact hb
   ·exact absurd (if_neg hb) z
end L2

namespace L2
open PySem PySem.Spec PyProof.Rows

theorem walk_of {l : PySem.W.OpenLaw} {n k : Nat} {q : Program} {loose : List Str} {XP : (Str → Option Value) → Heap → Prop} {YP : World → Heap → Prop} {d : DefRec} {K : Params → PySem.W.Frag} {CX : World → CXT} {sp : World → Sp} {x : Str}
  (hn : l.most = some n) (hn2 : n ≤ sizeLine) (hdf : d.params.defaults = []) (hr : Room k callerA)
  (hY : ∀ (w : World) (h : Heap), YP w h → (K w.params).In h)
  (F : ∀ (w : World) (mg : Str → Option Value) (fa : Addr) (h : Heap), (K w.params).In h → h.Ns mainGlobals mg → mg d.name = some (.ref fa) →
   ∃ fd : FuncData, (∀ (s : Shared) (u : Value), BindsTo s fd ⟨[u], []⟩ [(x, u)]) ∧
    ∀ base : Heap, (K w.params).In base → base.Ns mainGlobals mg → FnOk l.prog w (K w.params) mg base (CX w) k fa fd [x] (sp w))
  (hsp : ∀ (w : World) (H : Hp) (a : Addr) (ns : List Int), ns.length ≤ n → Only H → SqL (K w.params) H a (ns.map V.int) → sp w [.ref a] H (fun v _ => v = .bl true) fun _ _ _ => False)
  (hCX : ∀ (w : World) (H : Hp) (s : Shared) (e : Value) (s' : Shared), CX w [] H s (fun _ _ _ => False) e s' → False) :
  PySem.W.WalkO q loose XP YP l.row.toRowW d [] (fun f vs => PySem.call f vs) := by
 refine Att.attach_call hn hdf fun w s₀ s₁ mg mb fa o pm cd doc a vs ns G Y ho hd hcd hmg hobj hints hlen hg => ?_
 have KX := hY w _ Y
 obtain ⟨fd, hb, hF⟩ := F w mg fa _ KX G.T.g hmg
 exact law_call KX G.T.g G.T.b G.T.builtins G.T.nolimit hg hobj hints (Nat.le_trans hlen hn2) hr hF hb (fun H hO hS => hsp w H a ns hlen hO hS) fun H e s' => hCX w H s₁ e s'
end L2

/- THE LAST THEOREM (shape; LID, My.* are yours):
   My.Adr: a structure of the addresses that your layer names (classes, functions); My.Txt K t: a structure (Prop) of the equations over K;
   My.txt_mk : {K} {implicit addresses ..} (e1 : nsIn K mainGlobals "law" = some (some (.ref f))) (e2 : K.lookup f = some ⟨oc, od, .func (fnOf "law" "law" params body scope dV kV doc pm an cdv ct), sl⟩) (e3 : codeIn K cdv "law" = true) .. : ∃ t, My.Txt K t

set_option maxRecDepth 100000 in
set_option maxHeartbeats 0 in
theorem PySem.Challenge.cw_LID_holds : PySem.Challenge.rw_LID.Holds := by
 w_on; o_law; k_head; (case hw => w_witness2)
 k_fill
 refine L2.walk_of (l := PySem.Challenge.rw_LID) (n := 63) (k := 40) (x := "script") (CX := fun w => ..) (sp := fun _ => My.sp_law) rfl (by decide) rfl ⟨rfl, by decide, by decide⟩ (fun w h Y => PySem.W.kIn_of Y) ?F ?S ?C
 case F =>
  intro w mg fa h KX G hmg
  have T : ∃ t, My.Txt (L2.KOf KX) t := by
   dsimp only [L2.KOf]                          -- K must stand as «<heap const> w.params» for k_is
   refine' My.txt_mk ?e1 ?e2 ?e3 ..
   (case e1 => PySem.W.k_is)                    -- in the order: a name -> its address -> its object -> its parts
   (case e2 => PySem.W.k_is)
   ..
  obtain ⟨t, T⟩ := T
  have e0 := hmg.symm.trans (PySem.W.mg_of KX G T.law)
  cases e0                                       -- fa is the law's own address
  exact ⟨_, fun s u => .of_eq rfl, fun base kb nb => My.law_fn T kb nb⟩     -- if «.of_eq rfl» comes too early: refine' ⟨_, ?b, fun base kb nb => My.law_fn T kb nb⟩; exact fun s u => .of_eq rfl
 case S => exact fun w H a ns hl hO hS => ..
 case C => exact ..
(the tactic k_is has no namespace: write k_is) -/

namespace L2
open PySem PySem.Spec PyProof.Rows

def defArgs (s : Stmt) : Arguments := match s with
 | .FunctionDef _ a _ _ _ _ _ _ _ _ => a
 | _ => { posonlyargs := [], args := [], vararg := none, kwonlyargs := [], kw_defaults := [], kwarg := none, defaults := [] }
def defBody (s : Stmt) : List Stmt := match s with
 | .FunctionDef _ _ b _ _ _ _ _ _ _ => b
 | _ => []
def defScope (s : Stmt) : Scope := match s with
 | .FunctionDef _ _ _ _ _ _ sc _ _ _ => sc
 | _ => { kind := .function, names := [], isGenerator := false, isCoroutine := false }

abbrev CX0 : CXT := fun _ _ _ _ _ _ => False
abbrev E0 : XK := fun _ _ _ => False
theorem pass0 {X : Cx} : Passes CX0 X E0 := fun _ _ _ _ _ _ _ h => h.elim

structure Fun (K : PySem.W.Frag) (x qual : Str) (st : Stmt) (f : Addr) (fd : FuncData) : Prop where
 ex : ∃ (oc : Value) (od : Option Addr) (kV doc pm : Value) (an : Option Addr) (cdv ct : Value) (osl : Array (Option Value)),
  fd = PySem.W.fnOf x qual (defArgs st) (defBody st) (defScope st) .none kV doc pm an cdv ct ∧ K.lookup f = some ⟨oc, od, .func fd, osl⟩ ∧ PySem.W.codeIn K cdv qual = true
 kp : PySem.W.keepIn K (.ref f) = true
section
variable {P : Program} {w : World} {K : PySem.W.Frag} {mg : Str → Option Value} {base : Heap}
theorem Fun.ok {x qual : Str} {st : Stmt} {f : Addr} {fd : FuncData} {N ps : List Str} {k : Nat} {sp : Sp} (F : Fun K x qual st f fd) (S : FnScope N ps (defScope st)) (len : ∀ vs H Q E, sp vs H Q E → vs.length = ps.length)
  (hbody : ∀ (cdv : Value) (A : Around) (outer : List Env) (s : Shared) (H : Hp) (vs : List V) (Q : VK) (E : XK), Room k (A.deeper (envOfC qual (defScope st) s.heap.objs.size f cdv)) → sp vs H Q E →
   ∃ t, PSs (cxOf CX0 P w K mg base N qual (defScope st) f cdv A outer s H E).nox (defBody st) t ∧ t { nx := fun _ H' => Q .non H', rt := Q } (start N vs) H) : FnOk P w K mg base CX0 (k + 1) f fd ps sp := by
 obtain ⟨oc, od, kV, doc, pm, an, cdv, ct, osl, rfl, lk, hcd⟩ := F.ex
 refine fn_of lk hcd S len fun A outer s H vs Q E hr hsp => ?_
 obtain ⟨t, h, q⟩ := hbody cdv A outer s H vs Q E hr hsp
 exact ⟨t, h.nox, q⟩
theorem Fun.binds {x qual : Str} {st : Stmt} {f : Addr} {fd : FuncData} {ps : List Str} (F : Fun K x qual st f fd)
  (h : ∀ (kV doc pm : Value) (an : Option Addr) (cdv ct : Value) (us : List Value), us.length = ps.length → bindArgs (PySem.W.fnOf x qual (defArgs st) (defBody st) (defScope st) .none kV doc pm an cdv ct) ⟨us, []⟩ = pure (ps.zip us)) : Binds K fd ps [] := by
 obtain ⟨oc, od, kV, doc, pm, an, cdv, ct, osl, rfl, lk, hcd⟩ := F.ex
 exact .all (h kV doc pm an cdv ct)
theorem fun_mk {x qual : Str} {st : Stmt} {f : Addr} {oc : Value} {od an : Option Addr} {osl : Array (Option Value)} {kV doc pm cdv ct : Value} (l : K.lookup f = some ⟨oc, od, .func (PySem.W.fnOf x qual (defArgs st) (defBody st) (defScope st) .none kV doc pm an cdv ct), osl⟩)
  (c : PySem.W.codeIn K cdv qual = true) (k : PySem.W.keepIn K (.ref f) = true) : Fun K x qual st f (PySem.W.fnOf x qual (defArgs st) (defBody st) (defScope st) .none kV doc pm an cdv ct) := ⟨⟨oc, od, kV, doc, pm, an, cdv, ct, osl, rfl, l, c⟩, k⟩
end
section
variable {X : Cx}
theorem pv (i : Nat) {x : Str} {pos : Pos} (hN : X.N[i]? = some x := by rfl) (hv : Vis X.env.scope x := by first | exact Or.inl rfl | exact Or.inr (Or.inl rfl) | exact Or.inr (Or.inr rfl)) (hd : (x == ("__debug__" : Str)) = false := by decide)
  (hcd : (x == ("__classdict__" : Str)) = false := by decide) : PE X (.Name x pos) (tVar i) := pe_var hN hv hd hcd
end

end L2

namespace L2
open PySem PySem.Spec PyProof.Rows
end L2
namespace L2
open PySem PySem.Spec PyProof.Rows

def clGo (env : Env) : List (Str × NameKind) → List (Str × Addr) → List (Str × Addr)
 | [], cs => cs
 | (n, k) :: r, cs => clGo env r (if (k == NameKind.free) = true then (n, (env.cells.lookup n).getD 0) :: cs else cs)
def clOf (scope : Scope) (env : Env) : List (Str × Addr) := clGo env scope.names []
theorem clGo_mem {env : Env} {p : Str × Addr} : ∀ (l : List (Str × NameKind)) (cs : List (Str × Addr)), p ∈ clGo env l cs → p ∈ cs ∨ ((p.1, NameKind.free) ∈ l ∧ p.2 = (env.cells.lookup p.1).getD 0)
 | [], cs, h => .inl h
 | (n, k) :: r, cs, h => by
  rcases clGo_mem r _ h with h | ⟨h1, h2⟩
  ·by_cases hk : (k == NameKind.free) = true
   ·rw [if_pos hk] at h
    rcases List.mem_cons.mp h with rfl | h
    ·have e : k = NameKind.free := by simpa using hk
     subst e
     exact .inr ⟨List.mem_cons_self, rfl⟩
    ·exact .inl h
   ·rw [if_neg hk] at h
    exact .inl h
  ·exact .inr ⟨List.mem_cons_of_mem _ h1, h2⟩
theorem clGo_has {env : Env} {x : Str} : ∀ (l : List (Str × NameKind)) (cs : List (Str × Addr)), ((x, NameKind.free) ∈ l ∨ ∃ c, (x, c) ∈ cs) → ∃ c, (x, c) ∈ clGo env l cs
 | [], cs, h => by
  rcases h with h | h
  ·exact absurd h (by simp)
  ·exact h
 | (n, k) :: r, cs, h => by
  refine clGo_has r _ ?_
  rcases h with h | ⟨c, h⟩
  ·rcases List.mem_cons.mp h with e | h
   ·injection e with e1 e2
    subst e1; subst e2
    exact .inr ⟨_, by rw [if_pos (by rfl)]; exact List.mem_cons_self⟩
   ·exact .inl h
  ·refine .inr ⟨c, ?_⟩
   by_cases hk : (k == NameKind.free) = true
   ·rw [if_pos hk]; exact List.mem_cons_of_mem _ h
   ·rw [if_neg hk]; exact h
theorem lookup_of_mem {x : Str} {c : Addr} : ∀ {l : List (Str × Addr)}, (x, c) ∈ l → ∃ c', l.lookup x = some c'
 | [], h => absurd h (by simp)
 | (n, d) :: r, h => by
  by_cases e : x = n
  ·subst e
   exact ⟨d, by simp [List.lookup_cons]⟩
  ·rcases List.mem_cons.mp h with q | q
   ·injection q with q1 _
    exact absurd q1 e
   ·obtain ⟨c', h'⟩ := lookup_of_mem q
    refine ⟨c', ?_⟩
    have e' : (x == n) = false := beq_eq_false_iff_ne.mpr e
    rw [List.lookup_cons, e']
    exact h'
theorem clos_of {scope : Scope} {env : Env} (h : ∀ y ∈ scope.names, y.2 = NameKind.free → ∃ c, env.cells.lookup y.1 = some c) : closureFor scope env = pure (clOf scope env) := by
 unfold closureFor clOf
 have key : ∀ (l : List (Str × NameKind)) (cs : List (Str × Addr)), (∀ y ∈ l, y.2 = NameKind.free → ∃ c, env.cells.lookup y.1 = some c) →
   (forIn l cs (fun (x : Str × NameKind) (cs : List (Str × Addr)) => (if (x.2 == NameKind.free) = true then cellOf env x.1 >>= fun c => pure (ForInStep.yield ((x.1, c) :: cs)) else pure (ForInStep.yield cs) : Sem (ForInStep (List (Str × Addr)))))) = pure (clGo env l cs) := by
  intro l
  induction l with
  | nil => intro cs _; rfl
  | cons x r ih =>
   intro cs hl
   obtain ⟨n, k⟩ := x
   rw [List.forIn_cons]
   have hr : ∀ y ∈ r, y.2 = NameKind.free → ∃ c, env.cells.lookup y.1 = some c := fun y hy => hl y (List.mem_cons_of_mem _ hy)
   by_cases hk : (k == NameKind.free) = true
   ·obtain ⟨c, hc⟩ := hl (n, k) List.mem_cons_self (by simpa using hk)
    have hc' : env.cells.lookup n = some c := hc
    have e1 : cellOf env n = pure c := by unfold cellOf; rw [hc']
    simp only [hk, if_true, e1, pure_bind]
    rw [ih _ hr]
    simp only [clGo, hk, if_true, hc', Option.getD_some]
   ·simp only [hk, if_false, pure_bind, Bool.false_eq_true]
    rw [ih _ hr]
    simp only [clGo, hk, if_false, Bool.false_eq_true]
 have q := key scope.names [] h
 simpa using q

theorem cf_mem {y : Str} {c : Addr} : ∀ {names : List (Str × NameKind)} {n : Nat} {acc : List (Str × Addr)}, (y, c) ∈ cellsFrom n names acc ↔ (y, c) ∈ acc ∨ (y, c) ∈ cellsFrom n names []
 | [], n, acc => by simp [cellsFrom]
 | (name, kind) :: r, n, acc => by
  unfold cellsFrom
  split
  ·rw [cf_mem (acc := (name, n) :: acc), cf_mem (acc := [(name, n)])]
   simp only [List.mem_cons, List.not_mem_nil, or_false]
   exact ⟨fun h => h.elim (fun h => h.elim (fun h => .inr (.inl h)) .inl) fun h => .inr (.inr h), fun h => h.elim (fun h => .inl (.inr h)) fun h => h.elim (fun h => .inl (.inl h)) .inr⟩
  ·exact cf_mem
theorem cf_name {y : Str} {c : Addr} : ∀ {names : List (Str × NameKind)} {n : Nat}, (y, c) ∈ cellsFrom n names [] → (y, NameKind.cell) ∈ names
 | [], n, h => by simp [cellsFrom] at h
 | (name, kind) :: r, n, h => by
  unfold cellsFrom at h
  split at h
  ·rename_i hk
   rcases cf_mem.mp h with q | q
   ·have hk' : kind = .cell := by simpa using hk
    simp only [List.mem_cons, List.not_mem_nil, or_false, Prod.mk.injEq] at q
    rw [q.1, hk']
    exact List.mem_cons_self
   ·exact List.mem_cons_of_mem _ (cf_name q)
  ·exact List.mem_cons_of_mem _ (cf_name h)
theorem cf_has {y : Str} : ∀ {names : List (Str × NameKind)} {n : Nat}, (y, NameKind.cell) ∈ names → ∃ c, (y, c) ∈ cellsFrom n names []
 | [], n, h => by simp at h
 | (name, kind) :: r, n, h => by
  unfold cellsFrom
  rcases List.mem_cons.mp h with q | q
  ·cases q
   rw [if_pos (by rfl)]
   exact ⟨n, cf_mem.mpr (.inl List.mem_cons_self)⟩
  ·split
   ·obtain ⟨c, hc⟩ := cf_has (n := n + 1) q
    exact ⟨c, cf_mem.mpr (.inr hc)⟩
   ·exact cf_has q
theorem cf_new {h : Heap} {names : List (Str × NameKind)} {y : Str} {c : Addr} (e : (y, c) ∈ cellsFrom h.objs.size names []) : (pushCells h names).IsCell c none ∧ h.objs.size ≤ c :=
 (cellsFrom_ok names h h.objs.size [] ⟨fun _ _ z => by simp at z, List.Pairwise.nil⟩ (Nat.le_refl _)).empty y c e
theorem cf_apart {n : Nat} {names : List (Str × NameKind)} {y z : Str} {c : Addr} (e : (y, c) ∈ cellsFrom n names []) (e' : (z, c) ∈ cellsFrom n names []) : y = z := by
 have key : ∀ (k : Nat), ∃ h : Heap, h.objs.size = k := fun k => by
  induction k with
  | zero => exact ⟨{ (default : Heap) with objs := #[] }, rfl⟩
  | succ k ih =>
   obtain ⟨h, e⟩ := ih
   exact ⟨h.push { cls := .type "cell", data := .cell none }, by rw [Heap.size_push, e]⟩
 obtain ⟨h, rfl⟩ := key n
 exact name_of_addr (cellsFrom_ok names h h.objs.size [] ⟨fun _ _ z => by simp at z, List.Pairwise.nil⟩ (Nat.le_refl _)).apart e e'
theorem nfe_cells {M : Model} {A : Around} {E : Value → Shared → Prop} {s : Shared} {scope : Scope} {globals : Addr} {closure : List (Str × Addr)} {qual : Str} {func : Option Addr} {code : Value} {ar : Env} {builtins : Addr} {Q : Env → Shared → Prop}
  (hQ : Q { scope := scope, locals := s.heap.objs.size, globals := globals, cells := cellsFrom (s.heap.objs.size + 1) scope.names closure, qual := qual, func := func, code := ar.code, frame := ar.frame, builtins := ar.builtins } { s with heap := pushCells (s.heap.push { cls := .type "dict", data := .dict #[] }) scope.names }) :
  wpAny M A (newFunctionEnv scope globals closure [] qual func code (some ar) builtins) Q E s := by
 simp only [newFunctionEnv, Option.isSome_some, if_true]
 refine wpAny_bind (wpAny_alloc ?_)
 refine wpAny_bind (wpAny_layCells _ (fun name kind cells => by cases hkc : kind == NameKind.cell <;> simp [hkc]) _ _ _ _ ?_)
 rw [show ({ s with heap := s.heap.push { cls := .type "dict", data := .dict #[] } } : Shared).heap.objs.size = s.heap.objs.size + 1 from Heap.size_push ..]
 rw [List.forIn_nil]
 exact wpAny_bind (wpAny_pure (wpAny_pure hQ))
def blk (X : Cx) (scope : Scope) (N' : List Str) (C : Addr) (s : Shared) (H : Hp) (ex : List Addr) : Cx where
 prog := X.prog
 w := X.w
 K := X.K
 mg := X.mg
 base := X.base
 A := X.A
 N := N'
 s₀ := s
 H₀ := H
 env := compEnvC scope (cellsFrom (C + 1) scope.names (clOf scope X.env)) C X.env
 outer := X.stack
 stack := X.stack
 ex := ex
 fn := fun y => decide (scope.names.lookup y = some .cell)
 calm := X.calm
 pn := []
 xe := fun _ _ => False
structure BlkOk (X : Cx) (scope : Scope) (x : List Str) (ix : List Nat) : Prop where
 kind : scope.kind = .function
 own : ∀ y ∈ x, scope.names.lookup y = some .local ∨ scope.names.lookup y = some .cell
 names : ∀ y ∈ scope.names, scope.names.lookup y.1 = some y.2
 free : ∀ y ∈ scope.names, y.2 = .free → X.env.scope.names.lookup y.1 = some .cell ∨ X.env.scope.names.lookup y.1 = some .free
 ixs : ∀ i ∈ ix, scope.names.lookup (X.N.getD i "") = some .free
 nd : (x ++ ix.map fun i => X.N.getD i "").Nodup
def nodupB : List Str → Bool
 | [] => true
 | x :: r => !(r.contains x) && nodupB r
def blkB (sc : Scope) (N : List Str) (scope : Scope) (x : List Str) (ix : List Nat) : Bool :=
 decide (scope.kind = .function) && x.all (fun y => decide (scope.names.lookup y = some .local) || decide (scope.names.lookup y = some .cell)) &&
 scope.names.all (fun y => decide (scope.names.lookup y.1 = some y.2)) &&
 scope.names.all (fun y => !decide (y.2 = .free) || decide (sc.names.lookup y.1 = some .cell) || decide (sc.names.lookup y.1 = some .free)) &&
 ix.all (fun i => decide (scope.names.lookup (N.getD i "") = some .free)) && nodupB (x ++ ix.map fun i => N.getD i "")
theorem nodupB_ok : ∀ {l : List Str}, nodupB l = true → l.Nodup
 | [], _ => List.nodup_nil
 | x :: r, h => by
  unfold nodupB at h
  rw [Bool.and_eq_true] at h
  refine List.nodup_cons.mpr ⟨fun hm => ?_, nodupB_ok h.2⟩
  have : r.contains x = true := List.contains_iff_mem.mpr hm
  rw [this] at h
  exact absurd h.1 (by decide)
theorem blk_of {X : Cx} {scope : Scope} {x : List Str} {ix : List Nat} (h : blkB X.env.scope X.N scope x ix = true) : BlkOk X scope x ix := by
 unfold blkB at h
 simp only [Bool.and_eq_true, List.all_eq_true, decide_eq_true_eq, Bool.or_eq_true, Bool.not_eq_true', decide_eq_false_iff_not] at h
 obtain ⟨⟨⟨⟨⟨h1, h3⟩, h4⟩, h5⟩, h6⟩, h7⟩ := h
 refine ⟨h1, fun y hy => h3 y hy, fun y hy => h4 y hy, fun y hy hk => ?_, fun i hi => h6 i hi, nodupB_ok h7⟩
 ·rcases h5 y hy with (q | q) | q
  ·exact absurd hk q
  ·exact .inl q
  ·exact .inr q
def blkσ (ix : List Nat) (σ : St) : St := ix.map fun i => (σ[i]?).getD none
abbrev blkN (X : Cx) (x : List Str) (ix : List Nat) : List Str := x ++ ix.map fun i => X.N.getD i ""

theorem relabel_lookup {scope : Scope} {env : Env} {x : Str} : ∀ {names : List (Str × NameKind)} {k : NameKind},
  (names.map fun (p : Str × NameKind) => if (p.2 == NameKind.free && env.scope.kind == .function && env.kindOf p.1 == some .cell) = true then (p.1, NameKind.cell) else (p.1, p.2)).lookup x = some k →
  names.lookup x = some k ∨ (k = .cell ∧ names.lookup x = some .free)
 | [], k, h => by simp at h
 | (n, k') :: r, k, h => by
  rw [List.map_cons] at h
  cases hx : x == n with
  | true =>
   by_cases hc : (k' == NameKind.free && env.scope.kind == .function && env.kindOf n == some .cell) = true
   ·rw [if_pos hc] at h
    simp only [List.lookup_cons, hx] at h
    have hk : k' = .free := by
     have := (Bool.and_eq_true_iff.mp (Bool.and_eq_true_iff.mp hc).1).1
     simpa using this
    subst hk
    cases h
    exact .inr ⟨rfl, by simp [List.lookup_cons, hx]⟩
   ·rw [if_neg hc] at h
    simp only [List.lookup_cons, hx] at h
    cases h
    exact .inl (by simp [List.lookup_cons, hx])
  | false =>
   have h' : (r.map fun (p : Str × NameKind) => if (p.2 == NameKind.free && env.scope.kind == .function && env.kindOf p.1 == some .cell) = true then (p.1, NameKind.cell) else (p.1, p.2)).lookup x = some k := by
    by_cases hc : (k' == NameKind.free && env.scope.kind == .function && env.kindOf n == some .cell) = true
    ·rw [if_pos hc] at h; simpa only [List.lookup_cons, hx] using h
    ·rw [if_neg hc] at h; simpa only [List.lookup_cons, hx] using h
   rcases relabel_lookup (scope := scope) (env := env) h' with q | ⟨q1, q2⟩
   ·exact .inl (by simpa only [List.lookup_cons, hx] using q)
   ·exact .inr ⟨q1, by simpa only [List.lookup_cons, hx] using q2⟩
theorem relabel_free {env : Env} {x : Str} : ∀ {names : List (Str × NameKind)}, names.lookup x = some .free →
  (names.map fun (p : Str × NameKind) => if (p.2 == NameKind.free && env.scope.kind == .function && env.kindOf p.1 == some .cell) = true then (p.1, NameKind.cell) else (p.1, p.2)).lookup x = some .cell ∨
  (names.map fun (p : Str × NameKind) => if (p.2 == NameKind.free && env.scope.kind == .function && env.kindOf p.1 == some .cell) = true then (p.1, NameKind.cell) else (p.1, p.2)).lookup x = some .free
 | [], h => by simp at h
 | (n, k') :: r, h => by
  rw [List.map_cons]
  cases hx : x == n with
  | true =>
   simp only [List.lookup_cons, hx] at h
   cases h
   by_cases hc : (NameKind.free == NameKind.free && env.scope.kind == .function && env.kindOf n == some .cell) = true
   ·rw [if_pos hc]; exact .inl (by simp [List.lookup_cons, hx])
   ·rw [if_neg hc]; exact .inr (by simp [List.lookup_cons, hx])
  | false =>
   have h' : r.lookup x = some .free := by simpa only [List.lookup_cons, hx] using h
   have ih := relabel_free (env := env) h'
   by_cases hc : (k' == NameKind.free && env.scope.kind == .function && env.kindOf n == some .cell) = true
   ·rw [if_pos hc]; simpa only [List.lookup_cons, hx] using ih
   ·rw [if_neg hc]; simpa only [List.lookup_cons, hx] using ih

theorem relabel_cell {env : Env} {x : Str} : ∀ {names : List (Str × NameKind)}, names.lookup x = some .cell →
  (names.map fun (p : Str × NameKind) => if (p.2 == NameKind.free && env.scope.kind == .function && env.kindOf p.1 == some .cell) = true then (p.1, NameKind.cell) else (p.1, p.2)).lookup x = some .cell
 | [], h => by simp at h
 | (n, k') :: r, h => by
  rw [List.map_cons]
  cases hx : x == n with
  | true =>
   simp only [List.lookup_cons, hx] at h
   cases h
   rw [if_neg (by simp)]
   simp [List.lookup_cons, hx]
  | false =>
   have ih := relabel_cell (env := env) (show r.lookup x = some .cell by simpa only [List.lookup_cons, hx] using h)
   split
   ·simpa only [List.lookup_cons, hx] using ih
   ·simpa only [List.lookup_cons, hx] using ih
section
variable {X : Cx} {pins : List (Addr × Obj)} {σ : St} {H : Hp} {s : Shared} {scope : Scope} {x : List Str} {ix : List Nat} {C : Addr} {fp : List Addr}
theorem own_ok (B : BlkOk X scope x ix) {y : Str} (hy : y ∈ x) : Loc (relabel scope X.env) y ∧ (decide (scope.names.lookup y = some .cell) = true ∨ (relabel scope X.env).names.lookup y = some .local) := by
 rcases B.own y hy with q | q
 ·have := lookup_relabel_local (env := X.env) q
  exact ⟨.inl this, .inr this⟩
 ·exact ⟨.inr (relabel_cell (env := X.env) q), .inl (decide_eq_true q)⟩
theorem cells_of (I : Inv X pins σ H s) (B : BlkOk X scope x ix) : ∀ y ∈ scope.names, y.2 = NameKind.free → ∃ c, X.env.cells.lookup y.1 = some c := fun y hy hk => I.ok.has y.1 (B.free y hy hk)
theorem cl_old (I : Inv X pins σ H s) (B : BlkOk X scope x ix) {y : Str} {c : Addr} (h : (y, c) ∈ clOf scope X.env) : X.env.cells.lookup y = some c := by
 rcases clGo_mem scope.names [] h with q | ⟨q1, q2⟩
 ·exact absurd q (by simp)
 ·obtain ⟨c', e⟩ := cells_of I B _ q1 rfl
  have e' : X.env.cells.lookup y = some c' := e
  have q2' : c = (X.env.cells.lookup y).getD 0 := q2
  rw [e', Option.getD_some] at q2'
  rw [e', q2']
theorem cl_sub (I : Inv X pins σ H s) (B : BlkOk X scope x ix) {y : Str} {c : Addr} (h : (cellsFrom (C + 1) scope.names (clOf scope X.env)).lookup y = some c) : X.env.cells.lookup y = some c ∨ (y, c) ∈ cellsFrom (C + 1) scope.names [] :=
 (cf_mem.mp (PySem.mem_of_lookup h)).imp_left (cl_old I B)
theorem cf_ge {n : Nat} {names : List (Str × NameKind)} {y : Str} {c : Addr} (e : (y, c) ∈ cellsFrom n names []) : n ≤ c := by
 have key : ∀ (names : List (Str × NameKind)) (n : Nat), (y, c) ∈ cellsFrom n names [] → n ≤ c := by
  intro names
  induction names with
  | nil => intro n h; simp [cellsFrom] at h
  | cons a r ih =>
   intro n h
   obtain ⟨name, kind⟩ := a
   unfold cellsFrom at h
   split at h
   ·rcases cf_mem.mp h with q | q
    ·simp only [List.mem_cons, List.not_mem_nil, or_false, Prod.mk.injEq] at q
     exact Nat.le_of_eq q.2.symm
    ·exact Nat.le_trans (Nat.le_succ n) (ih (n + 1) q)
   ·exact ih n h
 exact key names n e
theorem cl_free (B : BlkOk X scope x ix) {y : Str} {c : Addr} (hf : scope.names.lookup y = some .free) (h : (y, c) ∈ cellsFrom (C + 1) scope.names []) : False := by
 have := B.names _ (cf_name h)
 simp only at this
 rw [hf] at this
 cases this
theorem cl_has {y : Str} (h : scope.names.lookup y = some .free ∨ scope.names.lookup y = some .cell) : ∃ c, (cellsFrom (C + 1) scope.names (clOf scope X.env)).lookup y = some c := by
 rcases h with h | h
 ·obtain ⟨c, hc⟩ := clGo_has (env := X.env) scope.names [] (.inl (PySem.mem_of_lookup h))
  exact lookup_of_mem (cf_mem.mpr (.inl hc))
 ·obtain ⟨c, hc⟩ := cf_has (n := C + 1) (PySem.mem_of_lookup h)
  exact lookup_of_mem (cf_mem.mpr (.inr hc))
theorem blk_ok (I : Inv X pins σ H s) (B : BlkOk X scope x ix) (hC : s.heap.objs.size ≤ C) (hf : ∀ b ∈ fp, FpOk X pins H b) (ho : ∀ b ∈ fp, ∃ o, s.heap.get? b = some o) :
  (blk X scope (blkN X x ix) C s H fp).Ok where
 mod := I.ok.mod
 kind := B.kind
 glob := I.ok.glob
 blt := I.ok.blt
 above := hC
 inj := fun y z c h1 h2 => by
  have far : ∀ {y z : Str}, X.env.cells.lookup y = some c → (z, c) ∈ cellsFrom (C + 1) scope.names [] → False := fun {y z} e q => by
   obtain ⟨v, w⟩ := I.cell y c e
   exact absurd (Nat.lt_of_lt_of_le w.lt (Nat.le_trans (Nat.le_trans hC (Nat.le_succ C)) (cf_ge q))) (Nat.lt_irrefl _)
  rcases cl_sub I B h1 with q1 | q1
  ·rcases cl_sub I B h2 with q2 | q2
   ·exact I.ok.inj y z c q1 q2
   ·exact (far q1 q2).elim
  ·rcases cl_sub I B h2 with q2 | q2
   ·exact (far q2 q1).elim
   ·exact cf_apart q1 q2
 has := fun y hy => by
  have hy' : (relabel scope X.env).names.lookup y = some .cell ∨ (relabel scope X.env).names.lookup y = some .free := hy
  rcases hy' with q | q
  ·rcases relabel_lookup (scope := scope) (env := X.env) q with r | ⟨_, r⟩
   ·exact cl_has (.inr r)
   ·exact cl_has (.inl r)
  ·rcases relabel_lookup (scope := scope) (env := X.env) q with r | ⟨r, _⟩
   ·exact cl_has (.inl r)
   ·cases r
 cab := fun y c hf h => by
  have hf' : scope.names.lookup y = some .cell := of_decide_eq_true hf
  rcases cf_mem.mp (PySem.mem_of_lookup h) with q | q
  ·rcases clGo_mem scope.names [] q with q | ⟨q1, _⟩
   ·exact absurd q (by simp)
   ·have := B.names _ q1
    simp only at this
    rw [hf'] at this
    cases this
  ·exact Nat.le_trans (Nat.le_trans hC (Nat.le_succ C)) (cf_ge q)
 hd := I.ok.hd
 qt := I.qt0
 frames := I.ok.frames
 stk := .inl rfl
 exf := fun b hb => by
  obtain ⟨o, e⟩ := ho b hb
  refine ⟨Nat.ne_of_lt (Nat.lt_of_lt_of_le (Heap.lt_size e) hC), fun y c h => ?_⟩
  rcases cl_sub I B h with q | q
  ·exact (hf b hb).2.2.2.2.1 y c q
  ·intro z
   rw [z] at q
   exact absurd (Nat.lt_of_lt_of_le (Heap.lt_size e) (Nat.le_trans (Nat.le_trans hC (Nat.le_succ C)) (cf_ge q))) (Nat.lt_irrefl _)
 bs := I.bs
 bsz := Nat.le_trans I.ok.bsz I.sz
 noex := fun b o e hb => by
  rcases (hf b hb).2.2.2.1 with q | q
  ·exact I.ok.noex b o e q
  ·exact absurd (Nat.lt_of_lt_of_le (Heap.lt_size e) (Nat.le_trans I.ok.bsz q)) (Nat.lt_irrefl _)
 exfs := fun b hb z => by
  obtain ⟨_, h1, h2, _⟩ := hf b hb
  rcases List.mem_cons.mp (I.stkSub b z) with e | e
  ·exact h1 e
  ·exact h2 e
 funs := I.stack
 frf := I.stkFree

theorem blk_inv {D : Addr} {h1 : Heap} {tk : Nat} {m : Str → Option Value} (I : Inv X pins σ H s) (B : BlkOk X scope x ix) (ok : (blk X scope (blkN X x ix) C s H fp).Ok)
  (hD : D = s.heap.objs.size) (k : ∀ b o, s.heap.get? b = some o → h1.get? b = some o) (hl : h1.get? D = some { cls := .type "list", data := .seq #[] }) (hns : h1.Ns C m) (hCD : C ≠ D) (hC : s.heap.objs.size ≤ C) (hce : ∀ y c, (y, c) ∈ cellsFrom (C + 1) scope.names [] → h1.IsCell c none) :
  Inv (blk X scope (blkN X x ix) C s H fp) [] (List.replicate x.length none ++ blkσ ix σ) (upd H D (.lst [])) { s with heap := h1, toks := tk } where
 ok := ok
 os := rfl
 bare := I.bare
 base := Un.laid k (by rw [hD]; exact Nat.le_refl _) (I.hok.fresh (by rw [hD]; exact Nat.le_refl _))
 loc := by
  refine ⟨m, hns, fun i y v e1 e2 e3 => ?_⟩
  by_cases hix : i < x.length
  ·rw [List.getElem?_append_left (by simpa using hix), List.getElem?_replicate, if_pos hix] at e2
   cases e2
  ·rw [List.getElem?_append_right (by simpa using hix), List.length_replicate] at e2
   have e1' : (ix.map fun i => X.N.getD i "")[i - x.length]? = some y := by
    have z : (x ++ ix.map fun i => X.N.getD i "")[i]? = some y := e1
    rwa [List.getElem?_append_right (by simpa using hix)] at z
   generalize i - x.length = j at e1' e2
   unfold blkσ at e2
   rw [List.getElem?_map] at e1' e2
   cases hj : ix[j]? with
   | none => rw [hj] at e2; cases e2
   | some i' =>
    rw [hj] at e1' e2
    simp only [Option.map_some, Option.some.injEq] at e1' e2
    have hi : σ[i']? = some (some v) := by
     cases q : σ[i']? with
     | none => rw [q] at e2; cases e2
     | some z => rw [q] at e2; exact congrArg some e2
    have hlt : i' < X.N.length := by
     have := (List.getElem?_eq_some_iff.mp hi).1
     rw [I.len] at this
     exact this
    have hn : X.N[i']? = some y := by
     rw [List.getD_eq_getElem?_getD, List.getElem?_eq_getElem hlt, Option.getD_some] at e1'
     rw [List.getElem?_eq_getElem hlt, e1']
    have hfree : scope.names.lookup y = some .free := by
     have := B.ixs i' (List.mem_of_getElem? hj)
     rw [e1'] at this
     exact this
    have kx := B.free _ (PySem.mem_of_lookup hfree) rfl
    have vis : Vis X.env.scope y := by
     rcases kx with q | q
     ·exact .inr (.inl q)
     ·exact .inr (.inr q)
    obtain ⟨m', _, hl'⟩ := I.loc
    obtain ⟨u, r, lk⟩ := hl' i' y v hn hi vis
    refine ⟨u, r, ?_⟩
    rcases lk with ⟨q, _⟩ | ⟨_, c, hc, hcell⟩
    ·have q' : X.env.scope.names.lookup y = some .local := q
     rcases kx with z | z <;> (rw [q'] at z; cases z)
    ·obtain ⟨c', hc'⟩ := cl_has (X := X) (C := C) (.inl hfree)
     have e := (cl_sub I B hc').resolve_right fun z => cl_free B hfree z
     rw [hc] at e
     cases e
     refine .inr ⟨relabel_free (env := X.env) hfree, c, hc', ?_⟩
     obtain ⟨o, ho, hd⟩ := hcell
     exact ⟨o, k c o ho, hd⟩
 cell := fun y c h => by
  rcases cl_sub I B h with q | q
  ·obtain ⟨v, o, ho, hd⟩ := I.cell y c q
   exact ⟨v, o, k c o ho, hd⟩
  ·exact ⟨none, hce y c q⟩
 free := by
  show upd H D (.lst []) C = none
  rw [upd_ne hCD]
  exact I.hok.fresh hC
 freeC := fun y c h => by
  show upd H D (.lst []) c = none
  rcases cl_sub I B h with q | q
  ·obtain ⟨v, o, ho, hd⟩ := I.cell y c q
   rw [upd_ne (by rw [hD]; exact Nat.ne_of_lt (Heap.lt_size ho))]
   exact I.freeC y c q
  ·have g : s.heap.objs.size < c := Nat.lt_of_lt_of_le (Nat.lt_succ_of_le hC) (cf_ge q)
   rw [upd_ne (by rw [hD]; exact Nat.ne_of_gt g)]
   exact I.hok.fresh (Nat.le_of_lt g)
 pin := fun p hp => absurd (show p ∈ ([] : List (Addr × Obj)) from hp) (by simp)
 hok := I.hok.laid k (by rw [hD]; exact Nat.le_refl _) ⟨Nat.zero_le _, [], 0, .nil, hl⟩
 len := by
  show (List.replicate x.length none ++ blkσ ix σ).length = (blkN X x ix).length
  simp [blkσ]
theorem blk_out {σ' : St} {H' : Hp} {s' : Shared} {h' : Heap} {p' : List (Addr × Obj)} (I : Inv X pins σ H s) (hC : s.heap.objs.size ≤ C) (hf : ∀ b ∈ fp, FpOk X pins H b) (J : Inv (blk X scope (blkN X x ix) C s H fp) p' σ' H' s')
  (hs : Heap.SameBut C s'.heap h') : Inv X pins σ H' { s' with heap := h' } := by
 have I1 : Inv X pins σ H' s' := I.call' (ch := fp) J.os J.base J.hok J.bare fun b hb => ⟨(hf b hb).2.2.2.1, (hf b hb).2.1, (hf b hb).2.2.2.2.1, (hf b hb).2.2.2.2.2⟩
 refine I1.turned (it := C) (t' := s'.toks) (fun b o hb e => (hs.2 b hb).trans e) J.free (Nat.ne_of_gt (Nat.lt_of_lt_of_le I.lt hC)) (.inr (Nat.le_trans I.sz hC)) (fun y c e z => ?_) (fun p hp z => ?_)
 ·obtain ⟨v, q⟩ := I.cell y c e
  exact absurd (Nat.lt_of_lt_of_le q.lt (by rw [z]; exact hC)) (Nat.lt_irrefl _)
 ·exact absurd (Nat.lt_of_lt_of_le (Heap.lt_size (I.pin p hp).1) (by rw [z]; exact hC)) (Nat.lt_irrefl _)
end

def PIfs (X : Cx) (ifs : List Expr) (t : TT) : Prop :=
 ∀ (pins : List (Addr × Obj)) (s : Shared) (σ : St) (H : Hp) (Q : Bool → Hp → Prop), Inv X pins σ H s → t σ H Q →
  wpAny (model X.prog X.w) X.A (forIn ifs true fun c r => if r = true then do let ok ← isTrue c X.env (eval c X.env); pure (ForInStep.yield ok) else pure (ForInStep.yield r)) (TP X pins σ Q) X.xe s
def tYes : TT := fun _ H Q => Q true H
theorem pif_nil {X : Cx} : PIfs X [] tYes := fun _ _ _ H _ I h => wpAny_pure ⟨H, I, h⟩
theorem pif_one {X : Cx} {c : Expr} {t : TT} (h : PT X c t) : PIfs X [c] t := fun pins s σ H Q I hq => by
 rw [List.forIn_cons]
 refine wpAny_bind ?_
 rw [if_pos rfl]
 refine wpAny_bind (thn (h pins s σ H Q I hq) fun b s1 q => wpAny_pure ?_)
 exact wpAny_pure q

def wLCat (n : Nat) (own : V → Hp → List V → Prop) (ix : List Nat) (tt : TT) (te : TE) (σ : St) (Q : VK) (J : It) (H1 : Hp) (D : Addr) : Prop := ∃ W : Nat → Nat → List V → Hp → Prop, (∃ m, W 0 m [] (upd H1 D (.lst []))) ∧ ∀ i m ys H, W i m ys H → H D = some (.lst ys) →
 (J.stop i H ∧ Q (.ref D) H) ∨ (J.go i H ∧ ys.length < sizeLine ∧ ∀ x H', J.yld i H x H' → ∃ vs, own x H' vs ∧ vs.length = n ∧ tt (vs.map some ++ blkσ ix σ) H' fun b H2 =>
  if b = true then te (vs.map some ++ blkσ ix σ) H2 (fun v H3 => H3 D = some (.lst ys) ∧ ∃ m', m' < m ∧ W (i + 1) m' (ys ++ [v]) (upd H3 D (.lst (ys ++ [v]))))
  else H2 D = some (.lst ys) ∧ ∃ m', m' < m ∧ W (i + 1) m' ys H2)
def wLC (n : Nat) (own : V → Hp → List V → Prop) (ix : List Nat) (tt : TT) (te : TE) (σ : St) (Q : VK) (J : It) (H1 : Hp) : Prop := ∀ D, H1 D = none → wLCat n own ix tt te σ Q J H1 D
def tLC (n : Nat) (own : V → Hp → List V → Prop) (ix : List Nat) (wi : TI) (tt : TT) (te : TE) : TE := fun σ H Q => wi σ H fun J H1 => wLC n own ix tt te σ Q J H1
def gOwn (n : Nat) (own : V → Hp → List V → Prop) : TG := fun v σ H N => ∃ vs, own v H vs ∧ vs.length = n ∧ N (vs.map some ++ σ.drop n) H

theorem comp_loop {P : Program} {w : World} {A : Around} {R : Result → Shared → Prop} {s : Shared} {elt target iter : Expr} {ifs : List Expr} {scope : Scope} {pos : Pos} {it acc : Value} {env : Env} (Iv : Nat → Shared → Prop)
  (turn : ∀ n s, Iv n s → wpAny (model P w) A (pyNext it) (fun r s₁ => match r with
   | none => R (.ok .next) s₁
   | some v => wpAny (model P w) A (letOwnedTupleGo target it v) (fun _ t₁ => wpAny (model P w) A (assign target env v) (fun _ s₂ =>
     wpAny (model P w) A (forIn ifs true fun c r => if r = true then do let ok ← isTrue c env (eval c env); pure (ForInStep.yield ok) else pure (ForInStep.yield r)) (fun ok s₃ =>
      if ok = true then wpAny (model P w) A (eval elt env) (fun x s₄ =>
       wpAny (model P w) A (call (.builtin "list.append") [acc, x]) (fun _ s₅ => ∃ m, m < n ∧ Iv m s₅) (notedBy (model P w) A env fun e s' => R (.error e) s') s₄) (notedBy (model P w) A env fun e s' => R (.error e) s') s₃
      else ∃ m, m < n ∧ Iv m s₃) (notedBy (model P w) A env fun e s' => R (.error e) s') s₂) (notedBy (model P w) A env fun e s' => R (.error e) s') t₁) (notedBy (model P w) A env fun e s' => R (.error e) s') s₁) (notedBy (model P w) A env fun e s' => R (.error e) s') s)
  (n : Nat) (h : Iv n s) : codeAny (model P w) A (.compLoop (.ListComp elt [⟨target, iter, ifs, 0⟩] scope pos) 0 it acc env) R s := by
 refine codeAny_loop rfl Iv (fun n s hI => ?_) n h
 show wpAny _ A ((compTurn (.ListComp elt [⟨target, iter, ifs, 0⟩] scope pos) 0 it acc env).onRaise (fun x => do noteFrame x env; theTreesLotGoes x)) _ _ s
 refine wpAny_noted ?_
 rw [compTurn_list]
 refine wpAny_bind (wpAny_standAt (wpAny_bind (wpAny_mono (turn n s hI) (fun r s₁ k₁ => ?_) fun _ _ z => z)))
 cases r with
 | none => exact wpAny_pure k₁
 | some v =>
  refine wpAny_bind (wpAny_mono k₁ (fun _ t₁ k₂ => wpAny_bind (wpAny_mono k₂ (fun _ s₂ k₃ => wpAny_bind (wpAny_mono k₃ (fun ok s₃ k₄ => ?_) fun _ _ z => z)) fun _ _ z => z)) fun _ _ z => z)
  cases ok with
  | false => exact wpAny_pure ⟨rfl, k₄⟩
  | true => exact wpAny_bind (wpAny_bind (wpAny_mono k₄ (fun x s₄ k₅ => wpAny_bind (wpAny_mono k₅ (fun _ s₅ k₆ => wpAny_pure (wpAny_pure ⟨rfl, k₆⟩)) fun _ _ z => z)) fun _ _ z => z))
section
variable {X : Cx} {scope : Scope} {x : List Str} {ix : List Nat} {elt iter tg : Expr} {ifs : List Expr} {px pos : Pos} {wi : TI} {tt : TT} {te : TE} {own : V → Hp → List V → Prop}
theorem lc_core {pins : List (Addr × Obj)} {σ : St} {s₂ : Shared} {H2 : Hp} {it : Addr} {fp : List Addr} {tn : Nat → Heap → Prop} {J : It} {Q : VK} {E : Value → Shared → Prop} {RR : Value → Addr → Result → Shared → Prop}
  (hc : J.cm = true → X.calm = true) (B : BlkOk X scope x ix) (hg : ∀ C s H fp, PG (blk X scope (blkN X x ix) C s H fp) tg (gOwn x.length own)) (ht : ∀ C s H fp, PIfs (blk X scope (blkN X x ix) C s H fp) ifs tt) (he : ∀ C s H fp, PE (blk X scope (blkN X x ix) C s H fp) elt te)
  (I2 : Inv X pins σ H2 s₂) (T : Turn X.prog X.w X.K tg J fp it tn) (st2 : tn 0 s₂.heap) (f2 : ∀ b ∈ fp, FpOk X pins H2 b) (hq : wLC x.length own ix tt te σ Q J H2)
  (hRR : ∀ D C s' σ' H' p', s₂.heap.objs.size ≤ C → Inv (blk X scope (blkN X x ix) C s₂ H2 fp) p' σ' H' s' → Q (.ref D) H' → RR (.ref D) C (.ok .next) s') :
  wpAny (model X.prog X.w) X.A (newList []) (fun acc s₃ => wpAny (model X.prog X.w) X.A (newFunctionEnv scope X.env.globals (clOf scope X.env) [] X.env.qual none .none (some X.env)) (fun cenv s₄ =>
   codeAny (model X.prog X.w) X.A (.compStart (.ListComp elt [⟨tg, iter, ifs, 0⟩] scope pos) 0 (.ref it) acc { cenv with scope := relabel scope X.env }) (RR acc cenv.locals) s₄) E s₃) E s₂ := by
 refine wpAny_newObj_type (nfe_cells ?_)
 dsimp only
 generalize hH2 : s₂.heap.push { cls := .type "list", dict := none, data := .seq ([] : List Value).toArray } = HH
 generalize hh1 : pushCells (HH.push { cls := .type "dict", data := .dict #[] }) scope.names = h₁
 have hns₁ : h₁.Ns HH.objs.size (fun _ => none) := by
  obtain ⟨o, es, ep, ho, r⟩ := Heap.Ns.new HH (.type "dict")
  exact ⟨o, es, ep, by rw [← hh1]; exact pushCells_keeps _ _ _ _ ho, r⟩
 have hkeep : ∀ b o, HH.get? b = some o → h₁.get? b = some o := fun b o e => by rw [← hh1]; exact pushCells_keeps _ _ _ _ (Heap.get?_push_of_some _ e)
 have hce : ∀ y c, (y, c) ∈ cellsFrom (HH.objs.size + 1) scope.names [] → h₁.IsCell c none := fun y c e => by
  rw [← hh1]
  exact (cf_new (h := HH.push { cls := .type "dict", data := .dict #[] }) (by rw [Heap.size_push]; exact e)).1
 have hC : HH.objs.size = s₂.heap.objs.size + 1 := by rw [← hH2, Heap.size_push]
 have hDC : s₂.heap.objs.size ≠ HH.objs.size := by rw [hC]; exact Nat.ne_of_lt (Nat.lt_succ_self _)
 have hCle : s₂.heap.objs.size ≤ HH.objs.size := by rw [hC]; exact Nat.le_succ _
 have old : ∀ b o, s₂.heap.get? b = some o → h₁.get? b = some o := fun b o e => hkeep b o (hH2 ▸ Heap.get?_push_of_some _ e)
 have hacc : h₁.get? s₂.heap.objs.size = some { cls := .type "list", data := .seq #[] } := hkeep _ _ (hH2 ▸ Heap.get?_push_size _ rfl)
 have hob : ∀ b ∈ fp, ∃ o, s₂.heap.get? b = some o := fun b hb => let ⟨o, e, _⟩ := T.obj 0 _ st2 b hb; ⟨o, e⟩
 have ok := blk_ok (C := HH.objs.size) I2 B hCle f2 hob
 obtain ⟨W, ⟨m0, w0⟩, turn⟩ := hq s₂.heap.objs.size (I2.hok.fresh (Nat.le_refl _))
 -- the iterator's records, in the block
 have stat : ∀ {H' : Hp}, (∀ b ∈ fp, H' b = none) → ∀ b ∈ fp, FpOk (blk X scope (blkN X x ix) HH.objs.size s₂ H2 fp) [] H' b := fun {H'} hn b hb => by
  obtain ⟨o, e⟩ := hob b hb
  obtain ⟨_, g1, g2, g3, g4, g5⟩ := f2 b hb
  refine ⟨hn b hb, Nat.ne_of_lt (Nat.lt_of_lt_of_le (Heap.lt_size e) hCle), fun z => ?_, .inl hb, fun y c h => ?_, fun p hp => absurd (show p ∈ ([] : List (Addr × Obj)) from hp) (by simp)⟩
  ·rcases List.mem_cons.mp (I2.stkSub b z) with q | q
   ·exact g1 q
   ·exact g2 q
  ·rcases cl_sub I2 B h with q | q
   ·exact g4 y c q
   ·intro z
    rw [z] at q
    exact absurd (Nat.lt_of_lt_of_le (Heap.lt_size e) (Nat.le_trans (Nat.le_trans hCle (Nat.le_succ _)) (cf_ge q))) (Nat.lt_irrefl _)
 have loop : ∀ s₃ : Shared, s₃ = { s₂ with heap := h₁ } →
   codeAny (model X.prog X.w) X.A (.compLoop (.ListComp elt [⟨tg, iter, ifs, 0⟩] scope pos) 0 (.ref it) (.ref s₂.heap.objs.size) (compEnvC scope (cellsFrom (HH.objs.size + 1) scope.names (clOf scope X.env)) HH.objs.size X.env))
    (RR (.ref s₂.heap.objs.size) HH.objs.size) s₃ := by
  rintro s₃ rfl
  have J0 := blk_inv (fp := fp) (C := HH.objs.size) (tk := s₂.toks) I2 B ok rfl old hacc hns₁ (Ne.symm hDC) hCle hce
  have fr0 : ∀ b ∈ fp, upd H2 s₂.heap.objs.size (.lst []) b = none := fun b hb => by
   obtain ⟨o, e⟩ := hob b hb
   rw [upd_ne (Nat.ne_of_lt (Heap.lt_size e))]
   exact (f2 b hb).1
  refine comp_loop (fun k s' => ∃ i ys H', Inv (blk X scope (blkN X x ix) HH.objs.size s₂ H2 fp) [] (List.replicate x.length none ++ blkσ ix σ) H' s' ∧ tn i s'.heap ∧ (∀ b ∈ fp, H' b = none) ∧ H' s₂.heap.objs.size = some (.lst ys) ∧ W i k ys H') ?_ m0
   ⟨0, [], _, J0, T.keep 0 _ _ st2 (fun b _ o e => old b o e), fr0, upd_same, w0⟩
  rintro n s₄ ⟨i, ys, H4, I4, st4, fr4, hD4, w4⟩
  rcases turn i n ys H4 w4 hD4 with ⟨stop, qn⟩ | ⟨go, hz, step⟩
  ·refine thn (T.done (blk X scope (blkN X x ix) HH.objs.size s₂ H2 fp) rfl rfl rfl hc i [] s₄ _ H4 _ I4 (stat fr4) st4 stop) fun r s5 ⟨hr, I5⟩ => ?_
   subst hr
   exact hRR _ _ s5 _ H4 [] hCle I5 qn
  ·refine thn (T.item (blk X scope (blkN X x ix) HH.objs.size s₂ H2 fp) rfl rfl rfl hc i [] s₄ _ H4 _ I4 (stat fr4) st4 go) fun r s5 ⟨u, hr, h5⟩ => ?_
   subst hr
   refine wpAny_mono h5 (fun _ s6 ⟨xv, H6, I6, r6, y6, st6, fr6⟩ => ?_) fun _ _ z => z
   have I6' := I6.pinned (stat fr6) (T.obj _ _ st6)
   obtain ⟨vs, hov, hvl, q7⟩ := step xv H6 y6
   have fgt : ∀ {σ9 : St} {H9 : Hp} {s9 : Shared} {p9 : List (Addr × Obj)}, σ9.length = x.length → Inv (blk X scope (blkN X x ix) HH.objs.size s₂ H2 fp) p9 (σ9 ++ blkσ ix σ) H9 s9 → Inv (blk X scope (blkN X x ix) HH.objs.size s₂ H2 fp) p9 (List.replicate x.length none ++ blkσ ix σ) H9 s9 := fun {σ9 H9 s9 p9} hl I9 =>
    I9.weak (by simp [hl]) fun k v e => by
     by_cases hk : k < x.length
     ·rw [List.getElem?_append_left (by simpa using hk), List.getElem?_replicate, if_pos hk] at e
      cases e
     ·rw [List.getElem?_append_right (by simpa using hk), List.length_replicate] at e
      rw [List.getElem?_append_right (by rw [hl]; omega), hl]
      exact e
   refine wpAny_mono (hg _ _ _ _ _ s6 _ H6 xv u (fun σ9 H9 => σ9 = vs.map some ++ (List.replicate x.length (none : Option V) ++ blkσ ix σ).drop x.length ∧ H9 = H6) I6' r6 ⟨vs, hov, hvl, rfl, rfl⟩) (fun _ s7 ⟨σ7, H7, I7, e7, e8⟩ => ?_) fun _ _ z => z.elim
   subst e7 e8
   rw [List.drop_left' (by simp)] at I7
   have hml : (vs.map some).length = x.length := by rw [List.length_map]; exact hvl
   refine wpAny_mono (ht _ _ _ _ _ s7 _ H7 _ I7 q7) (fun b s8 ⟨H8, I8, q8⟩ => ?_) fun _ _ z => z.elim
   have pinned : ∀ {H9 : Hp} {s9 : Shared} {σ9 : St}, Inv (blk X scope (blkN X x ix) HH.objs.size s₂ H2 fp) ([] ++ pinsAt fp s6.heap) σ9 H9 s9 → tn (i + 1) s9.heap ∧ ∀ b ∈ fp, H9 b = none := fun {H9 s9 σ9} I9 => by
    refine ⟨T.keep _ _ _ st6 fun b hb o e => (I9.pin (b, o) (List.mem_append_right _ (List.mem_append_right _ (mem_pinsAt hb e)))).1, fun b hb => ?_⟩
    obtain ⟨o, e, d⟩ := T.obj _ _ st6 b hb
    exact (I9.pin (b, o) (List.mem_append_right _ (List.mem_append_right _ (mem_pinsAt hb e)))).2.1
   cases b with
   | false =>
    rw [if_neg Bool.false_ne_true] at q8 ⊢
    obtain ⟨hD8, m', hm, w8⟩ := q8
    obtain ⟨t8, f8⟩ := pinned I8
    exact ⟨m', hm, i + 1, ys, H8, fgt hml I8.unpinned, t8, f8, hD8, w8⟩
   | true =>
    rw [if_pos rfl] at q8 ⊢
    refine wpAny_mono (he _ _ _ _ _ s8 _ H8 _ I8 q8) (fun u9 s9 ⟨v9, H9, I9, r9, hD9, m', hm, w9⟩ => ?_) fun _ _ z => z.elim
    refine wpAny_mono (mt_append (X := blk X scope (blkN X x ix) HH.objs.size s₂ H2 fp) _ s9 _ H9 (.ref s₂.heap.objs.size) [v9] _ [u9] (fun _ H' => H' = upd H9 s₂.heap.objs.size (.lst (ys ++ [v9]))) I9 rfl (.cons r9 .nil) ⟨_, ys, v9, rfl, rfl, hD9, hz, rfl⟩) (fun _ s10 ⟨_, H10, I10, _, e10⟩ => ?_) fun _ _ z => z.elim
    subst e10
    obtain ⟨t10, f10⟩ := pinned I10
    exact ⟨m', hm, i + 1, ys ++ [v9], _, fgt hml I10.unpinned, t10, f10, upd_same, w9⟩
 exact codeAny_compStart_list (loop _ rfl) (T.self _ 0 _ _ _ (T.keep 0 _ _ st2 (fun b _ o e => old b o e)) (loop _ rfl))
theorem pe_lc (ix : List Nat) (hc : X.calm = true) (B : BlkOk X scope x ix) (hg : ∀ C s H fp, PG (blk X scope (blkN X x ix) C s H fp) tg (gOwn x.length own)) (hi : PI X tg iter wi) (ht : ∀ C s H fp, PIfs (blk X scope (blkN X x ix) C s H fp) ifs tt) (he : ∀ C s H fp, PE (blk X scope (blkN X x ix) C s H fp) elt te)
  (hs : ∀ v, foldedSetIterable iter X.env v = pure v := by intro _; rfl) : PE X (.ListComp elt [⟨tg, iter, ifs, 0⟩] scope pos) (tLC x.length own ix wi tt te) := by
 intro pins s σ H Q I h
 rw [eval_ListComp]
 refine wpAny_comprehension_free (use := none) rfl hs (clos_of (cells_of I B)) B.kind (fun y hy hk => by rw [B.names y hy, hk]) ?_
 refine thn (hi pins s σ H _ I h) fun v s1 h1 => thn h1 fun itv s2 h2 => ?_
 obtain ⟨it, fp, tn, J, H2, e, I2, T, st2, f2, hq⟩ := h2
 subst e
 refine lc_core (RR := fun acc C => compPost (model X.prog X.w) X.A X.xe none (EP X pins σ Q) acc C) (fun _ => hc) B hg ht he I2 T st2 f2 hq fun D C s' σ' H' p' hC I' q' => ?_
 obtain ⟨m, hn, _⟩ := I'.loc
 exact ⟨m, hn, fun h' hs' => ⟨.ref D, H', blk_out I2 hC f2 I' hs', rfl, q'⟩⟩
end
end L2
namespace L2
open PySem PySem.Spec PyProof.Rows
def Sm (n : Nat) (i : Int) : Prop := i.natAbs < 2 ^ n
theorem Sm.bits {n : Nat} {i : Int} (h : Sm n i) : Builtin.Int.intBits i ≤ n := by
 unfold Builtin.Int.intBits
 by_cases e : i = 0
 ·subst e; exact Nat.zero_le _
 ·have e' : (i == 0) = false := beq_eq_false_iff_ne.mpr e
  rw [e']
  have h0 : i.natAbs ≠ 0 := by omega
  have := (Nat.log2_lt h0).mpr h
  simp only [Bool.false_eq_true, if_false]
  omega
theorem Sm.mono {m n : Nat} {i : Int} (h : Sm m i) (hmn : m ≤ n) : Sm n i := Nat.lt_of_lt_of_le h (Nat.pow_le_pow_right (by decide) hmn)
theorem Sm.mul {m n : Nat} {i j : Int} (h : Sm m i) (h' : Sm n j) : Sm (m + n) (i * j) := by
 unfold Sm at *
 rw [Int.natAbs_mul, Nat.pow_add]
 by_cases e : j.natAbs = 0
 ·rw [e, Nat.mul_zero]
  exact Nat.mul_pos (Nat.pow_pos (by decide)) (Nat.pow_pos (by decide))
 ·exact Nat.lt_of_lt_of_le (Nat.mul_lt_mul_of_pos_right h (Nat.pos_of_ne_zero e)) (Nat.mul_le_mul_left _ (Nat.le_of_lt h'))
theorem Sm.add {m n : Nat} {i j : Int} (h : Sm m i) (h' : Sm n j) : Sm (max m n + 1) (i + j) := by
 have h1 := h.mono (Nat.le_max_left m n)
 have h2 := h'.mono (Nat.le_max_right m n)
 unfold Sm at *
 rw [Nat.pow_succ]
 omega
theorem Sm.neg {n : Nat} {i : Int} (h : Sm n i) : Sm n (-i) := by unfold Sm at *; rw [Int.natAbs_neg]; exact h
theorem Sm.sub {m n : Nat} {i j : Int} (h : Sm m i) (h' : Sm n j) : Sm (max m n + 1) (i - j) := by
 rw [Int.sub_eq_add_neg]; exact h.add h'.neg
theorem Sm.zero {n : Nat} : Sm n 0 := Nat.pow_pos (by decide)
theorem sm_of {n : Nat} {i : Int} (h1 : -(2 ^ n : Int) < i) (h2 : i < (2 ^ n : Int)) : Sm n i := by
 unfold Sm
 have e : ((2 ^ n : Nat) : Int) = (2 : Int) ^ n := by simp
 omega
theorem Sm.le {n : Nat} {i j : Int} (h : Sm n i) (hj : j.natAbs ≤ i.natAbs) : Sm n j := Nat.lt_of_le_of_lt hj h

def CMulB (i j : Int) : Prop := ∃ m n, m ≤ 1000000 ∧ n ≤ 1000000 ∧ Sm m i ∧ Sm n j
theorem CMulB.ok {i j : Int} (h : CMulB i j) : IntMulOk i j := by
 obtain ⟨m, n, hm, hn, h1, h2⟩ := h
 have e : (2 : Nat) ^ 20 = 1048576 := by decide
 exact .of_bits (by have := h1.bits; omega) (by have := h2.bits; omega)
def CDivBN (_ j : Int) : Prop := j ≠ 0 ∧ ∃ n, n ≤ 8000 ∧ Sm n j
theorem sm_log2 {n : Nat} {j : Int} (hn : n ≤ 8000) (h : Sm n j) : j.natAbs.log2 < 9000 := by
 by_cases e : j.natAbs = 0
 ·rw [e]; decide
 ·have := (Nat.log2_lt e).mpr h
  omega
section
variable {X : Cx}
theorem op_mulB : OpR X (binaryOp .Mult) (rI CMulB fun i j => .int (i * j)) := opI fun _ _ _ _ _ _ _ hc q => mul_int q hc.ok
theorem op_fdivBN : OpR X (binaryOp .FloorDiv) (rI CDivBN fun i j => .int (i.fdiv j)) := opI fun i j _ _ _ _ _ hc q => by
 obtain ⟨h1, n, hn, h2⟩ := hc
 exact floordiv_int h1 q (.inl (PyProof.noPylong_of_log2 (sm_log2 hn h2)))

theorem bools_get : ∀ {bs : List Bool} {its : List Value} {i : Nat} {v : Value}, Vals (bs.map V.bl) its → its[i]? = some v → ∃ b, bs[i]? = some b ∧ v = .bool b
 | [], _, _, _, .nil, e => by simp at e
 | b :: bs, _, 0, _, .cons r _, e => by simp at e; subst e; exact ⟨b, rfl, r⟩
 | _ :: bs, _, i + 1, v, .cons _ t, e => by
  obtain ⟨b, h1, h2⟩ := bools_get (i := i) (v := v) t (by simpa using e)
  exact ⟨b, by simpa using h1, h2⟩
theorem range_allB : ∀ (bs : List Bool), ((List.range bs.length).all fun i => (bs[i]?).getD true) = bs.all id := fun bs => by
 rw [Bool.eq_iff_iff, List.all_eq_true, List.all_eq_true]
 constructor
 ·intro h b hb
  obtain ⟨i, hi, rfl⟩ := List.mem_iff_getElem.mp hb
  have := h i (List.mem_range.mpr hi)
  simpa [hi] using this
 ·intro h i hi
  have hi' := List.mem_range.mp hi
  have := h bs[i] (List.getElem_mem hi')
  simpa [hi'] using this
theorem call_allB (hc : X.calm = true) : CallR X (.builtin "all") (fun xs H Q => ∃ (p : Addr) (bs : List Bool), xs = [.ref p] ∧ SqL X.K H p (bs.map V.bl) ∧ Q (.bl (bs.all id)) H) := by
 intro pins s σ H xs us Q I r h
 obtain ⟨p, bs, rfl, hS, q⟩ := h
 obtain ⟨u, rfl, ru⟩ := vals1 r
 cases ru
 obtain ⟨its, rv, pl, hz⟩ := I.list hS
 have hlen : its.length = bs.length := by rw [← rv.length, List.length_map]
 have hl := pl.isList
 have hlt : p < s.heap.objs.size := by obtain ⟨_, e, _⟩ := hl; exact Heap.lt_size e
 refine call_all_walk (wpAny_pyIter_list hl ?_)
 refine ⟨s.heap.objs.size, [s.heap.objs.size, p], [s.heap.objs.size], its.toArray.size, _, _, fun i => (bs[i]?).getD true, rfl, Walks.list (A := X.A.in1) (I.ok.hd hc) _ p (Nat.ne_of_lt hlt) its.toArray,
  ⟨⟨_, Heap.get?_push_size _ rfl, rfl, rfl⟩, hl.push _⟩, fun i v s' Q' E' hP hQ => ?_, fun h' tk hk => ?_⟩
 ·obtain ⟨b, e, rfl⟩ := bools_get rv (by simpa using hP)
  simp only [e, Option.getD_some] at hQ
  exact wpAny_truthy_bool hQ
 ·have e : ((List.range its.toArray.size).all fun i => (bs[i]?).getD true) = bs.all id := by
   rw [List.size_toArray, hlen]; exact range_allB bs
  rw [e]
  refine ⟨.bl (bs.all id), H, I.kept (h' := h') (t' := tk) (fun b x e => ?_), rfl, q⟩
  exact hk b x (fun hm => by rw [List.mem_singleton.mp hm] at e; exact Nat.lt_irrefl _ (Heap.lt_size e)) (Heap.get?_push_of_some _ e)
def isiV (K : PySem.W.Frag) (H : Hp) : V → String → Bool → Prop
 | .int _, T, b => (T = "int" ∧ b = true) ∨ (T = "bool" ∧ b = false) ∨ (T = "tuple" ∧ b = false) ∨ (T = "list" ∧ b = false)
 | .bl _, T, b => (T = "int" ∧ b = true) ∨ (T = "bool" ∧ b = true) ∨ (T = "tuple" ∧ b = false) ∨ (T = "list" ∧ b = false)
 | .str _, T, b => (T = "int" ∧ b = false) ∨ (T = "bool" ∧ b = false) ∨ (T = "tuple" ∧ b = false) ∨ (T = "list" ∧ b = false)
 | .non, T, b => (T = "int" ∧ b = false) ∨ (T = "bool" ∧ b = false) ∨ (T = "tuple" ∧ b = false) ∨ (T = "list" ∧ b = false)
 | .ref p, T, b => (∃ xs, SqT K H p xs ∧ ((T = "int" ∧ b = false) ∨ (T = "bool" ∧ b = false) ∨ (T = "tuple" ∧ b = true) ∨ (T = "list" ∧ b = false))) ∨
   (∃ xs, SqL K H p xs ∧ ((T = "int" ∧ b = false) ∨ (T = "bool" ∧ b = false) ∨ (T = "tuple" ∧ b = false) ∨ (T = "list" ∧ b = true)))
 | _, _, _ => False
theorem call_isi : CallR X (.builtin "isinstance") (fun xs H Q => ∃ x T b, xs = [x, .ty T] ∧ isiV X.K H x T b ∧ Q (.bl b) H) := by
 intro pins s σ H xs us Q I r h
 obtain ⟨x, T, b, rfl, hi, q⟩ := h
 obtain ⟨u, w', rfl, rx, ru⟩ := vals2 r
 cases ru
 have k0 : EP X pins σ Q (.bool b) s := ⟨.bl b, H, I, rfl, q⟩
 have k1 : EP X pins σ Q (.bool b) { s with toks := s.toks + 1 } := ⟨.bl b, H, I.tok _, rfl, q⟩
 cases x with
 | int i =>
  obtain ⟨t, rfl⟩ := rx
  rcases hi with ⟨rfl, rfl⟩ | ⟨rfl, rfl⟩ | ⟨rfl, rfl⟩ | ⟨rfl, rfl⟩
  ·exact IsiPair.int_int k0
  ·exact IsiPair.int_bool k1
  ·exact IsiPair.int_tuple k1
  ·exact IsiPair.int_list k1
 | bl i =>
  cases rx
  rcases hi with ⟨rfl, rfl⟩ | ⟨rfl, rfl⟩ | ⟨rfl, rfl⟩ | ⟨rfl, rfl⟩
  ·first | exact IsiPair.bool_int k0 | exact IsiPair.bool_int k1
  ·first | exact IsiPair.bool_bool k0 | exact IsiPair.bool_bool k1
  ·exact IsiPair.bool_tuple k1
  ·exact IsiPair.bool_list k1
 | str i =>
  obtain ⟨t, rfl⟩ := rx
  rcases hi with ⟨rfl, rfl⟩ | ⟨rfl, rfl⟩ | ⟨rfl, rfl⟩ | ⟨rfl, rfl⟩
  ·exact IsiPair.str_int k1
  ·exact IsiPair.str_bool k1
  ·exact IsiPair.str_tuple k1
  ·exact IsiPair.str_list k1
 | non =>
  cases rx
  rcases hi with ⟨rfl, rfl⟩ | ⟨rfl, rfl⟩ | ⟨rfl, rfl⟩ | ⟨rfl, rfl⟩
  ·exact IsiPair.NoneType_int k1
  ·exact IsiPair.NoneType_bool k1
  ·exact IsiPair.NoneType_tuple k1
  ·exact IsiPair.NoneType_list k1
 | ref p =>
  cases rx
  rcases hi with ⟨xs, hS, hi⟩ | ⟨xs, hS, hi⟩
  ·obtain ⟨its, _, ⟨o, e, c, _⟩, _⟩ := I.tuple hS
   rcases hi with ⟨rfl, rfl⟩ | ⟨rfl, rfl⟩ | ⟨rfl, rfl⟩ | ⟨rfl, rfl⟩
   ·exact IsiPair.tuple_int e c k1
   ·exact IsiPair.tuple_bool e c k1
   ·exact IsiPair.tuple_tuple e c k0
   ·exact IsiPair.tuple_list e c k1
  ·obtain ⟨its, _, pl, _⟩ := I.list hS
   obtain ⟨o, e, c, _⟩ := pl.isList
   rcases hi with ⟨rfl, rfl⟩ | ⟨rfl, rfl⟩ | ⟨rfl, rfl⟩ | ⟨rfl, rfl⟩
   ·exact IsiPair.list_int e c k1
   ·exact IsiPair.list_bool e c k1
   ·exact IsiPair.list_tuple e c k1
   ·exact IsiPair.list_list e c k0
 | _ => exact (show False from hi).elim
end
end L2
namespace L2
open PySem PySem.Spec PyProof.Rows

inductive W where
 | non | bl (b : Bool) | int (i : Int) | str (x : Str) | ty (n : String) | tup (ws : List W) | lst (ws : List W) | loc (n : Nat) | kls (ws : List W) | exc (n : Str)
 /-- an exception with attributes -/
 | exa (n : Str) (ws : List W)
 /-- a def of the module, by its address and a number -/
 | fnv (f : Addr) (i : Nat)
inductive Cell where
 | lst (ws : List W) | obj (C : Addr) (fs : List (Str × W)) | dct (kvs : List (Key × W))
 /-- a dict whose keys are tuples of ints -/
 | dtt (kvs : List (List Int × W))
structure Gh where
 nx : Nat
 c : Nat → Option Cell
structure Mu where
 f : Nat → Option Addr
 hid : Addr → Prop

def KLst (K : PySem.W.Frag) (p : Addr) (xs : List V) : Prop :=
 ∃ (o : Obj) (its : Array Value) (n : Nat), K.lookup p = some o ∧ o.cls = .type "list" ∧ o.dict = none ∧ o.data = .seq its n ∧ its.size ≤ sizeLine ∧ Vals xs its.toList
def Frz (H : Hp) (μ : Mu) (p : Addr) (xs : List V) : Prop := H p = some (.lst xs) ∧ (∀ n, μ.f n ≠ some p) ∧ ¬ μ.hid p
def Frk (K : PySem.W.Frag) (H : Hp) (p : Addr) (xs : List V) : Prop := (∃ o, H p = some (.frz o (.lst xs))) ∨ KLst K p xs
theorem Frz.sq {K : PySem.W.Frag} {H : Hp} {μ : Mu} {p : Addr} {xs : List V} (h : Frz H μ p xs) : SqL K H p xs := .inl (.inl h.1)
theorem Frk.sq {K : PySem.W.Frag} {H : Hp} {p : Addr} {xs : List V} (h : Frk K H p xs) : SqL K H p xs := by
 rcases h with h | h
 ·exact .inl (.inr h)
 ·exact .inr h

def vmB : List Value := [.type "ValueError", .type "Exception", .type "BaseException", .type "object"]
def xdIn (K : PySem.W.Frag) (C : Addr) (n : Str) : Bool := PySem.W.nsIn K mainGlobals n == some (some (.ref C)) && PySem.W.typeIn K (.ref C) == some (.type "type") && match PySem.W.clsIn K C with
 | some cd => cd.name == n && cd.mro.contains (.type "BaseException")
 | none => false
def xcIn (K : PySem.W.Frag) (C : Addr) (n : Str) : Bool := xdIn K C n && (match PySem.W.clsIn K C with
 | some cd => (match cd.mro with
  | [.ref C', .ref R, a, b, c, d] => C' == C && [a, b, c, d] == vmB && PySem.W.nsIn K mainGlobals "EaselError" == some (some (.ref R)) && (PySem.W.clsIn K R).any (fun c => c.name == ("EaselError" : Str))
  | _ => false)
 | none => false) && PySem.W.findIn K (.ref C) "__getattribute__" == some (some (.builtin "BaseException.__getattribute__")) && PySem.W.findIn K (.ref C) "__getattr__" == some none && PySem.W.findIn K (.ref C) "__class__" == some (some (.builtin "object.__class__")) && PySem.W.specialIn K (.builtin "object.__class__") "__get__" == some (some (.builtin "getset_descriptor.__get__"))
 && PySem.W.takesIn K (.builtin "object.__class__") == some true
def attN (n : Str) : List Str := if n = "Apart" then ["word", "places"] else ["at"]
def xaIn (K : PySem.W.Frag) (C : Addr) (n : Str) : Bool := xcIn K C n && PySem.W.hasDictIn K C && (attN n).all fun f => PySem.W.findIn K (.ref C) f == some none
def Xoa (K : PySem.W.Frag) (o : Obj) (n : Str) (dd : Addr) : Prop := ∃ C, o.cls = .ref C ∧ o.dict = some dd ∧ PySem.W.notCls o = true ∧ xaIn K C n = true
def Xob (K : PySem.W.Frag) (o : Obj) (n : Str) : Prop := ∃ C, o.cls = .ref C ∧ o.dict = none ∧ PySem.W.notCls o = true ∧ xcIn K C n = true

mutual
def Rep (K : PySem.W.Frag) (H : Hp) (μ : Mu) : W → V → Prop
 | .non, v => v = .non
 | .bl b, v => v = .bl b
 | .int i, v => v = .int i
 | .str x, v => v = .str x
 | .ty n, v => v = .ty n
 | .tup ws, v => ∃ p xs, v = .ref p ∧ SqT K H p xs ∧ Reps K H μ ws xs
 | .lst ws, v => ∃ p xs, v = .ref p ∧ Frz H μ p xs ∧ Reps K H μ ws xs
 | .kls ws, v => ∃ p xs, v = .ref p ∧ Frk K H p xs ∧ Reps K H μ ws xs
 | .loc n, v => ∃ p, v = .ref p ∧ μ.f n = some p
 | .exc n, v => ∃ p o u, v = .ref p ∧ H p = some (.frz o u) ∧ Xob K o n
 | .exa n ws, v => ∃ p o u dd ns xs, v = .ref p ∧ H p = some (.frz o u) ∧ Xoa K o n dd ∧ H dd = some (.xd (List.zip ns xs)) ∧ ns = attN n ∧ ns.length = xs.length ∧ Reps K H μ ws xs
 | .fnv f _, v => v = .ref f
def Reps (K : PySem.W.Frag) (H : Hp) (μ : Mu) : List W → List V → Prop
 | [], xs => xs = []
 | w :: ws, xs => ∃ v vs, xs = v :: vs ∧ Rep K H μ w v ∧ Reps K H μ ws vs
end

section
variable {K : PySem.W.Frag} {H H' H1 H2 : Hp} {μ μ' μ1 μ2 : Mu} {h h' : Gh} {w : W} {ws : List W} {v : V} {xs : List V}

theorem Reps.len : ∀ {ws : List W} {xs : List V}, Reps K H μ ws xs → ws.length = xs.length
 | [], xs, h => by
  have e : xs = [] := by rw [Reps] at h; exact h
  rw [e]; rfl
 | w :: ws, xs, h => by
  rw [Reps] at h
  obtain ⟨v, vs, e, _, h⟩ := h
  rw [e, List.length_cons, List.length_cons, Reps.len h]
theorem Reps.get : ∀ {ws : List W} {xs : List V} {i : Nat} {w : W}, Reps K H μ ws xs → ws[i]? = some w → ∃ v, xs[i]? = some v ∧ Rep K H μ w v
 | [], _, _, _, _, e => by simp at e
 | a :: ws, xs, 0, w, h, e => by
  rw [Reps] at h
  obtain ⟨v, vs, e1, r, _⟩ := h
  simp at e; subst e; subst e1
  exact ⟨v, rfl, r⟩
 | a :: ws, xs, i + 1, w, h, e => by
  rw [Reps] at h
  obtain ⟨v, vs, e1, _, h⟩ := h
  subst e1
  obtain ⟨u, h1, h2⟩ := Reps.get (i := i) (w := w) h (by simpa using e)
  exact ⟨u, by simpa using h1, h2⟩
theorem Reps.nil : Reps K H μ [] [] := by rw [Reps]
theorem Reps.cons (r : Rep K H μ w v) (h : Reps K H μ ws xs) : Reps K H μ (w :: ws) (v :: xs) := by
 rw [Reps]; exact ⟨v, xs, rfl, r, h⟩
theorem Reps.append : ∀ {ws : List W} {xs : List V} {us : List W} {ys : List V}, Reps K H μ ws xs → Reps K H μ us ys → Reps K H μ (ws ++ us) (xs ++ ys)
 | [], xs, us, ys, h, g => by
  rw [Reps] at h; subst h; exact g
 | w :: ws, xs, us, ys, h, g => by
  rw [Reps] at h
  obtain ⟨v, vs, e, r, h⟩ := h
  subst e
  exact Reps.cons r (Reps.append h g)
theorem Reps.one (r : Rep K H μ w v) : Reps K H μ [w] [v] := Reps.cons r Reps.nil
theorem Reps.take : ∀ {ws : List W} {xs : List V} (n : Nat), Reps K H μ ws xs → Reps K H μ (ws.take n) (xs.take n)
 | _, _, 0, _ => by simp only [List.take_zero]; exact Reps.nil
 | [], xs, n + 1, h => by rw [Reps] at h; subst h; exact Reps.nil
 | a :: ws, xs, n + 1, h => by
  rw [Reps] at h
  obtain ⟨u, vs, e, q, h⟩ := h
  subst e
  exact Reps.cons q (Reps.take n h)
theorem Reps.drop : ∀ {ws : List W} {xs : List V} (n : Nat), Reps K H μ ws xs → Reps K H μ (ws.drop n) (xs.drop n)
 | _, _, 0, h => h
 | [], xs, n + 1, h => by rw [Reps] at h; subst h; exact Reps.nil
 | a :: ws, xs, n + 1, h => by
  rw [Reps] at h
  obtain ⟨u, vs, e, q, h⟩ := h
  subst e
  exact Reps.drop n h

structure Ex0 (K : PySem.W.Frag) (H : Hp) (μ : Mu) (H' : Hp) (μ' : Mu) : Prop where
 t : ∀ p xs, SqT K H p xs → SqT K H' p xs
 l : ∀ p xs, Frz H μ p xs → Frz H' μ' p xs
 k : ∀ p xs, Frk K H p xs → Frk K H' p xs
 m : ∀ n p, μ.f n = some p → μ'.f n = some p
 x : ∀ p o u, H p = some (.frz o u) → H' p = some (.frz o u)
 y : ∀ p fs, H p = some (.xd fs) → H' p = some (.xd fs)
structure Ex (K : PySem.W.Frag) (H : Hp) (μ : Mu) (H' : Hp) (μ' : Mu) : Prop extends Ex0 K H μ H' μ' where
 o : ∀ p u, μ.hid p → H p = some u → μ'.hid p ∧ H' p = some u
mutual
theorem Rep.ex (e : Ex0 K H μ H' μ') : ∀ {w : W} {v : V}, Rep K H μ w v → Rep K H' μ' w v
 | .non, _, h => by rw [Rep] at h ⊢; exact h
 | .bl _, _, h => by rw [Rep] at h ⊢; exact h
 | .int _, _, h => by rw [Rep] at h ⊢; exact h
 | .str _, _, h => by rw [Rep] at h ⊢; exact h
 | .ty _, _, h => by rw [Rep] at h ⊢; exact h
 | .tup ws, _, h => by
  rw [Rep] at h ⊢
  obtain ⟨p, xs, e1, hs, hr⟩ := h
  exact ⟨p, xs, e1, e.t _ _ hs, Reps.ex e hr⟩
 | .lst ws, _, h => by
  rw [Rep] at h ⊢
  obtain ⟨p, xs, e1, hs, hr⟩ := h
  exact ⟨p, xs, e1, e.l _ _ hs, Reps.ex e hr⟩
 | .kls ws, _, h => by
  rw [Rep] at h ⊢
  obtain ⟨p, xs, e1, hs, hr⟩ := h
  exact ⟨p, xs, e1, e.k _ _ hs, Reps.ex e hr⟩
 | .loc n, _, h => by
  rw [Rep] at h ⊢
  obtain ⟨p, e1, hm⟩ := h
  exact ⟨p, e1, e.m _ _ hm⟩
 | .exc n, _, h => by
  rw [Rep] at h ⊢
  obtain ⟨p, o, u, e1, hm, hx⟩ := h
  exact ⟨p, o, u, e1, e.x _ _ _ hm, hx⟩
 | .exa n ws, _, h => by
  rw [Rep] at h ⊢
  obtain ⟨p, o, u, dd, ns, xs, e1, hm, hx, hd, e2, e3, hr⟩ := h
  exact ⟨p, o, u, dd, ns, xs, e1, e.x _ _ _ hm, hx, e.y _ _ hd, e2, e3, Reps.ex e hr⟩
 | .fnv _ _, _, h => by rw [Rep] at h ⊢; exact h
theorem Reps.ex (e : Ex0 K H μ H' μ') : ∀ {ws : List W} {xs : List V}, Reps K H μ ws xs → Reps K H' μ' ws xs
 | [], _, h => by rw [Reps] at h ⊢; exact h
 | w :: ws, _, h => by
  rw [Reps] at h ⊢
  obtain ⟨v, vs, e1, r, h⟩ := h
  exact ⟨v, vs, e1, Rep.ex e r, Reps.ex e h⟩
end
structure Ext (K : PySem.W.Frag) (H : Hp) (μ : Mu) (H' : Hp) (μ' : Mu) : Prop where
 r : ∀ w v, Rep K H μ w v → Rep K H' μ' w v
 o : ∀ p u, μ.hid p → H p = some u → μ'.hid p ∧ H' p = some u
theorem Ext.refl : Ext K H μ H μ := ⟨fun _ _ h => h, fun _ _ h g => ⟨h, g⟩⟩
theorem Ext.trans (a : Ext K H μ H1 μ1) (b : Ext K H1 μ1 H2 μ2) : Ext K H μ H2 μ2 :=
 ⟨fun w v h => b.r w v (a.r w v h), fun p u h g => let ⟨h1, g1⟩ := a.o p u h g; b.o p u h1 g1⟩
theorem Ex.ext (e : Ex K H μ H' μ') : Ext K H μ H' μ' := ⟨fun _ _ h => Rep.ex e.toEx0 h, e.o⟩
theorem Ext.s (e : Ext K H μ H' μ') : ∀ {ws : List W} {xs : List V}, Reps K H μ ws xs → Reps K H' μ' ws xs
 | [], _, h => by rw [Reps] at h ⊢; exact h
 | w :: ws, _, h => by
  rw [Reps] at h ⊢
  obtain ⟨v, vs, e1, r, h⟩ := h
  exact ⟨v, vs, e1, e.r _ _ r, Ext.s e h⟩

def MutO : Option HO → Prop
 | some (.lst _) => True
 | some (.dK _) => True
 | some (.ins _ _ _) => True
 | some (.ext _) => True
 | _ => False
def RepF {κ : Type} (K : PySem.W.Frag) (H : Hp) (μ : Mu) : List (κ × W) → List (κ × V) → Prop := Paired fun (p : κ × W) (q : κ × V) => p.1 = q.1 ∧ Rep K H μ p.2 q.2
def entI (x : List Int × Addr × Value) : DictEntry := ⟨reduceHash (Builtin.Tuple.tupleHashOf (x.1.map hashInt)), .ref x.2.1, x.2.2⟩
def DicT (a : Addr) (xs : List (List Int × Addr × Value)) (h : Heap) : Prop := xs.length ≤ sizeLine ∧ (a == sysModules) = false ∧ (xs.map (·.1)).Nodup ∧ ∃ o es ep, h.get? a = some o ∧ o.ExactDict ∧ o.data = .dict es ep ∧ es.toList = xs.map entI
def CellOk (K : PySem.W.Frag) (H : Hp) (μ : Mu) (p : Addr) : Cell → Prop
 | .lst ws => ∃ xs, H p = some (.lst xs) ∧ Reps K H μ ws xs
 | .obj C fs => ∃ dx fvs, H p = some (.ins C dx fvs) ∧ RepF K H μ fs fvs
 | .dct kvs => ∃ kvv, H p = some (.dK kvv) ∧ RepF K H μ kvs kvv
 | .dtt kvs => ∃ xs vs, H p = some (.ext (DicT p xs)) ∧ kvs.map (·.1) = xs.map (·.1) ∧ Vals vs (xs.map (·.2.2)) ∧ Reps K H μ (kvs.map fun x => W.tup (x.1.map W.int)) (xs.map fun x => V.ref x.2.1) ∧ Reps K H μ (kvs.map (·.2)) vs
structure Rel (K : PySem.W.Frag) (μ : Mu) (H : Hp) (h : Gh) : Prop where
 inj : ∀ m n p, μ.f m = some p → μ.f n = some p → m = n
 dom : ∀ n p, μ.f n = some p → n < h.nx
 trk : ∀ n p, μ.f n = some p → MutO (H p)
 cel : ∀ n c, h.c n = some c → ∃ p, μ.f n = some p ∧ CellOk K H μ p c
 hd : ∀ p, μ.hid p → (∃ xs, H p = some (.lst xs)) ∧ ∀ n, μ.f n ≠ some p
theorem CellOk.ext {p : Addr} {c : Cell} (e : Ext K H μ H' μ') (hp : H' p = H p) (x : CellOk K H μ p c) : CellOk K H' μ' p c := by
 cases c with
 | lst ws => obtain ⟨xs, a, b⟩ := x; exact ⟨xs, hp.trans a, e.s b⟩
 | obj C fs => obtain ⟨dx, fvs, a, b⟩ := x; exact ⟨dx, fvs, hp.trans a, Paired.mapP b fun _ _ z => ⟨z.1, e.r _ _ z.2⟩⟩
 | dct kvs => obtain ⟨kvv, a, b⟩ := x; exact ⟨kvv, hp.trans a, Paired.mapP b fun _ _ z => ⟨z.1, e.r _ _ z.2⟩⟩
 | dtt kvs => obtain ⟨xs, vs, a, b, c, d, f⟩ := x; exact ⟨xs, vs, hp.trans a, b, c, e.s d, e.s f⟩

theorem Rd.laid {p q : Addr} {o u : HO} (hp : H p = none) (r : Rd H q u) : Rd (upd H p o) q u := by
 have ne : q ≠ p := by
  rcases r with r | ⟨_, r⟩
  ·exact ne_of_none r hp
  ·exact ne_of_none r hp
 unfold Rd
 rw [upd_ne ne]
 exact r
theorem Ex.laid {p : Addr} {o : HO} (hp : H p = none) : Ex K H μ (upd H p o) μ where
 t := fun q xs h => by
  rcases h with h | h
  ·exact .inl (h.laid hp)
  ·exact .inr h
 l := fun q xs h => ⟨by rw [upd_ne (ne_of_none h.1 hp)]; exact h.1, h.2⟩
 k := fun q xs h => by
  rcases h with ⟨o', h⟩ | h
  ·exact .inl ⟨o', by rw [upd_ne (ne_of_none h hp)]; exact h⟩
  ·exact .inr h
 m := fun _ _ h => h
 x := fun q o' u e => by rw [upd_ne (ne_of_none e hp)]; exact e
 y := fun q fs e => by rw [upd_ne (ne_of_none e hp)]; exact e
 o := fun q u z e => ⟨z, by rw [upd_ne (ne_of_none e hp)]; exact e⟩
theorem Rel.laid {p : Addr} {o : HO} (R : Rel K μ H h) (hp : H p = none) : Rel K μ (upd H p o) h where
 inj := R.inj
 dom := R.dom
 trk := fun n q e => by
  have := R.trk n q e
  have ne : q ≠ p := fun z => by subst z; rw [hp] at this; exact this
  rw [upd_ne ne]; exact this
 cel := fun n c e => by
  obtain ⟨q, e1, x⟩ := R.cel n c e
  have := R.trk n q e1
  have ne : q ≠ p := fun z => by subst z; rw [hp] at this; exact this
  exact ⟨q, e1, x.ext (Ex.laid hp).ext (upd_ne ne)⟩
 hd := fun q z => by
  obtain ⟨⟨xs, e⟩, g⟩ := R.hd q z
  exact ⟨⟨xs, by rw [upd_ne (ne_of_none e hp)]; exact e⟩, g⟩
theorem Rep.tupNew {p : Addr} (hp : H p = none) (r : Reps K H μ ws xs) : Rep K (upd H p (.tup xs)) μ (.tup ws) (.ref p) := by
 rw [Rep]
 exact ⟨p, xs, rfl, SqT.of upd_same, (Ex.laid hp).ext.s r⟩
theorem Rep.lstNew {p : Addr} (R : Rel K μ H h) (hp : H p = none) (r : Reps K H μ ws xs) : Rep K (upd H p (.lst xs)) μ (.lst ws) (.ref p) := by
 rw [Rep]
 refine ⟨p, xs, rfl, ⟨upd_same, fun n e => ?_, fun z => ?_⟩, (Ex.laid hp).ext.s r⟩
 ·have := R.trk n p e
  rw [hp] at this
  exact this
 ·obtain ⟨⟨xs, e⟩, _⟩ := R.hd p z
  rw [hp] at e
  cases e
def Mu.put (μ : Mu) (n : Nat) (p : Addr) : Mu := ⟨fun m => if m = n then some p else μ.f m, μ.hid⟩
theorem Mu.put_same {n : Nat} {p : Addr} : (μ.put n p).f n = some p := by show (if n = n then some p else μ.f n) = _; rw [if_pos rfl]
theorem Mu.put_ne {m n : Nat} {p : Addr} (e : m ≠ n) : (μ.put n p).f m = μ.f m := by show (if m = n then some p else μ.f m) = _; rw [if_neg e]
def Gh.new (h : Gh) (c : Cell) : Gh := ⟨h.nx + 1, fun m => if m = h.nx then some c else h.c m⟩
def Gh.set (h : Gh) (n : Nat) (c : Cell) : Gh := ⟨h.nx, fun m => if m = n then some c else h.c m⟩
theorem Rel.dead (R : Rel K μ H h) {n : Nat} (hn : h.nx ≤ n) : μ.f n = none := by
 cases e : μ.f n with
 | none => rfl
 | some p => exact absurd (R.dom n p e) (by omega)
theorem Ex.newCell {p : Addr} {o : HO} (R : Rel K μ H h) (hp : H p = none) : Ex K H μ (upd H p o) (μ.put h.nx p) where
 t := fun q xs z => (Ex.laid (μ := μ) hp).t q xs z
 l := fun q xs z => by
  have nq := ne_of_none z.1 hp
  refine ⟨by rw [upd_ne nq]; exact z.1, fun n e => ?_, z.2.2⟩
  by_cases hn : n = h.nx
  ·subst hn
   rw [Mu.put_same] at e
   exact nq (Option.some.inj e).symm
  ·rw [Mu.put_ne hn] at e
   exact z.2.1 n e
 k := fun q xs z => (Ex.laid (μ := μ) hp).k q xs z
 m := fun n q e => by
  have hn : n ≠ h.nx := fun z => by subst z; rw [R.dead (Nat.le_refl _)] at e; cases e
  rw [Mu.put_ne hn]; exact e
 x := fun q o' u e => by rw [upd_ne (ne_of_none e hp)]; exact e
 y := fun q fs e => by rw [upd_ne (ne_of_none e hp)]; exact e
 o := fun q u z e => ⟨z, by rw [upd_ne (ne_of_none e hp)]; exact e⟩
theorem Rel.newCell {p : Addr} {o : HO} {c : Cell} (R : Rel K μ H h) (hp : H p = none) (mo : MutO (some o)) (ck : CellOk K (upd H p o) (μ.put h.nx p) p c) : Rel K (μ.put h.nx p) (upd H p o) (h.new c) where
 inj := fun m n q em en => by
  by_cases hm : m = h.nx
  ·by_cases hn : n = h.nx
   ·rw [hm, hn]
   ·rw [hm, Mu.put_same] at em
    rw [Mu.put_ne hn] at en
    have e : p = q := Option.some.inj em
    subst e
    have := R.trk n _ en
    rw [hp] at this
    exact this.elim
  ·rw [Mu.put_ne hm] at em
   by_cases hn : n = h.nx
   ·rw [hn, Mu.put_same] at en
    have e : p = q := Option.some.inj en
    subst e
    have := R.trk m _ em
    rw [hp] at this
    exact this.elim
   ·rw [Mu.put_ne hn] at en
    exact R.inj m n q em en
 dom := fun n q e => by
  show n < h.nx + 1
  by_cases hn : n = h.nx
  ·omega
  ·rw [Mu.put_ne hn] at e
   have := R.dom n q e
   omega
 trk := fun n q e => by
  by_cases hn : n = h.nx
  ·rw [hn, Mu.put_same] at e
   have e : p = q := Option.some.inj e
   subst e
   rw [upd_same]; exact mo
  ·rw [Mu.put_ne hn] at e
   have := R.trk n q e
   have ne : q ≠ p := fun z => by subst z; rw [hp] at this; exact this
   rw [upd_ne ne]; exact this
 cel := fun n d e => by
  have e : (if n = h.nx then some c else h.c n) = some d := e
  by_cases hn : n = h.nx
  ·rw [if_pos hn] at e
   have e : c = d := Option.some.inj e
   subst e
   exact ⟨p, by rw [hn, Mu.put_same], ck⟩
  ·rw [if_neg hn] at e
   obtain ⟨q, e1, x⟩ := R.cel n d e
   have := R.trk n q e1
   have ne : q ≠ p := fun z => by subst z; rw [hp] at this; exact this
   exact ⟨q, by rw [Mu.put_ne hn]; exact e1, x.ext (Ex.newCell R hp).ext (upd_ne ne)⟩
 hd := fun q z => by
  obtain ⟨⟨xs, e⟩, g⟩ := R.hd q z
  have ne := ne_of_none e hp
  refine ⟨⟨xs, by rw [upd_ne ne]; exact e⟩, fun n en => ?_⟩
  by_cases hn : n = h.nx
  ·rw [hn, Mu.put_same] at en
   exact ne (Option.some.inj en).symm
  ·rw [Mu.put_ne hn] at en
   exact g n en
theorem Rd.kept {p q : Addr} {o u : HO} (mo : MutO (H p)) (r : Rd H q u) (hn : q ≠ p) : Rd (upd H p o) q u := by
 unfold Rd
 rw [upd_ne hn]
 exact r
theorem Ex.write {n : Nat} {p : Addr} {o : HO} (R : Rel K μ H h) (hn : μ.f n = some p) : Ex K H μ (upd H p o) μ where
 t := fun q xs z => by
  rcases z with z | z
  ·refine .inl (z.kept (R.trk n p hn) fun e => ?_)
   subst e
   have := R.trk n q hn
   rcases z with r | ⟨_, r⟩ <;> rw [r] at this <;> exact this
  ·exact .inr z
 l := fun q xs z => ⟨by rw [upd_ne (fun e => z.2.1 n (by rw [e]; exact hn))]; exact z.1, z.2⟩
 k := fun q xs z => by
  rcases z with ⟨o', z⟩ | z
  ·refine .inl ⟨o', ?_⟩
   rw [upd_ne (fun e => ?_)]
   ·exact z
   ·subst e
    have := R.trk n q hn
    rw [z] at this
    exact this
  ·exact .inr z
 m := fun _ _ e => e
 x := fun q o' u e => by
  rw [upd_ne (fun y => ?_)]
  ·exact e
  ·subst y
   have := R.trk n q hn
   rw [e] at this
   exact this
 y := fun q fs e => by
  rw [upd_ne (fun y => ?_)]
  ·exact e
  ·subst y
   have := R.trk n q hn
   rw [e] at this
   exact this
 o := fun q u z e => ⟨z, by rw [upd_ne (fun y => (R.hd q z).2 n (by rw [y]; exact hn))]; exact e⟩
theorem Rel.write {n : Nat} {p : Addr} {o : HO} {c : Cell} (R : Rel K μ H h) (hn : μ.f n = some p) (mo : MutO (some o)) (ck : CellOk K (upd H p o) μ p c) : Rel K μ (upd H p o) (h.set n c) where
 inj := R.inj
 dom := R.dom
 trk := fun m q e => by
  by_cases z : q = p
  ·subst z; rw [upd_same]; exact mo
  ·rw [upd_ne z]; exact R.trk m q e
 cel := fun m d e => by
  have e : (if m = n then some c else h.c m) = some d := e
  by_cases hm : m = n
  ·rw [if_pos hm] at e
   have e : c = d := Option.some.inj e
   subst e
   exact ⟨p, by rw [hm]; exact hn, ck⟩
  ·rw [if_neg hm] at e
   obtain ⟨q, e1, x⟩ := R.cel m d e
   have ne : q ≠ p := fun z => by subst z; exact hm (R.inj m n q e1 hn)
   exact ⟨q, e1, x.ext (Ex.write R hn).ext (upd_ne ne)⟩
 hd := fun q z => by
  obtain ⟨⟨xs, e⟩, g⟩ := R.hd q z
  exact ⟨⟨xs, by rw [upd_ne (fun y => g n (by rw [y]; exact hn))]; exact e⟩, g⟩

mutual
def Lo (k : Nat) : W → Prop
 | .tup ws => Los k ws
 | .lst ws => Los k ws
 | .kls ws => Los k ws
 | .exa _ ws => Los k ws
 | .loc n => n < k
 | _ => True
def Los (k : Nat) : List W → Prop
 | [] => True
 | w :: ws => Lo k w ∧ Los k ws
end
mutual
theorem Rep.lo {k : Nat} (hd : ∀ n p, μ.f n = some p → n < k) : ∀ {w : W} {v : V}, Rep K H μ w v → Lo k w
 | .non, _, _ => by rw [Lo] <;> first | trivial | (intros; contradiction)
 | .bl _, _, _ => by rw [Lo] <;> first | trivial | (intros; contradiction)
 | .int _, _, _ => by rw [Lo] <;> first | trivial | (intros; contradiction)
 | .str _, _, _ => by rw [Lo] <;> first | trivial | (intros; contradiction)
 | .ty _, _, _ => by rw [Lo] <;> first | trivial | (intros; contradiction)
 | .exc _, _, _ => by rw [Lo] <;> first | trivial | (intros; contradiction)
 | .fnv _ _, _, _ => by rw [Lo] <;> first | trivial | (intros; contradiction)
 | .exa _ ws, _, h => by
  rw [Rep] at h
  obtain ⟨_, _, _, _, _, _, _, _, _, _, _, _, hr⟩ := h
  rw [Lo]
  exact Reps.lo hd hr
 | .tup ws, _, h => by
  rw [Rep] at h
  obtain ⟨p, xs, _, _, hr⟩ := h
  rw [Lo]
  exact Reps.lo hd hr
 | .lst ws, _, h => by
  rw [Rep] at h
  obtain ⟨p, xs, _, _, hr⟩ := h
  rw [Lo]
  exact Reps.lo hd hr
 | .kls ws, _, h => by
  rw [Rep] at h
  obtain ⟨p, xs, _, _, hr⟩ := h
  rw [Lo]
  exact Reps.lo hd hr
 | .loc n, _, h => by
  rw [Rep] at h
  obtain ⟨p, _, hm⟩ := h
  rw [Lo]
  exact hd n p hm
theorem Reps.lo {k : Nat} (hd : ∀ n p, μ.f n = some p → n < k) : ∀ {ws : List W} {xs : List V}, Reps K H μ ws xs → Los k ws
 | [], _, _ => by rw [Los]; trivial
 | w :: ws, _, h => by
  rw [Reps] at h
  obtain ⟨v, vs, _, r, h⟩ := h
  rw [Los]
  exact ⟨Rep.lo hd r, Reps.lo hd h⟩
end
def Mu.cut (μ : Mu) (k : Nat) : Mu := ⟨fun n => if n < k then μ.f n else none, μ.hid⟩
theorem Mu.cut_some {k n : Nat} {p : Addr} (e : (μ.cut k).f n = some p) : n < k ∧ μ.f n = some p := by
 have e : (if n < k then μ.f n else none) = some p := e
 by_cases hn : n < k
 ·rw [if_pos hn] at e; exact ⟨hn, e⟩
 ·rw [if_neg hn] at e; cases e
mutual
theorem Rep.cut {k : Nat} : ∀ {w : W} {v : V}, Rep K H μ w v → Lo k w → Rep K H (μ.cut k) w v
 | .non, _, h, _ => by rw [Rep] at h ⊢; exact h
 | .bl _, _, h, _ => by rw [Rep] at h ⊢; exact h
 | .int _, _, h, _ => by rw [Rep] at h ⊢; exact h
 | .str _, _, h, _ => by rw [Rep] at h ⊢; exact h
 | .ty _, _, h, _ => by rw [Rep] at h ⊢; exact h
 | .exc _, _, h, _ => by rw [Rep] at h ⊢; exact h
 | .fnv _ _, _, h, _ => by rw [Rep] at h ⊢; exact h
 | .exa _ ws, _, h, l => by
  rw [Rep] at h ⊢
  rw [Lo] at l
  obtain ⟨p, o, u, dd, ns, xs, e1, hm, hx, hd, e2, e3, hr⟩ := h
  exact ⟨p, o, u, dd, ns, xs, e1, hm, hx, hd, e2, e3, Reps.cut hr l⟩
 | .tup ws, _, h, l => by
  rw [Rep] at h ⊢
  rw [Lo] at l
  obtain ⟨p, xs, e1, hs, hr⟩ := h
  exact ⟨p, xs, e1, hs, Reps.cut hr l⟩
 | .lst ws, _, h, l => by
  rw [Rep] at h ⊢
  rw [Lo] at l
  obtain ⟨p, xs, e1, hs, hr⟩ := h
  exact ⟨p, xs, e1, ⟨hs.1, fun n e => hs.2.1 n (Mu.cut_some e).2, hs.2.2⟩, Reps.cut hr l⟩
 | .kls ws, _, h, l => by
  rw [Rep] at h ⊢
  rw [Lo] at l
  obtain ⟨p, xs, e1, hs, hr⟩ := h
  exact ⟨p, xs, e1, hs, Reps.cut hr l⟩
 | .loc n, _, h, l => by
  rw [Rep] at h ⊢
  rw [Lo] at l
  obtain ⟨p, e1, hm⟩ := h
  refine ⟨p, e1, ?_⟩
  show (if n < k then μ.f n else none) = some p
  rw [if_pos l]
  exact hm
theorem Reps.cut {k : Nat} : ∀ {ws : List W} {xs : List V}, Reps K H μ ws xs → Los k ws → Reps K H (μ.cut k) ws xs
 | [], _, h, _ => by rw [Reps] at h ⊢; exact h
 | w :: ws, _, h, l => by
  rw [Reps] at h ⊢
  rw [Los] at l
  obtain ⟨v, vs, e1, r, h⟩ := h
  exact ⟨v, vs, e1, Rep.cut r l.1, Reps.cut h l.2⟩
end
end
end L2
namespace L2
open PySem PySem.Spec PyProof.Rows
section
variable {K : PySem.W.Frag} {H H' H1 H2 : Hp} {μ μ' μ1 μ2 : Mu} {h h' : Gh} {w : W} {ws : List W} {v : V} {xs ys : List V} {p : Addr}
def Mu.hide (μ : Mu) (p : Addr) : Mu := ⟨μ.f, fun q => q = p ∨ μ.hid q⟩
def Mu.unhide (μ : Mu) (p : Addr) : Mu := ⟨μ.f, fun q => q ≠ p ∧ μ.hid q⟩
structure ExtX (p : Addr) (K : PySem.W.Frag) (H : Hp) (μ : Mu) (H' : Hp) (μ' : Mu) : Prop where
 r : ∀ w v, Rep K H μ w v → Rep K H' μ' w v
 o : ∀ q u, q ≠ p → μ.hid q → H q = some u → μ'.hid q ∧ H' q = some u
theorem Ext.x (a : Ext K H μ H1 μ1) (hp : ¬ μ.hid p) (b : ExtX p K H1 μ1 H2 μ2) : Ext K H μ H2 μ2 :=
 ⟨fun w v z => b.r w v (a.r w v z), fun q u z e => let ⟨z1, e1⟩ := a.o q u z e; b.o q u (fun y => hp (by rw [← y]; exact z)) z1 e1⟩
theorem Ext.hide {o : HO} (hp : H p = none) : Ext K H μ (upd H p o) (μ.hide p) := Ex.ext {
 t := fun q xs z => (Ex.laid (μ := μ) hp).t q xs z
 l := fun q xs z => by
  have nq := ne_of_none z.1 hp
  refine ⟨by rw [upd_ne nq]; exact z.1, z.2.1, fun y => ?_⟩
  rcases y with y | y
  ·exact nq y
  ·exact z.2.2 y
 k := fun q xs z => (Ex.laid (μ := μ) hp).k q xs z
 m := fun _ _ e => e
 x := fun q o' u e => by rw [upd_ne (ne_of_none e hp)]; exact e
 y := fun q fs e => by rw [upd_ne (ne_of_none e hp)]; exact e
 o := fun q u z e => ⟨.inr z, by rw [upd_ne (ne_of_none e hp)]; exact e⟩ }
theorem Rel.nohid (R : Rel K μ H h) (hp : H p = none) : ¬ μ.hid p := fun z => by
 obtain ⟨⟨xs, e⟩, _⟩ := R.hd p z
 rw [hp] at e; cases e
theorem Rel.hide (R : Rel K μ H h) (hp : H p = none) : Rel K (μ.hide p) (upd H p (.lst xs)) h where
 inj := R.inj
 dom := R.dom
 trk := (R.laid hp).trk
 cel := fun n c e => by
  obtain ⟨q, e1, x⟩ := R.cel n c e
  have := R.trk n q e1
  have ne : q ≠ p := fun z => by subst z; rw [hp] at this; exact this
  exact ⟨q, e1, x.ext (Ext.hide hp) (upd_ne ne)⟩
 hd := fun q z => by
  rcases z with z | z
  ·subst z
   refine ⟨⟨xs, upd_same⟩, fun n e => ?_⟩
   have := R.trk n q e
   rw [hp] at this
   exact this
  ·exact (R.laid (o := .lst xs) hp).hd q z
theorem Ex0.grow (R : Rel K μ H h) (hp : μ.hid p) : Ex0 K H μ (upd H p (.lst ys)) μ where
 t := fun q xs z => by
  rcases z with z | z
  ·refine .inl ?_
   unfold Rd
   rw [upd_ne (fun y => ?_)]
   ·exact z
   ·subst y
    obtain ⟨⟨xs', e⟩, _⟩ := R.hd q hp
    rcases z with r | ⟨_, r⟩ <;> rw [e] at r <;> cases r
  ·exact .inr z
 l := fun q xs z => ⟨by rw [upd_ne (fun y => z.2.2 (by rw [y]; exact hp))]; exact z.1, z.2⟩
 k := fun q xs z => by
  rcases z with ⟨o', z⟩ | z
  ·refine .inl ⟨o', ?_⟩
   rw [upd_ne (fun y => ?_)]
   ·exact z
   ·subst y
    obtain ⟨⟨xs', e⟩, _⟩ := R.hd q hp
    rw [e] at z
    cases z
  ·exact .inr z
 m := fun _ _ e => e
 x := fun q o' u e => by
  rw [upd_ne (fun y => ?_)]
  ·exact e
  ·subst y
   obtain ⟨⟨xs', e'⟩, _⟩ := R.hd q hp
   rw [e'] at e
   cases e
 y := fun q fs e => by
  rw [upd_ne (fun y => ?_)]
  ·exact e
  ·subst y
   obtain ⟨⟨xs', e'⟩, _⟩ := R.hd q hp
   rw [e'] at e
   cases e
theorem ExtX.grow (R : Rel K μ H h) (hp : μ.hid p) : ExtX p K H μ (upd H p (.lst ys)) μ :=
 ⟨fun _ _ z => Rep.ex (Ex0.grow R hp) z, fun q u ne z e => ⟨z, by rw [upd_ne ne]; exact e⟩⟩
theorem Rel.grow (R : Rel K μ H h) (hp : μ.hid p) : Rel K μ (upd H p (.lst ys)) h where
 inj := R.inj
 dom := R.dom
 trk := fun n q e => by
  have ne : q ≠ p := fun z => (R.hd p hp).2 n (by rw [← z]; exact e)
  rw [upd_ne ne]; exact R.trk n q e
 cel := fun n c e => by
  obtain ⟨q, e1, x⟩ := R.cel n c e
  have ne : q ≠ p := fun z => (R.hd p hp).2 n (by rw [← z]; exact e1)
  refine ⟨q, e1, ?_⟩
  cases c with
  | lst ws => obtain ⟨xs, a, b⟩ := x; exact ⟨xs, (upd_ne ne).trans a, Reps.ex (Ex0.grow R hp) b⟩
  | obj C fs => obtain ⟨dx, fvs, a, b⟩ := x; exact ⟨dx, fvs, (upd_ne ne).trans a, Paired.mapP b fun _ _ z => ⟨z.1, Rep.ex (Ex0.grow R hp) z.2⟩⟩
  | dct kvs => obtain ⟨kvv, a, b⟩ := x; exact ⟨kvv, (upd_ne ne).trans a, Paired.mapP b fun _ _ z => ⟨z.1, Rep.ex (Ex0.grow R hp) z.2⟩⟩
  | dtt kvs => obtain ⟨xs, vs, a, b, c, d, f⟩ := x; exact ⟨xs, vs, (upd_ne ne).trans a, b, c, Reps.ex (Ex0.grow R hp) d, Reps.ex (Ex0.grow R hp) f⟩
 hd := fun q z => by
  by_cases e : q = p
  ·subst e; exact ⟨⟨ys, upd_same⟩, (R.hd q hp).2⟩
  ·rw [upd_ne e]; exact R.hd q z
theorem Ex0.unhide : Ex0 K H μ H (μ.unhide p) where
 t := fun _ _ z => z
 l := fun q xs z => ⟨z.1, z.2.1, fun y => z.2.2 y.2⟩
 k := fun _ _ z => z
 m := fun _ _ e => e
 x := fun _ _ _ e => e
 y := fun _ _ e => e
theorem ExtX.unhide : ExtX p K H μ H (μ.unhide p) := ⟨fun _ _ z => Rep.ex Ex0.unhide z, fun q u ne z e => ⟨⟨ne, z⟩, e⟩⟩
theorem Rel.unhide (R : Rel K μ H h) : Rel K (μ.unhide p) H h where
 inj := R.inj
 dom := R.dom
 trk := R.trk
 cel := fun n c e => by
  obtain ⟨q, e1, x⟩ := R.cel n c e
  refine ⟨q, e1, ?_⟩
  cases c with
  | lst ws => obtain ⟨xs, a, b⟩ := x; exact ⟨xs, a, Reps.ex Ex0.unhide b⟩
  | obj C fs => obtain ⟨dx, fvs, a, b⟩ := x; exact ⟨dx, fvs, a, Paired.mapP b fun _ _ z => ⟨z.1, Rep.ex Ex0.unhide z.2⟩⟩
  | dct kvs => obtain ⟨kvv, a, b⟩ := x; exact ⟨kvv, a, Paired.mapP b fun _ _ z => ⟨z.1, Rep.ex Ex0.unhide z.2⟩⟩
  | dtt kvs => obtain ⟨xs, vs, a, b, c, d, f⟩ := x; exact ⟨xs, vs, a, b, c, Reps.ex Ex0.unhide d, Reps.ex Ex0.unhide f⟩
 hd := fun q z => R.hd q z.2
theorem Rep.built (R : Rel K μ H h) (hp : μ.hid p) (e : H p = some (.lst xs)) (r : Reps K H μ ws xs) : Rep K H (μ.unhide p) (.lst ws) (.ref p) := by
 rw [Rep]
 exact ⟨p, xs, rfl, ⟨e, (R.hd p hp).2, fun z => z.1 rfl⟩, Reps.ex Ex0.unhide r⟩
end

abbrev Sw := List (Option W)
abbrev WK := W → Gh → Prop
abbrev ME := Sw → Gh → WK → Prop
abbrev MT := Sw → Gh → (Bool → Gh → Prop) → Prop
abbrev MA := Sw → Gh → (List W → Gh → Prop) → Prop
structure MEnds where
 nx : Sw → Gh → Prop
 rt : WK
 bk : Sw → Gh → Prop := fun _ _ => False
 ct : Sw → Gh → Prop := fun _ _ => False
abbrev MS := MEnds → Sw → Gh → Prop
abbrev MG := W → Sw → Gh → (Sw → Gh → Prop) → Prop
abbrev MGs := List W → Sw → Gh → (Sw → Gh → Prop) → Prop
structure Xw where
 cls : Str
 fs : List (Str × W)
abbrev XWK := Xw → Gh → Prop
abbrev MSp := List W → Gh → WK → XWK → Prop
def EF : XWK := fun _ _ => False

structure Slots (K : PySem.W.Frag) (H : Hp) (μ : Mu) (σw : Sw) (σ : St) : Prop where
 len : σw.length = σ.length
 get : ∀ (i : Nat) (w : W), σw[i]? = some (some w) → ∃ v, σ[i]? = some (some v) ∧ Rep K H μ w v
def DQ (K : PySem.W.Frag) (H : Hp) (μ : Mu) (Q : WK) : VK := fun v H' => ∃ μ' w h', Ext K H μ H' μ' ∧ Rel K μ' H' h' ∧ Rep K H' μ' w v ∧ Q w h'
def DB (K : PySem.W.Frag) (H : Hp) (μ : Mu) (Q : Bool → Gh → Prop) : Bool → Hp → Prop := fun b H' => ∃ μ' h', Ext K H μ H' μ' ∧ Rel K μ' H' h' ∧ Q b h'
def DA (K : PySem.W.Frag) (H : Hp) (μ : Mu) (Q : List W → Gh → Prop) : List V → Hp → Prop := fun vs H' => ∃ μ' ws h', Ext K H μ H' μ' ∧ Rel K μ' H' h' ∧ Reps K H' μ' ws vs ∧ Q ws h'
def DN (K : PySem.W.Frag) (H : Hp) (μ : Mu) (N : Sw → Gh → Prop) : St → Hp → Prop := fun σ' H' => ∃ μ' σw' h', Ext K H μ H' μ' ∧ Rel K μ' H' h' ∧ Slots K H' μ' σw' σ' ∧ N σw' h'
section
variable {K : PySem.W.Frag} {H H' H1 H2 : Hp} {μ μ' μ1 μ2 : Mu} {h h' h1 : Gh} {w : W} {v : V} {σ : St} {σw : Sw}
theorem Slots.ext (S : Slots K H μ σw σ) (e : Ext K H μ H' μ') : Slots K H' μ' σw σ := ⟨S.len, fun i w q => let ⟨v, a, b⟩ := S.get i w q; ⟨v, a, e.r _ _ b⟩⟩
theorem Slots.set (S : Slots K H μ σw σ) (r : Rep K H μ w v) (i : Nat) : Slots K H μ (σw.set i (some w)) (σ.set i (some v)) := by
 refine ⟨by rw [List.length_set, List.length_set, S.len], fun j u q => ?_⟩
 rw [List.getElem?_set] at q ⊢
 by_cases hij : i = j
 ·rw [if_pos hij] at q ⊢
  by_cases hl : i < σw.length
  ·rw [if_pos hl] at q
   rw [if_pos (by rw [← S.len]; exact hl)]
   have e : w = u := by injection q with q; injection q
   subst e
   exact ⟨v, rfl, r⟩
  ·rw [if_neg hl] at q; cases q
 ·rw [if_neg hij] at q ⊢
  exact S.get j u q
theorem DQ.trans {Q : WK} (e : Ext K H μ H1 μ1) (q : DQ K H1 μ1 Q v H') : DQ K H μ Q v H' := let ⟨μ', w, h', a, b⟩ := q; ⟨μ', w, h', e.trans a, b⟩
theorem DB.trans {Q : Bool → Gh → Prop} {b : Bool} (e : Ext K H μ H1 μ1) (q : DB K H1 μ1 Q b H') : DB K H μ Q b H' := let ⟨μ', h', a, b⟩ := q; ⟨μ', h', e.trans a, b⟩
theorem DN.trans {N : Sw → Gh → Prop} {σ' : St} (e : Ext K H μ H1 μ1) (q : DN K H1 μ1 N σ' H') : DN K H μ N σ' H' := let ⟨μ', w, h', a, b⟩ := q; ⟨μ', w, h', e.trans a, b⟩
end
def tD (K : PySem.W.Frag) (m : ME) : TE := fun σ H Q => ∃ μ h σw Qw, Rel K μ H h ∧ Slots K H μ σw σ ∧ m σw h Qw ∧ ∀ v H', DQ K H μ Qw v H' → Q v H'
def tDT (K : PySem.W.Frag) (m : MT) : TT := fun σ H Q => ∃ μ h σw Qw, Rel K μ H h ∧ Slots K H μ σw σ ∧ m σw h Qw ∧ ∀ b H', DB K H μ Qw b H' → Q b H'
def tDA (K : PySem.W.Frag) (m : MA) : TA := fun σ H Q => ∃ μ h σw Qw, Rel K μ H h ∧ Slots K H μ σw σ ∧ m σw h Qw ∧ ∀ vs H', DA K H μ Qw vs H' → Q vs H'
def tDG (K : PySem.W.Frag) (g : MG) : TG := fun v σ H N => ∃ μ h σw w Nw, Rel K μ H h ∧ Slots K H μ σw σ ∧ Rep K H μ w v ∧ g w σw h Nw ∧ ∀ σ' H', DN K H μ Nw σ' H' → N σ' H'
def tDGs (K : PySem.W.Frag) (g : MGs) : TGs := fun vs σ H N => ∃ μ h σw ws Nw, Rel K μ H h ∧ Slots K H μ σw σ ∧ Reps K H μ ws vs ∧ g ws σw h Nw ∧ ∀ σ' H', DN K H μ Nw σ' H' → N σ' H'
structure EndsOk (K : PySem.W.Frag) (H : Hp) (μ : Mu) (Dw : MEnds) (D : Ends) : Prop where
 nx : ∀ σ' H', DN K H μ Dw.nx σ' H' → D.nx σ' H'
 rt : ∀ v H', DQ K H μ Dw.rt v H' → D.rt v H'
 bk : ∀ σ' H', DN K H μ Dw.bk σ' H' → D.bk σ' H'
 ct : ∀ σ' H', DN K H μ Dw.ct σ' H' → D.ct σ' H'
def tDS (K : PySem.W.Frag) (m : MS) : TS := fun D σ H => ∃ μ h σw Dw, Rel K μ H h ∧ Slots K H μ σw σ ∧ m Dw σw h ∧ EndsOk K H μ Dw D
theorem EndsOk.trans {K : PySem.W.Frag} {H H1 : Hp} {μ μ1 : Mu} {Dw : MEnds} {D : Ends} (k : EndsOk K H μ Dw D) (e : Ext K H μ H1 μ1) : EndsOk K H1 μ1 Dw D :=
 ⟨fun _ _ q => k.nx _ _ (q.trans e), fun _ _ q => k.rt _ _ (q.trans e), fun _ _ q => k.bk _ _ (q.trans e), fun _ _ q => k.ct _ _ (q.trans e)⟩
section
variable {X : Cx} {e : Expr} {es : List Expr} {st : Stmt} {sts : List Stmt}
theorem PE.of {t t' : TE} (h : PE X e t) (k : ∀ σ H Q, t' σ H Q → t σ H Q) : PE X e t' := fun pins s σ H Q I q => h pins s σ H Q I (k σ H Q q)
theorem PT.of {t t' : TT} (h : PT X e t) (k : ∀ σ H Q, t' σ H Q → t σ H Q) : PT X e t' := fun pins s σ H Q I q => h pins s σ H Q I (k σ H Q q)
theorem PW.of {t t' : TT} (h : PW X e t) (k : ∀ σ H Q, t' σ H Q → t σ H Q) : PW X e t' := fun wh pins s σ H Q I q => h wh pins s σ H Q I (k σ H Q q)
theorem PA.of {t t' : TA} (h : PA X es t) (k : ∀ σ H Q, t' σ H Q → t σ H Q) : PA X es t' := fun pos pins s σ H Q I q => h pos pins s σ H Q I (k σ H Q q)
theorem PG.of {t t' : TG} (h : PG X e t) (k : ∀ v σ H Q, t' v σ H Q → t v σ H Q) : PG X e t' := fun pins s σ H v u Q I r q => h pins s σ H v u Q I r (k v σ H Q q)
theorem PGs.of {t t' : TGs} (h : PGs X es t) (k : ∀ v σ H Q, t' v σ H Q → t v σ H Q) : PGs X es t' := fun pins s σ H v u Q I r q => h pins s σ H v u Q I r (k v σ H Q q)
theorem PS.of {t t' : TS} (h : PS X st t) (k : ∀ D σ H, t' D σ H → t D σ H) : PS X st t' := fun pins s σ H D I q => h pins s σ H D I (k D σ H q)
theorem PSs.of {t t' : TS} (h : PSs X sts t) (k : ∀ D σ H, t' D σ H → t D σ H) : PSs X sts t' := fun pins s σ H D I q => h pins s σ H D I (k D σ H q)
end
abbrev DE (X : Cx) (e : Expr) (m : ME) : Prop := PE X e (tD X.K m)
abbrev DT (X : Cx) (e : Expr) (m : MT) : Prop := PT X e (tDT X.K m)
abbrev DWt (X : Cx) (e : Expr) (m : MT) : Prop := PW X e (tDT X.K m)
abbrev DAs (X : Cx) (es : List Expr) (m : MA) : Prop := PA X es (tDA X.K m)
abbrev DG (X : Cx) (e : Expr) (m : MG) : Prop := PG X e (tDG X.K m)
abbrev DGss (X : Cx) (es : List Expr) (m : MGs) : Prop := PGs X es (tDGs X.K m)
abbrev DS (X : Cx) (st : Stmt) (m : MS) : Prop := PS X st (tDS X.K m)
abbrev DSs (X : Cx) (st : List Stmt) (m : MS) : Prop := PSs X st (tDS X.K m)

section
variable {X : Cx} {e a b c : Expr} {ma mb mc : ME} {pos : Pos}
def mVar (i : Nat) : ME := fun σ h Q => match σ[i]? with
 | some (some w) => Q w h
 | _ => False
def mC (w : W) : ME := fun _ h Q => Q w h
theorem dv (i : Nat) (he : PE X e (tVar i)) : DE X e (mVar i) := he.of fun σ H Q ⟨μ, h, σw, Qw, R, S, m, k⟩ => by
 unfold mVar at m
 cases q : σw[i]? with
 | none => rw [q] at m; exact m.elim
 | some o =>
  rw [q] at m
  cases o with
  | none => exact m.elim
  | some w =>
   obtain ⟨v, h1, h2⟩ := S.get i w q
   exact ⟨v, h1, k _ _ ⟨μ, w, h, .refl, R, h2, m⟩⟩
theorem dc {w : W} {v : V} (he : PE X e (tC v)) (r : ∀ H μ, Rep X.K H μ w v) : DE X e (mC w) := he.of fun σ H Q ⟨μ, h, σw, Qw, R, S, m, k⟩ => k _ _ ⟨μ, w, h, .refl, R, r H μ, m⟩
theorem d_int {i : Int} {j pos} : DE X (.Constant (.int i) j pos) (mC (.int i)) := dc pe_int fun _ _ => by rw [Rep]
theorem d_bl {i : Bool} {j pos} : DE X (.Constant (.bool i) j pos) (mC (.bl i)) := dc pe_bl fun _ _ => by rw [Rep]
theorem d_str {i : Str} {j pos} : DE X (.Constant (.str i) j pos) (mC (.str i)) := dc pe_str fun _ _ => by rw [Rep]

abbrev M2 := W → W → Gh → WK → Prop
def mOp (r : M2) (ma mb : ME) : ME := fun σ h Q => ma σ h fun x h1 => mb σ h1 fun y h2 => r x y h2 Q
def Sim2 (K : PySem.W.Frag) (r : R2) (mr : M2) : Prop := ∀ {H : Hp} {μ : Mu} {h : Gh} {x y : V} {wx wy : W} {Qw : WK} {Q : VK}, Rel K μ H h → Rep K H μ wx x → Rep K H μ wy y → mr wx wy h Qw →
 (∀ v H', DQ K H μ Qw v H' → Q v H') → r x y H Q
theorem two {K : PySem.W.Frag} {σ : St} {H : Hp} {Q : VK} {mr : M2} {R2' : V → V → Hp → Prop} (h : tD K (mOp mr ma mb) σ H Q)
  (k : ∀ {H2 : Hp} {μ2 : Mu} {h2 : Gh} {x y : V} {wx wy : W} {Qw : WK}, Rel K μ2 H2 h2 → Rep K H2 μ2 wx x → Rep K H2 μ2 wy y → mr wx wy h2 Qw → (∀ v H', DQ K H2 μ2 Qw v H' → Q v H') → R2' x y H2) :
  tD K ma σ H fun x H1 => tD K mb σ H1 fun y H2 => R2' x y H2 := by
 obtain ⟨μ, g, σw, Qw, R, S, m, q⟩ := h
 refine ⟨μ, g, σw, _, R, S, m, fun x H1 ⟨μ1, wx, h1, e1, R1, r1, m1⟩ => ?_⟩
 refine ⟨μ1, h1, σw, _, R1, S.ext e1, m1, fun y H2 ⟨μ2, wy, h2, e2, R2, r2, m2⟩ => ?_⟩
 exact k R2 (e2.r _ _ r1) r2 m2 fun v H' z => q _ _ ((z.trans e2).trans e1)
def DOp (X : Cx) (f : Value → Value → Sem Value) (mr : M2) : Prop := ∃ r, OpR X f r ∧ Sim2 X.K r mr
theorem d_op {op : Operator} {mr : M2} (ho : DOp X (binaryOp op) mr) (ha : DE X a ma) (hb : DE X b mb) : DE X (.BinOp a op b pos) (mOp mr ma mb) := by
 obtain ⟨r, o, s⟩ := ho
 exact (pe_op o ha hb).of fun σ H Q h => two h fun R r1 r2 m k => s R r1 r2 m k
theorem d_cmp {op : CmpOp} {mr : M2} (ho : DOp X (compareOp op) mr) (ha : DE X a ma) (hb : DE X b mb) (hm : behindInMarks op b = false) : DE X (.Compare a [op] [b] pos) (mOp mr ma mb) := by
 obtain ⟨r, o, s⟩ := ho
 exact (pe_cmpR o ha hb hm).of fun σ H Q h => two h fun R r1 r2 m k => s R r1 r2 m k
def mTest (m : ME) : MT := fun σ h Q => m σ h fun w h1 => match w with
 | .bl c => Q c h1
 | _ => False
theorem test_of {K : PySem.W.Frag} {σ : St} {H : Hp} {m : ME} {Q : Bool → Hp → Prop} (h : tDT K (mTest m) σ H Q) : tD K m σ H fun x H' => ∃ k, x = .bl k ∧ Q k H' := by
 obtain ⟨μ, g, σw, Qw, R, S, mm, q⟩ := h
 refine ⟨μ, g, σw, _, R, S, mm, fun v H' ⟨μ1, w, h1, e1, R1, r1, m1⟩ => ?_⟩
 cases w with
 | bl c => rw [Rep] at r1; exact ⟨c, r1, q _ _ ⟨μ1, h1, e1, R1, m1⟩⟩
 | _ => exact m1.elim
theorem dt_cmp {op : CmpOp} {mr : M2} (ho : DOp X (compareOp op) mr) (ha : DE X a ma) (hb : DE X b mb) (hm : behindInMarks op b = false) : DT X (.Compare a [op] [b] pos) (mTest (mOp mr ma mb)) := by
 obtain ⟨r, o, s⟩ := ho
 exact (pt_cmpR o ha hb hm).of fun σ H Q h => two (test_of h) fun R r1 r2 m k => s R r1 r2 m k
def by2 (c : Bool) (a b : Prop) : Prop := match c with
 | true => a
 | false => b
def br (c : Bool) (a b : Prop) : Prop := (c = true → a) ∧ (c = false → b)
theorem br_t {c : Bool} {a b : Prop} (e : c = true) (x : a) : br c a b := ⟨fun _ => x, fun z => by rw [e] at z; cases z⟩
theorem br_f {c : Bool} {a b : Prop} (e : c = false) (x : b) : br c a b := ⟨fun z => (by rw [e] at z; cases z), fun _ => x⟩
theorem br_d {c : Prop} [Decidable c] {a b : Prop} (x : c → a) (y : ¬ c → b) : br (decide c) a b := ⟨fun e => x (of_decide_eq_true e), fun e => y (of_decide_eq_false e)⟩
def mAnd (t u : MT) : MT := fun σ h Q => t σ h fun c h1 => br c (u σ h1 Q) (Q false h1)
def mOr (t u : MT) : MT := fun σ h Q => t σ h fun c h1 => br c (Q true h1) (u σ h1 Q)
def mNot (t : MT) : MT := fun σ h Q => t σ h fun c h1 => Q (!c) h1
variable {tA tB' : MT} {rest : List Expr}
theorem dw_and1 (ha : DT X a tA) : DWt X (.BoolOp .And [a] pos) tA := pw_and1 ha
theorem dw_or1 (ha : DT X a tA) : DWt X (.BoolOp .Or [a] pos) tA := pw_or1 ha
theorem dw_and (ha : DT X a tA) (hb : DWt X (.BoolOp .And (b :: rest) pos) tB') : DWt X (.BoolOp .And (a :: b :: rest) pos) (mAnd tA tB') := (pw_and ha hb).of fun σ H Q ⟨μ, g, σw, Qw, R, S, m, q⟩ => by
 refine ⟨μ, g, σw, _, R, S, m, fun c H1 ⟨μ1, h1, e1, R1, m1⟩ => ?_⟩
 cases c with
 | true =>
  rw [if_pos rfl]
  exact ⟨μ1, h1, σw, _, R1, S.ext e1, m1.1 rfl, fun b H' z => q _ _ (z.trans e1)⟩
 | false =>
  rw [if_neg Bool.false_ne_true]
  exact q _ _ ⟨μ1, h1, e1, R1, m1.2 rfl⟩
theorem dw_or (ha : DT X a tA) (hb : DWt X (.BoolOp .Or (b :: rest) pos) tB') : DWt X (.BoolOp .Or (a :: b :: rest) pos) (mOr tA tB') := (pw_or ha hb).of fun σ H Q ⟨μ, g, σw, Qw, R, S, m, q⟩ => by
 refine ⟨μ, g, σw, _, R, S, m, fun c H1 ⟨μ1, h1, e1, R1, m1⟩ => ?_⟩
 cases c with
 | true =>
  rw [if_pos rfl]
  exact q _ _ ⟨μ1, h1, e1, R1, m1.1 rfl⟩
 | false =>
  rw [if_neg Bool.false_ne_true]
  exact ⟨μ1, h1, σw, _, R1, S.ext e1, m1.2 rfl, fun b H' z => q _ _ (z.trans e1)⟩
theorem dt_not (ha : DT X a tA) : DT X (.UnaryOp .Not a pos) (mNot tA) := (pt_not ha).of fun σ H Q ⟨μ, g, σw, Qw, R, S, m, q⟩ =>
 ⟨μ, g, σw, _, R, S, m, fun c H1 ⟨μ1, h1, e1, R1, m1⟩ => q _ _ ⟨μ1, h1, e1, R1, m1⟩⟩
def mAndV (a b : ME) : ME := fun σ h Q => a σ h fun x h1 => match x with
 | .bl true => b σ h1 Q
 | .bl false => Q (.bl false) h1
 | _ => False
def mOrV (a b : ME) : ME := fun σ h Q => a σ h fun x h1 => match x with
 | .bl false => b σ h1 Q
 | .bl true => Q (.bl true) h1
 | _ => False
def mNotV (a : ME) : ME := fun σ h Q => a σ h fun x h1 => match x with
 | .bl c => Q (.bl (!c)) h1
 | _ => False
theorem d_one {op} (h : DE X a ma) : DE X (.BoolOp op [a] pos) ma := pe_one h
theorem d_and (ha : DE X a ma) (hb : DE X (.BoolOp .And (b :: rest) pos) mb) : DE X (.BoolOp .And (a :: b :: rest) pos) (mAndV ma mb) := (pe_and ha hb).of fun σ H Q ⟨μ, g, σw, Qw, R, S, m, q⟩ => by
 refine ⟨μ, g, σw, _, R, S, m, fun v H1 ⟨μ1, w, h1, e1, R1, r1, m1⟩ => ?_⟩
 cases w with
 | bl c =>
  rw [Rep] at r1
  refine ⟨c, r1, ?_⟩
  cases c with
  | true => rw [if_pos rfl]; exact ⟨μ1, h1, σw, _, R1, S.ext e1, m1, fun b H' z => q _ _ (z.trans e1)⟩
  | false => rw [if_neg Bool.false_ne_true]; exact q _ _ ⟨μ1, .bl false, h1, e1, R1, by rw [Rep], m1⟩
 | _ => exact m1.elim
theorem d_not (ha : DE X a ma) : DE X (.UnaryOp .Not a pos) (mNotV ma) := (pe_not ha).of fun σ H Q ⟨μ, g, σw, Qw, R, S, m, q⟩ => by
 refine ⟨μ, g, σw, _, R, S, m, fun v H1 ⟨μ1, w, h1, e1, R1, r1, m1⟩ => ?_⟩
 cases w with
 | bl c => rw [Rep] at r1; exact ⟨c, r1, q _ _ ⟨μ1, .bl (!c), h1, e1, R1, by rw [Rep], m1⟩⟩
 | _ => exact m1.elim
def mIf (t : MT) (a b : ME) : ME := fun σ h Q => t σ h fun c h1 => br c (a σ h1 Q) (b σ h1 Q)
def mUn (r : W → Gh → WK → Prop) (a : ME) : ME := fun σ h Q => a σ h fun x h1 => r x h1 Q
def mNeg : W → Gh → WK → Prop := fun x h Q => match x with
 | .int i => Q (.int (-i)) h
 | _ => False
theorem d_neg (ha : DE X a ma) : DE X (.UnaryOp .USub a pos) (mUn mNeg ma) := (pe_un un_neg ha).of fun σ H Q ⟨μ, g, σw, Qw, R, S, m, q⟩ => by
 refine ⟨μ, g, σw, _, R, S, m, fun v H1 ⟨μ1, w, h1, e1, R1, r1, m1⟩ => ?_⟩
 cases w with
 | int i => rw [Rep] at r1; exact ⟨i, r1, q _ _ ⟨μ1, .int (-i), h1, e1, R1, by rw [Rep], m1⟩⟩
 | _ => exact m1.elim

def mNil : MA := fun _ h Q => Q [] h
def mCons (a : ME) (r : MA) : MA := fun σ h Q => a σ h fun x h1 => r σ h1 fun xs h2 => Q (x :: xs) h2
variable {es : List Expr} {mr : MA}
theorem da_nil : DAs X [] mNil := pa_nil.of fun σ H Q ⟨μ, g, σw, Qw, R, S, m, q⟩ => q _ _ ⟨μ, [], g, .refl, R, .nil, m⟩
theorem da_cons (ha : DE X e ma) (hr : DAs X es mr) (hs : starEach (e :: es) X.env = (false, eval e X.env) :: starEach es X.env := by rfl) : DAs X (e :: es) (mCons ma mr) := (pa_cons ha hr hs).of fun σ H Q ⟨μ, g, σw, Qw, R, S, m, q⟩ => by
 refine ⟨μ, g, σw, _, R, S, m, fun v H1 ⟨μ1, w, h1, e1, R1, r1, m1⟩ => ?_⟩
 refine ⟨μ1, h1, σw, _, R1, S.ext e1, m1, fun vs H2 ⟨μ2, ws, h2, e2, R2, r2, m2⟩ => ?_⟩
 exact q _ _ ⟨μ2, w :: ws, h2, e1.trans e2, R2, .cons (e2.r _ _ r1) r2, m2⟩
def szOk (n : Nat) (P : Prop) : Prop := by2 (Nat.ble n 1000) P (n ≤ sizeLine ∧ P)
theorem szOk.ok {n : Nat} {P : Prop} (h : szOk n P) : n ≤ sizeLine ∧ P := by
 unfold szOk at h
 cases e : Nat.ble n 1000 with
 | true => rw [e] at h; exact ⟨Nat.le_trans (Nat.le_of_ble_eq_true e) (by decide), h⟩
 | false => rw [e] at h; exact h
theorem szOk.mk {n : Nat} {P : Prop} (hn : n ≤ sizeLine) (h : P) : szOk n P := by
 unfold szOk
 cases e : Nat.ble n 1000 with
 | true => exact h
 | false => exact ⟨hn, h⟩
def mTup (t : MA) : ME := fun σ h Q => t σ h fun ws h1 => szOk ws.length (Q (.tup ws) h1)
def mLst (t : MA) : ME := fun σ h Q => t σ h fun ws h1 => szOk ws.length (Q (.lst ws) h1)
def mLstM (t : MA) : ME := fun σ h Q => t σ h fun ws h1 => szOk ws.length (Q (.loc h1.nx) (h1.new (.lst ws)))
theorem d_tup {x1} (h : DAs X es mr) : DE X (.Tuple es x1 pos) (mTup mr) := (pe_tup h).of fun σ H Q ⟨μ, g, σw, Qw, R, S, m, q⟩ =>
 ⟨μ, g, σw, _, R, S, m, fun vs H1 ⟨μ1, ws, h1, e1, R1, r1, sz⟩ => ⟨by rw [← r1.len]; exact sz.ok.1, fun p hp => q _ _ ⟨μ1, .tup ws, h1, e1.trans (Ex.laid hp).ext, R1.laid hp, .tupNew hp r1, sz.ok.2⟩⟩⟩
theorem d_lst (h : DAs X es mr) : DE X (.List es pos) (mLst mr) := (pe_lst h).of fun σ H Q ⟨μ, g, σw, Qw, R, S, m, q⟩ =>
 ⟨μ, g, σw, _, R, S, m, fun vs H1 ⟨μ1, ws, h1, e1, R1, r1, sz⟩ => ⟨by rw [← r1.len]; exact sz.ok.1, fun p hp => q _ _ ⟨μ1, .lst ws, h1, e1.trans (Ex.laid hp).ext, R1.laid hp, .lstNew R1 hp r1, sz.ok.2⟩⟩⟩
theorem newLst {K : PySem.W.Frag} {H : Hp} {μ : Mu} {h : Gh} {p : Addr} {ws : List W} {xs : List V} (R : Rel K μ H h) (hp : H p = none) (r : Reps K H μ ws xs) :
  Rel K (μ.put h.nx p) (upd H p (.lst xs)) (h.new (.lst ws)) := R.newCell hp trivial ⟨xs, upd_same, (Ex.newCell R hp).ext.s r⟩
theorem d_lstM (h : DAs X es mr) : DE X (.List es pos) (mLstM mr) := (pe_lst h).of fun σ H Q ⟨μ, g, σw, Qw, R, S, m, q⟩ =>
 ⟨μ, g, σw, _, R, S, m, fun vs H1 ⟨μ1, ws, h1, e1, R1, r1, sz⟩ => ⟨by rw [← r1.len]; exact sz.ok.1, fun p hp => q _ _ ⟨μ1.put h1.nx p, .loc h1.nx, h1.new (.lst ws), e1.trans (Ex.newCell R1 hp).ext, newLst R1 hp r1, by rw [Rep]; exact ⟨p, rfl, Mu.put_same⟩, sz.ok.2⟩⟩⟩

def lift (K : PySem.W.Frag) (ms : MSp) : Sp := fun vs H Q _ => ∃ μ h ws Qw, Rel K μ H h ∧ Reps K H μ ws vs ∧ ms ws h Qw EF ∧ ∀ v H', DQ K H μ Qw v H' → Q v H'
def mCall (ms : MSp) (E : XWK) (ma : MA) : ME := fun σ h Q => ma σ h fun ws h1 => ms ws h1 Q E
theorem call_of {K : PySem.W.Frag} {σ : St} {H : Hp} {Q : VK} {E : XK} {ms : MSp} {ma : MA} (h : tD K (mCall ms EF ma) σ H Q) : tCall (lift K ms) [] E (tDA K ma) σ H Q := by
 obtain ⟨μ, g, σw, Qw, R, S, m, q⟩ := h
 refine ⟨μ, g, σw, _, R, S, m, fun vs H1 ⟨μ1, ws, h1, e1, R1, r1, m1⟩ => ?_⟩
 show lift K ms (vs ++ []) H1 Q E
 rw [List.append_nil]
 exact ⟨μ1, h1, ws, Qw, R1, r1, m1, fun v H' z => q _ _ (z.trans e1)⟩
theorem d_call {k : Nat} {f : Addr} {fd : FuncData} {ps : List Str} {ms : MSp} {x : Str} {p : Pos} (F : FnOk X.prog X.w X.K X.mg X.base CX0 k f fd ps (lift X.K ms)) (hr : Room k X.A) (hg : Gl X x) (hm : X.mg x = some (.ref f)) (hk : PySem.W.keepIn X.K (.ref f) = true)
  (hb : Binds X.K fd ps []) (ha : DAs X (e :: es) mr) (hdb : (x == ("__debug__" : Str)) = false := by decide) (he : starEach (e :: es) X.env = (false, eval e X.env) :: starEach es X.env := by rfl) (hpl : (backTo pos (starEach es X.env)).any (·.1) = false := by rfl) :
  DE X (.Call (.Name x p) (e :: es) [] pos) (mCall ms EF mr) := (pe_call F hr hg hm hk hb .nil pass0 ha hdb he hpl).of fun _ _ _ h => call_of h
def truW (h : Gh) (w : W) : Option Bool := match w with
 | .non => some false
 | .bl b => some b
 | .int i => some (i != 0)
 | .tup ws => some (!ws.isEmpty)
 | .lst ws => some (!ws.isEmpty)
 | .kls ws => some (!ws.isEmpty)
 | .loc n => (match h.c n with
  | some (.lst ws) => some (!ws.isEmpty)
  | _ => none)
 | _ => none
def mTru (m : ME) : MT := fun σ h Q => m σ h fun w h1 => match truW h1 w with
 | some b => Q b h1
 | none => False
theorem Reps.emp {K : PySem.W.Frag} {H : Hp} {μ : Mu} {ws : List W} {xs : List V} (r : Reps K H μ ws xs) : ws.isEmpty = xs.isEmpty := by
 have := r.len
 cases ws <;> cases xs <;> first | rfl | cases this
theorem dt_tru (he : DE X e ma) (h : ∀ whole, isTrue e X.env whole = (do let v ← whole; standAt e.pos; holding [v] (truthy v)) := by intro _; rfl) : DT X e (mTru ma) := (pt_truth he h).of fun σ H Q ⟨μ, g, σw, Qw, R, S, m, q⟩ => by
 refine ⟨μ, g, σw, _, R, S, m, fun v H1 ⟨μ1, w, h1, e1, R1, r1, m1⟩ => ?_⟩
 dsimp only at m1
 split at m1
 ·rename_i b eb
  refine ⟨b, ?_, q _ _ ⟨μ1, h1, e1, R1, m1⟩⟩
  cases w with
  | non => rw [Rep] at r1; subst r1; cases eb; rfl
  | bl c => rw [Rep] at r1; subst r1; cases eb; rfl
  | int c => rw [Rep] at r1; subst r1; cases eb; rfl
  | tup ws =>
   rw [Rep] at r1
   obtain ⟨p, xs, ev, hs, rs⟩ := r1
   subst ev
   cases eb
   exact .inr (.inl ⟨xs, hs, by rw [rs.emp]⟩)
  | lst ws =>
   rw [Rep] at r1
   obtain ⟨p, xs, ev, hs, rs⟩ := r1
   subst ev
   cases eb
   exact .inl ⟨xs, hs.sq, by rw [rs.emp]⟩
  | kls ws =>
   rw [Rep] at r1
   obtain ⟨p, xs, ev, hs, rs⟩ := r1
   subst ev
   cases eb
   exact .inl ⟨xs, hs.sq, by rw [rs.emp]⟩
  | loc n =>
   rw [Rep] at r1
   obtain ⟨p, ev, hm⟩ := r1
   subst ev
   unfold truW at eb
   dsimp only at eb
   cases ec : h1.c n with
   | none => rw [ec] at eb; cases eb
   | some cl =>
    rw [ec] at eb
    cases cl with
    | lst ws =>
     cases eb
     obtain ⟨p', hm', xs, hx, rs⟩ := R1.cel n _ ec
     have ep : p' = p := by rw [hm] at hm'; exact (Option.some.inj hm').symm
     subst ep
     exact .inl ⟨xs, .of hx, by rw [rs.emp]⟩
    | _ => cases eb
  | _ => cases eb
 ·exact m1.elim
abbrev MC := List W → Gh → WK → Prop
def mCB (r : MC) (ma : MA) : ME := fun σ h Q => ma σ h fun ws h1 => r ws h1 Q
def SimC (K : PySem.W.Frag) (r : List V → Hp → VK → Prop) (mr : MC) : Prop := ∀ {H : Hp} {μ : Mu} {h : Gh} {vs : List V} {ws : List W} {Qw : WK} {Q : VK}, Rel K μ H h → Reps K H μ ws vs → mr ws h Qw → (∀ v H', DQ K H μ Qw v H' → Q v H') → r vs H Q
def DCall (X : Cx) (f : Value) (mr : MC) : Prop := ∃ r, CallR X f r ∧ SimC X.K r mr
theorem cb_of {K : PySem.W.Frag} {σ : St} {H : Hp} {Q : VK} {r : List V → Hp → VK → Prop} {mc : MC} {ma : MA} (s : SimC K r mc) (h : tD K (mCB mc ma) σ H Q) : tCB r (tDA K ma) σ H Q := by
 obtain ⟨μ, g, σw, Qw, R, S, m, q⟩ := h
 exact ⟨μ, g, σw, _, R, S, m, fun vs H1 ⟨μ1, ws, h1, e1, R1, r1, m1⟩ => s R1 r1 m1 fun v H' z => q _ _ (z.trans e1)⟩
theorem d_callB {x : Str} {p : Pos} {id : String} {mc : MC} (hc : DCall X (.builtin id) mc) (hg : Gl X x) (hm : X.mg x = none) (hv : bootBuiltins x = some (.builtin id)) (ha : DAs X (e :: es) mr) (hn : x ≠ "__name__" := by decide) (hdb : (x == ("__debug__" : Str)) = false := by decide)
  (he : starEach (e :: es) X.env = (false, eval e X.env) :: starEach es X.env := by rfl) (hpl : (backTo pos (starEach es X.env)).any (·.1) = false := by rfl) : DE X (.Call (.Name x p) (e :: es) [] pos) (mCB mc mr) := by
 obtain ⟨r, c, s⟩ := hc
 exact (pe_callB c hg hm hv ha hn hdb he hpl).of fun _ _ _ h => cb_of s h
theorem d_callTy {x : Str} {p : Pos} {T : String} {mc : MC} (hc : DCall X (.type T) mc) (hg : Gl X x) (hm : X.mg x = none) (hv : bootBuiltins x = some (.type T)) (ha : DAs X (e :: es) mr) (hn : x ≠ "__name__" := by decide) (hdb : (x == ("__debug__" : Str)) = false := by decide)
  (he : starEach (e :: es) X.env = (false, eval e X.env) :: starEach es X.env := by rfl) (hpl : (backTo pos (starEach es X.env)).any (·.1) = false := by rfl) : DE X (.Call (.Name x p) (e :: es) [] pos) (mCB mc mr) := by
 obtain ⟨r, c, s⟩ := hc
 exact (pe_callTy c hg hm hv ha hn hdb he hpl).of fun _ _ _ h => cb_of s h
end
end L2
namespace L2
open PySem PySem.Spec PyProof.Rows
section
variable {X : Cx} {e a b c tg : Expr} {ma mb mc : ME} {pos : Pos} {es : List Expr}
def nName (i : Nat) : MG := fun w σ h N => N (σ.set i (some w)) h
theorem dg_name {i : Nat} (hg : PG X e (gName i)) : DG X e (nName i) := hg.of fun v σ H N ⟨μ, h, σw, w, Nw, R, S, r, m, k⟩ => k _ _ ⟨μ, σw.set i (some w), h, .refl, R, S.set r i, m⟩
def nNil : MGs := fun ws σ h N => match ws with
 | [] => N σ h
 | _ => False
def nCons (g : MG) (r : MGs) : MGs := fun ws σ h N => match ws with
 | w :: ws' => g w σ h fun σ1 h1 => r ws' σ1 h1 N
 | [] => False
theorem dgs_nil : DGss X [] nNil := pgs_nil.of fun vs σ H N ⟨μ, h, σw, ws, Nw, R, S, r, m, k⟩ => by
 cases ws with
 | nil => rw [Reps] at r; exact ⟨r, k _ _ ⟨μ, σw, h, .refl, R, S, m⟩⟩
 | cons w ws => exact m.elim
theorem dgs_cons {g : MG} {u : MGs} (h1 : DG X e g) (h2 : DGss X es u) (hs : (assignEach (e :: es) X.env).map (·.2) = assign e X.env :: (assignEach es X.env).map (·.2) := by rfl) : DGss X (e :: es) (nCons g u) := (pgs_cons h1 h2 hs).of fun vs σ H N ⟨μ, h, σw, ws, Nw, R, S, r, m, k⟩ => by
 cases ws with
 | nil => exact m.elim
 | cons w ws =>
  rw [Reps] at r
  obtain ⟨v, vr, ev, r1, r2⟩ := r
  refine ⟨v, vr, ev, μ, h, σw, w, _, R, S, r1, m, fun σ1 H1 ⟨μ1, σw1, h1, e1, R1, S1, m1⟩ => ?_⟩
  exact ⟨μ1, h1, σw1, ws, _, R1, S1, e1.s r2, m1, fun σ2 H2 z => k _ _ (z.trans e1)⟩
def nTup (n : Nat) (g : MGs) : MG := fun w σ h N => match w with
 | .tup ws => by2 (Nat.beq ws.length n) (g ws σ h N) False
 | _ => False
abbrev MSet := W → W → W → Gh → (Gh → Prop) → Prop
def SimSet (K : PySem.W.Frag) (t : TSet) (ms : MSet) : Prop := ∀ {H : Hp} {μ : Mu} {h : Gh} {o i v : V} {wo wi w : W} {Nw : Gh → Prop} {N : Hp → Prop}, Rel K μ H h → Rep K H μ wo o → Rep K H μ wi i → Rep K H μ w v → ms wo wi w h Nw →
 (∀ H', (∃ μ' h', Ext K H μ H' μ' ∧ Rel K μ' H' h' ∧ Nw h') → N H') → t o i v H N
def nSub (mo mi : ME) (ms : MSet) : MG := fun w σ h N => mo σ h fun o h1 => mi σ h1 fun i h2 => ms o i w h2 fun h3 => N σ h3
theorem dg_sub {o i : Expr} {mo mi : ME} {t : TSet} {ms : MSet} (ho : DE X o mo) (hi : DE X i mi) (hs : PSet X t) (hm : SimSet X.K t ms)
  (ha : ∀ v, assign (.Subscript o i pos) X.env v = (do
   let ov ← holding [v] (eval o X.env)
   let iv ← holding [v, ov] (eval i X.env)
   standAt pos
   holding [v, ov, iv] (setItem ov iv v)
   release [v, ov, iv] []) := by intro _; rfl) : DG X (.Subscript o i pos) (nSub mo mi ms) :=
 (pg_sub ho hi hs ha).of fun v σ H N ⟨μ, h, σw, w, Nw, R, S, r, m, k⟩ => by
  refine ⟨μ, h, σw, _, R, S, m, fun o H1 ⟨μ1, wo, h1, e1, R1, r1, m1⟩ => ?_⟩
  refine ⟨μ1, h1, σw, _, R1, S.ext e1, m1, fun i H2 ⟨μ2, wi, h2, e2, R2, r2, m2⟩ => ?_⟩
  refine hm R2 (e2.r _ _ r1) r2 (e2.r _ _ (e1.r _ _ r)) m2 fun H3 ⟨μ3, h3, e3, R3, m3⟩ => ?_
  exact k _ _ ⟨μ3, σw, h3, (e1.trans e2).trans e3, R3, S.ext ((e1.trans e2).trans e3), m3⟩
def sSetL : MSet := fun o i w h N => match o, i with
 | .loc n, .int k => (match h.c n with
  | some (.lst ws) => (match ixN ws.length k with
   | some j => N (h.set n (.lst (ws.set j w)))
   | none => False)
  | _ => False)
 | _, _ => False
theorem Rel.lstAt {K : PySem.W.Frag} {μ : Mu} {H : Hp} {h : Gh} {n : Nat} {ws : List W} (R : Rel K μ H h) (e : h.c n = some (.lst ws)) : ∃ p xs, μ.f n = some p ∧ H p = some (.lst xs) ∧ Reps K H μ ws xs := by
 obtain ⟨p, e1, xs, e2, r⟩ := R.cel n _ e
 exact ⟨p, xs, e1, e2, r⟩
variable {st : Stmt} {rest body : List Stmt} {m1 m2 : MS} {t : MT}
def mNext : MS := fun D σ h => D.nx σ h
def mSeq (m u : MS) : MS := fun D σ h => m { D with nx := u D } σ h
theorem dss_nil : DSs X [] mNext := pss_nil.of fun D σ H ⟨μ, h, σw, Dw, R, S, m, k⟩ => k.nx _ _ ⟨μ, σw, h, .refl, R, S, m⟩
theorem dss_one (h1 : DS X st m1) : DSs X [st] m1 := pss_one h1
theorem dss_cons (h1 : DS X st m1) (h2 : DSs X rest m2) : DSs X (st :: rest) (mSeq m1 m2) := (pss_cons h1 h2).of fun D σ H ⟨μ, h, σw, Dw, R, S, m, k⟩ => by
 refine ⟨μ, h, σw, _, R, S, m, ?_, k.rt, k.bk, k.ct⟩
 intro σ' H' ⟨μ1, σw1, h1, e1, R1, S1, m1⟩
 exact ⟨μ1, h1, σw1, Dw, R1, S1, m1, k.trans e1⟩
def mDrop (m : ME) : MS := fun D σ h => m σ h fun _ h1 => D.nx σ h1
theorem ds_expr (he : DE X e ma) (hs : swapsWith e none pos.line X.env = pure false := by rfl) : DS X (.Expr e pos) (mDrop ma) := (ps_expr he hs).of fun D σ H ⟨μ, h, σw, Dw, R, S, m, k⟩ =>
 ⟨μ, h, σw, _, R, S, m, fun v H1 ⟨μ1, w, h1, e1, R1, _, m1⟩ => k.nx _ _ ⟨μ1, σw, h1, e1, R1, S.ext e1, m1⟩⟩
def mRet (m : ME) : MS := fun D σ h => m σ h D.rt
theorem ds_ret (he : DE X e ma) : DS X (.Return (some e) pos) (mRet ma) := (ps_ret he).of fun D σ H ⟨μ, h, σw, Dw, R, S, m, k⟩ => ⟨μ, h, σw, _, R, S, m, k.rt⟩
def mIfS (t : MT) (a b : MS) : MS := fun D σ h => t σ h fun c h1 => br c (a D σ h1) (b D σ h1)
theorem ds_if {a b : List Stmt} (hc : DT X c t) (ha : DSs X a m1) (hb : DSs X b m2) : DS X (.If c a b pos) (mIfS t m1 m2) := (ps_if hc ha hb).of fun D σ H ⟨μ, h, σw, Dw, R, S, m, k⟩ => by
 refine ⟨μ, h, σw, _, R, S, m, fun b H1 ⟨μ1, h1, e1, R1, q⟩ => ?_⟩
 cases b with
 | true => rw [if_pos rfl]; exact ⟨μ1, h1, σw, Dw, R1, S.ext e1, q.1 rfl, k.trans e1⟩
 | false => rw [if_neg Bool.false_ne_true]; exact ⟨μ1, h1, σw, Dw, R1, S.ext e1, q.2 rfl, k.trans e1⟩
def mRaise (x : Str) (E : XWK) : MS := fun _ _ h => E ⟨x, []⟩ h
def mAsg (m : ME) (g : MG) : MS := fun D σ h => m σ h fun w h1 => g w σ h1 D.nx
theorem asg_of {K : PySem.W.Frag} {σ : St} {H : Hp} {D : Ends} {m : ME} {g : MG} (q : tDS K (mAsg m g) D σ H) : tAsg (tD K m) (tDG K g) D σ H := by
 obtain ⟨μ, h, σw, Dw, R, S, m, k⟩ := q
 exact ⟨μ, h, σw, _, R, S, m, fun v H1 ⟨μ1, w, h1, e1, R1, r1, m1⟩ => ⟨μ1, h1, σw, w, _, R1, S.ext e1, r1, m1, fun σ' H' z => k.nx _ _ (z.trans e1)⟩⟩
theorem ds_asg {g : MG} (he : DE X e ma) (hg : DG X tg g) (hs : swapsWithSole [tg] e pos.line X.env = pure false := by rfl) (hw : swappedStores [tg] e X.env = pure none := by rfl)
  (h1 : (assignEach [tg] X.env).map (·.2) = [assign tg X.env] := by rfl) : DS X (.Assign [tg] e pos) (mAsg ma g) := (ps_asg he hg hs hw h1).of fun _ _ _ q => asg_of q
theorem set_of {K : PySem.W.Frag} {σ : St} {H : Hp} {D : Ends} {m : ME} {t : TE} {i : Nat} (ht : ∀ σ H Q, tD K m σ H Q → t σ H Q) (q : tDS K (mAsg m (nName i)) D σ H) : tAsg t (gName i) D σ H := by
 obtain ⟨μ, h, σw, Dw, R, S, m, k⟩ := q
 exact ht _ _ _ ⟨μ, h, σw, _, R, S, m, fun v H1 ⟨μ1, w, h1, e1, R1, r1, m1⟩ => k.nx _ _ ⟨μ1, σw.set i (some w), h1, e1, R1, (S.ext e1).set r1 i, m1⟩⟩
theorem ds_set {i : Nat} {x : Str} {pos' : Pos} (hN : X.N.Nodup) (hi : X.N[i]? = some x) (hx : Loc X.env.scope x) (he : DE X e ma) (hs : swapsWith e (some (.Name x pos')) pos.line X.env = pure false := by rfl)
  (hf : X.fn x = true ∨ X.env.scope.names.lookup x = some .local := by first | exact .inl rfl | exact .inr rfl | assumption) :
  DS X (.Assign [.Name x pos'] e pos) (mAsg ma (nName i)) := (ps_set hN hi hx he hs hf).of fun _ _ _ q => set_of (fun _ _ _ z => z) q
def mPar (i j : Nat) (ta : MA) : MS := fun D σ h => ta σ h fun ws h1 => match ws with
 | [v, w] => D.nx ((σ.set i (some v)).set j (some w)) h1
 | _ => False
structure Src where
 ws : List W
 cell : Option (Nat × List W)
def Src.chk (s : Src) (h : Gh) : Prop := match s.cell with
 | none => True
 | some n => h.c n.1 = some (.lst n.2)
abbrev MI := Sw → Gh → (Src → Gh → Prop) → Prop
def ItOk (K : PySem.W.Frag) (J : It) (src : Src) (H : Hp) (μ : Mu) : Prop := ∀ {H2 : Hp} {μ2 : Mu} {h2 : Gh} {i : Nat}, Ext K H μ H2 μ2 → Rel K μ2 H2 h2 → src.chk h2 →
 (∀ w, src.ws[i]? = some w → J.go i H2 ∧ ∀ x H3, J.yld i H2 x H3 → ∃ μ3, Ext K H2 μ2 H3 μ3 ∧ Rel K μ3 H3 h2 ∧ Rep K H3 μ3 w x) ∧ (src.ws.length ≤ i → J.stop i H2)
def DI (K : PySem.W.Frag) (H : Hp) (μ : Mu) (Rw : Src → Gh → Prop) : It → Hp → Prop := fun J H' => ∃ μ' src h', Ext K H μ H' μ' ∧ Rel K μ' H' h' ∧ ItOk K J src H' μ' ∧ Rw src h'
def tDI (K : PySem.W.Frag) (mi : MI) : TI := fun σ H R => ∃ μ h σw Rw, Rel K μ H h ∧ Slots K H μ σw σ ∧ mi σw h Rw ∧ ∀ J H', DI K H μ Rw J H' → R J H'
abbrev DIt (X : Cx) (tg iter : Expr) (mi : MI) : Prop := PI X tg iter (tDI X.K mi)
theorem PI.of {iter : Expr} {t t' : TI} (h : PI X tg iter t) (k : ∀ σ H R, t' σ H R → t σ H R) : PI X tg iter t' := fun pins s σ H R I q => h pins s σ H R I (k σ H R q)
def viewL (h : Gh) : W → Option (List W)
 | .lst ws => some ws
 | .kls ws => some ws
 | .loc n => (match h.c n with
  | some (.lst ws) => some ws
  | _ => none)
 | _ => none
def view (h : Gh) : W → Option (List W)
 | .tup ws => some ws
 | .lst ws => some ws
 | .kls ws => some ws
 | .loc n => viewL h (.loc n)
 | _ => none
def srcA (h : Gh) : W → Option Src
 | .tup ws => some ⟨ws, none⟩
 | .lst ws => some ⟨ws, none⟩
 | .kls ws => some ⟨ws, none⟩
 | .loc n => (match h.c n with
  | some (.lst ws) => some ⟨ws, some (n, ws)⟩
  | _ => none)
 | _ => none
theorem itl_frz {K : PySem.W.Frag} {H : Hp} {μ : Mu} {p : Addr} {ws : List W} (r : Rep K H μ (.lst ws) (.ref p)) : ItOk K (Itl K p) ⟨ws, none⟩ H μ := by
 intro H2 μ2 h2 i e R2 _
 have r2 := e.r _ _ r
 rw [Rep] at r2
 obtain ⟨q, xs, eq, hf, rs⟩ := r2
 cases eq
 refine ⟨fun w ew => ?_, fun hl => ⟨xs, hf.sq, by rw [← rs.len]; exact hl⟩⟩
 obtain ⟨v, ev, rv⟩ := rs.get ew
 refine ⟨⟨xs, v, hf.sq, ev⟩, fun x H3 ⟨e3, y⟩ => ?_⟩
 subst e3
 have := y xs hf.sq
 rw [ev] at this
 cases this
 exact ⟨μ2, .refl, R2, rv⟩
theorem itl_kls {K : PySem.W.Frag} {H : Hp} {μ : Mu} {p : Addr} {ws : List W} (r : Rep K H μ (.kls ws) (.ref p)) : ItOk K (Itl K p) ⟨ws, none⟩ H μ := by
 intro H2 μ2 h2 i e R2 _
 have r2 := e.r _ _ r
 rw [Rep] at r2
 obtain ⟨q, xs, eq, hf, rs⟩ := r2
 cases eq
 refine ⟨fun w ew => ?_, fun hl => ⟨xs, hf.sq, by rw [← rs.len]; exact hl⟩⟩
 obtain ⟨v, ev, rv⟩ := rs.get ew
 refine ⟨⟨xs, v, hf.sq, ev⟩, fun x H3 ⟨e3, y⟩ => ?_⟩
 subst e3
 have := y xs hf.sq
 rw [ev] at this
 cases this
 exact ⟨μ2, .refl, R2, rv⟩
theorem itl_cell {K : PySem.W.Frag} {H : Hp} {μ : Mu} {p : Addr} {n : Nat} {ws : List W} (r : Rep K H μ (.loc n) (.ref p)) : ItOk K (Itl K p) ⟨ws, some (n, ws)⟩ H μ := by
 intro H2 μ2 h2 i e R2 ck
 have r2 := e.r _ _ r
 rw [Rep] at r2
 obtain ⟨q, eq, hm⟩ := r2
 cases eq
 obtain ⟨p', xs, hm', hx, rs⟩ := R2.lstAt (show h2.c n = some (.lst ws) from ck)
 have ep : p' = p := by rw [hm] at hm'; exact (Option.some.inj hm').symm
 subst ep
 refine ⟨fun w ew => ?_, fun hl => ⟨xs, .of hx, by rw [← rs.len]; exact hl⟩⟩
 obtain ⟨v, ev, rv⟩ := rs.get ew
 refine ⟨⟨xs, v, .of hx, ev⟩, fun x H3 ⟨e3, y⟩ => ?_⟩
 subst e3
 have := y xs (.of hx)
 rw [ev] at this
 cases this
 exact ⟨μ2, .refl, R2, rv⟩
theorem itt_tup {K : PySem.W.Frag} {H : Hp} {μ : Mu} {p : Addr} {ws : List W} (r : Rep K H μ (.tup ws) (.ref p)) : ItOk K (Itt K p) ⟨ws, none⟩ H μ := by
 intro H2 μ2 h2 i e R2 _
 have r2 := e.r _ _ r
 rw [Rep] at r2
 obtain ⟨q, xs, eq, hf, rs⟩ := r2
 cases eq
 refine ⟨fun w ew => ?_, fun hl => ⟨xs, hf, by rw [← rs.len]; exact hl⟩⟩
 obtain ⟨v, ev, rv⟩ := rs.get ew
 refine ⟨⟨xs, v, hf, ev⟩, fun x H3 ⟨e3, y⟩ => ?_⟩
 subst e3
 have := y xs hf
 rw [ev] at this
 cases this
 exact ⟨μ2, .refl, R2, rv⟩
def iSeq (K : PySem.W.Frag) (tl : TE) : TI := fun σ H R => tl σ H fun x H1 => (∃ a, x = .ref a ∧ (∃ xs, SqL K H1 a xs) ∧ R (Itl K a) H1) ∨ (∃ a, x = .ref a ∧ (∃ xs, SqT K H1 a xs) ∧ R (Itt K a) H1)
theorem pi_seq {l : Expr} {tl : TE} (hl : PE X l tl) : PI X tg l (iSeq X.K tl) := by
 intro pins s σ H R I h
 refine thn (hl pins s σ H _ I h) fun v s1 ⟨x, H1, I1, r1, q1⟩ => ?_
 rcases q1 with ⟨a, e, ⟨xs, hq⟩, q⟩ | ⟨a, e, ⟨xs, hq⟩, q⟩
 ·subst e
  cases r1
  obtain ⟨its, rv, p, hz⟩ := I1.list hq
  refine wpAny_pyIter_list p.isList ?_
  refine ⟨s1.heap.objs.size, [s1.heap.objs.size], _, _, H1, rfl, I1.kept (t' := s1.toks) fun b o e => Heap.get?_push_of_some _ e, turn_list a _, ⟨_, Heap.get?_push_size _ rfl, rfl, rfl⟩, fun b hb => ?_, q⟩
  have e : b = s1.heap.objs.size := by simpa using hb
  subst e
  exact I1.fpOk (Nat.le_refl _) (I1.hok.fresh (Nat.le_refl _))
 ·subst e
  cases r1
  obtain ⟨its, rv, p, hz⟩ := I1.tuple hq
  refine wpAny_pyIter_tuple (show s1.heap.IsTuple a its.toArray from p) ?_
  refine ⟨s1.heap.objs.size, [s1.heap.objs.size], _, _, H1, rfl, I1.kept (t' := s1.toks) fun b o e => Heap.get?_push_of_some _ e, turn_tuple a _, ⟨_, Heap.get?_push_size _ rfl, rfl, rfl⟩, fun b hb => ?_, q⟩
  have e : b = s1.heap.objs.size := by simpa using hb
  subst e
  exact I1.fpOk (Nat.le_refl _) (I1.hok.fresh (Nat.le_refl _))
def nIt (m : ME) : MI := fun σ h R => m σ h fun w h1 => match srcA h1 w with
 | some s => R s h1
 | none => False
theorem di_seq {l : Expr} (hl : DE X l ma) : DIt X tg l (nIt ma) := PI.of (pi_seq hl) fun σ H Q ⟨μ, h, σw, Rw, R, S, m, k⟩ => by
 refine ⟨μ, h, σw, _, R, S, m, fun v H1 ⟨μ1, w, h1, e1, R1, r1, m1⟩ => ?_⟩
 cases w with
 | tup ws =>
  have r1' := r1
  rw [Rep] at r1
  obtain ⟨p, xs, ev, hs, _⟩ := r1
  subst ev
  exact .inr ⟨p, rfl, ⟨xs, hs⟩, k _ _ ⟨μ1, ⟨ws, none⟩, h1, e1, R1, itt_tup r1', m1⟩⟩
 | lst ws =>
  have r1' := r1
  rw [Rep] at r1
  obtain ⟨p, xs, ev, hs, _⟩ := r1
  subst ev
  exact .inl ⟨p, rfl, ⟨xs, hs.sq⟩, k _ _ ⟨μ1, ⟨ws, none⟩, h1, e1, R1, itl_frz r1', m1⟩⟩
 | kls ws =>
  have r1' := r1
  rw [Rep] at r1
  obtain ⟨p, xs, ev, hs, _⟩ := r1
  subst ev
  exact .inl ⟨p, rfl, ⟨xs, hs.sq⟩, k _ _ ⟨μ1, ⟨ws, none⟩, h1, e1, R1, itl_kls r1', m1⟩⟩
 | loc n =>
  have r1' := r1
  rw [Rep] at r1
  obtain ⟨p, ev, hm⟩ := r1
  subst ev
  unfold srcA at m1
  dsimp only at m1
  cases ec : h1.c n with
  | none => rw [ec] at m1; exact m1.elim
  | some cl =>
   rw [ec] at m1
   cases cl with
   | lst ws =>
    obtain ⟨p', xs, hm', hx, rs⟩ := R1.lstAt ec
    have ep : p' = p := by rw [hm] at hm'; exact (Option.some.inj hm').symm
    subst ep
    exact .inl ⟨p', rfl, ⟨xs, .of hx⟩, k _ _ ⟨μ1, ⟨ws, some (n, ws)⟩, h1, e1, R1, itl_cell r1', m1⟩⟩
   | _ => exact m1.elim
 | _ => exact m1.elim
def rngW (lo : Int) (n : Nat) : List W := (List.range n).map fun (k : Nat) => .int (lo + (k : Int))
theorem itr_ok {K : PySem.W.Frag} {H : Hp} {μ : Mu} {lo : Int} {n : Nat} : ItOk K (Itr lo n) ⟨rngW lo n, none⟩ H μ := by
 intro H2 μ2 h2 i e R2 _
 refine ⟨fun w ew => ?_, fun hl => ?_⟩
 ·have hi : i < n := by
   have := (List.getElem?_eq_some_iff.mp ew).1
   simpa [rngW] using this
  have ew' : w = .int (lo + (i : Int)) := by
   unfold rngW at ew
   rw [List.getElem?_map, List.getElem?_range hi] at ew
   exact (Option.some.inj ew).symm
  subst ew'
  refine ⟨hi, fun x H3 ⟨e3, y⟩ => ?_⟩
  subst e3
  exact ⟨μ2, .refl, R2, by rw [Rep]; exact y⟩
 ·have : n ≤ i := by simpa [rngW] using hl
  exact this
def rgOk (j : Int) (P : Prop) : Prop := by2 (decide (-1000 ≤ j) && decide (j ≤ 1000)) P ((-(2 ^ 62) ≤ j ∧ j < 2 ^ 62) ∧ P)
theorem rgOk.ok {j : Int} {P : Prop} (h : rgOk j P) : (-(2 ^ 62) ≤ j ∧ j < 2 ^ 62) ∧ P := by
 unfold rgOk at h
 cases e : (decide (-1000 ≤ j) && decide (j ≤ 1000)) with
 | true =>
  rw [e] at h
  rw [Bool.and_eq_true, decide_eq_true_iff, decide_eq_true_iff] at e
  exact ⟨⟨by omega, by omega⟩, h⟩
 | false => rw [e] at h; exact h
theorem rgOk.mk {j : Int} {P : Prop} (h1 : -(2 ^ 62) ≤ j) (h2 : j < 2 ^ 62) (h : P) : rgOk j P := by
 unfold rgOk
 cases e : (decide (-1000 ≤ j) && decide (j ≤ 1000)) with
 | true => exact h
 | false => exact ⟨⟨h1, h2⟩, h⟩
def nRng1 (ma : MA) : MI := fun σ h R => ma σ h fun ws h1 => match ws with
 | [.int j] => rgOk j (R ⟨rngW 0 j.toNat, none⟩ h1)
 | _ => False
theorem di_range1 {a : Expr} {mr : MA} {p pos : Pos} (hg : Gl X "range") (hm : X.mg "range" = none) (ha : DAs X [a] mr) (hs : starEach [a] X.env = [(false, eval a X.env)] := by rfl) : DIt X tg (.Call (.Name "range" p) [a] [] pos) (nRng1 mr) :=
 PI.of (pi_range1 hg hm ha hs) fun σ H Q ⟨μ, h, σw, Rw, R, S, m, k⟩ => by
  refine ⟨μ, h, σw, _, R, S, m, fun vs H1 ⟨μ1, ws, h1, e1, R1, r1, m1⟩ => ?_⟩
  dsimp only at m1
  split at m1
  ·rename_i j
   rw [Reps] at r1
   obtain ⟨v, vr, ev, ra, r1⟩ := r1
   rw [Reps] at r1
   rw [Rep] at ra
   subst ev r1 ra
   exact ⟨j, rfl, m1.ok.1.1, m1.ok.1.2, k _ _ ⟨μ1, _, h1, e1, R1, itr_ok, m1.ok.2⟩⟩
  ·exact m1.elim
def Src.go (s : Src) (h : Gh) (P : Prop) : Prop := match s.cell with
 | none => P
 | some n => h.c n.1 = some (.lst n.2) ∧ P
theorem Src.go_ok {s : Src} {h : Gh} {P : Prop} (x : s.go h P) : s.chk h ∧ P := by
 unfold Src.go at x
 unfold Src.chk
 cases e : s.cell with
 | none => rw [e] at x; exact ⟨trivial, x⟩
 | some n => rw [e] at x; exact x
def mForL (s : Src) (g : MG) (b : MS) (D : MEnds) : List W → Sw → Gh → Prop
 | [], σ, h => s.go h (D.nx σ h)
 | w :: r, σ, h => s.go h (g w σ h fun σ1 h1 => b { D with nx := mForL s g b D r, ct := mForL s g b D r, bk := D.nx } σ1 h1)
def mFor (mi : MI) (g : MG) (b : MS) : MS := fun D σ h => mi σ h fun s h1 => mForL s g b D s.ws σ h1
theorem ds_for {iter : Expr} {body : List Stmt} {mi : MI} {g : MG} {mb0 : MS} {pos : Pos} (hp : PassesOwn (model X.prog X.w) X.A X.env X.xe) (hc : X.calm = true) (hi : DIt X tg iter mi) (hg : DG X tg g) (hb : DSs X body mb0)
  (hs : ∀ x, foldedSetIterable iter X.env x = pure x := by intro _; rfl) : DS X (.For tg iter body [] pos) (mFor mi g mb0) := (ps_for hp hc hi hg hb hs).of fun D σ H ⟨μ, h, σw, Dw, R, S, m, k⟩ => by
 refine ⟨μ, h, σw, _, R, S, m, fun J H1 ⟨μ1, src, h1, e1, R1, ok, m1⟩ => ?_⟩
 refine ⟨fun i n σ' H' => n = src.ws.length - i ∧ i ≤ src.ws.length ∧ DN X.K H1 μ1 (mForL src g mb0 Dw (src.ws.drop i)) σ' H', ⟨src.ws.length, by simp, Nat.zero_le _, μ1, σw, h1, .refl, R1, S.ext e1, by rw [List.drop_zero]; exact m1⟩, ?_⟩
 rintro i n σ2 H2 ⟨hn, hle, μ2, σw2, h2, e2, R2, S2, m2⟩
 by_cases hlt : i < src.ws.length
 ·rw [List.drop_eq_getElem_cons hlt] at m2
  obtain ⟨ck, m2⟩ := Src.go_ok m2
  obtain ⟨hgo, hy⟩ := (ok e2 R2 ck).1 src.ws[i] (List.getElem?_eq_getElem hlt)
  refine .inr ⟨hgo, fun σ' H' => DN X.K H2 μ2 (mForL src g mb0 Dw (src.ws.drop (i + 1))) σ' H', fun σ' H' z => ⟨src.ws.length - (i + 1), by omega, rfl, hlt, z.trans e2⟩, fun x H3 y => ?_⟩
  obtain ⟨μ3, e3, R3, rx⟩ := hy x H3 y
  refine ⟨μ3, h2, σw2, src.ws[i], _, R3, S2.ext e3, rx, m2, fun σ4 H4 ⟨μ4, σw4, h4, e4, R4, S4, m4⟩ => ?_⟩
  have e24 := e3.trans e4
  have e14 := (e1.trans e2).trans e24
  exact ⟨μ4, h4, σw4, _, R4, S4, m4, fun σ' H' z => z.trans e24, fun v H' z => k.rt _ _ (z.trans e14), fun σ' H' z => k.nx _ _ (z.trans e14), fun σ' H' z => z.trans e24⟩
 ·have ei : i = src.ws.length := by omega
  subst ei
  rw [List.drop_length] at m2
  obtain ⟨ck, m2⟩ := Src.go_ok m2
  exact .inl ⟨(ok e2 R2 ck).2 (Nat.le_refl _), k.nx _ _ ⟨μ2, σw2, h2, e1.trans e2, R2, S2, m2⟩⟩

def blkW (ix : List Nat) (σ : Sw) : Sw := ix.map fun i => (σ[i]?).getD none
theorem Slots.blk {K : PySem.W.Frag} {H : Hp} {μ : Mu} {σw : Sw} {σ : St} {ix : List Nat} (S : Slots K H μ σw σ) : ∀ {ws : List W} {vs : List V}, Reps K H μ ws vs → Slots K H μ (ws.map some ++ blkW ix σw) (vs.map some ++ blkσ ix σ) := by
 intro ws vs r
 have hl := r.len
 refine ⟨by simp [blkW, blkσ, hl], fun i u q => ?_⟩
 by_cases hi : i < ws.length
 ·rw [List.getElem?_append_left (by simpa using hi), List.getElem?_map] at q
  have q' : ws[i]? = some u := by
   cases e : ws[i]? with
   | none => rw [e] at q; cases q
   | some a => rw [e] at q; simpa using q
  obtain ⟨v, hv, rv⟩ := r.get q'
  refine ⟨v, ?_, rv⟩
  rw [List.getElem?_append_left (by rw [List.length_map]; omega), List.getElem?_map, hv]
  rfl
 ·rw [List.getElem?_append_right (by simpa using hi), List.length_map] at q
  rw [List.getElem?_append_right (by rw [List.length_map]; omega), List.length_map, ← hl]
  generalize i - ws.length = i at q ⊢
  unfold blkW at q
  unfold blkσ
  rw [List.getElem?_map] at q ⊢
  cases e : ix[i]? with
  | none => rw [e] at q; cases q
  | some j =>
   rw [e] at q
   cases e2 : σw[j]? with
   | none => simp [e2] at q
   | some o =>
    have eo : o = some u := by simpa [e2] using q
    subst eo
    obtain ⟨v', h1, h2⟩ := S.get j u e2
    exact ⟨v', by simp [h1], h2⟩
def mYes : MT := fun _ h Q => Q true h
def mLCL (s : Src) (own : W → Option (List W)) (ix : List Nat) (tt : MT) (te : ME) (σ : Sw) (Q : WK) : List W → List W → Gh → Prop
 | [], acc, h => s.go h (Q (.lst acc) h)
 | w :: r, acc, h => s.go h (match own w with
  | some vs => tt (vs.map some ++ blkW ix σ) h fun c h1 => by2 c (te (vs.map some ++ blkW ix σ) h1 fun v h2 => mLCL s own ix tt te σ Q r (acc ++ [v]) h2) (mLCL s own ix tt te σ Q r acc h1)
  | none => False)
def mLC (own : W → Option (List W)) (ix : List Nat) (mi : MI) (tt : MT) (te : ME) : ME := fun σ h Q => mi σ h fun s h1 => szOk s.ws.length (mLCL s own ix tt te σ Q s.ws [] h1)
def OwnOk (K : PySem.W.Frag) (n : Nat) (own : V → Hp → List V → Prop) (ow : W → Option (List W)) : Prop := ∀ {H : Hp} {μ : Mu} {w : W} {v : V} {ws : List W}, Rep K H μ w v → ow w = some ws → ∃ vs, own v H vs ∧ vs.length = n ∧ Reps K H μ ws vs
def ow1 (w : W) : Option (List W) := some [w]
def ov1 : V → Hp → List V → Prop := fun v _ vs => vs = [v]
theorem own_1 {K : PySem.W.Frag} : OwnOk K 1 ov1 ow1 := by
 intro H μ w v ws r e
 cases (show some [w] = some ws from e)
 exact ⟨[v], rfl, rfl, .one r⟩
abbrev DIfs (X : Cx) (ifs : List Expr) (m : MT) : Prop := PIfs X ifs (tDT X.K m)
theorem dif_nil : DIfs X [] mYes := fun pins s σ H Q I ⟨μ, h, σw, Qw, R, S, m, k⟩ => pif_nil pins s σ H Q I (k _ _ ⟨μ, h, .refl, R, m⟩)
theorem dif_one (h : DT X c t) : DIfs X [c] t := pif_one h
theorem lc_of {K : PySem.W.Frag} {σ : St} {H : Hp} {Q : VK} {n : Nat} {own : V → Hp → List V → Prop} {ow : W → Option (List W)} {ix : List Nat} {mi : MI} {tt : MT} {te : ME} (oo : OwnOk K n own ow) (q : tD K (mLC ow ix mi tt te) σ H Q) : tLC n own ix (tDI K mi) (tDT K tt) (tD K te) σ H Q := by
 obtain ⟨μ, h, σw, Qw, R, S, m, k⟩ := q
 refine ⟨μ, h, σw, _, R, S, m, fun J H1 ⟨μ1, src, h1, e1, R1, ok, hz0⟩ => ?_⟩
 obtain ⟨hz, m1⟩ := hz0.ok
 intro D hD
 have nD := R1.nohid hD
 have hD1 : Ext K H1 μ1 (upd H1 D (.lst [])) (μ1.hide D) := Ext.hide hD
 refine ⟨fun i n ys H' => n = src.ws.length - i ∧ i ≤ src.ws.length ∧ ys.length ≤ i ∧ H' D = some (.lst ys) ∧ ∃ μ' acc h', Ext K H1 μ1 H' μ' ∧ Rel K μ' H' h' ∧ μ'.hid D ∧ Reps K H' μ' acc ys ∧ mLCL src ow ix tt te σw Qw (src.ws.drop i) acc h',
  ⟨src.ws.length, by simp, Nat.zero_le _, Nat.le_refl _, upd_same, μ1.hide D, [], h1, hD1, R1.hide hD, .inl rfl, .nil, by rw [List.drop_zero]; exact m1⟩, ?_⟩
 rintro i n' ys H2 ⟨hn, hle, hys, hH2, μ2, acc, h2, e2, R2, hid2, ra, m2⟩ _
 by_cases hlt : i < src.ws.length
 ·rw [List.drop_eq_getElem_cons hlt] at m2
  obtain ⟨ck, m2⟩ := Src.go_ok m2
  obtain ⟨hgo, hy⟩ := (ok e2 R2 ck).1 src.ws[i] (List.getElem?_eq_getElem hlt)
  refine .inr ⟨hgo, by omega, fun x H3 y => ?_⟩
  obtain ⟨μ3, e3, R3, rx⟩ := hy x H3 y
  have e13 := e2.trans e3
  cases eo : ow src.ws[i] with
  | none => rw [eo] at m2; exact m2.elim
  | some us =>
   rw [eo] at m2
   obtain ⟨vs, hov, hvl, rvs⟩ := oo rx eo
   have S3 := (S.ext (e1.trans e13)).blk (ix := ix) rvs
   refine ⟨vs, hov, hvl, μ3, h2, _, _, R3, S3, m2, fun b H4 ⟨μ4, h4, e4, R4, m4⟩ => ?_⟩
   have e24 := e3.trans e4
   obtain ⟨hid4, hH4⟩ := e24.o D _ hid2 hH2
   cases b with
   | false =>
    dsimp only
    rw [if_neg Bool.false_ne_true]
    exact ⟨hH4, src.ws.length - (i + 1), by omega, rfl, hlt, by omega, hH4, μ4, acc, h4, e2.trans e24, R4, hid4, e24.s ra, m4⟩
   | true =>
    dsimp only
    rw [if_pos rfl]
    refine ⟨μ4, h4, _, _, R4, S3.ext e4, m4, fun v H5 ⟨μ5, w5, h5, e5, R5, r5, m5⟩ => ?_⟩
    have e25 := e24.trans e5
    obtain ⟨hid5, hH5⟩ := e25.o D _ hid2 hH2
    have g := ExtX.grow (ys := ys ++ [v]) R5 hid5
    have rs : Reps K (upd H5 D (.lst (ys ++ [v]))) μ5 (acc ++ [w5]) (ys ++ [v]) := Reps.ex (Ex0.grow R5 hid5) (Reps.append (e25.s ra) (Reps.one r5))
    exact ⟨hH5, src.ws.length - (i + 1), by omega, rfl, hlt, by rw [List.length_append]; simp; omega, upd_same, μ5, acc ++ [w5], h5, (e2.trans e25).x nD g, R5.grow hid5, hid5, rs, m5⟩
 ·have ei : i = src.ws.length := by omega
  subst ei
  rw [List.drop_length] at m2
  obtain ⟨ck, m2⟩ := Src.go_ok m2
  exact .inl ⟨(ok e2 R2 ck).2 (Nat.le_refl _), k _ _ ⟨μ2.unhide D, .lst acc, h2, e1.trans (e2.x nD .unhide), R2.unhide, Rep.built R2 hid2 hH2 ra, m2⟩⟩
variable {scope : Scope} {x : Str} {xs : List Str} {ix : List Nat} {elt iter : Expr} {ifs : List Expr} {px : Pos} {mi : MI} {tt : MT} {te : ME}
theorem pgo_1 (B : BlkOk X scope [x] ix) (C : Addr) (s : Shared) (H : Hp) (fp : List Addr) : PG (blk X scope (blkN X [x] ix) C s H fp) (.Name x px) (gOwn 1 ov1) := by
 obtain ⟨o1, o2⟩ := own_ok B (y := x) (by simp)
 intro pins s' σ H' v u Q I r ⟨vs, hv, hl, q⟩
 cases hv
 refine pg_name (X := blk X scope (blkN X [x] ix) C s H fp) (i := 0) B.nd rfl o1 o2 pins s' σ H' v u Q I r ?_
 have hlen : σ.length = (blkN X [x] ix).length := I.len
 cases σ with
 | nil => simp at hlen
 | cons o σ => exact q
theorem d_lc {own : V → Hp → List V → Prop} {ow : W → Option (List W)} (ix : List Nat) (hc : X.calm = true) (B : BlkOk X scope xs ix) (oo : OwnOk X.K xs.length own ow) (hg : ∀ C s H fp, PG (blk X scope (blkN X xs ix) C s H fp) tg (gOwn xs.length own)) (hi : DIt X tg iter mi)
  (ht : ∀ C s H fp, DIfs (blk X scope (blkN X xs ix) C s H fp) ifs tt) (he : ∀ C s H fp, DE (blk X scope (blkN X xs ix) C s H fp) elt te)
  (hs : ∀ v, foldedSetIterable iter X.env v = pure v := by intro _; rfl) : DE X (.ListComp elt [⟨tg, iter, ifs, 0⟩] scope pos) (mLC ow ix mi tt te) := (pe_lc ix hc B hg hi ht he hs).of fun _ _ _ q => lc_of oo q
theorem cutF {κ : Type} {K : PySem.W.Frag} {H0 H : Hp} {μ0 μ : Mu} {k : Nat} (hd : ∀ n p, μ0.f n = some p → n < k) : ∀ {fs : List (κ × W)} {f0 fv : List (κ × V)}, RepF K H0 μ0 fs f0 → RepF K H μ fs fv → RepF K H (μ.cut k) fs fv
 | [], _, _, _, .nil => .nil
 | _ :: _, _, _, .cons a b, .cons c d => .cons ⟨c.1, Rep.cut c.2 (Rep.lo hd a.2)⟩ (cutF hd b d)
def exitW (pure : Bool) (h : Gh) (w : W) (h' : Gh) (Q : WK) : Prop := match pure with
 | false => Q w h'
 | true => (∀ n c, n < h.nx → h.c n = some c → h'.c n = some c) ∧ ((Lo h.nx w ∧ Q w h) ∨ ∃ n ws, w = .loc n ∧ h.nx ≤ n ∧ h'.c n = some (.lst ws) ∧ Los h.nx ws ∧ Q (.lst ws) h)
def mFn (n N : Nat) (pure : Bool) (body : XWK → MS) : MSp := fun ws h Q E => by2 (Nat.beq ws.length n)
 (body E { nx := fun _ h' => exitW pure h .non h' Q, rt := fun w h' => exitW pure h w h' Q } (ws.map some ++ List.replicate (N - ws.length) none) h) False
theorem mFn_ok {n N : Nat} {pure : Bool} {body : XWK → MS} {ws : List W} {h : Gh} {Q : WK} {E : XWK} (x : mFn n N pure body ws h Q E) : ws.length = n ∧
  body E { nx := fun _ h' => exitW pure h .non h' Q, rt := fun w h' => exitW pure h w h' Q } (ws.map some ++ List.replicate (N - ws.length) none) h := by
 unfold mFn at x
 cases e : Nat.beq ws.length n with
 | true => rw [e] at x; exact ⟨Nat.eq_of_beq_eq_true e, x⟩
 | false => rw [e] at x; exact (show False from x).elim
theorem Rel.cut {K : PySem.W.Frag} {H H' : Hp} {μ μ' : Mu} {h h' : Gh} (R : Rel K μ H h) (R' : Rel K μ' H' h') (e : Ext K H μ H' μ') (hc : ∀ n c, h.c n = some c → h'.c n = some c) : Rel K (μ'.cut h.nx) H' h where
 inj := fun m n p a b => R'.inj m n p (Mu.cut_some a).2 (Mu.cut_some b).2
 dom := fun n p a => (Mu.cut_some a).1
 trk := fun n p a => R'.trk n p (Mu.cut_some a).2
 cel := fun n c a => by
  obtain ⟨p0, m0, x0⟩ := R.cel n c a
  obtain ⟨p, m, x⟩ := R'.cel n c (hc n c a)
  have hn := R.dom n p0 m0
  refine ⟨p, by show (if n < h.nx then μ'.f n else none) = some p; rw [if_pos hn]; exact m, ?_⟩
  cases c with
  | lst ws =>
   obtain ⟨xs0, _, r0⟩ := x0
   obtain ⟨xs, hx, r⟩ := x
   exact ⟨xs, hx, Reps.cut r (Reps.lo R.dom r0)⟩
  | obj C fs =>
   obtain ⟨dx0, f0, _, r0⟩ := x0
   obtain ⟨dx, fv, hx, r⟩ := x
   exact ⟨dx, fv, hx, cutF R.dom r0 r⟩
  | dct kvs =>
   obtain ⟨f0, _, r0⟩ := x0
   obtain ⟨fv, hx, r⟩ := x
   exact ⟨fv, hx, cutF R.dom r0 r⟩
  | dtt kvs =>
   obtain ⟨_, _, _, _, _, d0, f0⟩ := x0
   obtain ⟨xs, vs, a, b, c, d, f⟩ := x
   exact ⟨xs, vs, a, b, c, Reps.cut d (Reps.lo R.dom d0), Reps.cut f (Reps.lo R.dom f0)⟩
 hd := fun p z => ⟨(R'.hd p z).1, fun n a => (R'.hd p z).2 n (Mu.cut_some a).2⟩
theorem Ext.cut {K : PySem.W.Frag} {H H' : Hp} {μ μ' : Mu} {h : Gh} (R : Rel K μ H h) (e : Ext K H μ H' μ') : Ext K H μ H' (μ'.cut h.nx) :=
 ⟨fun w v r => Rep.cut (e.r w v r) (Rep.lo R.dom r), fun p u z a => e.o p u z a⟩
theorem exit_ok {K : PySem.W.Frag} {H H' : Hp} {μ μ' : Mu} {h h' : Gh} {w : W} {v : V} {Q : WK} {pure : Bool} (R : Rel K μ H h) (e : Ext K H μ H' μ') (R' : Rel K μ' H' h') (r : Rep K H' μ' w v) (x : exitW pure h w h' Q) : DQ K H μ Q v H' := by
 cases pure with
 | false => exact ⟨μ', w, h', e, R', r, x⟩
 | true =>
  obtain ⟨hc0, ⟨lo, q⟩ | ⟨n, ws, ew, hn, ec, lo, q⟩⟩ := x
  all_goals have hc : ∀ n c, h.c n = some c → h'.c n = some c := fun n c a => hc0 n c (let ⟨p, m, _⟩ := R.cel n c a; R.dom n p m) a
  ·exact ⟨μ'.cut h.nx, w, h, e.cut R, R.cut R' e hc, Rep.cut r lo, q⟩
  ·subst ew
   refine ⟨μ'.cut h.nx, .lst ws, h, e.cut R, R.cut R' e hc, ?_, q⟩
   rw [Rep] at r
   rw [Rep]
   obtain ⟨p, ev, hm⟩ := r
   obtain ⟨p', xs, hm', hx, rs⟩ := R'.lstAt ec
   have ep : p' = p := by rw [hm] at hm'; exact (Option.some.inj hm').symm
   subst ep
   refine ⟨p', xs, ev, ⟨hx, fun m a => ?_, fun z => (R'.hd p' z).2 n hm⟩, Reps.cut rs lo⟩
   obtain ⟨a1, a2⟩ := Mu.cut_some a
   have := R'.inj m n p' a2 hm
   omega
theorem start_slots {K : PySem.W.Frag} {H : Hp} {μ : Mu} {N : List Str} : ∀ {ws : List W} {vs : List V}, Reps K H μ ws vs → Slots K H μ (ws.map some ++ List.replicate (N.length - ws.length) none) (start N vs) := by
 intro ws vs r
 have hl := r.len
 refine ⟨by simp [start, hl], fun i w q => ?_⟩
 by_cases hi : i < ws.length
 ·rw [List.getElem?_append_left (by simpa using hi), List.getElem?_map] at q
  have q' : ws[i]? = some w := by
   cases e : ws[i]? with
   | none => rw [e] at q; cases q
   | some a => rw [e] at q; simpa using q
  obtain ⟨v, hv, rv⟩ := r.get q'
  refine ⟨v, ?_, rv⟩
  unfold start
  rw [List.getElem?_append_left (by rw [List.length_map]; omega), List.getElem?_map, hv]
  rfl
 ·rw [List.getElem?_append_right (by simpa using hi), List.getElem?_replicate] at q
  split at q <;> cases q
theorem d_fn {P : Program} {w : World} {K : PySem.W.Frag} {mg : Str → Option Value} {base : Heap} {x qual : Str} {st : Stmt} {f : Addr} {fd : FuncData} {N ps : List Str} {k : Nat} {pure : Bool} {body : XWK → MS} (F : Fun K x qual st f fd) (S : FnScope N ps (defScope st))
  (hb : ∀ (cdv : Value) (A : Around) (outer : List Env) (s : Shared) (H : Hp) (E : XK), Room k (A.deeper (envOfC qual (defScope st) s.heap.objs.size f cdv)) →
   DSs (cxOf CX0 P w K mg base N qual (defScope st) f cdv A outer s H E).nox (defBody st) (body EF)) : FnOk P w K mg base CX0 (k + 1) f fd ps (lift K (mFn ps.length N.length pure body)) := by
 refine F.ok S (fun vs H Q E ⟨μ, h, ws, Qw, R, r, m, k⟩ => by rw [← r.len]; exact (mFn_ok m).1) (fun cdv A outer s H vs Q E hr ⟨μ, h, ws, Qw, R, r, m0, k⟩ => ?_)
 obtain ⟨hl, m⟩ := mFn_ok m0
 refine ⟨_, hb cdv A outer s H E hr, μ, h, _, _, R, start_slots r, m, ?_, ?_, ?_, ?_⟩
 ·rintro σ' H' ⟨μ1, σw1, h1, e1, R1, S1, m1⟩
  exact k _ _ (exit_ok (w := .non) R e1 R1 (by rw [Rep]) m1)
 ·rintro v H' ⟨μ1, w1, h1, e1, R1, r1, m1⟩
  exact k _ _ (exit_ok R e1 R1 r1 m1)
 ·rintro σ' H' ⟨μ1, σw1, h1, e1, R1, S1, m1⟩
  exact m1.elim
 ·rintro σ' H' ⟨μ1, σw1, h1, e1, R1, S1, m1⟩
  exact m1.elim
end
end L2
namespace L2
open PySem PySem.Spec PyProof.Rows
section
variable {X : Cx} {K : PySem.W.Frag}
theorem DQ.int {H : Hp} {μ : Mu} {h : Gh} {i : Int} {Q : WK} (R : Rel K μ H h) (q : Q (.int i) h) : DQ K H μ Q (.int i) H := ⟨μ, .int i, h, .refl, R, by rw [Rep], q⟩
theorem DQ.bl {H : Hp} {μ : Mu} {h : Gh} {i : Bool} {Q : WK} (R : Rel K μ H h) (q : Q (.bl i) h) : DQ K H μ Q (.bl i) H := ⟨μ, .bl i, h, .refl, R, by rw [Rep], q⟩
def kI (C : Int → Int → Prop) (g : Int → Int → Int) : M2 := fun x y h Q => match x, y with
 | .int i, .int j => C i j ∧ Q (.int (g i j)) h
 | _, _ => False
def kSub : M2 := fun x y h Q => match x, y with
 | .int i, .int j => Q (.int (i - j)) h
 | _, _ => False
theorem o_sub : DOp X (binaryOp .Sub) kSub := ⟨_, op_sub, by
 intro H μ h x y wx wy Qw Q R rx ry m k
 unfold kSub at m
 split at m
 ·rw [Rep] at rx ry
  exact ⟨_, _, rx, ry, k _ _ (.int R m)⟩
 ·exact m.elim⟩
def kMul : M2 := fun x y h Q => match x, y with
 | .int i, .int j => CMulB i j ∧ Q (.int (i * j)) h
 | _, _ => False
theorem o_mul : DOp X (binaryOp .Mult) kMul := ⟨_, op_mulB, by
 intro H μ h x y wx wy Qw Q R rx ry m k
 unfold kMul at m
 split at m
 ·rw [Rep] at rx ry
  exact ⟨_, _, rx, ry, m.1, k _ _ (.int R m.2)⟩
 ·exact m.elim⟩
def kDiv : M2 := fun x y h Q => match x, y with
 | .int i, .int j => CDivBN i j ∧ Q (.int (i.fdiv j)) h
 | _, _ => False
theorem o_div : DOp X (binaryOp .FloorDiv) kDiv := ⟨_, op_fdivBN, by
 intro H μ h x y wx wy Qw Q R rx ry m k
 unfold kDiv at m
 split at m
 ·rw [Rep] at rx ry
  exact ⟨_, _, rx, ry, m.1, k _ _ (.int R m.2)⟩
 ·exact m.elim⟩
def kMod : M2 := fun x y h Q => match x, y with
 | .int i, .int j => j ≠ 0 ∧ Q (.int (i.fmod j)) h
 | _, _ => False
theorem o_mod : DOp X (binaryOp .Mod) kMod := ⟨_, op_modN, by
 intro H μ h x y wx wy Qw Q R rx ry m k
 unfold kMod at m
 split at m
 ·rw [Rep] at rx ry
  exact ⟨_, _, rx, ry, m.1, k _ _ (.int R m.2)⟩
 ·exact m.elim⟩
def kPow : M2 := fun x y h Q => match x, y with
 | .int i, .int j => CPow i j ∧ Q (.int (i ^ j.toNat)) h
 | _, _ => False
theorem o_pow : DOp X (binaryOp .Pow) kPow := ⟨_, op_pow, by
 intro H μ h x y wx wy Qw Q R rx ry m k
 unfold kPow at m
 split at m
 ·rw [Rep] at rx ry
  exact ⟨_, _, rx, ry, m.1, k _ _ (.int R m.2)⟩
 ·exact m.elim⟩
def kLt : M2 := fun x y h Q => match x, y with
 | .int i, .int j => Q (.bl (decide (i < j))) h
 | _, _ => False
theorem o_lt : DOp X (compareOp .Lt) kLt := ⟨_, op_lt, by
 intro H μ h x y wx wy Qw Q R rx ry m k
 unfold kLt at m
 split at m
 ·rw [Rep] at rx ry
  exact ⟨_, _, rx, ry, k _ _ (.bl R m)⟩
 ·exact m.elim⟩
def kGt : M2 := fun x y h Q => match x, y with
 | .int i, .int j => Q (.bl (decide (j < i))) h
 | _, _ => False
theorem o_gt : DOp X (compareOp .Gt) kGt := ⟨_, op_gt, by
 intro H μ h x y wx wy Qw Q R rx ry m k
 unfold kGt at m
 split at m
 ·rw [Rep] at rx ry
  exact ⟨_, _, rx, ry, k _ _ (.bl R m)⟩
 ·exact m.elim⟩
theorem Reps.ne_nil {H : Hp} {μ : Mu} {ws : List W} {xs : List V} (r : Reps K H μ ws xs) : xs = [] ↔ ws = [] := by
 have := r.len
 constructor
 ·intro e; subst e; exact List.eq_nil_of_length_eq_zero this
 ·intro e; subst e; exact List.eq_nil_of_length_eq_zero this.symm
def kIx : M2 := fun x y h Q => match y with
 | .int i => (match view h x with
  | some ws => (match atI ws i with
   | some w => Q w h
   | none => False)
  | none => False)
 | _ => False
theorem Reps.at {H : Hp} {μ : Mu} {ws : List W} {xs : List V} {i : Int} {w : W} (r : Reps K H μ ws xs) (e : atI ws i = some w) : ∃ v, atI xs i = some v ∧ Rep K H μ w v := by
 unfold atI at e ⊢
 rw [← r.len]
 cases q : ixN ws.length i with
 | none => rw [q] at e; cases e
 | some j => rw [q] at e; exact r.get e
theorem viewL_ok {H : Hp} {μ : Mu} {h : Gh} {w : W} {v : V} {ws : List W} (R : Rel K μ H h) (r : Rep K H μ w v) (e : viewL h w = some ws) : ∃ p xs, v = .ref p ∧ SqL K H p xs ∧ Reps K H μ ws xs := by
 cases w with
 | lst us =>
  rw [Rep] at r
  obtain ⟨p, xs, ev, hs, rs⟩ := r
  cases (show some us = some ws from e)
  exact ⟨p, xs, ev, hs.sq, rs⟩
 | kls us =>
  rw [Rep] at r
  obtain ⟨p, xs, ev, hs, rs⟩ := r
  cases (show some us = some ws from e)
  exact ⟨p, xs, ev, hs.sq, rs⟩
 | loc n =>
  rw [Rep] at r
  obtain ⟨p, ev, hm⟩ := r
  unfold viewL at e
  dsimp only at e
  cases ec : h.c n with
  | none => rw [ec] at e; cases e
  | some cl =>
   rw [ec] at e
   cases cl with
   | lst us =>
    cases (show some us = some ws from e)
    obtain ⟨p', xs, hm', hx, rs⟩ := R.lstAt ec
    have ep : p' = p := by rw [hm] at hm'; exact (Option.some.inj hm').symm
    subst ep
    exact ⟨p', xs, ev, .of hx, rs⟩
   | _ => cases e
 | _ => cases e
theorem view_ok {H : Hp} {μ : Mu} {h : Gh} {w : W} {v : V} {ws : List W} (R : Rel K μ H h) (r : Rep K H μ w v) (e : view h w = some ws) : ∃ p xs, v = .ref p ∧ (SqL K H p xs ∨ SqT K H p xs) ∧ Reps K H μ ws xs := by
 cases w with
 | tup us =>
  rw [Rep] at r
  obtain ⟨p, xs, ev, hs, rs⟩ := r
  cases (show some us = some ws from e)
  exact ⟨p, xs, ev, .inr hs, rs⟩
 | lst us =>
  obtain ⟨p, xs, ev, hs, rs⟩ := viewL_ok (ws := ws) R r e
  exact ⟨p, xs, ev, .inl hs, rs⟩
 | kls us =>
  obtain ⟨p, xs, ev, hs, rs⟩ := viewL_ok (ws := ws) R r e
  exact ⟨p, xs, ev, .inl hs, rs⟩
 | loc n =>
  obtain ⟨p, xs, ev, hs, rs⟩ := viewL_ok (ws := ws) R r e
  exact ⟨p, xs, ev, .inl hs, rs⟩
 | _ => cases e
theorem sim_ix : Sim2 K (rIx K) kIx := by
 intro H μ h x y wx wy Qw Q R rx ry m k
 unfold kIx at m
 split at m
 ·rename_i i
  split at m
  ·rename_i ws ev
   split at m
   ·rename_i w ew
    obtain ⟨p, xs, ex, hs, rs⟩ := view_ok R rx ev
    obtain ⟨v, hv, rv⟩ := rs.at ew
    rw [Rep] at ry
    have fin := k _ _ ⟨μ, w, h, .refl, R, rv, m⟩
    rcases hs with hs | hs
    ·exact .inl ⟨p, xs, i, v, ex, ry, hs, hv, fin⟩
    ·exact .inr (.inl ⟨p, xs, i, v, ex, ry, hs, hv, fin⟩)
   ·exact m.elim
  ·exact m.elim
 ·exact m.elim
theorem d_ix {a b : Expr} {ma mb : ME} {pos : Pos} (ha : DE X a ma) (hb : DE X b mb) (hs : PlainIx b) : DE X (.Subscript a b pos) (mOp kIx ma mb) := (pe_ix ix_seq ha hb hs).of fun σ H Q h => two h fun R r1 r2 m k => sim_ix R r1 r2 m k
abbrev MO := Sw → Gh → (Option Int → Gh → Prop) → Prop
def tDO (K : PySem.W.Frag) (m : MO) : TO := fun σ H Q => ∃ μ h σw Qw, Rel K μ H h ∧ Slots K H μ σw σ ∧ m σw h Qw ∧ ∀ o H', (∃ μ' h', Ext K H μ H' μ' ∧ Rel K μ' H' h' ∧ Qw o h') → Q o H'
abbrev DO (X : Cx) (e : Option Expr) (m : MO) : Prop := PO X e (tDO X.K m)
theorem PO.of {e : Option Expr} {t t' : TO} (h : PO X e t) (k : ∀ σ H Q, t' σ H Q → t σ H Q) : PO X e t' := by
 unfold PO at h ⊢
 intros
 apply h <;> first | assumption | (apply k; assumption)
def mNoPart : MO := fun _ h Q => Q none h
def mPart (m : ME) : MO := fun σ h Q => m σ h fun w h1 => match w with
 | .int i => Q (some i) h1
 | _ => False
theorem do_none : DO X none mNoPart := PO.of po_none fun σ H Q ⟨μ, h, σw, Qw, R, S, m, k⟩ => k _ _ ⟨μ, h, .refl, R, m⟩
theorem do_some {e : Expr} {ma : ME} (he : DE X e ma) : DO X (some e) (mPart ma) := PO.of (po_some he) fun σ H Q ⟨μ, h, σw, Qw, R, S, m, k⟩ => by
 refine ⟨μ, h, σw, _, R, S, m, fun v H1 ⟨μ1, w, h1, e1, R1, r1, m1⟩ => ?_⟩
 dsimp only at m1
 split at m1
 ·rw [Rep] at r1; exact ⟨_, r1, k _ _ ⟨μ1, h1, e1, R1, m1⟩⟩
 ·exact m1.elim
def cutW (xs : List W) (lo hi : Option Int) : List W := (xs.drop (HT.sIx xs.length 0 lo)).take (HT.sIx xs.length xs.length hi - HT.sIx xs.length 0 lo)
def mSl (r : W → Option Int → Option Int → Gh → WK → Prop) (m : ME) (l u : MO) : ME := fun σ h Q => m σ h fun x h1 => l σ h1 fun lo h2 => u σ h2 fun hi h3 => r x lo hi h3 Q
theorem Reps.cutv {H : Hp} {μ : Mu} {ws : List W} {xs : List V} (r : Reps K H μ ws xs) (lo hi : Option Int) : Reps K H μ (cutW ws lo hi) (cutV xs lo hi) := by
 unfold cutW cutV
 rw [← r.len]
 exact (r.drop _).take _
end
end L2
namespace L2
open PySem PySem.Spec PyProof.Rows
mutual
def eqW : W → W → Bool
 | .non, .non => true
 | .bl a, .bl b => a == b
 | .bl a, .int b => (if a then 1 else 0) == b
 | .int a, .bl b => a == (if b then 1 else 0)
 | .int a, .int b => a == b
 | .str a, .str b => a == b
 | .tup a, .tup b => eqWs a b
 | .lst a, .lst b => eqWs a b
 | _, _ => false
def eqWs : List W → List W → Bool
 | [], [] => true
 | a :: as, b :: bs => eqW a b && eqWs as bs
 | _, _ => false
end
def plW : Nat → W → Bool
 | _, .non => true
 | _, .bl _ => true
 | _, .int _ => true
 | _, .str _ => true
 | n + 1, .tup ws => ws.all (plW n)
 | n + 1, .lst ws => ws.all (plW n)
 | _, _ => false
mutual
def Dt (K : PySem.W.Frag) (H : Hp) : W → V → Prop
 | .non, v => v = .non
 | .bl b, v => v = .bl b
 | .int i, v => v = .int i
 | .str x, v => v = .str x
 | .tup ws, v => ∃ p xs, v = .ref p ∧ SqT K H p xs ∧ Dts K H ws xs
 | .lst ws, v => ∃ p xs, v = .ref p ∧ SqL K H p xs ∧ Dts K H ws xs
 | .ty _, _ => False
 | .kls _, _ => False
 | .loc _, _ => False
 | .exc _, _ => False
 | .exa _ _, _ => False
 | .fnv _ _, _ => False
def Dts (K : PySem.W.Frag) (H : Hp) : List W → List V → Prop
 | [], xs => xs = []
 | w :: ws, xs => ∃ v vs, xs = v :: vs ∧ Dt K H w v ∧ Dts K H ws vs
end
section
variable {X : Cx} {K : PySem.W.Frag} {H : Hp} {μ : Mu} {h : Gh}
theorem Dts.len : ∀ {ws : List W} {xs : List V}, Dts K H ws xs → ws.length = xs.length
 | [], xs, h => by
  have e : xs = [] := by rw [Dts] at h; exact h
  rw [e]; rfl
 | w :: ws, xs, h => by
  rw [Dts] at h
  obtain ⟨v, vs, e, _, h⟩ := h
  rw [e, List.length_cons, List.length_cons, Dts.len h]
theorem Dts.get : ∀ {ws : List W} {xs : List V} {i : Nat} {w : W}, Dts K H ws xs → ws[i]? = some w → ∃ v, xs[i]? = some v ∧ Dt K H w v
 | [], _, _, _, _, e => by simp at e
 | a :: ws, xs, 0, w, h, e => by
  rw [Dts] at h
  obtain ⟨v, vs, e1, r, _⟩ := h
  simp at e; subst e; subst e1
  exact ⟨v, rfl, r⟩
 | a :: ws, xs, i + 1, w, h, e => by
  rw [Dts] at h
  obtain ⟨v, vs, e1, _, h⟩ := h
  subst e1
  obtain ⟨u, h1, h2⟩ := Dts.get (i := i) (w := w) h (by simpa using e)
  exact ⟨u, by simpa using h1, h2⟩
theorem dts_of {n : Nat} (one : ∀ {w : W} {v : V}, Rep K H μ w v → plW n w = true → Dt K H w v) : ∀ {ws : List W} {xs : List V}, Reps K H μ ws xs → ws.all (plW n) = true → Dts K H ws xs
 | [], _, h, _ => by rw [Reps] at h; rw [Dts]; exact h
 | w :: ws, _, h, p => by
  rw [Reps] at h
  rw [Dts]
  obtain ⟨v, vs, e, r, h⟩ := h
  rw [List.all_cons, Bool.and_eq_true] at p
  exact ⟨v, vs, e, one r p.1, dts_of one h p.2⟩
theorem dt_of : ∀ (n : Nat) {w : W} {v : V}, Rep K H μ w v → plW n w = true → Dt K H w v := by
 intro n
 induction n with
 | zero =>
  intro w v r p
  cases w with
  | non => rw [Rep] at r; rw [Dt]; exact r
  | bl _ => rw [Rep] at r; rw [Dt]; exact r
  | int _ => rw [Rep] at r; rw [Dt]; exact r
  | str _ => rw [Rep] at r; rw [Dt]; exact r
  | _ => simp [plW] at p
 | succ n ih =>
  intro w v r p
  cases w with
  | non => rw [Rep] at r; rw [Dt]; exact r
  | bl _ => rw [Rep] at r; rw [Dt]; exact r
  | int _ => rw [Rep] at r; rw [Dt]; exact r
  | str _ => rw [Rep] at r; rw [Dt]; exact r
  | tup ws =>
   rw [Rep] at r; rw [Dt]
   obtain ⟨p', xs, e, hs, rs⟩ := r
   exact ⟨p', xs, e, hs, dts_of ih rs (by simpa [plW] using p)⟩
  | lst ws =>
   rw [Rep] at r; rw [Dt]
   obtain ⟨p', xs, e, hs, rs⟩ := r
   exact ⟨p', xs, e, hs.sq, dts_of ih rs (by simpa [plW] using p)⟩
  | _ => simp [plW] at p
theorem eqWs_len : ∀ {a b : List W}, a.length ≠ b.length → eqWs a b = false
 | [], [], h => absurd rfl h
 | [], _ :: _, _ => by simp [eqWs]
 | _ :: _, [], _ => by simp [eqWs]
 | a :: as, b :: bs, h => by
  rw [eqWs, eqWs_len (a := as) (b := bs) (by simpa using h), Bool.and_false]
def eqJW (a b : List W) (j : Nat) : Bool := eqW (a.getD j .non) (b.getD j .non)
theorem all_eqJW : ∀ {a b : List W}, a.length = b.length → (List.range a.length).all (eqJW a b) = eqWs a b
 | [], [], _ => by simp [eqWs]
 | [], _ :: _, h => by simp at h
 | _ :: _, [], h => by simp at h
 | a :: as, b :: bs, h => by
  rw [eqWs, ← all_eqJW (a := as) (b := bs) (by simpa using h), List.length_cons, List.range_succ_eq_map, List.all_cons, List.all_map]
  rfl
mutual
theorem eqW_same {pins : List (Addr × Obj)} {s : Shared} {σ : St} (I : Inv X pins σ H s) : ∀ {w u : W} {v : V}, Dt X.K H w v → Dt X.K H u v → eqW w u = true
 | .non, u, v, h, g => by rw [Dt] at h; subst h; cases u <;> rw [Dt] at g <;> first | rfl | exact g.elim | (obtain ⟨_, _, g, _⟩ := g; cases g; done) | (cases g; done)
 | .bl b, u, v, h, g => by rw [Dt] at h; subst h; cases u <;> rw [Dt] at g <;> first | (injection g with g; simp [eqW, g]; done) | exact g.elim | (obtain ⟨_, _, g, _⟩ := g; cases g; done) | (cases g; done)
 | .int b, u, v, h, g => by rw [Dt] at h; subst h; cases u <;> rw [Dt] at g <;> first | (injection g with g; simp [eqW, g]; done) | exact g.elim | (obtain ⟨_, _, g, _⟩ := g; cases g; done) | (cases g; done)
 | .str b, u, v, h, g => by rw [Dt] at h; subst h; cases u <;> rw [Dt] at g <;> first | (injection g with g; simp [eqW, g]; done) | exact g.elim | (obtain ⟨_, _, g, _⟩ := g; cases g; done) | (cases g; done)
 | .tup ws, u, v, h, g => by
  rw [Dt] at h
  obtain ⟨p, xs, e, hs, ds⟩ := h
  subst e
  cases u with
  | tup us =>
   rw [Dt] at g
   obtain ⟨p', xs', e', hs', ds'⟩ := g
   cases e'
   have := I.tuple_inj hs hs'
   subst this
   rw [eqW]
   exact eqWs_same I ds ds'
  | lst us =>
   rw [Dt] at g
   obtain ⟨p', xs', e', hs', ds'⟩ := g
   cases e'
   obtain ⟨_, _, t, _⟩ := I.tuple hs
   obtain ⟨_, _, l, _⟩ := I.list hs'
   exact absurd rfl (SeqAt.ne_of_list_tuple l.isList (show s.heap.IsTuple _ _ from t))
  | ty _ => rw [Dt] at g; exact g.elim
  | loc _ => rw [Dt] at g; exact g.elim
  | kls _ => rw [Dt] at g; exact g.elim
  | _ => rw [Dt] at g; cases g
 | .lst ws, u, v, h, g => by
  rw [Dt] at h
  obtain ⟨p, xs, e, hs, ds⟩ := h
  subst e
  cases u with
  | lst us =>
   rw [Dt] at g
   obtain ⟨p', xs', e', hs', ds'⟩ := g
   cases e'
   have := I.list_inj hs hs'
   subst this
   rw [eqW]
   exact eqWs_same I ds ds'
  | tup us =>
   rw [Dt] at g
   obtain ⟨p', xs', e', hs', ds'⟩ := g
   cases e'
   obtain ⟨_, _, t, _⟩ := I.tuple hs'
   obtain ⟨_, _, l, _⟩ := I.list hs
   exact absurd rfl (SeqAt.ne_of_list_tuple l.isList (show s.heap.IsTuple _ _ from t))
  | ty _ => rw [Dt] at g; exact g.elim
  | loc _ => rw [Dt] at g; exact g.elim
  | kls _ => rw [Dt] at g; exact g.elim
  | _ => rw [Dt] at g; cases g
 | .ty _, _, _, h, _ => by rw [Dt] at h; exact h.elim
 | .loc _, _, _, h, _ => by rw [Dt] at h; exact h.elim
 | .exc _, _, _, h, _ => by rw [Dt] at h; exact h.elim
 | .exa _ _, _, _, h, _ => by rw [Dt] at h; exact h.elim
 | .kls _, _, _, h, _ => by rw [Dt] at h; exact h.elim
theorem eqWs_same {pins : List (Addr × Obj)} {s : Shared} {σ : St} (I : Inv X pins σ H s) : ∀ {ws us : List W} {vs : List V}, Dts X.K H ws vs → Dts X.K H us vs → eqWs ws us = true
 | [], us, vs, h, g => by
  rw [Dts] at h; subst h
  cases us with
  | nil => rfl
  | cons _ _ => rw [Dts] at g; obtain ⟨_, _, g, _⟩ := g; cases g
 | w :: ws, us, vs, h, g => by
  rw [Dts] at h
  obtain ⟨v, vs', e, h1, h2⟩ := h
  subst e
  cases us with
  | nil => rw [Dts] at g; cases g
  | cons u us =>
   rw [Dts] at g
   obtain ⟨v', vs'', e', g1, g2⟩ := g
   cases e'
   rw [eqWs, eqW_same I h1 g1, eqWs_same I h2 g2]
   rfl
end

theorem in1_units {A : Around} : A.in1.units = A.units + 1 := rfl
theorem plW_tup {n : Nat} {ws : List W} (h : plW n (.tup ws) = true) : ∃ m, n = m + 1 ∧ ws.all (plW m) = true := by
 cases n with
 | zero => simp [plW] at h
 | succ m => exact ⟨m, rfl, by simpa [plW] using h⟩
theorem plW_lst {n : Nat} {ws : List W} (h : plW n (.lst ws) = true) : ∃ m, n = m + 1 ∧ ws.all (plW m) = true := by
 cases n with
 | zero => simp [plW] at h
 | succ m => exact ⟨m, rfl, by simpa [plW] using h⟩
theorem items_at {s : Shared} {A : Around} {n : Nat} {ws us : List W} {xs ys : List V} {its jts : List Value} (d1 : Dts K H ws xs) (d2 : Dts K H us ys) (p1 : ws.all (plW n) = true) (p2 : us.all (plW n) = true) (r1 : Vals xs its) (r2 : Vals ys jts)
  (one : ∀ {w u : W} {v x : V} {a b : Value}, Dt K H w v → Dt K H u x → plW n w = true → plW n u = true → RelV v a → RelV x b → SeqAt.EqAt A s a b (eqW w u)) :
  ∀ j (h1 : j < its.toArray.size) (h2 : j < jts.toArray.size), SeqAt.EqAt A s its.toArray[j] jts.toArray[j] (eqJW ws us j) := by
 intro j h1 h2
 have l1 : j < ws.length := by rw [d1.len, r1.length]; simpa using h1
 have l2 : j < us.length := by rw [d2.len, r2.length]; simpa using h2
 obtain ⟨v, ev, dv⟩ := d1.get (List.getElem?_eq_getElem l1)
 obtain ⟨x, ex, dx⟩ := d2.get (List.getElem?_eq_getElem l2)
 obtain ⟨a, ea, ra⟩ := r1.get ev
 obtain ⟨b, eb, rb⟩ := r2.get ex
 have ea' : its.toArray[j] = a := by simpa using (List.getElem?_eq_some_iff.mp ea).2
 have eb' : jts.toArray[j] = b := by simpa using (List.getElem?_eq_some_iff.mp eb).2
 have e : eqJW ws us j = eqW ws[j] us[j] := by
  unfold eqJW
  rw [List.getD_eq_getElem?_getD, List.getD_eq_getElem?_getD, List.getElem?_eq_getElem l1, List.getElem?_eq_getElem l2]
  rfl
 rw [ea', eb', e]
 exact one dv dx (List.all_eq_true.mp p1 _ (List.getElem_mem l1)) (List.all_eq_true.mp p2 _ (List.getElem_mem l2)) ra rb
theorem size_of {ws : List W} {xs : List V} {its : List Value} (d : Dts K H ws xs) (r : Vals xs its) : its.toArray.size = ws.length := by
 rw [d.len, r.length]; simp
theorem tup_all {ws us : List W} : ((List.range (min ws.length us.length)).all (eqJW ws us) && ws.length == us.length) = eqWs ws us := by
 by_cases e : ws.length = us.length
 ·rw [← e, Nat.min_self, all_eqJW e]; simp
 ·rw [eqWs_len e]
  have e2 : (ws.length == us.length) = false := beq_eq_false_iff_ne.mpr e
  rw [e2, Bool.and_false]
inductive Kd (s : Shared) : W → Value → Prop where
 | non : Kd s .non .none
 | bl (b : Bool) : Kd s (.bl b) (.bool b)
 | int (i : Int) (t : Tok) : Kd s (.int i) (.int i t)
 | str (x : Str) (t : Tok) : Kd s (.str x) (.str x t)
 | tup (ws : List W) {p : Addr} {its : Array Value} (q : s.heap.IsTuple p its) : Kd s (.tup ws) (.ref p)
 | lst (ws : List W) {p : Addr} {its : Array Value} (q : s.heap.IsList p its) : Kd s (.lst ws) (.ref p)
theorem kd_of {pins : List (Addr × Obj)} {s : Shared} {σ : St} (I : Inv X pins σ H s) {w : W} {v : V} {a : Value} (d : Dt X.K H w v) (r : RelV v a) : Kd s w a := by
 cases w with
 | non => rw [Dt] at d; subst d; cases r; exact .non
 | bl b => rw [Dt] at d; subst d; cases r; exact .bl b
 | int b => rw [Dt] at d; subst d; obtain ⟨t, rfl⟩ := r; exact .int b t
 | str b => rw [Dt] at d; subst d; obtain ⟨t, rfl⟩ := r; exact .str b t
 | tup ws => rw [Dt] at d; obtain ⟨p, xs, e, hs, _⟩ := d; subst e; cases r; obtain ⟨its, _, q, _⟩ := I.tuple hs; exact .tup ws q
 | lst ws => rw [Dt] at d; obtain ⟨p, xs, e, hs, _⟩ := d; subst e; cases r; obtain ⟨its, _, q, _⟩ := I.list hs; exact .lst ws q.isList
 | _ => rw [Dt] at d; exact d.elim
def twoSq : W → W → Bool
 | .tup _, .tup _ => true
 | .lst _, .lst _ => true
 | _, _ => false
def flt2 : W → W → Bool
 | .tup _, _ => false
 | .lst _, _ => false
 | _, .tup _ => false
 | _, .lst _ => false
 | _, _ => true
theorem eq_mix {s : Shared} {A : Around} {w u : W} {a b : Value} (hu : A.units < cLine) (k1 : Kd s w a) (k2 : Kd s u b) (h : twoSq w u = false) (f : flt2 w u = false) : SeqAt.EqAt A s a b (eqW w u) := by
 cases k1 with
 | non =>
  cases k2 with
  | non => cases f
  | bl _ => cases f
  | int _ _ => cases f
  | str _ _ => cases f
  | tup _ q3 => apply SeqAt.EqAt.none_tuple <;> assumption
  | lst _ q4 => apply SeqAt.EqAt.none_list <;> assumption
 | bl _ =>
  cases k2 with
  | non => cases f
  | bl _ => cases f
  | int _ _ => cases f
  | str _ _ => cases f
  | tup _ q3 => apply SeqAt.EqAt.bool_tuple <;> assumption
  | lst _ q4 => apply SeqAt.EqAt.bool_list <;> assumption
 | int _ _ =>
  cases k2 with
  | non => cases f
  | bl _ => cases f
  | int _ _ => cases f
  | str _ _ => cases f
  | tup _ q3 => apply SeqAt.EqAt.int_tuple <;> assumption
  | lst _ q4 => apply SeqAt.EqAt.int_list <;> assumption
 | str _ _ =>
  cases k2 with
  | non => cases f
  | bl _ => cases f
  | int _ _ => cases f
  | str _ _ => cases f
  | tup _ q3 => apply SeqAt.EqAt.str_tuple <;> assumption
  | lst _ q4 => apply SeqAt.EqAt.str_list <;> assumption
 | tup _ q1 =>
  cases k2 with
  | non => apply SeqAt.EqAt.tuple_none <;> assumption
  | bl _ => apply SeqAt.EqAt.tuple_bool <;> assumption
  | int _ _ => apply SeqAt.EqAt.tuple_int <;> assumption
  | str _ _ => apply SeqAt.EqAt.tuple_str <;> assumption
  | tup _ q3 => cases h
  | lst _ q4 => apply SeqAt.EqAt.tuple_list <;> assumption
 | lst _ q2 =>
  cases k2 with
  | non => apply SeqAt.EqAt.list_none <;> assumption
  | bl _ => apply SeqAt.EqAt.list_bool <;> assumption
  | int _ _ => apply SeqAt.EqAt.list_int <;> assumption
  | str _ _ => apply SeqAt.EqAt.list_str <;> assumption
  | tup _ q3 => apply SeqAt.EqAt.list_tuple <;> assumption
  | lst _ q4 => cases h
theorem rc_mix {s : Shared} {A : Around} {w u : W} {a b : Value} (hu : A.units < cLine) (k1 : Kd s w a) (k2 : Kd s u b) (h : twoSq w u = false) : SeqAt.RcAt A s a b (eqW w u) := by
 cases k1 with
 | non =>
  cases k2 with
  | non => apply SeqAt.RcAt.none_none <;> assumption
  | bl _ => apply SeqAt.RcAt.none_bool <;> assumption
  | int _ _ => apply SeqAt.RcAt.none_int <;> assumption
  | str _ _ => apply SeqAt.RcAt.none_str <;> assumption
  | tup _ q3 => apply SeqAt.RcAt.none_tuple <;> assumption
  | lst _ q4 => apply SeqAt.RcAt.none_list <;> assumption
 | bl _ =>
  cases k2 with
  | non => apply SeqAt.RcAt.bool_none <;> assumption
  | bl _ => apply SeqAt.RcAt.bool_bool <;> assumption
  | int _ _ => apply SeqAt.RcAt.bool_int <;> assumption
  | str _ _ => apply SeqAt.RcAt.bool_str <;> assumption
  | tup _ q3 => apply SeqAt.RcAt.bool_tuple <;> assumption
  | lst _ q4 => apply SeqAt.RcAt.bool_list <;> assumption
 | int _ _ =>
  cases k2 with
  | non => apply SeqAt.RcAt.int_none <;> assumption
  | bl _ => apply SeqAt.RcAt.int_bool <;> assumption
  | int _ _ => apply SeqAt.RcAt.int_int <;> assumption
  | str _ _ => apply SeqAt.RcAt.int_str <;> assumption
  | tup _ q3 => apply SeqAt.RcAt.int_tuple <;> assumption
  | lst _ q4 => apply SeqAt.RcAt.int_list <;> assumption
 | str _ _ =>
  cases k2 with
  | non => apply SeqAt.RcAt.str_none <;> assumption
  | bl _ => apply SeqAt.RcAt.str_bool <;> assumption
  | int _ _ => apply SeqAt.RcAt.str_int <;> assumption
  | str _ _ => apply SeqAt.RcAt.str_str <;> assumption
  | tup _ q3 => apply SeqAt.RcAt.str_tuple <;> assumption
  | lst _ q4 => apply SeqAt.RcAt.str_list <;> assumption
 | tup _ q1 =>
  cases k2 with
  | non => apply SeqAt.RcAt.tuple_none <;> assumption
  | bl _ => apply SeqAt.RcAt.tuple_bool <;> assumption
  | int _ _ => apply SeqAt.RcAt.tuple_int <;> assumption
  | str _ _ => apply SeqAt.RcAt.tuple_str <;> assumption
  | tup _ q3 => cases h
  | lst _ q4 => apply SeqAt.RcAt.tuple_list <;> assumption
 | lst _ q2 =>
  cases k2 with
  | non => apply SeqAt.RcAt.list_none <;> assumption
  | bl _ => apply SeqAt.RcAt.list_bool <;> assumption
  | int _ _ => apply SeqAt.RcAt.list_int <;> assumption
  | str _ _ => apply SeqAt.RcAt.list_str <;> assumption
  | tup _ q3 => apply SeqAt.RcAt.list_tuple <;> assumption
  | lst _ q4 => cases h
theorem ne_mix {s : Shared} {A : Around} {w u : W} {a b : Value} (hu : A.units < cLine) (k1 : Kd s w a) (k2 : Kd s u b) (h : twoSq w u = false) : SeqAt.RcNeAt A s a b (!eqW w u) := by
 cases k1 with
 | non =>
  cases k2 with
  | non => apply SeqAt.RcNeAt.none_none <;> assumption
  | bl _ => apply SeqAt.RcNeAt.none_bool <;> assumption
  | int _ _ => apply SeqAt.RcNeAt.none_int <;> assumption
  | str _ _ => apply SeqAt.RcNeAt.none_str <;> assumption
  | tup _ q3 => apply SeqAt.RcNeAt.none_tuple <;> assumption
  | lst _ q4 => apply SeqAt.RcNeAt.none_list <;> assumption
 | bl _ =>
  cases k2 with
  | non => apply SeqAt.RcNeAt.bool_none <;> assumption
  | bl _ => apply SeqAt.RcNeAt.bool_bool <;> assumption
  | int _ _ => apply SeqAt.RcNeAt.bool_int <;> assumption
  | str _ _ => apply SeqAt.RcNeAt.bool_str <;> assumption
  | tup _ q3 => apply SeqAt.RcNeAt.bool_tuple <;> assumption
  | lst _ q4 => apply SeqAt.RcNeAt.bool_list <;> assumption
 | int _ _ =>
  cases k2 with
  | non => apply SeqAt.RcNeAt.int_none <;> assumption
  | bl _ => apply SeqAt.RcNeAt.int_bool <;> assumption
  | int _ _ => apply SeqAt.RcNeAt.int_int <;> assumption
  | str _ _ => apply SeqAt.RcNeAt.int_str <;> assumption
  | tup _ q3 => apply SeqAt.RcNeAt.int_tuple <;> assumption
  | lst _ q4 => apply SeqAt.RcNeAt.int_list <;> assumption
 | str _ _ =>
  cases k2 with
  | non => apply SeqAt.RcNeAt.str_none <;> assumption
  | bl _ => apply SeqAt.RcNeAt.str_bool <;> assumption
  | int _ _ => apply SeqAt.RcNeAt.str_int <;> assumption
  | str _ _ => apply SeqAt.RcNeAt.str_str <;> assumption
  | tup _ q3 => apply SeqAt.RcNeAt.str_tuple <;> assumption
  | lst _ q4 => apply SeqAt.RcNeAt.str_list <;> assumption
 | tup _ q1 =>
  cases k2 with
  | non => apply SeqAt.RcNeAt.tuple_none <;> assumption
  | bl _ => apply SeqAt.RcNeAt.tuple_bool <;> assumption
  | int _ _ => apply SeqAt.RcNeAt.tuple_int <;> assumption
  | str _ _ => apply SeqAt.RcNeAt.tuple_str <;> assumption
  | tup _ q3 => cases h
  | lst _ q4 => apply SeqAt.RcNeAt.tuple_list <;> assumption
 | lst _ q2 =>
  cases k2 with
  | non => apply SeqAt.RcNeAt.list_none <;> assumption
  | bl _ => apply SeqAt.RcNeAt.list_bool <;> assumption
  | int _ _ => apply SeqAt.RcNeAt.list_int <;> assumption
  | str _ _ => apply SeqAt.RcNeAt.list_str <;> assumption
  | tup _ q3 => apply SeqAt.RcNeAt.list_tuple <;> assumption
  | lst _ q4 => cases h
theorem eqAtW {pins : List (Addr × Obj)} {s : Shared} {σ : St} (I : Inv X pins σ H s) : ∀ (n : Nat) {A : Around} {w u : W} {v x : V} {a b : Value}, A.units + n < cLine → Dt X.K H w v → Dt X.K H u x → plW n w = true → plW n u = true → RelV v a → RelV x b → SeqAt.EqAt A s a b (eqW w u) := by
 intro n
 induction n with
 | zero =>
  intro A w u v x a b hu dw du pw pu ra rb
  cases w <;> first | (simp [plW] at pw; done) | skip
  all_goals cases u <;> first | (simp [plW] at pu; done) | (rw [Dt] at dw; rw [Dt] at du; subst dw; subst du; exact eqAt_V ra rb rfl rfl)
 | succ n ih =>
  intro A w u v x a b hu dw du pw pu ra rb
  have hu' : A.units < cLine := by omega
  have hu1 : A.in1.units + n < cLine := by rw [in1_units]; omega
  by_cases h2 : twoSq w u = true
  ·cases w <;> cases u <;> first | (cases h2; done) | skip
   ·rename_i ws us
    have dw0 := dw; have du0 := du
    rw [Dt] at dw; obtain ⟨p1, xs1, e1, hs1, ds1⟩ := dw; subst e1; cases ra; obtain ⟨its1, rv1, pl1, hz1⟩ := I.tuple hs1; have q1 : s.heap.IsTuple p1 its1.toArray := pl1
    rw [Dt] at du; obtain ⟨p2, xs2, e2, hs2, ds2⟩ := du; subst e2; cases rb; obtain ⟨its2, rv2, pl2, hz2⟩ := I.tuple hs2; have q2 : s.heap.IsTuple p2 its2.toArray := pl2
    have pw : ws.all (plW n) = true := by simpa [plW] using pw
    have pu : us.all (plW n) = true := by simpa [plW] using pu
    by_cases hp : p1 = p2
    ·subst hp; rw [eqW_same I dw0 du0]; exact SeqAt.EqAt.same _
    ·refine SeqAt.EqAt.of_refs hp ?_
     have z := SeqAt.RcAt.tuples q1 q2 hu' (items_at ds1 ds2 pw pu rv1 rv2 (fun a b c d e f => ih hu1 a b c d e f))
     rw [size_of ds1 rv1, size_of ds2 rv2, tup_all] at z
     rw [eqW]; exact z
   ·rename_i ws us
    have dw0 := dw; have du0 := du
    rw [Dt] at dw; obtain ⟨p1, xs1, e1, hs1, ds1⟩ := dw; subst e1; cases ra; obtain ⟨its1, rv1, pl1, hz1⟩ := I.list hs1; have q1 := pl1.isList
    rw [Dt] at du; obtain ⟨p2, xs2, e2, hs2, ds2⟩ := du; subst e2; cases rb; obtain ⟨its2, rv2, pl2, hz2⟩ := I.list hs2; have q2 := pl2.isList
    have pw : ws.all (plW n) = true := by simpa [plW] using pw
    have pu : us.all (plW n) = true := by simpa [plW] using pu
    by_cases hp : p1 = p2
    ·subst hp; rw [eqW_same I dw0 du0]; exact SeqAt.EqAt.same _
    ·refine SeqAt.EqAt.of_refs hp ?_
     rw [eqW]
     by_cases hl : ws.length = us.length
     ·have z := SeqAt.RcAt.lists q1 q2 (by rw [size_of ds1 rv1, size_of ds2 rv2, hl]) hu' (items_at ds1 ds2 pw pu rv1 rv2 (fun a b c d e f => ih hu1 a b c d e f))
      rw [size_of ds1 rv1, all_eqJW hl] at z
      exact z
     ·rw [eqWs_len hl]; exact SeqAt.RcAt.lists_lengths q1 q2 (by rw [size_of ds1 rv1, size_of ds2 rv2]; simpa using hl) hu'
  ·by_cases hf : flt2 w u = true
   ·cases w <;> cases u <;> first | (cases hf; done) | (simp [plW] at pw; done) | (simp [plW] at pu; done) | (rw [Dt] at dw; rw [Dt] at du; subst dw; subst du; exact eqAt_V ra rb rfl rfl)
   ·exact eq_mix hu' (kd_of I dw ra) (kd_of I du rb) (by simpa using h2) (by simpa using hf)
theorem rcAtW {pins : List (Addr × Obj)} {s : Shared} {σ : St} (I : Inv X pins σ H s) (n : Nat) {A : Around} {w u : W} {v x : V} {a b : Value} (hu : A.units + n < cLine) (dw : Dt X.K H w v) (du : Dt X.K H u x) (pw : plW n w = true) (pu : plW n u = true) (ra : RelV v a) (rb : RelV x b) : SeqAt.RcAt A s a b (eqW w u) := by
 have hu' : A.units < cLine := by omega
 by_cases h2 : twoSq w u = true
 ·cases w <;> cases u <;> first | (cases h2; done) | skip
  ·obtain ⟨m, hm, pw⟩ := plW_tup pw
   subst hm
   obtain ⟨m', hm', pu⟩ := plW_tup pu
   cases hm'
   have hu1 : A.in1.units + m < cLine := by rw [in1_units]; omega
   rw [Dt] at dw; obtain ⟨p1, xs1, e1, hs1, ds1⟩ := dw; subst e1; cases ra; obtain ⟨its1, rv1, pl1, hz1⟩ := I.tuple hs1; have q1 : s.heap.IsTuple p1 its1.toArray := pl1
   rw [Dt] at du; obtain ⟨p2, xs2, e2, hs2, ds2⟩ := du; subst e2; cases rb; obtain ⟨its2, rv2, pl2, hz2⟩ := I.tuple hs2; have q2 : s.heap.IsTuple p2 its2.toArray := pl2
   rw [eqW]
   have z := SeqAt.RcAt.tuples q1 q2 hu' (items_at ds1 ds2 pw pu rv1 rv2 (fun a b c d e f => eqAtW I m hu1 a b c d e f))
   rw [size_of ds1 rv1, size_of ds2 rv2, tup_all] at z
   exact z
  ·rename_i ws us
   obtain ⟨m, hm, pw⟩ := plW_lst pw
   subst hm
   obtain ⟨m', hm', pu⟩ := plW_lst pu
   cases hm'
   have hu1 : A.in1.units + m < cLine := by rw [in1_units]; omega
   rw [Dt] at dw; obtain ⟨p1, xs1, e1, hs1, ds1⟩ := dw; subst e1; cases ra; obtain ⟨its1, rv1, pl1, hz1⟩ := I.list hs1; have q1 := pl1.isList
   rw [Dt] at du; obtain ⟨p2, xs2, e2, hs2, ds2⟩ := du; subst e2; cases rb; obtain ⟨its2, rv2, pl2, hz2⟩ := I.list hs2; have q2 := pl2.isList
   rw [eqW]
   by_cases hl : ws.length = us.length
   ·have z := SeqAt.RcAt.lists q1 q2 (by rw [size_of ds1 rv1, size_of ds2 rv2, hl]) hu' (items_at ds1 ds2 pw pu rv1 rv2 (fun a b c d e f => eqAtW I m hu1 a b c d e f))
    rw [size_of ds1 rv1, all_eqJW hl] at z
    exact z
   ·rw [eqWs_len hl]; exact SeqAt.RcAt.lists_lengths q1 q2 (by rw [size_of ds1 rv1, size_of ds2 rv2]; simpa using hl) hu'
 ·exact rc_mix hu' (kd_of I dw ra) (kd_of I du rb) (by simpa using h2)
theorem rcNeAtW {pins : List (Addr × Obj)} {s : Shared} {σ : St} (I : Inv X pins σ H s) (n : Nat) {A : Around} {w u : W} {v x : V} {a b : Value} (hu : A.units + n < cLine) (dw : Dt X.K H w v) (du : Dt X.K H u x) (pw : plW n w = true) (pu : plW n u = true) (ra : RelV v a) (rb : RelV x b) : SeqAt.RcNeAt A s a b (!eqW w u) := by
 have hu' : A.units < cLine := by omega
 by_cases h2 : twoSq w u = true
 ·cases w <;> cases u <;> first | (cases h2; done) | skip
  ·obtain ⟨m, hm, pw⟩ := plW_tup pw
   subst hm
   obtain ⟨m', hm', pu⟩ := plW_tup pu
   cases hm'
   have hu1 : A.in1.units + m < cLine := by rw [in1_units]; omega
   rw [Dt] at dw; obtain ⟨p1, xs1, e1, hs1, ds1⟩ := dw; subst e1; cases ra; obtain ⟨its1, rv1, pl1, hz1⟩ := I.tuple hs1; have q1 : s.heap.IsTuple p1 its1.toArray := pl1
   rw [Dt] at du; obtain ⟨p2, xs2, e2, hs2, ds2⟩ := du; subst e2; cases rb; obtain ⟨its2, rv2, pl2, hz2⟩ := I.tuple hs2; have q2 : s.heap.IsTuple p2 its2.toArray := pl2
   rw [eqW]
   have z := SeqAt.RcNeAt.tuples q1 q2 hu' (items_at ds1 ds2 pw pu rv1 rv2 (fun a b c d e f => eqAtW I m hu1 a b c d e f))
   rw [size_of ds1 rv1, size_of ds2 rv2, tup_all] at z
   exact z
  ·rename_i ws us
   obtain ⟨m, hm, pw⟩ := plW_lst pw
   subst hm
   obtain ⟨m', hm', pu⟩ := plW_lst pu
   cases hm'
   have hu1 : A.in1.units + m < cLine := by rw [in1_units]; omega
   rw [Dt] at dw; obtain ⟨p1, xs1, e1, hs1, ds1⟩ := dw; subst e1; cases ra; obtain ⟨its1, rv1, pl1, hz1⟩ := I.list hs1; have q1 := pl1.isList
   rw [Dt] at du; obtain ⟨p2, xs2, e2, hs2, ds2⟩ := du; subst e2; cases rb; obtain ⟨its2, rv2, pl2, hz2⟩ := I.list hs2; have q2 := pl2.isList
   rw [eqW]
   by_cases hl : ws.length = us.length
   ·have z := SeqAt.RcNeAt.lists q1 q2 (by rw [size_of ds1 rv1, size_of ds2 rv2, hl]) hu' (items_at ds1 ds2 pw pu rv1 rv2 (fun a b c d e f => eqAtW I m hu1 a b c d e f))
    rw [size_of ds1 rv1, all_eqJW hl] at z
    exact z
   ·rw [eqWs_len hl]; exact SeqAt.RcNeAt.lists_lengths q1 q2 (by rw [size_of ds1 rv1, size_of ds2 rv2]; simpa using hl) hu'
 ·exact ne_mix hu' (kd_of I dw ra) (kd_of I du rb) (by simpa using h2)

def datW (h : Gh) : W → Option W
 | .loc n => (match h.c n with
  | some (.lst ws) => some (.lst ws)
  | _ => none)
 | w => some w
theorem datW_ok {w d : W} {v : V} {n : Nat} (R : Rel K μ H h) (r : Rep K H μ w v) (e : datW h w = some d) (p : plW n d = true) : Dt K H d v := by
 have other : datW h w = some w → Dt K H d v := fun z => by
  rw [z] at e; cases e; exact dt_of n r p
 cases w with
 | loc m =>
  unfold datW at e
  dsimp only at e
  cases ec : h.c m with
  | none => rw [ec] at e; cases e
  | some cl =>
   rw [ec] at e
   cases cl with
   | lst us =>
    cases (show some (W.lst us) = some d from e)
    obtain ⟨p', xs, hm', hx, rs⟩ := R.lstAt ec
    rw [Rep] at r
    obtain ⟨q, ev, hm⟩ := r
    have ep : p' = q := by rw [hm] at hm'; exact (Option.some.inj hm').symm
    subst ep
    obtain ⟨k, rfl, p⟩ := plW_lst p
    rw [Dt]
    exact ⟨p', xs, ev, .of hx, dts_of (dt_of k) rs p⟩
   | _ => cases e
 | _ => exact other rfl
def rEqD (K : PySem.W.Frag) (neg : Bool) : R2 := fun x y H Q => ∃ w u, Dt K H w x ∧ Dt K H u y ∧ plW 30 w = true ∧ plW 30 u = true ∧ Q (.bl (if neg then !eqW w u else eqW w u)) H
theorem op_eqD (hu : X.A.units + 30 < cLine) : OpR X (compareOp .Eq) (rEqD X.K false) := by
 intro pins s σ H x y v u Q I rx ry ⟨w, w', d1, d2, p1, p2, q⟩
 exact rcAtW I 30 hu d1 d2 p1 p2 rx ry X.prog X.w X.xe _ (fin_bl I q rfl)
theorem op_neD (hu : X.A.units + 30 < cLine) : OpR X (compareOp .NotEq) (rEqD X.K true) := by
 intro pins s σ H x y v u Q I rx ry ⟨w, w', d1, d2, p1, p2, q⟩
 exact rcNeAtW I 30 hu d1 d2 p1 p2 rx ry X.prog X.w X.xe _ (fin_bl I q rfl)
def kEq : M2 := fun x y h Q => match datW h x, datW h y with
 | some a, some b => by2 (plW 30 a && plW 30 b) (Q (.bl (eqW a b)) h) False
 | _, _ => False
def kNe : M2 := fun x y h Q => match datW h x, datW h y with
 | some a, some b => by2 (plW 30 a && plW 30 b) (Q (.bl (!eqW a b)) h) False
 | _, _ => False
theorem o_eq (hu : X.A.units + 30 < cLine) : DOp X (compareOp .Eq) kEq := ⟨_, op_eqD hu, by
 intro H μ h x y wx wy Qw Q R rx ry m k
 unfold kEq at m
 split at m
 ·rename_i a b ea eb
  cases hp : (plW 30 a && plW 30 b) with
  | true =>
   rw [hp] at m
   rw [Bool.and_eq_true] at hp
   exact ⟨a, b, datW_ok R rx ea hp.1, datW_ok R ry eb hp.2, hp.1, hp.2, k _ _ (.bl R m)⟩
  | false => rw [hp] at m; exact (show False from m).elim
 ·exact m.elim⟩
theorem o_ne (hu : X.A.units + 30 < cLine) : DOp X (compareOp .NotEq) kNe := ⟨_, op_neD hu, by
 intro H μ h x y wx wy Qw Q R rx ry m k
 unfold kNe at m
 split at m
 ·rename_i a b ea eb
  cases hp : (plW 30 a && plW 30 b) with
  | true =>
   rw [hp] at m
   rw [Bool.and_eq_true] at hp
   exact ⟨a, b, datW_ok R rx ea hp.1, datW_ok R ry eb hp.2, hp.1, hp.2, k _ _ (.bl R m)⟩
  | false => rw [hp] at m; exact (show False from m).elim
 ·exact m.elim⟩
theorem hu30 {A : Around} {k : Nat} (hr : Room k A) : A.units + 30 < cLine := by have := hr.units; omega
end
end L2
namespace L2
open PySem PySem.Spec PyProof.Rows
section
variable {X : Cx} {K : PySem.W.Frag}
theorem reps1 {H : Hp} {μ : Mu} {w : W} {vs : List V} (r : Reps K H μ [w] vs) : ∃ v, vs = [v] ∧ Rep K H μ w v := by
 rw [Reps] at r
 obtain ⟨v, vr, ev, ra, r⟩ := r
 rw [Reps] at r
 subst r
 exact ⟨v, ev, ra⟩
theorem reps2 {H : Hp} {μ : Mu} {w u : W} {vs : List V} (r : Reps K H μ [w, u] vs) : ∃ v x, vs = [v, x] ∧ Rep K H μ w v ∧ Rep K H μ u x := by
 rw [Reps] at r
 obtain ⟨v, vr, ev, ra, r⟩ := r
 obtain ⟨x, e, rb⟩ := reps1 r
 subst e
 exact ⟨v, x, ev, ra, rb⟩
theorem CMulB.of {i j : Int} {m n : Nat} (hi : Sm m i) (hj : Sm n j) (hm : m ≤ 1000000) (hn : n ≤ 1000000) : CMulB i j := ⟨m, n, hm, hn, hi, hj⟩
theorem Sm.lit {i : Int} (h : Nat.ble (i.natAbs + 1) (2 ^ 64) = true) : Sm 64 i := by
 have := Nat.le_of_ble_eq_true h
 unfold Sm
 omega
def kLen : MC := fun ws h Q => match ws with
 | [w] => (match view h w with
  | some xs => Q (.int (xs.length : Int)) h
  | none => False)
 | _ => False
theorem c_len : DCall X (.builtin "len") kLen := ⟨_, call_len_seq, by
 intro H μ h vs ws Qw Q R r m k
 unfold kLen at m
 split at m
 ·split at m
  ·rename_i w _ xs ev
   obtain ⟨v, e, rv⟩ := reps1 r
   obtain ⟨p, ys, ex, hs, rs⟩ := view_ok R rv ev
   subst e ex
   exact ⟨p, ys, rfl, hs, by rw [← rs.len]; exact k _ _ (.int R m)⟩
  ·exact m.elim
 ·exact m.elim⟩
def kAbs : MC := fun ws h Q => match ws with
 | [.int i] => Q (.int (if i < 0 then -i else i)) h
 | _ => False
def blsW : List W → Option (List Bool)
 | [] => some []
 | .bl b :: ws => (blsW ws).map (b :: ·)
 | _ => none
theorem blsW_ok {H : Hp} {μ : Mu} : ∀ {ws : List W} {xs : List V} {bs : List Bool}, Reps K H μ ws xs → blsW ws = some bs → xs = bs.map V.bl
 | [], xs, bs, r, e => by
  rw [Reps] at r
  cases (show some [] = some bs from e)
  exact r
 | w :: ws, xs, bs, r, e => by
  rw [Reps] at r
  obtain ⟨v, vr, ev, ra, r⟩ := r
  cases w with
  | bl b =>
   rw [Rep] at ra
   rw [blsW] at e
   cases q : blsW ws with
   | none => rw [q] at e; cases e
   | some cs =>
    rw [q] at e
    cases (show some (b :: cs) = some bs from e)
    rw [ev, ra, blsW_ok r q]
    rfl
  | _ => cases e
def kAll : MC := fun ws h Q => match ws with
 | [w] => (match viewL h w with
  | some us => (match blsW us with
   | some bs => Q (.bl (bs.all id)) h
   | none => False)
  | none => False)
 | _ => False
theorem c_all (hc : X.calm = true) : DCall X (.builtin "all") kAll := ⟨_, call_allB hc, by
 intro H μ h vs ws Qw Q R r m k
 unfold kAll at m
 split at m
 ·split at m
  ·split at m
   ·rename_i w _ us ev _ bs eb
    obtain ⟨v, e, rv⟩ := reps1 r
    obtain ⟨p, ys, ex, hs, rs⟩ := viewL_ok R rv ev
    subst e ex
    exact ⟨p, bs, rfl, by rw [← blsW_ok rs eb]; exact hs, k _ _ (.bl R m)⟩
   ·exact m.elim
  ·exact m.elim
 ·exact m.elim⟩
def isiW (h : Gh) (w : W) (T : String) : Option Bool := match w with
 | .int _ => if T = "int" then some true else if T = "bool" ∨ T = "tuple" ∨ T = "list" then some false else none
 | .bl _ => if T = "int" ∨ T = "bool" then some true else if T = "tuple" ∨ T = "list" then some false else none
 | .str _ => if T = "int" ∨ T = "bool" ∨ T = "tuple" ∨ T = "list" then some false else none
 | .non => if T = "int" ∨ T = "bool" ∨ T = "tuple" ∨ T = "list" then some false else none
 | .tup _ => if T = "tuple" then some true else if T = "int" ∨ T = "bool" ∨ T = "list" then some false else none
 | w => (match viewL h w with
  | some _ => if T = "list" then some true else if T = "int" ∨ T = "bool" ∨ T = "tuple" then some false else none
  | none => none)
theorem isiW_ok {H : Hp} {μ : Mu} {h : Gh} {w : W} {v : V} {T : String} {b : Bool} (R : Rel K μ H h) (r : Rep K H μ w v) (e : isiW h w T = some b) : isiV K H v T b := by
 unfold isiW at e
 split at e
 ·rw [Rep] at r; subst r
  split at e
  ·rename_i t; subst t; cases e; exact .inl ⟨rfl, rfl⟩
  ·split at e
   ·rename_i t; cases e
    rcases t with t | t | t <;> subst t
    ·exact .inr (.inl ⟨rfl, rfl⟩)
    ·exact .inr (.inr (.inl ⟨rfl, rfl⟩))
    ·exact .inr (.inr (.inr ⟨rfl, rfl⟩))
   ·cases e
 ·rw [Rep] at r; subst r
  split at e
  ·rename_i t; cases e
   rcases t with t | t <;> subst t
   ·exact .inl ⟨rfl, rfl⟩
   ·exact .inr (.inl ⟨rfl, rfl⟩)
  ·split at e
   ·rename_i t; cases e
    rcases t with t | t <;> subst t
    ·exact .inr (.inr (.inl ⟨rfl, rfl⟩))
    ·exact .inr (.inr (.inr ⟨rfl, rfl⟩))
   ·cases e
 ·rw [Rep] at r; subst r
  split at e
  ·rename_i t; cases e
   rcases t with t | t | t | t <;> subst t
   ·exact .inl ⟨rfl, rfl⟩
   ·exact .inr (.inl ⟨rfl, rfl⟩)
   ·exact .inr (.inr (.inl ⟨rfl, rfl⟩))
   ·exact .inr (.inr (.inr ⟨rfl, rfl⟩))
  ·cases e
 ·rw [Rep] at r; subst r
  split at e
  ·rename_i t; cases e
   rcases t with t | t | t | t <;> subst t
   ·exact .inl ⟨rfl, rfl⟩
   ·exact .inr (.inl ⟨rfl, rfl⟩)
   ·exact .inr (.inr (.inl ⟨rfl, rfl⟩))
   ·exact .inr (.inr (.inr ⟨rfl, rfl⟩))
  ·cases e
 ·rw [Rep] at r
  obtain ⟨p, xs, ev, hs, _⟩ := r
  subst ev
  refine .inl ⟨xs, hs, ?_⟩
  split at e
  ·rename_i t; subst t; cases e; exact .inr (.inr (.inl ⟨rfl, rfl⟩))
  ·split at e
   ·rename_i t; cases e
    rcases t with t | t | t <;> subst t
    ·exact .inl ⟨rfl, rfl⟩
    ·exact .inr (.inl ⟨rfl, rfl⟩)
    ·exact .inr (.inr (.inr ⟨rfl, rfl⟩))
   ·cases e
 ·split at e
  ·rename_i ws ev
   obtain ⟨p, xs, ex, hs, _⟩ := viewL_ok R r ev
   subst ex
   refine .inr ⟨xs, hs, ?_⟩
   split at e
   ·rename_i t; subst t; cases e; exact .inr (.inr (.inr ⟨rfl, rfl⟩))
   ·split at e
    ·rename_i t; cases e
     rcases t with t | t | t <;> subst t
     ·exact .inl ⟨rfl, rfl⟩
     ·exact .inr (.inl ⟨rfl, rfl⟩)
     ·exact .inr (.inr (.inl ⟨rfl, rfl⟩))
    ·cases e
  ·cases e
def kIsi : MC := fun ws h Q => match ws with
 | [w, .ty T] => (match isiW h w T with
  | some b => Q (.bl b) h
  | none => False)
 | _ => False
theorem c_isi : DCall X (.builtin "isinstance") kIsi := ⟨_, call_isi, by
 intro H μ h vs ws Qw Q R r m k
 unfold kIsi at m
 split at m
 ·split at m
  ·rename_i w T _ b eb
   obtain ⟨v, x, e, rv, rx⟩ := reps2 r
   have hi := isiW_ok R rv eb
   rw [Rep] at rx
   subst e rx
   exact ⟨v, T, b, rfl, hi, k _ _ (.bl R m)⟩
  ·exact m.elim
 ·exact m.elim⟩
def kTuple : MC := fun ws h Q => match ws with
 | [.tup us] => Q (.tup us) h
 | [w] => (match viewL h w with
  | some us => Q (.tup us) h
  | none => False)
 | _ => False
theorem c_tuple : DCall X (.type "tuple") kTuple := ⟨_, call_tuple_of, by
 intro H μ h vs ws Qw Q R r m k
 unfold kTuple at m
 split at m
 ·obtain ⟨v, e, rv⟩ := reps1 r
  have rv' := rv
  rw [Rep] at rv
  obtain ⟨p, xs, ex, hs, rs⟩ := rv
  subst e ex
  exact ⟨p, xs, rfl, .inr ⟨hs, k _ _ ⟨μ, _, h, .refl, R, rv', m⟩⟩⟩
 ·split at m
  ·rename_i w _ _ us ev
   obtain ⟨v, e, rv⟩ := reps1 r
   obtain ⟨p, ys, ex, hs, rs⟩ := viewL_ok R rv ev
   subst e ex
   exact ⟨p, ys, rfl, .inl ⟨hs, fun l hl => k _ _ ⟨μ, _, h, (Ex.laid hl).ext, R.laid hl, .tupNew hl rs, m⟩⟩⟩
  ·exact m.elim
 ·exact m.elim⟩
abbrev MM := W → List W → Gh → WK → Prop
def SimM (K : PySem.W.Frag) (r : V → List V → Hp → VK → Prop) (mr : MM) : Prop := ∀ {H : Hp} {μ : Mu} {h : Gh} {x : V} {vs : List V} {wx : W} {ws : List W} {Qw : WK} {Q : VK}, Rel K μ H h → Rep K H μ wx x → Reps K H μ ws vs → mr wx ws h Qw → (∀ v H', DQ K H μ Qw v H' → Q v H') → r x vs H Q
def isLst (h : Gh) (w : W) (P : Prop) : Prop := match w with
 | .loc n => (match h.c n with
  | some (.lst _) => P
  | _ => False)
 | _ => False
theorem isLst_ty {H : Hp} {μ : Mu} {h : Gh} {w : W} {v : V} {P : Prop} (R : Rel K μ H h) (r : Rep K H μ w v) (e : isLst h w P) : tyV K "list" v H ∧ P := by
 unfold isLst at e
 split at e
 ·split at e
  ·rename_i n _ ws ec
   rw [Rep] at r
   obtain ⟨p, ev, hm⟩ := r
   obtain ⟨p', xs, hm', hx, rs⟩ := R.lstAt ec
   have ep : p' = p := by rw [hm] at hm'; exact (Option.some.inj hm').symm
   subst ep ev
   exact ⟨.inl ⟨rfl, xs, .of hx⟩, e⟩
  ·exact e.elim
 ·exact e.elim
def mBMr (r : MM) (mo : ME) (ma : MA) : ME := fun σ h Q => mo σ h fun x h1 => isLst h1 x (ma σ h1 fun xs h2 => r x xs h2 Q)
variable {o e : Expr} {es : List Expr} {mo : ME} {ma : MA} {name : Str} {apos cpos : Pos} {id : String} {r : V → List V → Hp → VK → Prop} {mr : MM}
theorem d_bm (slot : Slot "list" name id) (hty : typeOf (.builtin id) = pure (.type "method_descriptor")) (hm : MtR X id r) (hs : SimM X.K r mr) (ho : DE X o mo) (ha : DAs X (e :: es) ma)
  (hbase : attributeBase o name X.env (eval o X.env) = eval o X.env := by rfl)
  (hfew : ((backTo cpos (starEach (e :: es) X.env)).all (fun x => !x.1) && (backToKw cpos (keywordEach [] X.env)).all (fun x => x.1.isSome)
   && decide ((e :: es).length + ([] : List Keyword).length + (if ([] : List Keyword).isEmpty then 0 else 1) < 30)) = true := by rfl)
  (hline : (apos.endLine == cpos.line) = true := by rfl) (hst : starEach (e :: es) X.env = (false, eval e X.env) :: starEach es X.env := by rfl) (hplain : (backTo cpos (starEach es X.env)).any (·.1) = false := by rfl) :
  DE X (.Call (.Attribute o name apos) (e :: es) [] cpos) (mBMr mr mo ma) := (pe_bm PySem.F.plainAttrs_list slot hty hm ho ha hbase hfew hline hst hplain).of fun σ H Q ⟨μ, h, σw, Qw, R, S, m, k⟩ => by
 refine ⟨μ, h, σw, _, R, S, m, fun v H1 ⟨μ1, w, h1, e1, R1, r1, il⟩ => ⟨(isLst_ty R1 r1 il).1, ?_⟩⟩
 have m1 := (isLst_ty R1 r1 il).2
 exact ⟨μ1, h1, σw, _, R1, S.ext e1, m1, fun vs H2 ⟨μ2, ws, h2, e2, R2, r2, m2⟩ => hs R2 (e2.r _ _ r1) r2 m2 fun v H' z => k _ _ ((z.trans e2).trans e1)⟩
def kAppend : MM := fun x ws h Q => match x, ws with
 | .loc n, [w] => (match h.c n with
  | some (.lst us) => us.length < sizeLine ∧ Q .non (h.set n (.lst (us ++ [w])))
  | _ => False)
 | _, _ => False
theorem locAt {H : Hp} {μ : Mu} {h : Gh} {n : Nat} {v : V} {us : List W} (R : Rel K μ H h) (r : Rep K H μ (.loc n) v) (ec : h.c n = some (.lst us)) : ∃ p xs, v = .ref p ∧ μ.f n = some p ∧ H p = some (.lst xs) ∧ Reps K H μ us xs := by
 rw [Rep] at r
 obtain ⟨p, ev, hm⟩ := r
 obtain ⟨p', xs, hm', hx, rs⟩ := R.lstAt ec
 have ep : p' = p := by rw [hm] at hm'; exact (Option.some.inj hm').symm
 subst ep
 exact ⟨p', xs, ev, hm, hx, rs⟩
theorem DQ.wrote {H : Hp} {μ : Mu} {h : Gh} {n : Nat} {p : Addr} {us : List W} {xs : List V} {Q : WK} {w : W} {v : V} (R : Rel K μ H h) (hm : μ.f n = some p) (rs : Reps K H μ us xs) (rw' : Rep K H μ w v) (q : Q w (h.set n (.lst us))) : DQ K H μ Q v (upd H p (.lst xs)) :=
 ⟨μ, w, h.set n (.lst us), (Ex.write R hm).ext, R.write hm trivial ⟨xs, upd_same, (Ex.write R hm).ext.s rs⟩, (Ex.write R hm).ext.r _ _ rw', q⟩
theorem s_append : SimM K rAppend kAppend := by
 intro H μ h x vs wx ws Qw Q R rx rs m k
 unfold kAppend at m
 split at m
 ·split at m
  ·rename_i n w _ us ec
   obtain ⟨p, xs, ex, hm, hx, r1⟩ := locAt R rx ec
   obtain ⟨v, ev, rv⟩ := reps1 rs
   exact ⟨p, xs, v, ex, ev, hx, by rw [← r1.len]; exact m.1, k _ _ (.wrote R hm (r1.append (.one rv)) (by rw [Rep]) m.2)⟩
  ·exact m.elim
 ·exact m.elim
theorem d_append (ho : DE X o mo) (ha : DAs X [e] ma)
  (hbase : attributeBase o "append" X.env (eval o X.env) = eval o X.env := by rfl)
  (hfew : ((backTo cpos (starEach [e] X.env)).all (fun x => !x.1) && (backToKw cpos (keywordEach [] X.env)).all (fun x => x.1.isSome)
   && decide (([e] : List Expr).length + ([] : List Keyword).length + (if ([] : List Keyword).isEmpty then 0 else 1) < 30)) = true := by rfl)
  (hline : (apos.endLine == cpos.line) = true := by rfl) (hst : starEach [e] X.env = (false, eval e X.env) :: starEach [] X.env := by rfl) (hplain : (backTo cpos (starEach [] X.env)).any (·.1) = false := by rfl) :
  DE X (.Call (.Attribute o "append" apos) [e] [] cpos) (mBMr kAppend mo ma) := d_bm PySem.F.slot_list_append PySem.F.type_list_append mt_append s_append ho ha hbase hfew hline hst hplain
end
end L2
namespace L2
open PySem PySem.Spec PyProof.Rows
section
variable {X : Cx} {K : PySem.W.Frag}
def isNon : W → Bool
 | .non => true
 | _ => false
def kIs : M2 := fun x y h Q => match x, y with
 | .bl c, .bl b => Q (.bl (c == b)) h
 | w, .non => Q (.bl (isNon w)) h
 | _, _ => False
def kIsnt : M2 := fun x y h Q => match x, y with
 | .bl c, .bl b => Q (.bl (!(c == b))) h
 | w, .non => Q (.bl (!isNon w)) h
 | _, _ => False
theorem range_anyB (bs : List Bool) : ((List.range bs.length).any fun i => (bs[i]?).getD true) = bs.any id := by
 rw [Bool.eq_iff_iff, List.any_eq_true, List.any_eq_true]
 constructor
 ·rintro ⟨i, hi, e⟩
  have hi' := List.mem_range.mp hi
  exact ⟨bs[i], List.getElem_mem hi', by simpa [hi'] using e⟩
 ·rintro ⟨b, hb, e⟩
  obtain ⟨i, hi, rfl⟩ := List.mem_iff_getElem.mp hb
  exact ⟨i, List.mem_range.mpr hi, by simpa [hi] using e⟩
def kAny : MC := fun ws h Q => match ws with
 | [w] => (match viewL h w with
  | some us => (match blsW us with
   | some bs => Q (.bl (bs.any id)) h
   | none => False)
  | none => False)
 | _ => False
theorem op_catT0 : OpR X (binaryOp .Add) (fun x y H Q => ∃ a b ys, x = .ref a ∧ y = .ref b ∧ SqT X.K H a [] ∧ SqT X.K H b ys ∧ Q (.ref b) H) := by
 intro pins s σ H x y v u Q I rx ry ⟨a, b, ys, ex, ey, ha, hb, q⟩
 subst ex ey
 cases rx
 cases ry
 obtain ⟨its, r1, p1, _⟩ := I.tuple ha
 obtain ⟨jts, r2, p2, _⟩ := I.tuple hb
 cases r1
 obtain ⟨⟨cls, dd, data, sl⟩, ho, hc, n, hd⟩ := id p1
 obtain ⟨⟨cls2, dd2, data2, sl2⟩, ho2, hc2, n2, hd2⟩ := id p2
 simp only at hc hd hc2 hd2
 subst hc hd hc2 hd2
 exact concat_meets ⟨_, ho, rfl⟩ ⟨_, ho2, rfl⟩ noFill_tuple_add seq_tuple_add PySem.F.slot_tuple_add PySem.F.entry_tuple_add (PySem.F.args_tuple_add_2 _ _)
  (tuple_addW0 a b _ _ n n2 dd dd2 sl sl2 (by simp)) ⟨ho, ho2, ⟨.ref b, H, I, rfl, q⟩⟩
def trkL (h : Gh) : W → Option (List W)
 | .lst ws => some ws
 | .loc n => (match h.c n with
  | some (.lst ws) => some ws
  | _ => none)
 | _ => none
theorem trkL_ok {H : Hp} {μ : Mu} {h : Gh} {w : W} {v : V} {ws : List W} (R : Rel K μ H h) (r : Rep K H μ w v) (e : trkL h w = some ws) : ∃ p xs, v = .ref p ∧ H p = some (.lst xs) ∧ Reps K H μ ws xs := by
 cases w with
 | lst us =>
  rw [Rep] at r
  obtain ⟨p, xs, ev, hs, rs⟩ := r
  cases (show some us = some ws from e)
  exact ⟨p, xs, ev, hs.1, rs⟩
 | loc n =>
  unfold trkL at e
  dsimp only at e
  cases ec : h.c n with
  | none => rw [ec] at e; cases e
  | some cl =>
   rw [ec] at e
   cases cl with
   | lst us =>
    cases (show some us = some ws from e)
    obtain ⟨p, xs, ev, _, hx, rs⟩ := locAt R r ec
    exact ⟨p, xs, ev, hx, rs⟩
   | _ => cases e
 | _ => cases e
def kAddA : M2 := fun x y h Q => match x, y with
 | .int i, .int j => Q (.int (i + j)) h
 | .tup [], .tup b => Q (.tup b) h
 | .tup (a0 :: a), .tup b => szOk (a.length + 1 + b.length) (Q (.tup (a0 :: a ++ b)) h)
 | x, y => (match trkL h x, trkL h y with
  | some a, some b => szOk (a.length + b.length) (Q (.lst (a ++ b)) h)
  | _, _ => False)
theorem o_addA : DOp X (binaryOp .Add) kAddA := ⟨_, (op_add.or (op_catT0.or op_catT)).or op_cat, by
 intro H μ h x y wx wy Qw Q R rx ry m k
 unfold kAddA at m
 split at m
 ·rw [Rep] at rx ry
  exact .inl (.inl ⟨_, _, rx, ry, k _ _ (.int R m)⟩)
 ·rename_i b
  have ry' := ry
  rw [Rep] at rx ry
  obtain ⟨p, xs, ex, hx, r1⟩ := rx
  obtain ⟨q, ys, ey, hy, r2⟩ := ry
  rw [Reps] at r1
  subst r1
  rw [ey] at ry'
  exact .inl (.inr (.inl ⟨p, q, ys, ex, ey, hx, hy, k _ _ ⟨μ, _, h, .refl, R, ry', m⟩⟩))
 ·rename_i a0 a b
  have rx' := rx
  rw [Rep] at rx ry
  obtain ⟨p, xs, ex, hx, r1⟩ := rx
  obtain ⟨q, ys, ey, hy, r2⟩ := ry
  have sz := m.ok.1
  refine .inl (.inr (.inr ⟨p, q, xs, ys, ex, ey, hx, hy, fun z => (by have := r1.ne_nil.mp z; cases this), by rw [← r1.len, ← r2.len]; exact sz, fun z => ?_, fun z l hl => ?_⟩))
  ·have eb : b = [] := r2.ne_nil.mp z
   subst eb
   refine k _ _ ⟨μ, .tup (a0 :: a ++ []), h, .refl, R, ?_, m.ok.2⟩
   rw [List.append_nil, ← ex]
   exact rx'
  ·exact k _ _ ⟨μ, _, h, (Ex.laid hl).ext, R.laid hl, .tupNew hl (r1.append r2), m.ok.2⟩
 ·split at m
  ·rename_i a b ea eb
   obtain ⟨p, xs, ex, hx, r1⟩ := trkL_ok R rx ea
   obtain ⟨q, ys, ey, hy, r2⟩ := trkL_ok R ry eb
   have sz := m.ok.1
   exact .inr ⟨p, q, xs, ys, ex, ey, hx, hy, by rw [← r1.len, ← r2.len]; exact sz, fun l hl => k _ _ ⟨μ, _, h, (Ex.laid hl).ext, R.laid hl, .lstNew R hl (r1.append r2), m.ok.2⟩⟩
  ·exact m.elim⟩
variable {o e : Expr} {mo : ME} {ma : MA} {apos cpos : Pos}
end
end L2
namespace L2
open PySem PySem.Spec PyProof.Rows
def spLaw (K : PySem.W.Frag) : Sp := fun vs H Q _ => ∃ (a : Addr) (ns : List Int), vs = [.ref a] ∧ SqL K H a (ns.map V.int) ∧ Only H ∧ ns.length ≤ 63 ∧ ∀ H', Q (.bl true) H'
def g0 : Gh := ⟨0, fun _ => none⟩
def μ0 : Mu := ⟨fun _ => none, fun _ => False⟩
theorem rel0 {K : PySem.W.Frag} {H : Hp} : Rel K μ0 H g0 where
 inj := fun m n p h => by cases (show (none : Option Addr) = some p from h)
 dom := fun n p h => by cases (show (none : Option Addr) = some p from h)
 trk := fun n p h => by cases (show (none : Option Addr) = some p from h)
 cel := fun n c h => by cases (show (none : Option Cell) = some c from h)
 hd := fun p h => False.elim h
theorem reps_ints {K : PySem.W.Frag} {H : Hp} {μ : Mu} : ∀ ns : List Int, Reps K H μ (ns.map W.int) (ns.map V.int)
 | [] => .nil
 | n :: ns => .cons (by rw [Rep]) (reps_ints ns)
theorem law_imp {P : Program} {w : World} {K : PySem.W.Frag} {mg : Str → Option Value} {base : Heap} {k : Nat} {f : Addr} {fd : FuncData} {ps : List Str} {ms : MSp}
  (hm : ∀ ns : List Int, ns.length ≤ 63 → ms [.kls (ns.map W.int)] g0 (fun w _ => w = .bl true) EF) (F : FnOk P w K mg base CX0 k f fd ps (lift K ms)) : FnOk P w K mg base CX0 k f fd ps (spLaw K) :=
 F.imp fun vs H Q E ⟨a, ns, e, hS, hO, hl, q⟩ => by
  subst e
  refine ⟨μ0, g0, [.kls (ns.map W.int)], _, rel0, .one ?_, hm ns hl, fun v H' ⟨μ', w', h', _, _, r, e⟩ => ?_⟩
  ·rw [Rep]
   refine ⟨a, ns.map V.int, rfl, ?_, reps_ints ns⟩
   rcases hS with (hS | hS) | hS
   ·rcases hO a with z | ⟨o, xs, z⟩ <;> rw [hS] at z <;> cases z
   ·exact .inl hS
   ·exact .inr hS
  ·subst e
   rw [Rep] at r
   subst r
   exact q H'
end L2
namespace L2
open PySem PySem.Spec PyProof.Rows
inductive Sk where
 | l | t
section
variable {P : Program} {w : World} {A : Around} {E : Value → Shared → Prop} {s : Shared} {k k1 k2 : Sk}
structure Zap (z TI TO i1 i2 : Addr) : Prop where
 a1 : TI ≠ z
 a2 : TO ≠ z
 a3 : i1 ≠ z
 a4 : i2 ≠ z
 a5 : TI ≠ TO
 a6 : TI ≠ i1
 a7 : TI ≠ i2
 a8 : TO ≠ i1
 a9 : TO ≠ i2
 b1 : i1 ≠ i2
structure Off (a z TO i1 i2 : Addr) : Prop where
 z : a ≠ z
 o : a ≠ TO
 i : a ≠ i1
 j : a ≠ i2
end
end L2
namespace L2
open PySem PySem.Spec PyProof.Rows
section
variable {X : Cx} {pins : List (Addr × Obj)} {σ : St} {H : Hp} {s : Shared} {h' : Heap}
end
section
variable {X : Cx} {K : PySem.W.Frag}
def zipW : List W → List W → List W
 | a :: as, b :: bs => .tup [a, b] :: zipW as bs
 | _, _ => []
def stayW : W → Option (List W)
 | .tup ws => some ws
 | .lst ws => some ws
 | .kls ws => some ws
 | _ => none
def zipS (h : Gh) (x y : W) : Option Src := match stayW x, stayW y with
 | some as, some bs => some ⟨zipW as bs, none⟩
 | none, some bs => (match x with
  | .loc n => (match h.c n with
   | some (.lst as) => some ⟨zipW as bs, some (n, as)⟩
   | _ => none)
  | _ => none)
 | _, _ => none
def nZip (ma : MA) : MI := fun σ h R => ma σ h fun ws h1 => match ws with
 | [x, y] => (match zipS h1 x y with
  | some s => R s h1
  | none => False)
 | _ => False
end
end L2
namespace L2
open PySem PySem.Spec PyProof.Rows
section
variable {X : Cx} {K : PySem.W.Frag}
def intsW : List W → Option (List Int)
 | [] => some []
 | .int i :: ws => (intsW ws).map (i :: ·)
 | _ => none
theorem intsW_ok {H : Hp} {μ : Mu} : ∀ {ws : List W} {xs : List V} {ns : List Int}, Reps K H μ ws xs → intsW ws = some ns → xs = ns.map V.int
 | [], xs, ns, r, e => by
  rw [Reps] at r
  cases (show some [] = some ns from e)
  exact r
 | w :: ws, xs, ns, r, e => by
  rw [Reps] at r
  obtain ⟨v, vr, ev, ra, r⟩ := r
  cases w with
  | int b =>
   rw [Rep] at ra
   rw [intsW] at e
   cases q : intsW ws with
   | none => rw [q] at e; cases e
   | some cs =>
    rw [q] at e
    cases (show some (b :: cs) = some ns from e)
    rw [ev, ra, intsW_ok r q]
    rfl
  | _ => cases e
def kSum : MC := fun ws h Q => match ws with
 | [w] => (match viewL h w with
  | some us => (match intsW us with
   | some ns => Q (.int ns.sum) h
   | none => False)
  | none => False)
 | _ => False
end
end L2
namespace L2
open PySem PySem.Spec PyProof.Rows
end L2
namespace L2
open PySem PySem.Spec PyProof.Rows
section
variable {P : Program} {w : World} {A : Around} {E : Value → Shared → Prop} {s : Shared}
end
end L2
namespace L2
open PySem PySem.Spec PyProof.Rows
section
variable {X : Cx} {K : PySem.W.Frag}
end
end L2
namespace L2
open PySem PySem.Spec PyProof.Rows
section
variable {X : Cx}
def mPar3 (i j k : Nat) (ta : MA) : MS := fun D σ h => ta σ h fun ws h1 => match ws with
 | [a, b, c] => D.nx (((σ.set i (some a)).set j (some b)).set k (some c)) h1
 | _ => False
end
end L2
namespace L2
open PySem PySem.Spec PyProof.Rows
section
variable {X : Cx} {K : PySem.W.Frag}
end
end L2
namespace L2
open PySem PySem.Spec PyProof.Rows
theorem repsN {K : PySem.W.Frag} {H : Hp} {μ : Mu} : Reps K H μ [] [] := by rw [Reps]
theorem repI {K : PySem.W.Frag} {H : Hp} {μ : Mu} {i : Int} : Rep K H μ (.int i) (.int i) := by rw [Rep]
end L2
namespace L2
open PySem PySem.Spec PyProof.Rows
section
variable {prog : Program} {w : World} {A : Around} {E : Value → Shared → Prop} {s : Shared}
theorem draw_list {it t : Addr} {items : Array Value} (hne : t ≠ it) : ∀ (n i : Nat) (s : Shared) (Q : List Value → Shared → Prop), s.heap.IsListIter it t i → s.heap.IsList t items → i + n ≤ items.size →
  (∀ h', h'.IsListIter it t (i + n) → Heap.SameBut it s.heap h' → Q ((items.toList.drop i).take n) { s with heap := h' }) → wpAny (model prog w) A (draw (.ref it) n) Q E s
 | 0, i, s, Q, hit, _, _, hQ => by
  show wpAny _ _ (pure []) Q E s
  exact wpAny_pure (by simpa using hQ s.heap hit (Heap.SameBut.refl ..))
 | n + 1, i, s, Q, hit, ht, hle, hQ => by
  have hlt : i < items.size := by omega
  show wpAny _ _ (pyNext (.ref it) >>= _) Q E s
  refine wpAny_bind (wpAny_pyNext_list_item hit ht (x := items[i]) (by simp [hlt]) fun h1 hit1 hs1 => ?_)
  refine wpAny_bind (wpAny_holding (draw_list hne n (i + 1) _ _ hit1 (ht.at fun o e => hs1.extBut _ o hne e) (by omega) fun h2 hit2 hs2 => wpAny_pure ?_))
  have hd : items.toList.drop i = items[i] :: items.toList.drop (i + 1) := by simp [List.drop_eq_getElem_cons, hlt]
  have := hQ h2 (by rw [show i + (n + 1) = i + 1 + n by omega]; exact hit2) (hs1.trans hs2)
  rw [hd, List.take_succ_cons] at this
  exact this
theorem unpackItems_list {t : Addr} {items : Array Value} {Q : List Value → Shared → Prop} (hh : A.handled = none) (ht : s.heap.IsList t items)
  (hQ : ∀ h', Heap.ExtBut s.heap.objs.size s.heap h' → Q items.toList { s with heap := h' }) : wpAny (model prog w) A (unpackItems (.ref t) items.size none) Q E s := by
 have hlt : t ≠ s.heap.objs.size := by obtain ⟨o, ho, _⟩ := ht; exact Nat.ne_of_lt (Heap.lt_size ho)
 unfold unpackItems
 refine wpAny_bind ?_
 ·unfold notIterableAtAll
  refine wpAny_bind (wpAny_specialOf ht.typeIs slot_list_iter.lookup ?_)
  refine wpAny_pure ?_
  simp only [Bool.false_eq_true, if_false]
  refine wpAny_bind (wpAny_holding (wpAny_pyIter_list ht ?_))
  refine wpAny_bind (wpAny_holding (draw_list hlt items.size 0 _ _ ⟨_, Heap.get?_push_size _ rfl, rfl, rfl⟩ (ht.at fun o e => Heap.get?_push_of_some _ e) (by omega) fun h1 hit1 hs1 => ?_))
  have hall : List.take items.size (List.drop 0 items.toList) = items.toList := by
   rw [List.drop_zero]; exact List.take_of_length_le (by simp)
  rw [hall]
  rw [if_neg (by simp)]
  have ht1 : h1.IsList t items := ht.at fun o e => hs1.extBut _ o hlt (Heap.get?_push_of_some _ e)
  refine wpAny_bind (wpAny_holding (wpAny_pyNext_list_end hh hit1 ht1 (by simp) fun h2 he2 => ?_))
  simp only [Option.isSome_none, Bool.false_eq_true, if_false]
  refine wpAny_pure (hQ h2 fun b o hb e => he2 b o hb (hs1.extBut b o hb (Heap.get?_push_of_some _ e)))
theorem assign_Tuple_list {env : Env} {elts : List Expr} {x1} {pos : Pos} {t : Addr} {items : Array Value} {Q : Unit → Shared → Prop} (hh : A.handled = none) (ht : s.heap.IsList t items)
  (hn : (assignEach elts env).length = items.size) (hstar : (assignEach elts env).findIdx? (·.1) = none)
  (h : ∀ h', Heap.ExtBut s.heap.objs.size s.heap h' → wpAny (model prog w) A (assignInOrder ((assignEach elts env).map (·.2)) items.toList) Q E { s with heap := h' }) :
  wpAny (model prog w) A (assign (.Tuple elts x1 pos) env (.ref t)) Q E s := by
 rw [assign_Tuple]
 refine wpAny_bind (wpAny_standAt ?_)
 unfold unpack
 rw [hn, hstar]
 exact wpAny_bind (wpAny_holding (unpackItems_list hh ht h))
end
section
variable {X : Cx} {pos : Pos}
def gTup2 (K : PySem.W.Frag) (n : Nat) (t : TGs) : TG := fun v σ H Q => ∃ a xs, v = .ref a ∧ (SqT K H a xs ∨ SqL K H a xs) ∧ xs.length = n ∧ t xs σ H Q
theorem pg_tup2 {es : List Expr} {k : Nat} {t : TGs} {n : Nat} (hc : X.calm = true) (h : PGs X es t)
  (hn : (assignEach es X.env).length = n := by rfl) (hst : (assignEach es X.env).findIdx? (·.1) = none := by rfl) : PG X (.Tuple es k pos) (gTup2 X.K n t) := by
 intro pins s σ H v u Q I r hw
 obtain ⟨a, xs, e1, hq, hl, hw⟩ := hw
 subst e1
 cases r
 rcases hq with hq | hq
 ·obtain ⟨its, rv, ht, hz⟩ := I.tuple hq
  refine assign_Tuple_tuple (I.ok.hd hc) ht (by simp [hn, ← hl, rv.length]) hst fun h' hx => ?_
  have I1 : Inv X pins σ H { s with heap := h' } := I.kept (t' := s.toks) fun b o e => hx b o (Nat.ne_of_lt (Heap.lt_size e)) e
  exact h pins _ σ H xs _ Q I1 (by simpa using rv) hw
 ·obtain ⟨its, rv, ht, hz⟩ := I.list hq
  refine assign_Tuple_list (I.ok.hd hc) ht.isList (by simp [hn, ← hl, rv.length]) hst fun h' hx => ?_
  have I1 : Inv X pins σ H { s with heap := h' } := I.kept (t' := s.toks) fun b o e => hx b o (Nat.ne_of_lt (Heap.lt_size e)) e
  exact h pins _ σ H xs _ Q I1 (by simpa using rv) hw
def nTup2 (n : Nat) (g : MGs) : MG := fun w σ h N => match w with
 | .tup ws => by2 (Nat.beq ws.length n) (g ws σ h N) False
 | .lst ws => by2 (Nat.beq ws.length n) (g ws σ h N) False
 | .loc j => (match h.c j with
  | some (.lst ws) => by2 (Nat.beq ws.length n) (g ws σ h N) False
  | _ => False)
 | _ => False
theorem dg_tup2 {es : List Expr} {k : Nat} {g : MGs} {n : Nat} (hc : X.calm = true) (h : DGss X es g) (hn : (assignEach es X.env).length = n := by rfl) (hst : (assignEach es X.env).findIdx? (·.1) = none := by rfl) : DG X (.Tuple es k pos) (nTup2 n g) :=
 (pg_tup2 (n := n) hc h hn hst).of fun v σ H N ⟨μ, h, σw, w, Nw, R, S, r, m, k⟩ => by
  cases w with
  | tup ws =>
   rw [Rep] at r
   obtain ⟨p, xs, e1, hs, hr⟩ := r
   have m : by2 (Nat.beq ws.length n) (g ws σw h Nw) False := m
   cases en : Nat.beq ws.length n with
   | true => rw [en] at m; exact ⟨p, xs, e1, .inl hs, by rw [← hr.len]; exact Nat.eq_of_beq_eq_true en, μ, h, σw, ws, Nw, R, S, hr, m, k⟩
   | false => rw [en] at m; exact (show False from m).elim
  | lst ws =>
   rw [Rep] at r
   obtain ⟨p, xs, e1, hs, hr⟩ := r
   have m : by2 (Nat.beq ws.length n) (g ws σw h Nw) False := m
   cases en : Nat.beq ws.length n with
   | true => rw [en] at m; exact ⟨p, xs, e1, .inr hs.sq, by rw [← hr.len]; exact Nat.eq_of_beq_eq_true en, μ, h, σw, ws, Nw, R, S, hr, m, k⟩
   | false => rw [en] at m; exact (show False from m).elim
  | loc j =>
   have m : (match h.c j with
    | some (.lst ws) => by2 (Nat.beq ws.length n) (g ws σw h Nw) False
    | _ => False) := m
   split at m
   ·rename_i ws ec
    obtain ⟨p, xs, e1, hs, hr⟩ := viewL_ok R r (show viewL h (.loc j) = some ws by simp only [viewL, ec])
    cases en : Nat.beq ws.length n with
    | true => rw [en] at m; exact ⟨p, xs, e1, .inr hs, by rw [← hr.len]; exact Nat.eq_of_beq_eq_true en, μ, h, σw, ws, Nw, R, S, hr, m, k⟩
    | false => rw [en] at m; exact (show False from m).elim
   ·exact m.elim
  | _ => exact m.elim
end
end L2
namespace L2
open PySem PySem.Spec PyProof.Rows
section
variable {K : PySem.W.Frag} {H : Hp} {μ : Mu} {h : Gh} {p : Addr} {ws : List W} {xs : List V}
end
def thaw (Q : WK) : WK := fun w h => match w with
 | .lst ws => Q (.loc h.nx) (h.new (.lst ws))
 | _ => False
def mLCM (own : W → Option (List W)) (ix : List Nat) (mi : MI) (tt : MT) (te : ME) : ME := fun σ h Q => mLC own ix mi tt te σ h (thaw Q)
section
variable {X : Cx} {tg iter elt : Expr} {ifs : List Expr} {pos : Pos} {scope : Scope} {xs : List Str} {mi : MI} {tt : MT} {te : ME}
end
end L2
namespace L2
open PySem PySem.Spec PyProof.Rows
def isStar : Expr → Bool
 | .Starred _ _ => true
 | _ => false
theorem star_of {e : Expr} {es : List Expr} {env : Env} (h : isStar e = false) : starEach (e :: es) env = (false, eval e env) :: starEach es env := by
 cases e <;> first | rfl | cases h
theorem star_1 {e : Expr} {env : Env} (h : isStar e = false) : starEach [e] env = [(false, eval e env)] := (star_of h).trans rfl
def noStar : List Expr → Bool
 | [] => true
 | e :: r => !isStar e && noStar r
theorem plain_of {pos : Pos} {env : Env} : ∀ {es : List Expr}, noStar es = true → (backTo pos (starEach es env)).any (·.1) = false
 | [], _ => rfl
 | e :: r, h => by
  rw [noStar, Bool.and_eq_true, Bool.not_eq_true'] at h
  rw [star_of h.1]
  show (false || (backTo pos (starEach r env)).any (·.1)) = false
  rw [plain_of h.2]
  rfl
theorem few_1 {cpos : Pos} {e : Expr} {env : Env} (h : isStar e = false) : ((backTo cpos (starEach [e] env)).all (fun x => !x.1) && (backToKw cpos (keywordEach [] env)).all (fun x => x.1.isSome)
   && decide (([e] : List Expr).length + ([] : List Keyword).length + (if ([] : List Keyword).isEmpty then 0 else 1) < 30)) = true := by
 rw [star_1 h]; rfl
end L2
namespace L2
open PySem PySem.Spec PyProof.Rows
section
variable {prog : Program} {w : World} {A : Around} {E : Value → Shared → Prop} {s : Shared}
open HT in
theorem getItem_tuple_whole {t sl : Addr} {items : Array Value} {vl vu : Value} {lo hi : Option Int} {Q : Value → Shared → Prop} (ht : IsTup s.heap t items) (hs : s.heap.IsSliceOf sl vl vu .none) (pl : IsPart vl lo) (pu : IsPart vu hi)
  (h0 : sIx items.size 0 lo = 0) (h1 : sIx items.size items.size hi = items.size) (h : Q (.ref t) s) : wpAny (model prog w) A (getItem (.ref t) (.ref sl)) Q E s := by
 obtain ⟨os, hos, hcs, hds⟩ := id hs
 have hTs : s.TypeIs (.ref sl) "slice" := ⟨os, hos, hcs⟩
 unfold getItem
 try with_reducible refine wpAny_holding ?_
 first | refine wpAny_bind (wpAny_pure ?_) | skip
 refine wpAny_bind (wpAny_sequenceKey ht.typeIs (by decide) ?_)
 refine wpAny_bind (wpAny_callSpecial?_slot (name := Str.ofString "__getitem__") ht.typeIs PyProof.Rows.slot_tuple_getitem
  (wpAny_call_entry PyProof.Rows.slot_tuple_getitem ht.typeIs entry_tuple_getitem ?_ (args_tuple_getitem _ _)))
 show wpAny _ _ (Builtin.Tuple.tupleItemsOf (.ref t) >>= _) _ _ s
 refine wpAny_bind (tupleItemsOf_ ht ?_)
 refine wpAny_bind (wpAny_typeOf hTs ?_)
 rw [if_pos (by decide)]
 refine wpAny_bind (sliceApplied_gen hs pl pu ?_)
 have hyes : ((((sIx items.size 0 lo : Nat) : Int) == 0 && (1 : Int) == 1 && (sIx items.size items.size hi - sIx items.size 0 lo) == items.size) = true) := by
  rw [h0, h1]
  simp
 show wpAny _ _ (if (((sIx items.size 0 lo : Nat) : Int) == 0 && (1 : Int) == 1 && (sIx items.size items.size hi - sIx items.size 0 lo) == items.size) = true then _ else _) _ _ s
 rw [if_pos hyes]
 unfold Builtin.Tuple.tupleIsExact
 refine wpAny_bind (wpAny_bind (wpAny_typeOf ht.typeIs (wpAny_pure ?_)))
 rw [if_pos (by decide)]
 refine wpAny_bind (wpAny_rule ?_)
 first
  | exact wpAny_pure ⟨_, rfl, wpAny_pure h⟩
  | exact wpAny_bind (wpAny_pure (wpAny_pure ⟨_, rfl, wpAny_pure h⟩))
end
section
variable {X : Cx}
def rSlW (K : PySem.W.Frag) : V → Option Int → Option Int → Hp → VK → Prop := fun x lo hi H Q => ∃ a xs, x = .ref a ∧ SqT K H a xs ∧
 HT.sIx xs.length 0 lo = 0 ∧ HT.sIx xs.length xs.length hi = xs.length ∧ Q x H
theorem sl_whole : SlR X (rSlW X.K) := by
 intro pins s σ H x v vl vu lo hi sl Q I rx hs pl pu h
 obtain ⟨a, xs, rfl, hx, h0, h1, q⟩ := h
 cases rx
 obtain ⟨its, r, ht, hz⟩ := I.tuple hx
 have hlen : its.toArray.size = xs.length := by rw [List.size_toArray]; exact r.length.symm
 refine ⟨"tuple", _, PyProof.Rows.slot_tuple_getitem.lookup, ht.typeIs, ?_⟩
 refine getItem_tuple_whole ht hs pl pu (by rw [hlen]; exact h0) (by rw [hlen]; exact h1) ?_
 exact ⟨.ref a, H, I, rfl, q⟩
def kSl2 (x : W) (lo hi : Option Int) (h : Gh) (Q : WK) : Prop := match x with
 | .tup ws => Q (.tup (cutW ws lo hi)) h
 | x => (match viewL h x with
  | some ws => Q (.lst (cutW ws lo hi)) h
  | none => False)
theorem d_sl2 {e : Expr} {lo hi : Option Expr} {ma : ME} {ml mh : MO} {p2 pos : Pos} (he : DE X e ma) (hl : DO X lo ml) (hu : DO X hi mh) : DE X (.Subscript e (.Slice lo hi none p2) pos) (mSl kSl2 ma ml mh) :=
 (pe_slice (SlR.or (SlR.or sl_list sl_tup) sl_whole) he hl hu).of fun σ H Q ⟨μ, h, σw, Qw, R, S, m, k⟩ => by
  refine ⟨μ, h, σw, _, R, S, m, fun x H1 ⟨μ1, wx, h1, e1, R1, r1, m1⟩ => ?_⟩
  refine ⟨μ1, h1, σw, _, R1, S.ext e1, m1, fun lo H2 ⟨μ2, h2, e2, R2, m2⟩ => ?_⟩
  refine ⟨μ2, h2, σw, _, R2, (S.ext e1).ext e2, m2, fun hi H3 ⟨μ3, h3, e3, R3, m3⟩ => ?_⟩
  have e13 := (e1.trans e2).trans e3
  have r3 := e3.r _ _ (e2.r _ _ r1)
  have oth : ∀ wy, Rep X.K H3 μ3 wy x → (match viewL h3 wy with
    | some ws => Qw (.lst (cutW ws lo hi)) h3
    | none => False) → ∃ p xs, x = .ref p ∧ SqL X.K H3 p xs ∧ ∀ l, H3 l = none → Q (.ref l) (upd H3 l (.lst (cutV xs lo hi))) := by
   intro wy ry my
   split at my
   ·rename_i ws ev
    obtain ⟨p, xs, ex, hs, rs⟩ := viewL_ok R3 ry ev
    exact ⟨p, xs, ex, hs, fun l hl => k _ _ ⟨μ3, _, h3, e13.trans (Ex.laid hl).ext, R3.laid hl, .lstNew R3 hl (rs.cutv lo hi), my⟩⟩
   ·exact my.elim
  cases wx with
  | tup ws =>
   have m3 : Qw (.tup (cutW ws lo hi)) h3 := m3
   have r30 := r3
   rw [Rep] at r3
   obtain ⟨p, xs, ex, hx, rs⟩ := r3
   have hl := rs.len
   by_cases hw : HT.sIx xs.length 0 lo = 0 ∧ HT.sIx xs.length xs.length hi = xs.length
   ·have ec : cutW ws lo hi = ws := by
     unfold cutW
     rw [hl, hw.1, hw.2, List.drop_zero, Nat.sub_zero, ← hl, List.take_length]
    rw [ec] at m3
    exact .inr ⟨p, xs, ex, hx, hw.1, hw.2, k _ _ ⟨μ3, .tup ws, h3, e13, R3, r30, m3⟩⟩
   ·exact .inl (.inr ⟨p, xs, ex, hx, hw, fun q hq => k _ _ ⟨μ3, .tup (cutW ws lo hi), h3, e13.trans (Ex.laid hq).ext, R3.laid hq, .tupNew hq (rs.cutv lo hi), m3⟩⟩)
  | _ => exact .inl (.inl (oth _ r3 m3))
end
end L2
namespace L2
open PySem PySem.Spec PyProof.Rows
section
variable {X : Cx}
def kInt : MC := fun ws h Q => match ws with
 | [.int i] => Q (.int i) h
 | [.bl b] => Q (.int (if b then 1 else 0)) h
 | _ => False
theorem noFill_tup_mul : fillsNumberSlot (.type "tuple") "mul" = pure false :=
 PySem.fillsNumberSlot_seq (id := "tuple.__mul__") (r := some (.builtin "tuple.__rmul__")) F.slot_tuple_mul.lookup (by decide +kernel) F.slot_tuple_rmul.lookup (by decide +kernel)
theorem repeat_tup : seqRepeat? (.type "tuple") = pure (some (.builtin "tuple.__mul__")) := by
 unfold seqRepeat?
 rw [PySem.seqSlot_of (T := "tuple") (name := "__mul__") (id := "tuple.__mul__") F.slot_tuple_mul.lookup (by decide +kernel), PySem.seqSlot_of (T := "tuple") (name := "__rmul__") (id := "tuple.__rmul__") F.slot_tuple_rmul.lookup (by decide +kernel)]
 rfl
theorem int_rmul_tup (a : Int) (t : Tok) (l : Addr) (items : Array Value) :
  Meets (Builtin.«int.__rmul__» ⟨[.int a t, .ref l], []⟩) (fun _ R s => IsTup s.heap l items ∧ R (.ok (.ret Value.notImplemented)) s) :=
 .of_wp fun prog w A R s h => by
  obtain ⟨hp, g, d, tk, os⟩ := s
  obtain ⟨⟨o, ho, hc, n, hd⟩, h⟩ := h
  obtain ⟨cl, dd, da, sl⟩ := o
  simp only at hc hd
  subst hc hd
  wp_walk
  exact ⟨_, rfl, h⟩
theorem tup_mul (l : Addr) (items : Array Value) (k : Int) (t : Tok) (h0 : 0 ≤ k) (h1 : k < 2 ^ 63) (hz : items.size * k.toNat ≤ sizeLine) :
  Meets (Builtin.«tuple.__mul__» ⟨[.ref l, .int k t], []⟩) (fun _ R s => IsTup s.heap l items ∧ (if items.size = 0 ∨ k = 1 then R (.ok (.ret (.ref l))) s else
   R (.ok (.ret (.ref s.heap.objs.size))) { s with heap := s.heap.push { cls := .type "tuple", data := .seq (List.replicate k.toNat items.toList).flatten.toArray } })) :=
 .of_wp fun prog w A R s h => by
  obtain ⟨hp, g, d, tk, os⟩ := s
  obtain ⟨⟨o, ho, hc, n, hd⟩, h⟩ := h
  obtain ⟨cl, dd, da, sl⟩ := o
  simp only at hc hd
  subst hc hd
  have ht : IsTup hp l items := ⟨_, ho, rfl, n, rfl⟩
  wp_walk
  rw [if_neg (by simp; omega)]
  refine wpAny_bind (tupleItemsOf_ (s := ⟨hp, g, d, tk, os⟩) ht ?_)
  dsimp only
  have hemp : items.isEmpty = decide (items.size = 0) := rfl
  by_cases e : items.size = 0 ∨ k = 1
  ·rw [if_pos e] at h
   rw [if_pos (by rcases e with e | e <;> simp [hemp, e])]
   unfold Builtin.Tuple.tupleIsExact
   refine wpAny_bind (wpAny_bind (wpAny_typeOf ⟨_, ho, rfl⟩ (wpAny_pure ?_)))
   rw [if_pos (by decide)]
   refine wpAny_bind (wpAny_rule ?_)
   exact wpAny_pure ⟨_, rfl, h⟩
  ·rw [if_neg e] at h
   rw [not_or] at e
   rw [if_neg (by simp [hemp, e.1, e.2])]
   by_cases k0 : k = 0
   ·rw [if_pos (by simp [k0])]
    subst k0
    have ee : (List.replicate (0 : Int).toNat items.toList).flatten.toArray = #[] := rfl
    rw [ee] at h
    exact wpAny_bind (m := Builtin.Tuple.tupleExact _) (wpAny_newObj_type (wpAny_pure ⟨_, rfl, h⟩) (by show 0 ≤ sizeLine; exact Nat.zero_le _))
   ·rw [if_neg (by simp [hemp, e.1]; omega)]
    have hp8 : ((2 : Int) ^ 63 - 1) / 8 = 1152921504606846975 := by decide
    have hsz : (sizeLine : Nat) ≤ 1152921504606846975 := by decide
    have hk : ((items.size * k.toNat : Nat) : Int) = (items.size : Int) * k := by rw [Int.natCast_mul, Int.toNat_of_nonneg h0]
    rw [if_neg (by rw [hp8, ← hk]; omega)]
    rw [if_neg (by unfold Builtin.Tuple.tupleTooMany; rw [← hk, decide_eq_true_iff]; omega)]
    have hnew : List.foldl (fun x1 x2 => x1 ++ x2) #[] (List.replicate k.toNat items) = (List.replicate k.toNat items.toList).flatten.toArray := by
     have := foldl_rep items.toList k.toNat []
     rw [List.nil_append] at this
     simpa using this
    rw [hnew]
    refine wpAny_bind (m := Builtin.Tuple.tupleExact _) (wpAny_newObj_type (wpAny_pure ⟨_, rfl, h⟩) ?_)
    show (List.replicate k.toNat items.toList).flatten.toArray.size ≤ sizeLine
    rw [List.size_toArray, len_rep, Nat.mul_comm]
    simpa using hz
def rMulT (K : PySem.W.Frag) : R2 := fun x y H Q => ∃ a xs k, x = .ref a ∧ y = .int k ∧ SqT K H a xs ∧ 0 ≤ k ∧ k < 2 ^ 63 ∧ xs.length * k.toNat ≤ sizeLine ∧
 ((xs.length = 0 ∨ k = 1) → Q (.ref a) H) ∧ (¬ (xs.length = 0 ∨ k = 1) → ∀ p, H p = none → Q (.ref p) (upd H p (.tup (List.replicate k.toNat xs).flatten)))
theorem op_mulT : OpR X (binaryOp .Mult) (rMulT X.K) := by
 intro pins s σ H x y v u Q I rx ry h
 obtain ⟨a, xs, k, rfl, rfl, hx, h0, h1, hz, q1, q2⟩ := h
 cases rx
 obtain ⟨t, rfl⟩ := ry
 obtain ⟨its, r, ht, hsz⟩ := I.tuple hx
 have hlen : its.toArray.size = xs.length := by rw [List.size_toArray]; exact r.length.symm
 refine wpAny_binaryOp_repeat_ref (T := "tuple") (U := "int") (by decide) ht.typeIs (fun s' => typeIs_int s' k t) noFill_tup_mul F.fills_int_mul F.slot_int_rmul repeat_tup F.slot_int_index.lookup
  (call_meets F.slot_int_rmul (typeIs_int s k t) F.entry_int_rmul (F.args_int_rmul_2 _ _) (int_rmul_tup k t a its.toArray)
   ⟨ht, rfl, ht.typeIs, call_meets F.slot_tuple_mul ht.typeIs F.entry_tuple_mul (F.args_tuple_mul_2 _ _) (tup_mul a its.toArray k t h0 h1 (by rw [hlen]; exact hz)) ⟨ht, ?_⟩⟩)
 rw [hlen]
 by_cases e : xs.length = 0 ∨ k = 1
 ·rw [if_pos e]
  exact ⟨.ref a, H, I, rfl, q1 e⟩
 ·rw [if_neg e]
  refine ⟨.ref s.heap.objs.size, _, I.laid (t' := s.toks) (o := .tup (List.replicate k.toNat xs).flatten) (fun b ob q => Heap.get?_push_of_some _ q) (Nat.le_refl _) ?_, rfl, q2 e _ (I.hok.fresh (Nat.le_refl _))⟩
  exact ⟨by rw [len_rep, Nat.mul_comm]; exact hz, _, r.rep k.toNat, TupO.new _ _⟩
def kMulA : M2 := fun x y h Q => match x, y with
 | .int i, .int j => CMulB i j ∧ Q (.int (i * j)) h
 | .tup ws, .int k => (0 ≤ k ∧ k ≤ 1000 ∧ ws.length * k.toNat ≤ 1000) ∧ Q (.tup (List.replicate k.toNat ws).flatten) h
 | _, _ => False
theorem reps_rep {K : PySem.W.Frag} {H : Hp} {μ : Mu} {ws : List W} {xs : List V} (r : Reps K H μ ws xs) : ∀ k : Nat, Reps K H μ (List.replicate k ws).flatten (List.replicate k xs).flatten
 | 0 => repsN
 | k + 1 => by
  rw [List.replicate_succ, List.replicate_succ, List.flatten_cons, List.flatten_cons]
  exact Reps.append r (reps_rep r k)
theorem o_mulA : DOp X (binaryOp .Mult) kMulA := ⟨_, op_mulB.or op_mulT, by
  intro H μ h x y wx wy Qw Q R rx ry m k
  cases wx with
  | int i => cases wy with
    | int j =>
      rw [Rep] at rx ry
      have m : CMulB i j ∧ Qw (.int (i * j)) h := m
      exact .inl ⟨_, _, rx, ry, m.1, k _ _ (.int R m.2)⟩
    | _ => exact (show False from m).elim
  | tup ws => cases wy with
    | int n =>
      have m : (0 ≤ n ∧ n ≤ 1000 ∧ ws.length * n.toNat ≤ 1000) ∧ Qw (.tup (List.replicate n.toNat ws).flatten) h := m
      obtain ⟨⟨h0, h1, h2⟩, m⟩ := m
      have rx0 := rx
      rw [Rep] at rx
      rw [Rep] at ry
      obtain ⟨p, xs, ex, hx, rs⟩ := rx
      have hl := rs.len
      have sz : (1000 : Nat) ≤ sizeLine := by decide
      have p63 : (2 : Int) ^ 63 = 9223372036854775808 := by decide
      refine .inr ⟨p, xs, n, ex, ry, hx, h0, by omega, by rw [← hl]; omega, fun e => ?_, fun e q hq => ?_⟩
      · have ee : (List.replicate n.toNat ws).flatten = ws := by
          rcases e with e | e
          · have : ws = [] := List.eq_nil_of_length_eq_zero (by omega)
            subst this
            have : ∀ k : Nat, (List.replicate k ([] : List W)).flatten = [] := fun k => by induction k with
              | zero => rfl
              | succ k ih => rw [List.replicate_succ, List.flatten_cons, ih]; rfl
            exact this _
          · subst e
            show (List.replicate 1 ws).flatten = ws
            simp
        rw [ee] at m
        rw [← ex]
        exact k _ _ ⟨μ, .tup ws, h, .refl, R, rx0, m⟩
      · exact k _ _ ⟨μ, .tup (List.replicate n.toNat ws).flatten, h, (Ex.laid hq).ext, R.laid hq, .tupNew hq (reps_rep rs _), m⟩
    | _ => exact (show False from m).elim
  | _ => exact (show False from by cases wy <;> exact m).elim⟩
end
end L2
namespace L2
open PySem PySem.Spec PyProof.Rows
section
variable {X : Cx}
end
end L2
namespace L2
open PySem PySem.Spec PyProof.Rows
section
variable {X : Cx}
def rBits : V → List V → Hp → VK → Prop := fun x vs H Q => ∃ i : Int, x = .int i ∧ vs = [] ∧ Q (.int (Builtin.Int.intBits i : Nat)) H
theorem mt_bits : MtR X "int.bit_length" rBits := by
 intro pins s σ H x vs v us Q I rx rv h
 obtain ⟨i, rfl, rfl, q⟩ := h
 obtain ⟨t, rfl⟩ := rx
 have hus := rv.zero
 subst hus
 exact call_int_bit_length ⟨.int (Builtin.Int.intBits i : Nat), H, I.tok _, ⟨_, rfl⟩, q⟩
def mBits (mo : ME) : ME := fun σ h Q => mo σ h fun x h1 => match x with
 | .int i => Q (.int (Builtin.Int.intBits i : Nat)) h1
 | _ => False
theorem d_bits {o : Expr} {mo : ME} {apos cpos : Pos} (ho : DE X o mo) (hbase : attributeBase o "bit_length" X.env (eval o X.env) = eval o X.env := by rfl) (hline : (apos.endLine == cpos.line) = true := by rfl) :
  DE X (.Call (.Attribute o "bit_length" apos) [] [] cpos) (mBits mo) := (pe_bm0 PySem.F.plainAttrs_int slot_int_bit_length type_int_bit_length mt_bits ho hbase hline).of fun σ H Q ⟨μ, h, σw, Qw, R, S, m, k⟩ => by
 refine ⟨μ, h, σw, _, R, S, m, fun v H1 ⟨μ1, w, h1, e1, R1, r1, m1⟩ => ?_⟩
 cases w with
 | int i =>
  rw [Rep] at r1
  subst r1
  have z : DQ X.K H1 μ1 Qw (.int (Builtin.Int.intBits i : Nat)) H1 := .int R1 m1
  exact ⟨rfl, i, rfl, rfl, k _ _ (z.trans e1)⟩
 | _ => exact (show False from m1).elim
end
end L2
namespace L2
open PySem PySem.Spec PyProof.Rows
def XO (h : Heap) (P : Addr → Prop) (e C : Addr) (od : Option Addr) : Prop := P e ∧ ∃ (oe : Obj) (vs : Array Value), h.get? e = some oe ∧ oe.cls = .ref C ∧ oe.dict = od ∧ oe.data = .fields vs ∧ vs.size ≤ 1000 ∧ vs[2]? = some .none ∧
 (vs[1]? = some .none ∨ ∃ (T : Addr) (oT : Obj) (ts : Array Value), vs[1]? = some (.ref T) ∧ T ≠ e ∧ P T ∧ h.get? T = some oT ∧ oT.data = .fields ts ∧ 3 < ts.size)
def XN (h : Heap) (P : Addr → Prop) (e C : Addr) (od : Option Addr) : Prop := P e ∧ ∃ (oe : Obj) (vs : Array Value), h.get? e = some oe ∧ oe.cls = .ref C ∧ oe.dict = od ∧ oe.data = .fields vs ∧ vs.size ≤ 1000 ∧ vs[2]? = some .none ∧
 ∃ (T : Addr) (oT : Obj) (ts : Array Value), vs[1]? = some (.ref T) ∧ T ≠ e ∧ P T ∧ h.get? T = some oT ∧ oT.data = .fields ts ∧ 3 < ts.size
theorem XN.xo {h : Heap} {P : Addr → Prop} {e C : Addr} {od : Option Addr} (x : XN h P e C od) : XO h P e C od := by
 obtain ⟨p, oe, vs, a, b, c, d, f, g, k⟩ := x
 exact ⟨p, oe, vs, a, b, c, d, f, g, .inr k⟩
theorem XO.mono {h : Heap} {P P' : Addr → Prop} {e C : Addr} {od : Option Addr} (x : XO h P e C od) (k : ∀ b, P b → P' b) : XO h P' e C od := by
 obtain ⟨p, oe, vs, a, b, c, d, f, g, z⟩ := x
 refine ⟨k _ p, oe, vs, a, b, c, d, f, g, ?_⟩
 rcases z with z | ⟨T, oT, ts, z1, z2, z3, z4⟩
 ·exact .inl z
 ·exact .inr ⟨T, oT, ts, z1, z2, k _ z3, z4⟩
theorem XN.mono {h : Heap} {P P' : Addr → Prop} {e C : Addr} {od : Option Addr} (x : XN h P e C od) (k : ∀ b, P b → P' b) : XN h P' e C od := by
 obtain ⟨p, oe, vs, a, b, c, d, f, g, T, oT, ts, z1, z2, z3, z4⟩ := x
 exact ⟨k _ p, oe, vs, a, b, c, d, f, g, T, oT, ts, z1, z2, k _ z3, z4⟩
structure Stp (P : Addr → Prop) (fs : List Addr) (h h' : Heap) : Prop where
 keep : ∀ b o, ¬ P b → b ∉ fs → h.get? b = some o → h'.get? b = some o
 slot : ∀ b o, ¬ P b → h.get? b = some o → ∃ sl, h'.get? b = some { o with slots := sl }
 there : ∀ b o, h.get? b = some o → ∃ o', h'.get? b = some o'
theorem Stp.refl {P : Addr → Prop} {fs : List Addr} {h : Heap} : Stp P fs h h := ⟨fun _ _ _ _ e => e, fun _ o _ e => ⟨o.slots, e⟩, fun _ o e => ⟨o, e⟩⟩
theorem Stp.trans {P : Addr → Prop} {fs : List Addr} {h h1 h2 : Heap} (a : Stp P fs h h1) (b : Stp P fs h1 h2) : Stp P fs h h2 :=
 ⟨fun c o n m e => b.keep c o n m (a.keep c o n m e), fun c o n e => let ⟨_, e1⟩ := a.slot c o n e; let ⟨sl, e2⟩ := b.slot c _ n e1; ⟨sl, e2⟩, fun c o e => let ⟨o1, e1⟩ := a.there c o e; b.there c o1 e1⟩

section
variable {M : Model} {A : Around} {E : Value → Shared → Prop} {s : Shared} {P : Addr → Prop} {e C : Addr} {od : Option Addr}
theorem flight_ok {fl : Option Addr} {fs : List Addr} {Q : Unit → Shared → Prop} (x : XN s.heap P e C od) (h : ∀ h', XN h' P e C od → Stp P fs s.heap h' → Q () { s with heap := h' }) : wpAny M A (setFlight (.ref e) fl) Q E s := by
 obtain ⟨p, oe, vs, he, hc, hdd, hd, hz, h2, T, oT, ts, h1, hne, pT, hT, hdT, h3⟩ := x
 unfold setFlight
 refine wpAny_bind (wpAny_field he hd h1 ?_)
 rw [if_pos (show (Value.ref T != Value.none) = true from by simp)]
 refine wpAny_setField hT hdT h3 (h _ ?_ ?_)
 ·have hd3 := Obj.data_mapFields hdT (·.setIfInBounds 3 (fl.elim Value.none fun f => rawInt f))
  refine ⟨p, oe, vs, ?_, hc, hdd, hd, hz, h2, T, _, _, h1, hne, pT, Heap.get?_update_self _ hT (Obj.isFreed_of_fields hd3), hd3, by simpa using h3⟩
  rw [Heap.get?_update_other _ _ hne]; exact he
 ·have ne : ∀ b, ¬ P b → T ≠ b := fun b n q => n (q ▸ pT)
  refine ⟨fun b o n _ q => by rw [Heap.get?_update_other _ _ (ne b n)]; exact q, fun b o n q => ⟨o.slots, by rw [Heap.get?_update_other _ _ (ne b n)]; exact q⟩, fun b o q => ?_⟩
  by_cases hb : T = b
  ·subst hb
   exact ⟨_, Heap.get?_update_self _ hT (Obj.isFreed_of_fields (Obj.data_mapFields hdT _))⟩
  ·exact ⟨o, by rw [Heap.get?_update_other _ _ hb]; exact q⟩
theorem entry_ok {base : Heap} {env : Env} {outer : List Env} {L : Addr} {oe : Obj} {vs : Array Value} {head : Value} {hadNext : Bool} {Q : Unit → Shared → Prop}
  (hfr : A.frames = some (env :: outer)) (hl : s.heap.FunFrames base (env :: outer)) (hf : env.frame = some L) (pe : P e) (he : s.heap.get? e = some oe) (hc : oe.cls = .ref C) (hdd : oe.dict = od) (hd : oe.data = .fields vs) (hz : vs.size ≤ 1000) (h2 : vs[2]? = some .none)
  (pn : ∀ b, s.heap.get? b = none → P b) (h : ∀ h', XN h' P e C od → Stp P (frs (env :: outer)) s.heap h' → Q () { s with heap := h' }) :
  wpAny M A (do let a ← frameOf env; let pl ← entryPlaceOf L hadNext; let b ← EntryCells.newEntry head a .none (rawInt L) .none pl; setField (.ref e) 1 b) Q E s := by
 have hsz : 1 < vs.size := Nat.lt_trans (by decide) (Array.getElem?_eq_some_iff.mp h2).1
 have hene : e ∉ (env :: outer).filterMap (·.frame) := fun hm => by
  obtain ⟨_, o, ho, hnf⟩ := hl.mem hm
  rw [he] at ho; injection ho with ho; subst ho; exact hnf vs hd
 refine wpAny_bind (wpAny_frameOf_fun hfr hl hf fun h₁ hs₁ => ?_)
 refine wpAny_bind (wpAny_entryPlaceOf fun pl hpl => ?_)
 unfold EntryCells.newEntry newFields
 refine wpAny_bind (wpAny_newObj_type ?_ (hpl.sizeOk5 _ _ _ _ _))
 have he₁ : h₁.get? e = some oe := (hs₁.2.1 e hene).trans he
 have he₂ := Heap.get?_push_of_some (h := h₁) { cls := .type "traceback", dict := none, data := .fields ([head, .ref L, .none, rawInt L, .none] ++ (if pl.isEmpty then List.replicate 6 Value.none else pl)).toArray } he₁
 refine wpAny_setField he₂ hd hsz (h _ ?_ ?_)
 ·have hTe : h₁.objs.size ≠ e := Nat.ne_of_gt (Heap.lt_size he₁)
  have hd₃ := Obj.data_mapFields hd (·.setIfInBounds 1 (Value.ref h₁.objs.size))
  refine ⟨pe, _, _, Heap.get?_update_self _ he₂ (Obj.isFreed_of_fields hd₃), by rw [Obj.cls_mapFields]; exact hc, ?_, hd₃, by simpa using hz, by rw [Array.getElem?_setIfInBounds_ne (by decide)]; exact h2, h₁.objs.size, _, _, by simp [hsz], hTe,
   pn _ (Heap.get?_none_of_le (by rw [hs₁.1]; exact Nat.le_refl _)), (Heap.get?_update_other _ _ (Ne.symm hTe)).trans (Heap.get?_push_size h₁ rfl), rfl, by simp only [List.size_toArray, List.length_append, List.length_cons, List.length_nil] <;> omega⟩
  obtain ⟨c, dd, dt, sl⟩ := oe
  cases hd
  exact hdd
 ·have ne : ∀ b, ¬ P b → e ≠ b := fun b n q => n (q ▸ pe)
  refine ⟨fun b o n m q => ?_, fun b o n q => ?_, fun b o q => ?_⟩
  ·rw [Heap.get?_update_other _ _ (ne b n)]
   exact Heap.get?_push_of_some _ ((hs₁.2.1 b m).trans q)
  ·obtain ⟨sl, e1⟩ := hs₁.2.2 b o q
   exact ⟨sl, by rw [Heap.get?_update_other _ _ (ne b n)]; exact Heap.get?_push_of_some _ e1⟩
  ·obtain ⟨sl, e1⟩ := hs₁.2.2 b o q
   by_cases hb : e = b
   ·subst hb
    exact ⟨_, Heap.get?_update_self _ he₂ (Obj.isFreed_of_fields (Obj.data_mapFields hd _))⟩
   ·exact ⟨_, by rw [Heap.get?_update_other _ _ hb]; exact Heap.get?_push_of_some _ e1⟩
theorem note_ok {base : Heap} {env : Env} {outer : List Env} {L : Addr} {Q : Unit → Shared → Prop} (hfr : A.frames = some (env :: outer)) (hl : s.heap.FunFrames base (env :: outer)) (hf : env.frame = some L) (x : XO s.heap P e C od)
  (pn : ∀ b, s.heap.get? b = none → P b) (pf : ∀ b ∈ frs (env :: outer), ¬ P b) (h : ∀ h', XN h' P e C od → Stp P (frs (env :: outer)) s.heap h' → Q () { s with heap := h' }) : wpAny M A (noteFrame (.ref e) env) Q E s := by
 obtain ⟨p, oe, vs, he, hc, hdd, hd, hz, h2, z⟩ := x
 unfold noteFrame
 simp only [hf]
 rcases z with h1 | ⟨T, oT, ts, h1, hne, pT, hT, hdT, h3⟩
 ·refine wpAny_bind (wpAny_field he hd h1 ?_)
  rw [if_neg (by decide)]
  exact entry_ok hfr hl hf p he hc hdd hd hz h2 pn h
 ·refine wpAny_bind (wpAny_field he hd h1 ?_)
  rw [if_pos (show (Value.ref T != Value.none) = true from by simp)]
  refine wpAny_bind (wpAny_field hT hdT (x := ts[3]) (by simp [h3]) ?_)
  by_cases q : (ts[3] == rawInt L) = true
  ·rw [if_pos q]
   exact wpAny_pure (h s.heap ⟨p, oe, vs, he, hc, hdd, hd, hz, h2, T, oT, ts, h1, hne, pT, hT, hdT, h3⟩ .refl)
  ·rw [if_neg q]
   refine wpAny_bind (wpAny_setField hT hdT h3 ?_)
   have other : ∀ b, b ≠ T → (s.heap.update T (Obj.mapFields (·.setIfInBounds 3 Value.none))).get? b = s.heap.get? b := fun b hb => Heap.get?_update_other _ _ (Ne.symm hb)
   have nT : ∀ b, ¬ P b → b ≠ T := fun b n q => n (q ▸ pT)
   have st : Stp P (frs (env :: outer)) s.heap (s.heap.update T (Obj.mapFields (·.setIfInBounds 3 Value.none))) := by
    refine ⟨fun b o n _ q => (other b (nT b n)).trans q, fun b o n q => ⟨o.slots, (other b (nT b n)).trans q⟩, fun b o q => ?_⟩
    by_cases hb : T = b
    ·subst hb
     exact ⟨_, Heap.get?_update_self _ hT (Obj.isFreed_of_fields (Obj.data_mapFields hdT _))⟩
    ·exact ⟨o, (other b (Ne.symm hb)).trans q⟩
   refine entry_ok (s := { s with heap := s.heap.update T (Obj.mapFields (·.setIfInBounds 3 Value.none)) }) hfr (hl.of_keeps fun b o hb hnf => ⟨o, (other b fun q => ?_).trans hb, rfl⟩) hf p ((other e (Ne.symm hne)).trans he) hc hdd hd hz h2 (fun b q => ?_) fun h' x1 x2 => h h' x1 (st.trans x2)
   ·rw [q, hT] at hb; injection hb with hb; subst hb; exact hnf ts hdT
   ·by_cases hb : b = T
    ·rw [hb]; exact pT
    ·exact pn b ((other b hb).symm.trans q)
end
end L2
namespace L2
open PySem PySem.Spec PyProof.Rows
theorem ObjOk.obj {P : Program} {w : World} {H : Hp} {h : Heap} {a : Addr} {o : HO} (x : ObjOk P w H h a o) : ∃ ob, h.get? a = some ob := by
 cases o with
 | lst xs => obtain ⟨_, _, _, _, e⟩ := x; exact ⟨_, e⟩
 | tup xs => obtain ⟨_, _, _, ob, e, _⟩ := x; exact ⟨_, e⟩
 | dK kvs => obtain ⟨_, _, _, _, o, _, _, e, _⟩ := x; exact ⟨_, e⟩
 | dT kvs => obtain ⟨_, _, _, _, o, _, _, e, _⟩ := x; exact ⟨_, e⟩
 | set S n => obtain ⟨o, _, _, _, e, _⟩ := x; exact ⟨_, e⟩
 | ins C dx fs => obtain ⟨_, _, _, e, _⟩ := x; exact ⟨_, e⟩
 | own y => obtain ⟨_, e⟩ := x; exact ⟨_, e⟩
 | xd fs => obtain ⟨_, ⟨_, _, _, e, _⟩, _⟩ := x; exact ⟨_, e⟩
 | rng lo hi => obtain ⟨_, _, _, e⟩ := x; exact ⟨_, e⟩
 | frz ob u => obtain ⟨e, _⟩ := x; exact ⟨_, e⟩
 | tbl ps => exact ⟨_, show h.get? a = some _ from x⟩
 | met f y => exact ⟨_, show h.get? a = some _ from x⟩
 | ext φ => obtain ⟨_, ⟨_, e⟩, _⟩ := x; exact ⟨_, e⟩
section
variable {X : Cx} {pins : List (Addr × Obj)} {σ : St} {H H' : Hp} {s s' : Shared} {b e C : Addr} {od : Option Addr}
structure New (X : Cx) (pins : List (Addr × Obj)) (H : Hp) (b : Addr) : Prop where
 h : H b = none
 s : b ∈ X.ex ∨ X.s₀.heap.get? b = none
 l : b ≠ X.env.locals
 c : ∀ x c, X.env.cells.lookup x = some c → c ≠ b
 p : ∀ p ∈ X.pn ++ pins, p.1 ≠ b
 f : b ∉ X.fs
theorem Inv.newOf (I : Inv X pins σ H s) (hb : s.heap.get? b = none) : New X pins H b where
 h := by
  cases q : H b with
  | none => rfl
  | some u => obtain ⟨ob, e⟩ := (I.hok b u q).obj; rw [hb] at e; cases e
 s := by
  by_cases hx : b ∈ X.ex
  ·exact .inl hx
  ·cases q : X.s₀.heap.get? b with
   | none => exact .inr rfl
   | some o => obtain ⟨o', e⟩ := I.base.there b o q hx; rw [hb] at e; cases e
 l := fun z => by obtain ⟨m, ⟨o, _, _, ho, _⟩, _⟩ := I.loc; rw [← z, hb] at ho; cases ho
 c := fun x c e z => by obtain ⟨v, o, ho, _⟩ := I.cell x c e; rw [z, hb] at ho; cases ho
 p := fun p hp z => by have ho := (I.pin p hp).1; rw [z, hb] at ho; cases ho
 f := fun hm => by obtain ⟨_, o, ho, _⟩ := I.funs.mem hm; rw [hb] at ho; cases ho
open Classical in
theorem Inv.stp {h' : Heap} (I : Inv X pins σ H s) (st : Stp (New X pins H) (frs X.stack) s.heap h') : Inv X pins σ H { s with heap := h' } := by
 have inCh : ∀ b o, s.heap.get? b = some o → b ∉ (List.range s.heap.objs.size).filter (fun b => decide (New X pins H b)) → ¬ New X pins H b := fun b o e n z =>
  n (List.mem_filter.mpr ⟨List.mem_range.mpr (Heap.lt_size e), decide_eq_true z⟩)
 refine I.stepG (g' := s.gens) (t' := s.toks) (d' := s.drawn) (ch := (List.range s.heap.objs.size).filter (fun b => decide (New X pins H b))) (fun b hb => ?_) (fun b o hL hf hc e n => ?_) (fun b o _ _ hc e _ => st.slot b o (inCh b o e hc) e) (fun _ _ _ _ n => n)
  (fun b o _ e => st.there b o e) (fun _ _ q => q) (fun _ _ _ q => q) (fun _ ps q => ⟨#[], by rw [q]; simp⟩) (fun m hm => ?_) (fun b u q => ?_) I.bare
 ·have z := of_decide_eq_true (List.mem_filter.mp hb).2
  exact ⟨z.s, z.l, z.c, z.p⟩
 ·exact st.keep b o (inCh b o e hc) (fun z => (List.mem_cons.mp (I.stkSub b z)).elim hL hf) e
 ·obtain ⟨o, es, ep, ho, r⟩ := hm
  obtain ⟨sl, q⟩ := st.slot _ o (fun z => z.l rfl) ho
  exact ⟨_, es, ep, q, r⟩
 ·refine (I.hok b u q).stay (fun c v hc r => ?_) (fun _ q => q) fun _ _ q => q
  have hH : H c ≠ none := by
   rcases hc with z | z
   ·rw [z, q]; simp
   ·rw [z]; simp
  exact st.keep c v (fun z => hH z.h) (fun z => hH (I.stkFree c z)) r
structure FX (X : Cx) (pins : List (Addr × Obj)) (σ : St) (H : Hp) (s : Shared) (e C : Addr) (od : Option Addr) : Prop where
 inv : Inv X pins σ H s
 xo : XO s.heap (New X pins H) e C od
structure FN (X : Cx) (pins : List (Addr × Obj)) (σ : St) (H : Hp) (s : Shared) (e C : Addr) (od : Option Addr) : Prop where
 inv : Inv X pins σ H s
 xn : XN s.heap (New X pins H) e C od
theorem FN.fx (F : FN X pins σ H s e C od) : FX X pins σ H s e C od := ⟨F.inv, F.xn.xo⟩
def Top (X : Cx) : Prop := X.stack = X.env :: X.outer ∧ X.env.frame = some X.env.locals
theorem FX.note {M : Model} {A : Around} {E : Value → Shared → Prop} {Q : Unit → Shared → Prop} (F : FX X pins σ H s e C od) (ht : Top X) (hA : A.frames = some X.stack) (h : ∀ h', FN X pins σ H { s with heap := h' } e C od → Q () { s with heap := h' }) :
  wpAny M A (noteFrame (.ref e) X.env) Q E s := by
 have hst := F.inv.stack
 rw [ht.1] at hst hA
 refine note_ok (P := New X pins H) hA hst ht.2 F.xo (fun b hb => F.inv.newOf hb) (fun b hb z => ?_) fun h' x st => h h' ⟨F.inv.stp (by rw [ht.1]; exact st), x⟩
 have hb' : b ∈ frs X.stack := by rw [ht.1]; exact hb
 rcases List.mem_cons.mp (F.inv.stkSub b hb') with q | q
 ·exact z.l q
 ·exact z.f q
theorem FN.flight {M : Model} {A : Around} {E : Value → Shared → Prop} {Q : Unit → Shared → Prop} {fl : Option Addr} (F : FN X pins σ H s e C od) (h : ∀ h', FN X pins σ H { s with heap := h' } e C od → Q () { s with heap := h' }) :
  wpAny M A (setFlight (.ref e) fl) Q E s := flight_ok (fs := frs X.stack) F.xn fun h' x st => h h' ⟨F.inv.stp st, x⟩
def CXX (P : Program) (w : World) : CXT := fun outer H s E e s' => ∃ (a C : Addr) (od : Option Addr) (H' : Hp), e = .ref a ∧ s'.os = s.os ∧ AllBare s'.gens ∧ Un (frs outer) [] H H' s.heap s'.heap ∧ HOk P w H' s'.heap ∧
 XN s'.heap (fun b => H' b = none ∧ s.heap.get? b = none) a C od ∧ E (.ref C) od H'
theorem FX.leave {M : Model} {E' : Value → Shared → Prop} {E : XK} (F : FX X pins σ H s e C od) (ht : Top X) (hx : X.ex = []) (he : E (.ref C) od H) :
  wpAny M X.A (leaving X.env (.ref e)) (fun _ s3 => CXX X.prog X.w X.outer X.H₀ X.s₀ E (.ref e) s3) E' s := by
 unfold leaving
 refine wpAny_bind (F.note ht F.inv.ok.frames fun h1 F1 => F1.flight fun h2 F2 => ?_)
 have I := F2.inv
 refine ⟨e, C, od, H, rfl, I.os, I.bare, by have := I.base; rw [hx] at this; exact this, I.hok, F2.xn.mono fun b z => ⟨z.h, ?_⟩, he⟩
 rcases z.s with q | q
 ·rw [hx] at q; cases q
 ·exact q
theorem Inv.cxx {E : XK} {ev : Value} (I : Inv X pins σ H s) (h : CXX X.prog X.w X.stack H s E ev s') : ∃ (a C : Addr) (od : Option Addr) (H' : Hp), ev = .ref a ∧ FN X pins σ H' s' a C od ∧ E (.ref C) od H' := by
 obtain ⟨a, C, od, H', e1, os, bare, un, hok, x, he⟩ := h
 refine ⟨a, C, od, H', e1, ⟨I.call' os un hok bare (ch := []) (fun b z => absurd z (by simp)), x.mono fun b z => ?_⟩, he⟩
 have n := I.newOf z.2
 exact ⟨z.1, n.s, n.l, n.c, n.p, n.f⟩
end

theorem exc_obj {K : PySem.W.Frag} {h : Heap} {C : Addr} {bm : List Value} {newId : String} (X : K.In h) (q : PySem.W.excIn K C bm newId = true) :
  ∃ (tl : List Value) (N : Addr) (nm qn : Str) (bs : List Value) (hd : Bool) (sn : List Str) (sub : List Value) (ab : Bool) (col : Option Bool) (dd : Option Addr) (k0 k1 k2 k3 k5 : Option Value) (mN : Str → Option Value),
   K.lookup C = some (excClassObj nm qn C N bs tl hd sn sub ab col dd k0 k1 k2 k3 k5 newId) ∧ h.Ns N mN ∧ mN "__init__" = none ∧ OwnTail h bm tl := by
 unfold PySem.W.excIn at q
 split at q
 ·rename_i dd cd sl ho
  split at q
  ·rename_i C' bm' k0 k1 k2 k3 n k5 hm hs
   simp only [Bool.and_eq_true, beq_iff_eq, Bool.not_eq_true'] at q
   obtain ⟨⟨⟨⟨⟨rfl, rfl⟩, hdel⟩, ht⟩, hok⟩, hni⟩ := q
   obtain ⟨nm, bs, mro, ns, qn, hd, sn, sub, ab, col, del⟩ := cd
   dsimp only at hm hdel hok hni
   subst hm hdel
   have hsl : sl = #[k0, k1, k2, k3, some (.builtin n), k5] := by
    obtain ⟨l⟩ := sl
    simp only at hs
    rw [hs]
   subst hsl
   exact ⟨bm', ns, nm, qn, bs, hd, sn, sub, ab, col, dd, k0, k1, k2, k3, k5, _, ho, .of_isNs (PySem.W.isNs_of_in X hok), PySem.W.nsMap_none_of_in X hok hni, PySem.W.tail_of_in X ht⟩
  ·cases q
 ·cases q
section
variable {X : Cx} {pins : List (Addr × Obj)} {σ : St} {H : Hp} {s : Shared} {C : Addr} {x : Str} {np cpos pos : Pos} {e : Expr} {es : List Expr} {t : TA}
theorem raise_made {Q : Flow → Shared → Prop} {R : Hp → Prop} (hc : X.calm = true) (hg : Gl X x) (hm : X.mg x = some (.ref C)) (hq : PySem.W.excIn X.K C vmB "ValueError.__new__" = true) (ha : PA X (e :: es) t)
  (I : Inv X pins σ H s) (h : t σ H fun vs H1 => vs.length ≤ sizeLine ∧ R H1) (hx : ∀ a H1 s', FX X pins σ H1 s' a C none → R H1 → X.xe (.ref a) s')
  (hdb : (x == ("__debug__" : Str)) = false := by decide) (he : starEach (e :: es) X.env = (false, eval e X.env) :: starEach es X.env := by rfl) (hpl : (backTo cpos (starEach es X.env)).any (·.1) = false := by rfl) :
  wpAny (model X.prog X.w) X.A (exec (.Raise (some (.Call (.Name x np) (e :: es) [] cpos)) none pos) X.env) Q X.xe s := by
 obtain ⟨tl, N, nm, qn, bs, hd, sn, sub, ab, col, dd, k0, k1, k2, k3, k5, mN, hC, hN, hni, T⟩ := exc_obj I.mod.kin hq
 refine wpAny_Raise_call_subT (C := C) (nm := nm) (q := qn) (N := N) (bs := bs) (bm := tl) (hdct := hd) (sn := sn) (sub := sub) (ab := ab) (col := col) (dd := dd) (k0 := k0) (k1 := k1) (k2 := k2) (k3 := k3) (k5 := k5)
  PySem.F.excBase_ValueError (mN := mN) (T.hasType PySem.F.excBase_ValueError.hasBase) (I.ok.hd hc) (by rw [he]; show (false || (backTo cpos (starEach es X.env)).any (·.1)) = false; rw [hpl]; rfl) hni (ld_glob I hg hm ⟨rfl, ?_⟩ hdb)
 have g := ha cpos pins s σ H _ I h
 rw [he] at g ⊢
 refine Calls.evalArgs_plain (thn g fun us s2 ⟨vs, H2, I2, r, z, k⟩ => ⟨rfl, ?_, I2.kIn _ _ hC, hN.keeps I2.bk, T.keeps I2.bk, fun h' a M => hx a H2 _ ⟨I2.kept (t' := s2.toks) M.keeps, ?_⟩ k⟩)
 ·show us.length ≤ sizeLine
  rw [← r.length]; exact z
 ·obtain ⟨tt, h1, h2, h3⟩ := M.there
  exact ⟨I2.newOf M.new, _, _, h1, rfl, rfl, rfl, by simp, rfl, .inl rfl⟩
end
end L2
namespace L2
open PySem PySem.Spec PyProof.Rows
def XDat (K : PySem.W.Frag) (H : Hp) (μ : Mu) (C : Addr) (n : Str) (od : Option Addr) (fs : List (Str × W)) : Prop :=
 (od = none ∧ fs = []) ∨ ∃ dd ws xs, od = some dd ∧ xaIn K C n = true ∧ fs = (attN n).zip ws ∧ ws.length = (attN n).length ∧ (attN n).length = xs.length ∧ H dd = some (.xd ((attN n).zip xs)) ∧ Reps K H μ ws xs
def XT (X : Cx) (H : Hp) (μ : Mu) (Γ : St → Prop) (E : XWK) : Value → Shared → Prop := fun ev s => ∃ (a C : Addr) (n : Str) (od : Option Addr) (fs : List (Str × W)) (pins : List (Addr × Obj)) (σ : St) (H' : Hp) (μ' : Mu) (h' : Gh), ev = .ref a ∧ FX X pins σ H' s a C od ∧ xcIn X.K C n = true ∧ Γ σ ∧
 Ext X.K H μ H' μ' ∧ Rel X.K μ' H' h' ∧ XDat X.K H' μ' C n od fs ∧ E ⟨n, fs⟩ h'
theorem XT.trans {X : Cx} {H H1 : Hp} {μ μ1 : Mu} {Γ : St → Prop} {E : XWK} {ev : Value} {s : Shared} (x : XT X H1 μ1 Γ E ev s) (e : Ext X.K H μ H1 μ1) : XT X H μ Γ E ev s := by
 obtain ⟨a, C, n, od, fs, pins, σ, H', μ', h', h1, h2, h3, h4, h5, h6⟩ := x
 exact ⟨a, C, n, od, fs, pins, σ, H', μ', h', h1, h2, h3, h4, e.trans h5, h6⟩
def tDX (X : Cx) (Γ : St → Prop) (m : XWK → ME) : TE := fun σ H Q => Γ σ ∧ ∃ μ h σw Qw E, Rel X.K μ H h ∧ Slots X.K H μ σw σ ∧ m E σw h Qw ∧ (∀ v H', DQ X.K H μ Qw v H' → Q v H') ∧ ∀ ev s', XT X H μ Γ E ev s' → X.xe ev s'
def tDSX (X : Cx) (Γ : St → Prop) (m : XWK → MS) : TS := fun D σ H => Γ σ ∧ ∃ μ h σw Dw E, Rel X.K μ H h ∧ Slots X.K H μ σw σ ∧ m E Dw σw h ∧ EndsOk X.K H μ Dw D ∧ ∀ ev s', XT X H μ Γ E ev s' → X.xe ev s'
abbrev DEx (X : Cx) (Γ : St → Prop) (e : Expr) (m : XWK → ME) : Prop := PE X e (tDX X Γ m)
abbrev DSx (X : Cx) (Γ : St → Prop) (st : Stmt) (m : XWK → MS) : Prop := PS X st (tDSX X Γ m)
abbrev DSsx (X : Cx) (Γ : St → Prop) (st : List Stmt) (m : XWK → MS) : Prop := PSs X st (tDSX X Γ m)
def liftX (K : PySem.W.Frag) (ms : MSp) : Sp := fun vs H Q E => ∃ μ h ws Qw Ew, Rel K μ H h ∧ Reps K H μ ws vs ∧ ms ws h Qw Ew ∧ (∀ v H', DQ K H μ Qw v H' → Q v H') ∧
 ∀ (C : Addr) (n : Str) (od : Option Addr) (fs : List (Str × W)) (H' : Hp), xcIn K C n = true → (∃ μ' h', Ext K H μ H' μ' ∧ Rel K μ' H' h' ∧ XDat K H' μ' C n od fs ∧ Ew ⟨n, fs⟩ h') → E (.ref C) od H'
theorem FnOk.tame {P : Program} {w : World} {K : PySem.W.Frag} {mg : Str → Option Value} {base : Heap} {k : Nat} {f : Addr} {fd : FuncData} {ps : List Str} {ms : MSp} (F : FnOk P w K mg base (CXX P w) k f fd ps (liftX K ms)) : FnOk P w K mg base CX0 k f fd ps (lift K ms) := by
 have up : ∀ vs H Q E, lift K ms vs H Q E → liftX K ms vs H Q E0 := fun vs H Q E ⟨μ, h, ws, Qw, R, r, m, q⟩ => ⟨μ, h, ws, Qw, EF, R, r, m, q, fun _ _ _ _ _ _ ⟨_, _, _, _, _, z⟩ => z⟩
 refine ⟨fun vs H Q E q => F.len vs H Q E0 (up _ _ _ _ q), fun A outer s H args us vs Q E hr e0 hb hv hs => codeAny_mono (F.run A outer s H args us vs Q E0 hr e0 hb hv (up _ _ _ _ hs)) fun r s' h => ?_⟩
 cases r with
 | error e => obtain ⟨_, _, _, _, _, _, _, _, _, _, z⟩ := h; exact z
 | ok fl => cases fl <;> exact h
section
variable {X : Cx} {Γ : St → Prop} {e c : Expr} {es : List Expr} {mr : MA} {pos : Pos} {st : Stmt} {rest : List Stmt}
theorem d_callX {k : Nat} {f : Addr} {fd : FuncData} {ps : List Str} {ms : MSp} {x : Str} {p : Pos} (F : FnOk X.prog X.w X.K X.mg X.base (CXX X.prog X.w) k f fd ps (liftX X.K ms)) (hr : Room k X.A) (hg : Gl X x) (hm : X.mg x = some (.ref f)) (hk : PySem.W.keepIn X.K (.ref f) = true)
  (hb : Binds X.K fd ps []) (ha : DAs X (e :: es) mr) (hdb : (x == ("__debug__" : Str)) = false := by decide) (he : starEach (e :: es) X.env = (false, eval e X.env) :: starEach es X.env := by rfl) (hpl : (backTo pos (starEach es X.env)).any (·.1) = false := by rfl) :
  DEx X Γ (.Call (.Name x p) (e :: es) [] pos) (fun E => mCall ms E mr) := by
 intro pins s σ H Q I ⟨hσ, μ, h, σw, Qw, E, R, S, m, q, kx⟩
 refine wpAny_Call_Name_kw (ld_glob I hg hm ?_ hdb)
 refine PySem.W.callWith_K (h₀ := X.base) I.ok.mod.kin hk (thn (ha pos pins s σ H (fun vs H1 => DA X.K H μ (fun ws h1 => ms ws h1 Qw E) vs H1) I ⟨μ, h, σw, _, R, S, m, fun _ _ z => z⟩) fun us s1 ⟨vs, H1, I1, r, μ1, ws, h1, e1, R1, r1, m1⟩ => ⟨I1.kIn, ?_⟩) he hpl
 have sp : liftX X.K ms (vs ++ []) H1 Q (fun Cv od H' => ∃ (C : Addr) (n : Str) (fs : List (Str × W)) (μ' : Mu) (h' : Gh), Cv = .ref C ∧ xcIn X.K C n = true ∧ Ext X.K H1 μ1 H' μ' ∧ Rel X.K μ' H' h' ∧ XDat X.K H' μ' C n od fs ∧ E ⟨n, fs⟩ h') := by
  rw [List.append_nil]
  exact ⟨μ1, h1, ws, Qw, E, R1, r1, m1, fun v H' z => q _ _ (z.trans e1), fun C n od fs H' hx ⟨μ', h', z⟩ => ⟨C, n, fs, μ', h', rfl, hx, z⟩⟩
 have r2 : Vals (vs ++ []) (us ++ []) := r.append .nil
 have hl : (us ++ []).length = ps.length := by rw [← r2.length]; exact F.len _ _ _ _ sp
 refine wpAny_call (codeAny_mono (F.run X.A X.stack s1 H1 ⟨us, []⟩ (us ++ []) (vs ++ []) Q _ hr I1.env0 (hb s1 us I1.kIn hl) r2 sp) fun r s' hq => ?_)
 cases r with
 | error ev =>
  obtain ⟨a, C, od, H', e2, F2, C', n, fs, μ', h', e3, hx, e4, R4, k4⟩ := I1.cxx (E := fun Cv od H' => ∃ (C : Addr) (n : Str) (fs : List (Str × W)) (μ' : Mu) (h' : Gh), Cv = .ref C ∧ xcIn X.K C n = true ∧ Ext X.K H1 μ1 H' μ' ∧ Rel X.K μ' H' h' ∧ XDat X.K H' μ' C n od fs ∧ E ⟨n, fs⟩ h') hq
  cases e3
  exact kx ev s' ⟨a, C, n, od, fs, pins, σ, H', μ', h', e2, F2.fx, hx, hσ, e1.trans e4, R4, k4⟩
 | ok fl =>
  cases fl with
  | ret u => exact I1.after hq
  | next => exact False.elim hq
  | brk => exact False.elim hq
  | cont => exact False.elim hq
theorem dsx_of {m : MS} (h : DS X st m) : DSx X Γ st (fun _ => m) := h.of fun D σ H ⟨_, μ, h, σw, Dw, _, R, S, m, k, _⟩ => ⟨μ, h, σw, Dw, R, S, m, k⟩
theorem noxS {m : MS} (h : DS X.nox st m) : DS X st m := fun pins s σ H D I q => wpAny_mono (h pins s σ H D (I.wish _) q) (fun f s' z => by
 cases f with
 | next => obtain ⟨a, b, c, d⟩ := z; exact ⟨a, b, c.unwish, d⟩
 | brk => obtain ⟨a, b, c, d⟩ := z; exact ⟨a, b, c.unwish, d⟩
 | cont => obtain ⟨a, b, c, d⟩ := z; exact ⟨a, b, c.unwish, d⟩
 | ret v => obtain ⟨a, b, c, d, e⟩ := z; exact ⟨a, b, c, d.unwish, e⟩) fun _ _ z => z.elim
theorem dssx_nil : DSsx X Γ [] (fun _ => mNext) := dss_nil.of fun D σ H ⟨_, μ, h, σw, Dw, _, R, S, m, k, _⟩ => ⟨μ, h, σw, Dw, R, S, m, k⟩
theorem dssx_one {m : XWK → MS} (h : DSx X Γ st m) : DSsx X Γ [st] m := pss_one h
theorem dssx_cons {m1 m2 : XWK → MS} (hΓ : ∀ σ, Γ σ) (h1 : DSx X Γ st m1) (h2 : DSsx X Γ rest m2) : DSsx X Γ (st :: rest) (fun E => mSeq (m1 E) (m2 E)) := (pss_cons h1 h2).of fun D σ H ⟨g, μ, h, σw, Dw, E, R, S, m, k, kx⟩ => by
 refine ⟨g, μ, h, σw, _, E, R, S, m, ⟨?_, k.rt, k.bk, k.ct⟩, kx⟩
 intro σ' H' ⟨μ1, σw1, h1, e1, R1, S1, m1⟩
 exact ⟨hΓ _, μ1, h1, σw1, Dw, E, R1, S1, m1, k.trans e1, fun ev s' z => kx ev s' (z.trans e1)⟩
theorem dsx_expr {ma : XWK → ME} (he : DEx X Γ e ma) (hs : swapsWith e none pos.line X.env = pure false := by rfl) : DSx X Γ (.Expr e pos) (fun E => mDrop (ma E)) := (ps_expr he hs).of fun D σ H ⟨g, μ, h, σw, Dw, E, R, S, m, k, kx⟩ =>
 ⟨g, μ, h, σw, _, E, R, S, m, fun v H1 ⟨μ1, w, h1, e1, R1, _, m1⟩ => k.nx _ _ ⟨μ1, σw, h1, e1, R1, S.ext e1, m1⟩, kx⟩
theorem dsx_ret {ma : XWK → ME} (he : DEx X Γ e ma) : DSx X Γ (.Return (some e) pos) (fun E => mRet (ma E)) := (ps_ret he).of fun D σ H ⟨g, μ, h, σw, Dw, E, R, S, m, k, kx⟩ => ⟨g, μ, h, σw, _, E, R, S, m, k.rt, kx⟩
theorem dsx_if {a b : List Stmt} {t : MT} {m1 m2 : XWK → MS} (hc : DT X c t) (ha : DSsx X Γ a m1) (hb : DSsx X Γ b m2) : DSx X Γ (.If c a b pos) (fun E => mIfS t (m1 E) (m2 E)) := (ps_if hc ha hb).of fun D σ H ⟨g, μ, h, σw, Dw, E, R, S, m, k, kx⟩ => by
 refine ⟨μ, h, σw, _, R, S, m, fun b H1 ⟨μ1, h1, e1, R1, q⟩ => ?_⟩
 cases b with
 | true => rw [if_pos rfl]; exact ⟨g, μ1, h1, σw, Dw, E, R1, S.ext e1, q.1 rfl, k.trans e1, fun ev s' z => kx ev s' (z.trans e1)⟩
 | false => rw [if_neg Bool.false_ne_true]; exact ⟨g, μ1, h1, σw, Dw, E, R1, S.ext e1, q.2 rfl, k.trans e1, fun ev s' z => kx ev s' (z.trans e1)⟩
theorem dsx_raise {C : Addr} {x v : Str} {j} {np cpos p1 : Pos} (hc : X.calm = true) (hg : Gl X x) (hm : X.mg x = some (.ref C)) (hq : PySem.W.excIn X.K C vmB "ValueError.__new__" = true) (hx : xcIn X.K C x = true) (hdb : (x == ("__debug__" : Str)) = false := by decide) :
  DSx X Γ (.Raise (some (.Call (.Name x np) [.Constant (.str v) j p1] [] cpos)) none pos) (fun E => mRaise x E) := by
 intro pins s σ H D I ⟨g, μ, h, σw, Dw, E, R, S, m, k, kx⟩
 refine raise_made (R := fun H1 => ∃ μ1 h1, Ext X.K H μ H1 μ1 ∧ Rel X.K μ1 H1 h1 ∧ E ⟨x, []⟩ h1) hc hg hm hq (da_cons d_str da_nil rfl) I ⟨μ, h, σw, fun ws h1 => ws.length = 1 ∧ E ⟨x, []⟩ h1, R, S, ⟨rfl, m⟩, fun vs H' ⟨μ1, ws, h1, e1, R1, r1, l1, m1⟩ => ⟨by rw [← r1.len, l1]; decide, μ1, h1, e1, R1, m1⟩⟩ (fun a H1 s' F ⟨μ1, h1, e1, R1, m1⟩ => ?_) hdb rfl rfl
 exact kx _ s' ⟨a, C, x, none, [], pins, σ, H1, μ1, h1, rfl, F, hx, g, e1, R1, .inl ⟨rfl, rfl⟩, m1⟩
end
theorem d_fnX {P : Program} {w : World} {K : PySem.W.Frag} {mg : Str → Option Value} {base : Heap} {x qual : Str} {st : Stmt} {f : Addr} {fd : FuncData} {N ps : List Str} {k : Nat} {pure : Bool} {body : XWK → MS} (F : Fun K x qual st f fd) (S : FnScope N ps (defScope st))
  (hb : ∀ (cdv : Value) (A : Around) (outer : List Env) (s : Shared) (H : Hp) (E : XK), Room k (A.deeper (envOfC qual (defScope st) s.heap.objs.size f cdv)) →
   DSsx (cxOf (CXX P w) P w K mg base N qual (defScope st) f cdv A outer s H E) (fun _ => True) (defBody st) body) : FnOk P w K mg base (CXX P w) (k + 1) f fd ps (liftX K (mFn ps.length N.length pure body)) := by
 obtain ⟨oc, od, kV, doc, pm, an, cdv, ct, osl, rfl, lk, hcd⟩ := F.ex
 refine fn_of lk hcd S (fun vs H Q E ⟨μ, h, ws, Qw, Ew, R, r, m, _, _⟩ => by rw [← r.len]; exact (mFn_ok m).1) fun A outer s H vs Q E hr ⟨μ, h, ws, Qw, Ew, R, r, m0, k, kx⟩ => ?_
 obtain ⟨hl, m⟩ := mFn_ok m0
 refine ⟨_, hb cdv A outer s H E hr, trivial, μ, h, _, _, Ew, R, start_slots r, m, ⟨?_, ?_, ?_, ?_⟩, ?_⟩
 ·rintro σ' H' ⟨μ1, σw1, h1, e1, R1, S1, m1⟩
  exact k _ _ (exit_ok (w := .non) R e1 R1 (by rw [Rep]) m1)
 ·rintro v H' ⟨μ1, w1, h1, e1, R1, r1, m1⟩
  exact k _ _ (exit_ok R e1 R1 r1 m1)
 ·rintro σ' H' ⟨μ1, σw1, h1, e1, R1, S1, m1⟩
  exact m1.elim
 ·rintro σ' H' ⟨μ1, σw1, h1, e1, R1, S1, m1⟩
  exact m1.elim
 ·rintro ev s' ⟨a, C, n, od, fs, pins, σ', H', μ', h', rfl, F', hx, _, e1, R1, m1⟩
  exact F'.leave ⟨rfl, rfl⟩ rfl (kx C n od fs H' hx ⟨μ', h', e1, R1, m1⟩)
end L2
namespace L2
open PySem PySem.Spec PyProof.Rows
abbrev Cx.tr (X : Cx) (pins : List (Addr × Obj)) (xe : Value → Shared → Prop) : Cx := { X with pn := X.pn ++ pins, xe := xe }
abbrev Cx.hnd (X : Cx) (a : Addr) (o : Obj) (u : HO) : Cx := { X with A := X.A.mark (some (.ref a)), H₀ := upd X.H₀ a (.frz o u), calm := false }
def stillO (a : Addr) (o : Obj) : HO := .ext fun h => h.get? a = some o
section
variable {X : Cx} {pins pins' : List (Addr × Obj)} {σ : St} {H : Hp} {s : Shared} {xe : Value → Shared → Prop} {a C : Addr} {o : Obj} {u : HO}
theorem Cx.Ok.tr (ok : X.Ok) (pins : List (Addr × Obj)) (xe : Value → Shared → Prop) : (X.tr pins xe).Ok :=
 ⟨ok.mod, ok.kind, ok.glob, ok.blt, ok.above, ok.inj, ok.has, ok.cab, ok.hd, ok.qt, ok.frames, ok.stk, ok.exf, ok.bs, ok.bsz, ok.noex, ok.exfs, ok.funs, ok.frf⟩
theorem Cx.Ok.untr (ok : (X.tr pins xe).Ok) : X.Ok :=
 ⟨ok.mod, ok.kind, ok.glob, ok.blt, ok.above, ok.inj, ok.has, ok.cab, ok.hd, ok.qt, ok.frames, ok.stk, ok.exf, ok.bs, ok.bsz, ok.noex, ok.exfs, ok.funs, ok.frf⟩
theorem Inv.tr (I : Inv X pins σ H s) : Inv (X.tr pins xe) [] σ H s := ⟨I.ok.tr pins xe, I.os, I.bare, I.base, I.loc, I.cell, I.free, I.freeC, fun p hp => I.pin p (by
 have hp' : p ∈ (X.pn ++ pins) ++ [] := hp
 rw [List.append_nil] at hp'
 exact hp'), I.hok, I.len⟩
theorem Inv.untr (I : Inv (X.tr pins xe) pins' σ H s) : Inv X pins σ H s := ⟨I.ok.untr, I.os, I.bare, I.base, I.loc, I.cell, I.free, I.freeC, fun p hp => I.pin p (List.mem_append_left _ hp), I.hok, I.len⟩
theorem New.untr {b : Addr} (n : New (X.tr pins xe) pins' H b) : New X pins H b := ⟨n.h, n.s, n.l, n.c, fun p hp => n.p p (List.mem_append_left _ hp), n.f⟩
theorem FX.untr {e : Addr} {od : Option Addr} (F : FX (X.tr pins xe) pins' σ H s e C od) : FX X pins σ H s e C od := ⟨F.inv.untr, F.xo.mono fun _ n => n.untr⟩
theorem SP.untr {D : Ends} {f : Flow} {s' : Shared} (h : SP (X.tr pins xe) [] D f s') : SP X pins D f s' := by
 cases f with
 | next => obtain ⟨σ', H', I, q⟩ := h; exact ⟨σ', H', I.untr, q⟩
 | brk => obtain ⟨σ', H', I, q⟩ := h; exact ⟨σ', H', I.untr, q⟩
 | cont => obtain ⟨σ', H', I, q⟩ := h; exact ⟨σ', H', I.untr, q⟩
 | ret v => obtain ⟨v, σ', H', I, r, q⟩ := h; exact ⟨v, σ', H', I.untr, r, q⟩

theorem Inv.hnd {vs : Array Value} (I : Inv X pins σ H s) (n : New X pins H a) (hx : X.ex = []) (ho : s.heap.get? a = some o) (hd : o.data = .fields vs) (h2 : vs[2]? = some .none) : Inv (X.hnd a o (stillO a o)) pins σ (upd H a (.frz o (stillO a o))) s := by
 have s0 : X.s₀.heap.get? a = none := by
  rcases n.s with q | q
  ·rw [hx] at q; cases q
  ·exact q
 have ne : ∀ b ob, X.s₀.heap.get? b = some ob → b ≠ a := fun b ob e z => by rw [z, s0] at e; cases e
 have nf : ∀ b ∈ X.fs, b ≠ a := fun b hb z => n.f (by rw [← z]; exact hb)
 have ok : (X.hnd a o (stillO a o)).Ok := by
  have k := I.ok
  refine ⟨k.mod, k.kind, k.glob, k.blt, k.above, k.inj, k.has, k.cab, fun z => (nomatch z), fun v e => ?_, k.frames, k.stk, k.exf, fun b ob e => ?_, k.bsz, k.noex, k.exfs, k.funs, fun b hb => ?_⟩
  ·have e : some (Value.ref a) = some v := e
   cases e
   exact ⟨a, o, stillO a o, vs, rfl, upd_same, hd, h2⟩
  ·obtain ⟨e1, e2⟩ := k.bs b ob e
   exact ⟨e1, (upd_ne (ne b ob e1)).trans e2⟩
  ·exact (upd_ne (nf b hb)).trans (k.frf b hb)
 have up : ∀ b ob, X.s₀.heap.get? b = some ob → upd X.H₀ a (.frz o (stillO a o)) b = none → X.H₀ b = none := fun b ob e z => by rw [upd_ne (ne b ob e)] at z; exact z
 refine ⟨ok, I.os, I.bare, ⟨fun b ob e z hf hx => I.base.keep b ob e (up b ob e z) hf hx, fun b ob e z hf hx => I.base.slot b ob e (up b ob e z) hf hx, fun b ob e z hx => ?_, I.base.there, fun b xs z => ?_, fun b ob v z => ?_, fun b ps z => ?_⟩, I.loc, I.cell, ?_, fun x c e => ?_, fun p hp => ?_, fun b v z => ?_, I.len⟩
 ·rw [upd_ne (ne b ob e)]; exact I.base.free b ob e (up b ob e z) hx
 ·have z : upd X.H₀ a (.frz o (stillO a o)) b = some (.tup xs) := z
  by_cases hb : b = a
  ·subst hb; rw [upd_same] at z; cases z
  ·rw [upd_ne hb] at z ⊢; exact I.base.tups b xs z
 ·have z : upd X.H₀ a (.frz o (stillO a o)) b = some (.frz ob v) := z
  by_cases hb : b = a
  ·subst hb; rw [upd_same] at z ⊢; exact z
  ·rw [upd_ne hb] at z ⊢; exact I.base.frzs b ob v z
 ·have z : upd X.H₀ a (.frz o (stillO a o)) b = some (.tbl ps) := z
  by_cases hb : b = a
  ·subst hb; rw [upd_same] at z; cases z
  ·rw [upd_ne hb] at z ⊢; exact I.base.tbls b ps z
 ·rw [upd_ne (Ne.symm n.l)]; exact I.free
 ·rw [upd_ne (n.c x c e)]; exact I.freeC x c e
 ·obtain ⟨h1, h3, h4⟩ := I.pin p hp
  exact ⟨h1, (upd_ne (n.p p hp)).trans h3, h4⟩
 ·by_cases hb : b = a
  ·subst hb
   rw [upd_same] at z
   cases z
   exact ⟨ho, ho, ⟨o, ho⟩, fun h1 h2 q k => k o q⟩
  ·rw [upd_ne hb] at z
   exact (I.hok b v z).stay (fun _ _ _ q => q) (fun c q => by rw [upd_ne (ne_of_none q n.h)]; exact q) fun c xs q => by rw [upd_ne (ne_of_none q n.h)]; exact q
theorem Inv.unhnd {σ0 : St} {H0 : Hp} {s0 : Shared} (I0 : Inv X pins σ0 H0 s0) (n : New X pins H0 a) (hx : X.ex = []) (I : Inv (X.hnd a o u) pins' σ H s) : Inv X pins' σ H s := by
 have e0 : X.s₀.heap.get? a = none := by
  rcases n.s with q | q
  ·rw [hx] at q; cases q
  ·exact q
 have ne : ∀ b ob, X.s₀.heap.get? b = some ob → b ≠ a := fun b ob e z => by rw [z, e0] at e; cases e
 have up : ∀ b ob, X.s₀.heap.get? b = some ob → X.H₀ b = none → (X.hnd a o u).H₀ b = none := fun b ob e z => (upd_ne (ne b ob e)).trans z
 refine ⟨I0.ok, I.os, I.bare, ⟨fun b ob e z hf hx => I.base.keep b ob e (up b ob e z) hf hx, fun b ob e z hf hx => I.base.slot b ob e (up b ob e z) hf hx, fun b ob e z hx => I.base.free b ob e (up b ob e z) hx, I.base.there, fun b xs z => ?_, fun b ob v z => ?_, fun b ps z => ?_⟩, I.loc, I.cell, I.free, I.freeC, I.pin, I.hok, I.len⟩
 ·refine I.base.tups b xs ((upd_ne fun hb => ?_).trans z)
  subst hb
  have := I0.base.tups b xs z
  rw [n.h] at this; cases this
 ·refine I.base.frzs b ob v ((upd_ne fun hb => ?_).trans z)
  subst hb
  have := I0.base.frzs b ob v z
  rw [n.h] at this; cases this
 ·refine I.base.tbls b ps ((upd_ne fun hb => ?_).trans z)
  subst hb
  obtain ⟨_, this⟩ := I0.base.tbls b ps z
  rw [n.h] at this; cases this
def lostS (σ : St) : St := σ.map fun _ => none
theorem Inv.lost {m' : Str → Option Value} {h' : Heap} {t' : Nat} (I : Inv X pins σ H s) (hn : h'.Ns X.env.locals m') (sb : Heap.SameBut X.env.locals s.heap h') : Inv X pins (lostS σ) H { s with heap := h', toks := t' } := by
 have neL : ∀ b o, X.s₀.heap.get? b = some o → b ≠ X.env.locals := fun b o e => Nat.ne_of_lt (Nat.lt_of_lt_of_le (Heap.lt_size e) I.ok.above)
 have k : ∀ b o, b ≠ X.env.locals → s.heap.get? b = some o → h'.get? b = some o := fun b o hb e => (sb.2 b hb).trans e
 refine ⟨I.ok, I.os, I.bare, ⟨fun b o e z hf hx => k b o (neL b o e) (I.base.keep b o e z hf hx), fun b o e z hf hx => ?_, I.base.free, fun b o e hx => ?_, I.base.tups, I.base.frzs, I.base.tbls⟩, ⟨m', hn, fun i x v _ e2 _ => ?_⟩, fun x c e => ?_, I.free, I.freeC, fun p hp => ?_, fun b v z => ?_, ?_⟩
 ·obtain ⟨sl, e1⟩ := I.base.slot b o e z hf hx
  exact ⟨sl, k b _ (neL b o e) e1⟩
 ·obtain ⟨o', e1⟩ := I.base.there b o e hx
  exact ⟨o', k b _ (neL b o e) e1⟩
 ·unfold lostS at e2
  rw [List.getElem?_map] at e2
  cases q : σ[i]? with
  | none => rw [q] at e2; cases e2
  | some w => rw [q] at e2; cases e2
 ·obtain ⟨v, oc, ho, hd⟩ := I.cell x c e
  exact ⟨v, oc, k c oc (I.cne x c e) ho, hd⟩
 ·obtain ⟨h1, h2, h3, h4⟩ := I.pin p hp
  exact ⟨k _ _ h3 h1, h2, h3, h4⟩
 ·have nL : ∀ c w, H c = some w → c ≠ X.env.locals := fun c w e q => by rw [q, I.free] at e; cases e
  refine (I.hok b v z).stay (fun c w hc q => k c w ?_ q) (fun _ q => q) fun _ _ q => q
  rcases hc with r | r
  ·rw [r]; exact nL b _ z
  ·exact nL c _ r
 ·unfold lostS
  rw [List.length_map]; exact I.len
end
end L2
namespace L2
open PySem PySem.Spec PyProof.Rows
section
variable {prog : Program} {w : World} {A : Around} {E : Value → Shared → Prop} {s : Shared} {K : PySem.W.Frag} {x D : Addr} {ox : Obj}
theorem exc_class {Q : Option Value → Shared → Prop} {od : Option Obj} (X : K.In s.heap) (I : PySem.W.InstAt s.heap x ox D od) (hga : PySem.W.findIn K (.ref D) "__getattribute__" = some (some (.builtin "BaseException.__getattribute__"))) (hk : PySem.W.findIn K (.ref D) "__getattr__" = some none)
  (hf : PySem.W.findObj K D od "__class__" = some (.bind (.builtin "getset_descriptor.__get__") (.builtin "object.__class__"))) (hm : PySem.W.mroIn K D (.type "object") = some true) (hB : PySem.W.mroIn K D (.type "BaseException") = some true)
  (h : Q (some (.ref D)) { s with toks := s.toks + 1 }) : wpAny (model prog w) A (getAttr? (.ref x) "__class__") Q E s := by
 obtain ⟨hh, g, d, t, os⟩ := s
 have L0 := I.type (M := model prog w)
 have L1 := PySem.W.looks_findIn (M := model prog w) X hga
 have L2 := PySem.W.looks_findIn (M := model prog w) X hk
 have L3 := PySem.W.looks_find (M := model prog w) X I hf
 have L4 := PySem.W.looks_mroIn (M := model prog w) X hB
 unfold getAttr? getAttrBy? getAttrBy
 refine wpAny_bind (wpAny_mkText (wpAny_bind (wpAny_attempt (wpAny_holding (wpAny_bind (PySem.W.Looks.at L0 (wpAny_bind (PySem.W.Looks.at L1 ?_))))))))
 show wpAny _ _ (if (onTheHeap (Value.ref D) && (Value.builtin "BaseException.__getattribute__" == Value.builtin "object.__getattribute__")) = true then _ else getAttrByItsOwn _ _ _ _ _ _) _ _ _
 have hx2 : (Value.builtin "BaseException.__getattribute__" == Value.builtin "object.__getattribute__") = false := by decide +kernel
 rw [hx2, Bool.and_false, if_neg Bool.false_ne_true]
 unfold getAttrByItsOwn
 refine wpAny_bind (show wpAny _ _ (typeLookup (Value.ref D) "__getattr__") _ _ _ from PySem.W.Looks.at L2 ?_)
 refine wpAny_bind (wpAny_attempt (wpAny_holding ?_))
 show wpAny _ _ (boundAndCalled _ _ _) _ _ _
 unfold boundAndCalled
 rw [PySem.F.attrBase_ValueError.ga.bind (.ref x)]
 refine wpAny_bind (wpAny_pure ?_)
 dsimp only
 refine wpAny_call (codeAny_call_builtin PySem.F.attrBase_ValueError.ga.plain F.entry_bexc_ga ?_)
 have hk : builtinKind "BaseException.__getattribute__" = some .slot := by decide +kernel
 have hsplit : splitId "BaseException.__getattribute__" = some ("BaseException", "__getattribute__") := by decide +kernel
 have ha := F.args_bexc_ga (.ref x) (.str "__class__" t)
 simp only [checkBuiltinCall, hk, hsplit]
 show wpAny (model prog w) A.in1 (isInstance (Value.ref x) (Value.type "BaseException") >>= _) _ _ _
 refine wpAny_bind ?_
 unfold isInstance
 refine wpAny_bind (PySem.W.Looks.at L0 (PySem.W.Looks.at L4 ?_))
 rw [if_neg (by decide)]
 change wpAny (model prog w) A.in1 (match Manifest.signature? "BaseException.__getattribute__" with
  | some sig => Bind.checkArgs "BaseException.__getattribute__" sig ⟨[Value.ref x, Value.str (Str.ofString "__class__") t], []⟩
  | x => pure ()) _ _ _
 repeat (any_goals (first | assumption | (with_reducible refine wpAny_loadPart_at I.at_ ?_; rw [I.cls]) | with_reducible refine PySem.W.Looks.at L3 ?_ | wp_step))
 refine PySem.W.class_get (s := ⟨hh, g, d, t + 1, os⟩) (ox := ox) (od := od) X I hm ?_
 refine wpAny_pure ?_
 exact PySem.W.handed_on rfl (wpAny_pure h)
end
def isX (n d : Str) : Bool := n == d || d == "EaselError"
section
variable {K : PySem.W.Frag} {C D : Addr} {n d : Str}
theorem xd_of (h : xdIn K D d = true) : PySem.W.nsIn K mainGlobals d = some (some (.ref D)) ∧ PySem.W.typeIn K (.ref D) = some (.type "type") ∧ ∃ cd, PySem.W.clsIn K D = some cd ∧ cd.name = d ∧ cd.mro.contains (.type "BaseException") = true := by
 unfold xdIn at h
 simp only [Bool.and_eq_true, beq_iff_eq] at h
 obtain ⟨⟨h1, h2⟩, h3⟩ := h
 refine ⟨h1, h2, ?_⟩
 split at h3
 ·rename_i cd hc
  simp only [Bool.and_eq_true, beq_iff_eq] at h3
  exact ⟨cd, hc, h3.1, h3.2⟩
 ·cases h3
theorem xc_of (h : xcIn K C n = true) : xdIn K C n = true ∧ (∃ cd R, PySem.W.clsIn K C = some cd ∧ cd.mro = .ref C :: .ref R :: vmB ∧ PySem.W.nsIn K mainGlobals "EaselError" = some (some (.ref R)) ∧ ∃ cr, PySem.W.clsIn K R = some cr ∧ cr.name = "EaselError") ∧
  PySem.W.findIn K (.ref C) "__getattribute__" = some (some (.builtin "BaseException.__getattribute__")) ∧ PySem.W.findIn K (.ref C) "__getattr__" = some none ∧ PySem.W.findIn K (.ref C) "__class__" = some (some (.builtin "object.__class__")) ∧ PySem.W.specialIn K (.builtin "object.__class__") "__get__" = some (some (.builtin "getset_descriptor.__get__")) ∧ PySem.W.takesIn K (.builtin "object.__class__") = some true := by
 unfold xcIn at h
 simp only [Bool.and_eq_true, beq_iff_eq] at h
 obtain ⟨⟨⟨⟨⟨⟨h1, h2⟩, h3⟩, h3'⟩, h4⟩, h5⟩, h6⟩ := h
 refine ⟨h1, ?_, h3, h3', h4, h5, h6⟩
 split at h2
 ·rename_i cd hc
  split at h2
  ·rename_i C' R a b c d hm
   simp only [Bool.and_eq_true, beq_iff_eq] at h2
   obtain ⟨⟨⟨e1, e2⟩, e3⟩, e4⟩ := h2
   obtain ⟨cr, e5, e6⟩ := PySem.W.any_some e4
   exact ⟨cd, R, hc, by rw [hm, e1, ← e2], e3, cr, e5, beq_iff_eq.mp e6⟩
  ·cases h2
 ·cases h2
theorem xc_mro (h : xcIn K C n = true) (hd : xdIn K D d = true) : PySem.W.mroIn K C (.ref D) = some (isX n d) := by
 obtain ⟨hx, ⟨cd, R, hc, hm, hR, cr, hcr, hnr⟩, _⟩ := xc_of h
 obtain ⟨n1, _, cd', hc', nm, _⟩ := xd_of hx
 obtain ⟨d1, _, dd, hdd, dm, _⟩ := xd_of hd
 rw [hc] at hc'; cases hc'
 unfold PySem.W.mroIn
 rw [hc, Option.bind_some, hm]
 show some ((Value.ref C :: Value.ref R :: vmB).contains (.ref D)) = some (isX n d)
 congr 1
 unfold isX
 have e1 : (Value.ref C :: Value.ref R :: vmB).contains (.ref D) = ((Value.ref D == Value.ref C) || ((Value.ref D == Value.ref R) || false)) := by
  rw [List.contains_cons, List.contains_cons]; rfl
 rw [e1, Bool.or_false]
 have a1 : (Value.ref D == Value.ref C) = (n == d) := by
  rw [Bool.eq_iff_iff, beq_iff_eq, beq_iff_eq]
  constructor
  ·intro q
   cases q
   rw [hc] at hdd; cases hdd
   rw [← nm, ← dm]
  ·intro q
   subst q
   rw [n1] at d1
   injection d1 with d1; injection d1 with d1; injection d1 with d1
   rw [d1]
 have a2 : (Value.ref D == Value.ref R) = (d == "EaselError") := by
  rw [Bool.eq_iff_iff, beq_iff_eq, beq_iff_eq]
  constructor
  ·intro q
   cases q
   rw [hcr] at hdd; cases hdd
   rw [← hnr, ← dm]
  ·intro q
   subst q
   rw [hR] at d1
   injection d1 with d1; injection d1 with d1; injection d1 with d1
   rw [d1]
 rw [a1, a2]
def CsOk (K : PySem.W.Frag) (v : V) (f : Str → Bool) : Prop := ∀ (u : Value), RelV v u → ∀ (C : Addr) (n : Str), xcIn K C n = true → PySem.W.kitOne K (.ref C) u = some (f n)
theorem CsOk.own (hd : xdIn K D d = true) : CsOk K (.ref D) (fun n => isX n d) := by
 intro u r C n h
 cases (show u = Value.ref D from r)
 have e := xc_mro h hd
 obtain ⟨_, ht, dd, hdd, _⟩ := xd_of hd
 unfold PySem.W.kitOne
 by_cases q : (Value.ref C == Value.ref D) = true
 ·rw [if_pos q]
  have q := beq_iff_eq.mp q
  cases q
  obtain ⟨n1, _, cd, hc, nm, _⟩ := xd_of (xc_of h).1
  rw [hc] at hdd; cases hdd
  obtain ⟨_, _, cd', hc', dm, _⟩ := xd_of hd
  rw [hc] at hc'; cases hc'
  unfold isX
  rw [← nm, ← dm]
  simp
 ·rw [if_neg q]
  unfold PySem.W.kitCls
  dsimp only
  rw [if_pos (by rw [hdd, ht]; rfl)]
  exact e
theorem CsOk.val : CsOk K (.ty "ValueError") (fun _ => true) := by
 intro u r C n h
 cases (show u = Value.type "ValueError" from r)
 obtain ⟨_, ⟨cd, R, hc, hm, _⟩, _⟩ := xc_of h
 unfold PySem.W.kitOne
 rw [if_neg (by intro q; cases beq_iff_eq.mp q)]
 unfold PySem.W.kitCls
 dsimp only
 rw [if_pos (by decide +kernel)]
 show PySem.W.mroIn K C (.type "ValueError") = some true
 unfold PySem.W.mroIn
 rw [hc, Option.bind_some, hm]
 rfl
theorem kitx_exc {x : Addr} {ox : Obj} (h : xcIn K D n = true) : PySem.W.KitX K (.ref x) (.ref D) (fun h => ∃ od, PySem.W.InstAt h x ox D od) := by
 obtain ⟨hx, ⟨cd, R, hc, hm, _⟩, hg, hg', ha, hn, htk⟩ := xc_of h
 have hmo : PySem.W.mroIn K D (.type "object") = some true := by
  unfold PySem.W.mroIn
  rw [hc, Option.bind_some, hm]
  rfl
 have hf : ∀ od, PySem.W.findObj K D od "__class__" = some (.bind (.builtin "getset_descriptor.__get__") (.builtin "object.__class__")) := by
  intro od
  unfold PySem.W.findObj
  rw [hc, Option.bind_some, ha, Option.bind_some]
  simp [hn, htk]
 have hcl : ∃ c' d' sl', K.lookup D = some ⟨c', d', .cls cd, sl'⟩ := by
  unfold PySem.W.clsIn at hc
  split at hc
  ·rename_i c' d' cd' sl' ho
   cases hc
   exact ⟨c', d', sl', ho⟩
  ·cases hc
 obtain ⟨c', d', sl', ho⟩ := hcl
 refine ⟨fun _ _ _ ⟨_, I⟩ => I.type, fun _ _ X _ => ?_, fun h tp dd its n sl X htp => ?_, fun {prog w A E Q s} X ⟨od, I⟩ k => ?_⟩
 ·intro A' Q' E' s' k q
  unfold isType loadHead
  exact wpAny_bind (wpAny_loadPart (k _ _ (X _ _ ho)) (wpAny_pure q))
 ·refine Bool.eq_false_iff.mpr fun q => ?_
  have e : D = tp := Value.ref.inj (beq_iff_eq.mp q)
  subst e
  have z := (X _ _ ho).symm.trans htp
  cases z
 ·refine exc_class X I hg hg' (hf od) hmo ?_ k
  unfold PySem.W.mroIn
  rw [hc, Option.bind_some, hm]
  rfl
theorem exc_matches {M : Model} {A : Around} {E : Value → Shared → Prop} {s : Shared} {e : Addr} {oe : Obj} {Q : Bool → Shared → Prop} (X : K.In s.heap) (he : s.heap.get? e = some oe) (hcls : oe.cls = .ref C) (h : xcIn K C n = true) (hd : xdIn K D d = true) (hq : Q (isX n d) s) :
  wpAny M A (excMatches (.ref e) (.ref D)) Q E s := by
 obtain ⟨_, ht, dd, hdd, _, hB⟩ := xd_of hd
 have L1 : PySem.W.Looks M s.heap (typeOf (.ref D)) (.type "type") := PySem.W.looks_typeIn X ht
 have L2 : PySem.W.Looks M s.heap (isSubtype (.ref C) (.ref D)) (isX n d) := PySem.W.looks_mroIn X (xc_mro h hd)
 have L3 : PySem.W.Looks M s.heap (isSubtype (.ref D) (.type "BaseException")) true := PySem.W.looks_mroIn X (by
  unfold PySem.W.mroIn
  rw [hdd, Option.bind_some, hB, if_neg]
  intro q
  rw [List.isEmpty_iff] at q
  rw [q] at hB; cases hB)
 have hcl : ∃ c' d' sl', K.lookup D = some ⟨c', d', .cls dd, sl'⟩ := by
  unfold PySem.W.clsIn at hdd
  split at hdd
  ·rename_i c' d' cd' sl' ho
   cases hdd
   exact ⟨c', d', sl', ho⟩
  ·cases hdd
 obtain ⟨c', d', sl', ho⟩ := hcl
 have L4 : PySem.W.Looks M s.heap (isType (.ref D)) true := by
  intro A' Q' E' s' k q
  unfold isType loadHead
  exact wpAny_bind (wpAny_loadPart (k _ _ (X _ _ ho)) (wpAny_pure q))
 have L5 : PySem.W.Looks M s.heap (typeOf (.ref e)) (.ref C) := hcls ▸ (PySem.W.Looks.ld he).andThen .now
 have f := tc_notTuple
 obtain ⟨hh, g, dr, tk, os⟩ := s
 unfold excMatches
 refine wpAny_bind ?_
 unfold isInstance
 refine wpAny_bind (PySem.W.Looks.at L1 ?_)
 rw [f]
 refine wpAny_pure ?_
 rw [if_neg Bool.false_ne_true]
 refine wpAny_bind (wpAny_pure ?_)
 dsimp only
 rw [List.forIn_cons]
 refine wpAny_bind (wpAny_bind ?_)
 unfold isExcClass
 refine wpAny_bind (wpAny_bind (PySem.W.Looks.at L4 ?_))
 rw [if_pos rfl]
 refine PySem.W.Looks.at L3 ?_
 rw [if_neg (by decide)]
 refine wpAny_pure ?_
 dsimp only
 rw [List.forIn_nil]
 refine wpAny_pure ?_
 refine wpAny_bind (PySem.W.Looks.at L5 ?_)
 rw [List.forIn_cons]
 refine wpAny_bind (wpAny_bind (wpAny_bind (PySem.W.Looks.at L2 ?_)))
 cases hb : isX n d with
 | true =>
  rw [hb] at hq
  rw [if_pos rfl]
  exact wpAny_pure (wpAny_pure (wpAny_pure hq))
 | false =>
  rw [hb] at hq
  rw [if_neg Bool.false_ne_true]
  refine wpAny_pure ?_
  dsimp only
  rw [List.forIn_nil]
  exact wpAny_pure (wpAny_pure hq)
end
end L2
namespace L2
open PySem PySem.Spec PyProof.Rows
theorem handle_as {prog : Program} {w : World} {A : Around} {E : Value → Shared → Prop} {s : Shared} {env : Env} {K : PySem.W.Frag} {e C D : Addr} {n d y : Str} {t : Expr} {b₀ : Stmt} {suite : List Stmt} {pos : Pos} {rest : List ExceptHandler} {Q : Flow → Shared → Prop}
  (hx : xcIn K C n = true) (hd : xdIn K D d = true) (hi : isX n d = true)
  (h : wpAny (model prog w) (A.mark (some (.ref e))) (eval t env) (fun c s₁ => c = .ref D ∧ K.In s₁.heap ∧ (∃ oe, s₁.heap.get? e = some oe ∧ oe.cls = .ref C) ∧
   wpAny (model prog w) (A.mark (some (.ref e))) (setFlight (.ref e) none) (fun _ s₂ =>
     wpAny (model prog w) (A.mark (some (.ref e))) (storeName env y (.ref e)) (fun _ s₃ =>
      wpAny (model prog w) (A.mark (some (.ref e))) (execs (b₀ :: suite) env)
       (fun f s₄ => wpAny (model prog w) A (do bindName env y .none; unbindBehindTheSuite env y pos) (fun _ s₅ => Q f s₅) E s₄) (fun _ _ => False) s₃) (fun _ _ => False) s₂) (fun _ _ => False) s₁) (fun _ _ => False) s) :
  wpAny (model prog w) A (handleBy (.ref e) env (.ExceptHandler (some t) (some y) (b₀ :: suite) pos :: rest)) Q E s := by
 refine wpAny_handleBy_cons (codeAny_handlers_test (wpAny_mono h (fun c s₁ h₁ => ?_) fun _ _ z => z.elim)) (by intro q; cases q)
 obtain ⟨rfl, X, ⟨oe, he, hcls⟩, hk⟩ := h₁
 refine exc_matches X he hcls hx hd ?_
 rw [hi]
 exact codeAny_handlers_suite_as (wpAny_mono hk (fun _ s₂ h₂ => wpAny_mono h₂ (fun _ s₃ h₃ => wpAny_mono h₃ (fun _ _ z => z) fun _ _ z => z.elim) fun _ _ z => z.elim) fun _ _ z => z.elim)
def MEnds.lost (D : MEnds) : MEnds := { D with nx := fun σ h => D.nx (σ.map fun _ => none) h, bk := fun σ h => D.bk (σ.map fun _ => none) h, ct := fun σ h => D.ct (σ.map fun _ => none) h }
def excW (x : Xw) : W := match x.fs with
 | [] => .exc x.cls
 | f :: fs => .exa x.cls ((f :: fs).map (·.2))
theorem zip_snd {α β : Type} : ∀ {l : List α} {m : List β}, m.length = l.length → (l.zip m).map (·.2) = m
 | [], [], _ => rfl
 | [], _ :: _, h => by cases h
 | _ :: _, [], h => by cases h
 | a :: l, b :: m, h => by rw [List.zip_cons_cons, List.map_cons, zip_snd (by simpa using h)]
theorem excW_a {n : Str} {ws : List W} (h : ws.length = (attN n).length) : excW ⟨n, (attN n).zip ws⟩ = .exa n ws := by
 have e := zip_snd h
 unfold excW
 have ne : attN n ≠ [] := by unfold attN; split <;> simp
 cases q : (attN n).zip ws with
 | nil =>
  rw [q] at e
  cases ws with
  | nil => exact absurd (List.eq_nil_of_length_eq_zero h.symm) ne
  | cons _ _ => cases e
 | cons f fs =>
  rw [q] at e
  dsimp only
  rw [e]
def mTry (i : Nat) (d : Str) (mb : XWK → MS) (mh : MS) : MS := fun D σ h => mb (fun x h' => by2 (isX x.cls d) (mh D.lost (σ.set i (some (excW x))) h') False) D σ h
theorem Slots.lost {K : PySem.W.Frag} {H : Hp} {μ : Mu} {σw : Sw} {σ : St} (S : Slots K H μ σw σ) : Slots K H μ (σw.map fun _ => none) (lostS σ) := by
 refine ⟨by unfold lostS; rw [List.length_map, List.length_map, S.len], fun i w q => ?_⟩
 rw [List.getElem?_map] at q
 cases e : σw[i]? with
 | none => rw [e] at q; cases q
 | some z => rw [e] at q; cases q
section
variable {X : Cx} {body : List Stmt} {b₀ : Stmt} {suite : List Stmt} {y d : Str} {np hpos pos : Pos} {i : Nat} {D : Addr} {mb : XWK → MS} {mh : MS}
theorem ds_try (hN : X.N.Nodup) (hi : X.N[i]? = some y) (hy : X.env.scope.names.lookup y = some .local) (hg : Gl X d) (hm : X.mg d = some (.ref D)) (hxd : xdIn X.K D d = true) (ht : Top X) (hx : X.ex = [])
  (hb : ∀ pins xe σ0, DSsx (X.tr pins xe) (fun σ => σ = σ0) body mb) (hh : ∀ a o u, DSs (X.hnd a o u).nox (b₀ :: suite) mh) (hdb : (d == ("__debug__" : Str)) = false := by decide) :
  DS X (.Try body [.ExceptHandler (some (.Name d np)) (some y) (b₀ :: suite) hpos] [] [] pos) (mTry i d mb mh) := by
 intro pins s σ H De I ⟨μ, h, σw, Dw, R, S, m, k⟩
 refine wpAny_Try_except (thn (hb pins _ σ [] s σ H De I.tr ⟨rfl, μ, h, σw, Dw, _, R, S, m, k, fun ev s' xt => ?_⟩) fun f s' q => ?_)
 ·obtain ⟨a, C, n, od, fs, pins', σ', H', μ', h', rfl, F, hxc, rfl, e1, R1, xd, q⟩ := xt
  have F := F.untr
  cases hix : isX n d with
  | false => 
   have q : by2 (isX n d) _ False := q
   rw [hix] at q; exact q.elim
  | true =>
  have q : by2 (isX n d) (mh Dw.lost (σw.set i (some (excW ⟨n, fs⟩))) h') False := q
  rw [hix] at q
  have q : mh Dw.lost (σw.set i (some (excW ⟨n, fs⟩))) h' := q
  refine F.note ht F.inv.ok.frames fun h1 F1 => F1.flight fun h2 F2 => ?_
  obtain ⟨_, oe0, vs0, he0, hc0, _⟩ := F2.xn
  refine handle_as hxc hxd hix ?_
  refine Calls.Name_function_global F2.inv.ok.kind hg (Calls.loadGlobal_global (by rw [F2.inv.ok.glob]; exact F2.inv.mod.glob.keeps F2.inv.bk) hm ⟨rfl, F2.inv.kIn, ⟨oe0, he0, hc0⟩, ?_⟩) hdb
  refine F2.flight fun h3 F3 => ?_
  obtain ⟨nw, oe, vs, he, hc, hdd, hdt, _, hv2, _⟩ := F3.xn
  have Ih := F3.inv.hnd nw hx he hdt hv2
  have Hn : H' a = none := nw.h
  refine store_ok (X := X.hnd a oe (stillO a oe)) (v := .ref a) Ih hN hi (.inl hy) rfl (fun s4 I4 => ?_) (.inr hy)
  have e2 : Ext X.K H μ (upd H' a (.frz oe (stillO a oe))) μ' := e1.trans (Ex.laid Hn).ext
  have rx : Rep X.K (upd H' a (.frz oe (stillO a oe))) μ' (excW ⟨n, fs⟩) (.ref a) := by
   have nc : PySem.W.notCls oe = true := by
    unfold PySem.W.notCls
    rw [hdt]
   rcases xd with ⟨rfl, rfl⟩ | ⟨dd, ws, xs, rfl, hxa, rfl, hl1, hl2, hdx, rs⟩
   ·show Rep X.K _ μ' (.exc n) (.ref a)
    rw [Rep]
    exact ⟨a, oe, _, rfl, upd_same, C, hc, hdd, nc, hxc⟩
   ·rw [excW_a hl1, Rep]
    exact ⟨a, oe, _, dd, _, xs, rfl, upd_same, ⟨C, hc, hdd, nc, hxa⟩, by rw [upd_ne (ne_of_none hdx Hn)]; exact hdx, rfl, hl2, (Ex.laid Hn).ext.s rs⟩
  refine wpAny_mono (hh a oe (stillO a oe) pins s4 _ _ ⟨fun σ5 H5 => De.nx (lostS σ5) H5, De.rt, fun σ5 H5 => De.bk (lostS σ5) H5, fun σ5 H5 => De.ct (lostS σ5) H5⟩ (I4.wish _)
   ⟨μ', h', σw.set i (some (excW ⟨n, fs⟩)), Dw.lost, R1.laid Hn, (S.ext e2).set rx i, q, ⟨?_, ?_, ?_, ?_⟩⟩) (fun f s5 q5 => ?_) fun _ _ z => z.elim
  ·rintro σ5 H5 ⟨μ5, σw5, h5, e5, R5, S5, m5⟩
   exact k.nx _ _ ⟨μ5, _, h5, e2.trans e5, R5, S5.lost, m5⟩
  ·rintro v H5 ⟨μ5, w5, h5, e5, R5, r5, m5⟩
   exact k.rt _ _ ⟨μ5, w5, h5, e2.trans e5, R5, r5, m5⟩
  ·rintro σ5 H5 ⟨μ5, σw5, h5, e5, R5, S5, m5⟩
   exact k.bk _ _ ⟨μ5, _, h5, e2.trans e5, R5, S5.lost, m5⟩
  ·rintro σ5 H5 ⟨μ5, σw5, h5, e5, R5, S5, m5⟩
   exact k.ct _ _ ⟨μ5, _, h5, e2.trans e5, R5, S5.lost, m5⟩
  ·have gone : ∀ {σ5 : St} {H5 : Hp} {Q5 : Unit → Shared → Prop}, Inv (X.hnd a oe (stillO a oe)).nox pins σ5 H5 s5 → (∀ s6, Inv X pins (lostS σ5) H5 s6 → Q5 () s6) → wpAny (model X.prog X.w) X.A (do bindName X.env y .none; unbindBehindTheSuite X.env y hpos) Q5 X.xe s5 := fun {σ5 H5 Q5} I5 h5 => by
    have I5' := I5.unwish
    obtain ⟨mm, hns, _⟩ := I5'.loc
    refine wpAny_nameGoes hy hns (by rw [show X.env.scope.kind = .function from F.inv.ok.kind]; rfl) fun h6 m6 hn6 sb6 => h5 _ (F3.inv.unhnd nw hx (I5'.lost hn6 sb6))
   cases f with
   | next => obtain ⟨σ5, H5, I5, z⟩ := q5; exact gone I5 fun s6 I6 => ⟨_, H5, I6, z⟩
   | brk => obtain ⟨σ5, H5, I5, z⟩ := q5; exact gone I5 fun s6 I6 => ⟨_, H5, I6, z⟩
   | cont => obtain ⟨σ5, H5, I5, z⟩ := q5; exact gone I5 fun s6 I6 => ⟨_, H5, I6, z⟩
   | ret v => obtain ⟨x5, σ5, H5, I5, r5, z⟩ := q5; exact gone I5 fun s6 I6 => ⟨x5, _, H5, I6, r5, z⟩
 ·have q := SP.untr q
  cases f with
  | next => exact wpAny_execs_nil q
  | brk => exact q
  | cont => exact q
  | ret v => exact q
end
theorem room_hnd {k : Nat} {A : Around} {a : Addr} (r : Room k A) (h : 8 ≤ k) : Room 8 (A.mark (some (.ref a))) := ⟨fun z => absurd z (by decide), by have := r.dp; show A.depth + _ < _; omega, by have := r.un; show A.units + _ < _; omega⟩
end L2
namespace L2
open PySem PySem.Spec PyProof.Rows
section
variable {X : Cx} {a : Expr} {ma : ME} {pos p : Pos}
def mIsX (f : Str → Bool) (m : ME) : ME := fun σ h Q => m σ h fun w h1 => match w with
 | .exc n => Q (.bl (f n)) h1
 | .exa n _ => Q (.bl (f n)) h1
 | _ => False
def XoAny (K : PySem.W.Frag) (H : Hp) (o : Obj) (n : Str) : Prop := Xob K o n ∨ ∃ dd fs, Xoa K o n dd ∧ H dd = some (.xd fs)
theorem inst_of {pins : List (Addr × Obj)} {σ : St} {H : Hp} {s : Shared} {q : Addr} {o : Obj} {u : HO} {n : Str} (I : Inv X pins σ H s) (e : H q = some (.frz o u)) (x : XoAny X.K H o n) : ∃ C, xcIn X.K C n = true ∧ ∃ od, PySem.W.InstAt s.heap q o C od := by
 rcases x with ⟨C, hc, hd, hn, hx⟩ | ⟨dd, fs, ⟨C, hc, hd, hn, hx⟩, hdd⟩
 ·exact ⟨C, hx, none, (I.hok q _ e).1, hc, hn, by rw [hd]; trivial⟩
 ·obtain ⟨ob, ho⟩ := (I.hok dd _ hdd).obj
  unfold xaIn at hx
  simp only [Bool.and_eq_true] at hx
  exact ⟨C, hx.1.1, some ob, (I.hok q _ e).1, hc, hn, by rw [hd]; exact ho⟩
theorem call_isx {v : V} {f : Str → Bool} (hf : CsOk X.K v f) : CallR X (.builtin "isinstance") (fun xs H Q => ∃ q o u n, xs = [.ref q, v] ∧ H q = some (.frz o u) ∧ XoAny X.K H o n ∧ Q (.bl (f n)) H) := by
 intro pins s σ H xs us Q I r ⟨q, o, u, n, ex, eq, xo, hQ⟩
 subst ex
 obtain ⟨C, hx, J⟩ := inst_of I eq xo
 cases r with
 | cons r1 r2 =>
  cases r2 with
  | cons r2 r3 =>
   cases r3
   rename_i u1 u2
   cases (show u1 = Value.ref q from r1)
   exact PySem.W.kia_one (kitx_exc hx) I.kIn J (hf u2 r2 C n hx) (fun z => nomatch z) fun tk => ⟨.bl (f n), H, I.kept (t' := tk) fun _ _ e => e, rfl, hQ⟩
theorem d_isx1 {b : Expr} {v : V} {f : Str → Bool} (hg : Gl X "isinstance") (hm : X.mg "isinstance" = none) (ha : DE X a ma) (hb : PE X b (tC v)) (hf : CsOk X.K v f) (h1 : starEach [a, b] X.env = (false, eval a X.env) :: starEach [b] X.env := by rfl) (h2 : starEach [b] X.env = (false, eval b X.env) :: starEach [] X.env := by rfl)
  (hpl : (backTo pos (starEach [b] X.env)).any (·.1) = false := by rfl) : DE X (.Call (.Name "isinstance" p) [a, b] [] pos) (mIsX f ma) :=
 (pe_callB (call_isx hf) hg hm boot_isinstance (pa_cons ha (pa_cons hb pa_nil h2) h1) (by decide) (by decide) h1 hpl).of fun σ H Q ⟨μ, h, σw, Qw, R, S, m, k⟩ => by
  refine ⟨μ, h, σw, _, R, S, m, fun x H1 ⟨μ1, w, h1, e1, R1, r1, m1⟩ => ?_⟩
  cases w with
  | exc n =>
   rw [Rep] at r1
   obtain ⟨q, o, u, ev, eq, hx⟩ := r1
   subst ev
   exact ⟨q, o, u, n, rfl, eq, .inl hx, k _ _ ⟨μ1, .bl (f n), h1, e1, R1, by rw [Rep], m1⟩⟩
  | exa n ws =>
   rw [Rep] at r1
   obtain ⟨q, o, u, dd, ns, xs, ev, eq, hx, hdd, _⟩ := r1
   subst ev
   exact ⟨q, o, u, n, rfl, eq, .inr ⟨dd, _, hx, hdd⟩, k _ _ ⟨μ1, .bl (f n), h1, e1, R1, by rw [Rep], m1⟩⟩
  | _ => exact m1.elim
inductive PCs (X : Cx) : List Expr → List V → (Str → Bool) → Prop
 | nil : PCs X [] [] (fun _ => false)
 | cons {e : Expr} {es : List Expr} {v : V} {vs : List V} {f g : Str → Bool} : PE X e (tC v) → CsOk X.K v f → PCs X es vs g → starEach (e :: es) X.env = (false, eval e X.env) :: starEach es X.env → PCs X (e :: es) (v :: vs) (fun n => f n || g n)
end
section
variable {X : Cx} {tg elt : Expr} {ifs : List Expr} {scope : Scope} {xs : List Str} {tt : MT} {te : ME} {pos p ppos : Pos}
end
end L2
namespace L2
open PySem PySem.Spec PyProof.Rows
theorem QuietAt.keep {A : Around} {h h' : Heap} (q : QuietAt A h) (k : ∀ a o, A.handled = some (.ref a) → h.get? a = some o → h'.get? a = some o) : QuietAt A h' := fun v e => by
 obtain ⟨a, o, vs, h1, h2, h3⟩ := q v e
 subst h1
 exact ⟨a, o, vs, rfl, k a o e h2, h3⟩
section
variable {prog : Program} {w : World} {A : Around} {E : Value → Shared → Prop} {s : Shared}
theorem list_endQ {it l : Addr} {i : Nat} {items} {Q : Option Value → Shared → Prop} (hh : QuietAt A s.heap) (hne : A.handled ≠ some (.ref it))
  (hit : s.heap.IsListIter it l i) (hl : s.heap.IsList l items) (hx : items[i]? = none)
  (hQ : ∀ h', Heap.ExtBut it s.heap h' → Q none { s with heap := h' }) : wpAny (model prog w) A (pyNext (.ref it)) Q E s := by
 obtain ⟨o, ho, hc, hd⟩ := id hit
 obtain ⟨ol, hol, _, nl, hdl⟩ := hl
 unfold pyNext
 refine wpAny_bind (wpAny_attempt (wpAny_callSpecial?_slot (name := Str.ofString "__next__") hit.typeIs slot_listiter_next
  (wpAny_call_entry slot_listiter_next hit.typeIs entry_listiter_next ?_ (args_listiter_next _))))
 show wpAny _ _ (field (.ref it) 0 >>= _) _ _ s
 refine wpAny_bind (wpAny_field ho hd (x := .ref l) rfl ?_)
 show wpAny _ _ (if (Value.ref l == Value.none) = true then _ else _) _ _ s
 rw [if_neg (show ¬ ((Value.ref l == Value.none) = true) from Bool.false_ne_true)]
 show wpAny _ _ (field (.ref it) 1 >>= _) _ _ s
 refine wpAny_bind (wpAny_field ho hd (x := .int i 0) rfl ?_)
 show wpAny _ _ (seqItems? (.ref l) >>= _) _ _ s
 refine wpAny_bind (wpAny_seqItems hol hdl ?_)
 simp only [Int.toNat_natCast, hx]
 refine wpAny_bind (wpAny_rule (wpAny_bind (wpAny_setField ho hd (by simp) ?_)))
 show wpAny _ _ (newExc (.type "StopIteration") [] >>= _) _ _ _
 refine wpAny_bind ?_
 simp only [newExc, newTuple]
 refine wpAny_bind (wpAny_newObj_type ?_ (by size_fits))
 refine wpAny_bind (m := firstArgMember _ _) (wpAny_of_eq (a := Value.none) (by first | rfl | (simp only [firstArgMember]; rfl)) ?_)
 refine wpAny_newObj_type ?_ (by size_fits)
 have up : ∀ a o, A.handled = some (.ref a) → s.heap.get? a = some o → (s.heap.update it (Obj.mapFields (·.setIfInBounds 0 Value.none))).get? a = some o := fun a o e q => by
  rw [Heap.get?_update_other _ _ (fun z => hne (by rw [z]; exact e))]; exact q
 refine raise_over (A := A.in1) (fun v e => ?_) (Heap.get?_push_size _ rfl) rfl (by simp; omega) (fun v e => ?_) fun h' h1 ⟨o', h2, h3⟩ => ?_
 ·obtain ⟨a, o, vs, r1, r2, r3⟩ := hh v e
  subst r1
  exact ⟨a, o, vs, rfl, Heap.get?_push_of_some _ (Heap.get?_push_of_some _ (up a o e r2)), r3⟩
 ·obtain ⟨a, o, vs, r1, r2, r3⟩ := hh v e
  rw [r1]
  intro q
  have q : a = _ := Value.ref.inj q
  have := Heap.lt_size r2
  rw [q] at this
  exact absurd this (Nat.not_lt.mpr (by simp [Heap.push]))
 refine wpAny_bind (wpAny_isInstance (T := "StopIteration") (b := true) ⟨_, h2, h3⟩ isSubtype_stop ?_)
 refine wpAny_pure (hQ _ fun b o hb e => ?_)
 have e' : (s.heap.update it (Obj.mapFields (·.setIfInBounds 0 Value.none))).get? b = some o := by rw [Heap.get?_update_other _ _ (Ne.symm hb)]; exact e
 rw [h1 b ?_]
 ·exact Heap.get?_push_of_some _ (Heap.get?_push_of_some _ e')
 ·have := Heap.lt_size e
  exact Nat.ne_of_lt (Nat.lt_of_lt_of_le this (by simp [Heap.push]))
def hdA (A : Around) : List Addr := match A.handled with
 | some (.ref a) => [a]
 | _ => []
theorem mem_hdA {A : Around} {a : Addr} (h : A.handled = some (.ref a)) : a ∈ hdA A := by unfold hdA; rw [h]; simp
theorem walks_listQ (I ax : Addr) (hne : ax ≠ I) (hI : A.handled ≠ some (.ref I)) (items : Array Value) :
  Walks prog w A I (I :: ax :: hdA A) [I] items.size (fun i v => items[i]? = some v) (fun i h => h.IsListIter I ax i ∧ h.IsList ax items ∧ QuietAt A h) where
 sub := fun b hb => by simp at hb; simp [hb]
 frame := fun _ _ _ st hk => ⟨st.1.at fun o e => hk I (by simp) o e, st.2.1.at fun o e => hk ax (by simp) o e, st.2.2.keep fun a o e q => hk a (by simp [mem_hdA e]) o q⟩
 item := fun i s Q E hi st hQ => by
  refine wpAny_pyNext_list_item st.1 st.2.1 (x := items[i]) (by simp [hi]) fun h' hit' hs' => ?_
  exact hQ _ h' s.toks (by simp [hi]) ⟨hit', st.2.1.extBut hs'.extBut hne, st.2.2.keep fun a o e q => hs'.extBut a o (fun z => hI (by rw [← z]; exact e)) q⟩ fun b o hb e => hs'.extBut b o (fun h => hb (by simp [h])) e
 done := fun s Q E st hQ => list_endQ st.2.2 hI st.1 st.2.1 (by simp) fun h' he' => hQ h' s.toks fun b o hb e => he' b o (fun h => hb (by simp [h])) e
 self := fun _ _ _ _ st hQ => wpAny_pyIter_listiter st.1 hQ
end
section
variable {X : Cx}
theorem call_anyQ : CallR X (.builtin "any") (fun xs H Q => ∃ (p : Addr) (bs : List Bool), xs = [.ref p] ∧ SqL X.K H p (bs.map V.bl) ∧ Q (.bl (bs.any id)) H) := by
 intro pins s σ H xs us Q I r ⟨p, bs, e, hS, q⟩
 subst e
 obtain ⟨u, rfl, ru⟩ := vals1 r
 cases ru
 obtain ⟨its, rv, pl, hz⟩ := I.list hS
 have hlen : its.length = bs.length := by rw [← rv.length, List.length_map]
 have hl := pl.isList
 have hlt : p < s.heap.objs.size := by obtain ⟨_, e, _⟩ := hl; exact Heap.lt_size e
 have hq : QuietAt X.A.in1 s.heap := quiet_heap I.qt0 I.hok
 refine call_any_walk (wpAny_pyIter_list hl ?_)
 refine ⟨s.heap.objs.size, _, [s.heap.objs.size], its.toArray.size, _, _, fun i => (bs[i]?).getD true, rfl, walks_listQ (A := X.A.in1) _ p (Nat.ne_of_lt hlt) (fun z => ?_) its.toArray,
  ⟨⟨_, Heap.get?_push_size _ rfl, rfl, rfl⟩, hl.push _, hq.keep fun a o _ e => Heap.get?_push_of_some _ e⟩, fun i v s' Q' E' hP hQ => ?_, fun h' tk hk => ?_⟩
 ·obtain ⟨a, o, vs, h1, h2, _⟩ := hq _ z
  have h1 : s.heap.objs.size = a := Value.ref.inj h1
  have := Heap.lt_size h2
  rw [← h1] at this
  exact Nat.lt_irrefl _ this
 ·obtain ⟨b, e, rfl⟩ := bools_get rv (by simpa using hP)
  simp only [e, Option.getD_some] at hQ
  exact wpAny_truthy_bool hQ
 ·have e : ((List.range its.toArray.size).any fun i => (bs[i]?).getD true) = bs.any id := by
   rw [List.size_toArray, hlen]; exact range_anyB bs
  rw [e]
  refine ⟨.bl (bs.any id), H, I.kept (h' := h') (t' := tk) (fun b x e => ?_), rfl, q⟩
  exact hk b x (fun hm => by rw [List.mem_singleton.mp hm] at e; exact Nat.lt_irrefl _ (Heap.lt_size e)) (Heap.get?_push_of_some _ e)
theorem c_anyQ : DCall X (.builtin "any") kAny := ⟨_, call_anyQ, by
 intro H μ h vs ws Qw Q R r m k
 unfold kAny at m
 split at m
 ·split at m
  ·split at m
   ·rename_i w _ us ev _ bs eb
    obtain ⟨v, e, rv⟩ := reps1 r
    obtain ⟨p, ys, ex, hs, rs⟩ := viewL_ok R rv ev
    subst e ex
    exact ⟨p, bs, rfl, by rw [← blsW_ok rs eb]; exact hs, k _ _ (.bl R m)⟩
   ·exact m.elim
  ·exact m.elim
 ·exact m.elim⟩
end
end L2
namespace L2
open PySem PySem.Spec PyProof.Rows
section
variable {X : Cx} {K : PySem.W.Frag} {o e : Expr} {mo : ME} {ma : MA} {apos cpos : Pos}
variable {H : Hp} {pins : List (Addr × Obj)} {s : Shared} {σ : St}
mutual
theorem Dt_uniq (I : Inv X pins σ H s) : ∀ {w u : W} {v : V}, Dt X.K H w v → Dt X.K H u v → w = u
 | .non, u, v, h, g => by rw [Dt] at h; subst h; cases u <;> rw [Dt] at g <;> first | rfl | exact g.elim | (obtain ⟨_, _, g, _⟩ := g; cases g; done) | (cases g; done)
 | .bl b, u, v, h, g => by rw [Dt] at h; subst h; cases u <;> rw [Dt] at g <;> first | (injection g with g; rw [g]; done) | exact g.elim | (obtain ⟨_, _, g, _⟩ := g; cases g; done) | (cases g; done)
 | .int b, u, v, h, g => by rw [Dt] at h; subst h; cases u <;> rw [Dt] at g <;> first | (injection g with g; rw [g]; done) | exact g.elim | (obtain ⟨_, _, g, _⟩ := g; cases g; done) | (cases g; done)
 | .str b, u, v, h, g => by rw [Dt] at h; subst h; cases u <;> rw [Dt] at g <;> first | (injection g with g; rw [g]; done) | exact g.elim | (obtain ⟨_, _, g, _⟩ := g; cases g; done) | (cases g; done)
 | .tup ws, u, v, h, g => by
  rw [Dt] at h
  obtain ⟨p, xs, e, hs, ds⟩ := h
  subst e
  cases u with
  | tup us =>
   rw [Dt] at g
   obtain ⟨p', xs', e', hs', ds'⟩ := g
   cases e'
   have := I.tuple_inj hs hs'
   subst this
   rw [Dts_uniq I ds ds']
  | lst us =>
   rw [Dt] at g
   obtain ⟨p', xs', e', hs', ds'⟩ := g
   cases e'
   obtain ⟨_, _, t, _⟩ := I.tuple hs
   obtain ⟨_, _, l, _⟩ := I.list hs'
   exact absurd rfl (SeqAt.ne_of_list_tuple l.isList (show s.heap.IsTuple _ _ from t))
  | ty _ => rw [Dt] at g; exact g.elim
  | loc _ => rw [Dt] at g; exact g.elim
  | kls _ => rw [Dt] at g; exact g.elim
  | exc _ => rw [Dt] at g; exact g.elim
  | exa _ _ => rw [Dt] at g; exact g.elim
  | _ => rw [Dt] at g; cases g
 | .lst ws, u, v, h, g => by
  rw [Dt] at h
  obtain ⟨p, xs, e, hs, ds⟩ := h
  subst e
  cases u with
  | lst us =>
   rw [Dt] at g
   obtain ⟨p', xs', e', hs', ds'⟩ := g
   cases e'
   have := I.list_inj hs hs'
   subst this
   rw [Dts_uniq I ds ds']
  | tup us =>
   rw [Dt] at g
   obtain ⟨p', xs', e', hs', ds'⟩ := g
   cases e'
   obtain ⟨_, _, t, _⟩ := I.tuple hs'
   obtain ⟨_, _, l, _⟩ := I.list hs
   exact absurd rfl (SeqAt.ne_of_list_tuple l.isList (show s.heap.IsTuple _ _ from t))
  | ty _ => rw [Dt] at g; exact g.elim
  | loc _ => rw [Dt] at g; exact g.elim
  | kls _ => rw [Dt] at g; exact g.elim
  | exc _ => rw [Dt] at g; exact g.elim
  | exa _ _ => rw [Dt] at g; exact g.elim
  | _ => rw [Dt] at g; cases g
 | .ty _, _, _, h, _ => by rw [Dt] at h; exact h.elim
 | .kls _, _, _, h, _ => by rw [Dt] at h; exact h.elim
 | .loc _, _, _, h, _ => by rw [Dt] at h; exact h.elim
 | .exc _, _, _, h, _ => by rw [Dt] at h; exact h.elim
 | .exa _ _, _, _, h, _ => by rw [Dt] at h; exact h.elim
theorem Dts_uniq (I : Inv X pins σ H s) : ∀ {ws us : List W} {vs : List V}, Dts X.K H ws vs → Dts X.K H us vs → ws = us
 | [], us, vs, h, g => by
  have e : vs = [] := by rw [Dts] at h; exact h
  subst e
  cases us with
  | nil => rfl
  | cons u us => rw [Dts] at g; obtain ⟨_, _, e, _⟩ := g; cases e
 | w :: ws, us, vs, h, g => by
  rw [Dts] at h
  obtain ⟨v, vs', e, d, ds⟩ := h
  subst e
  cases us with
  | nil =>
   have e : v :: vs' = [] := by rw [Dts] at g; exact g
   cases e
  | cons u us =>
   rw [Dts] at g
   obtain ⟨v2, vs2, e2, d2, ds2⟩ := g
   cases e2
   rw [Dt_uniq I d d2, Dts_uniq I ds ds2]
end
end
section
variable {X : Cx} {elt iter tg : Expr} {ifs : List Expr} {scope : Scope} {pos : Pos} {xs : List Str} {mi : MI} {tt : MT} {te : ME}
end
end L2
namespace L2
open PySem PySem.Spec PyProof.Rows
section
variable {X : Cx} {Γ : St → Prop} {e : Expr} {es : List Expr} {pos : Pos}
variable {mr : XWK → MA}
end
end L2
namespace L2
open PySem PySem.Spec PyProof.Rows
section
variable {X : Cx} {K : PySem.W.Frag} {H : Hp} {pins : List (Addr × Obj)} {s : Shared} {σ : St}
end
end L2
namespace L2
open PySem PySem.Spec PyProof.Rows
section
variable {X : Cx} {K : PySem.W.Frag} {H : Hp} {μ : Mu} {h : Gh}
end
end L2
namespace L2
open PySem PySem.Spec PyProof.Rows
section
variable {X : Cx} {K : PySem.W.Frag} {o e e' : Expr} {mo : ME} {ma : MA} {apos cpos : Pos}
theorem few_2 {cpos : Pos} {e e' : Expr} {env : Env} (h : isStar e = false) (h' : isStar e' = false) : ((backTo cpos (starEach [e, e'] env)).all (fun x => !x.1) && (backToKw cpos (keywordEach [] env)).all (fun x => x.1.isSome)
   && decide (([e, e'] : List Expr).length + ([] : List Keyword).length + (if ([] : List Keyword).isEmpty then 0 else 1) < 30)) = true := by
 rw [star_of h, star_of h']
 rfl
end
end L2
namespace L2
open PySem PySem.Spec PyProof.Rows
def plL (m : Nat) : List Nat := (List.range 8).filter fun j => m.testBit j
def rk (m j : Nat) : Nat := ((List.range j).filter fun i => m.testBit i).length
def pq (h : Int) : Nat → Nat × Nat
 | 0 => (SetTable.bits h % 8, SetTable.bits h)
 | n + 1 => SetTable.leap 7 (pq h n).1 (pq h n).2
def pb (h : Int) (n : Nat) : SetTable.Probe := ⟨(pq h n).1, 0, (pq h n).1, (pq h n).2, none⟩
theorem pq_lt (h : Int) : ∀ n, (pq h n).1 < 8
 | 0 => Nat.mod_lt _ (by decide)
 | n + 1 => Nat.mod_lt _ (by decide)
theorem pq_pert (h : Int) : ∀ n, (pq h n).2 = SetTable.bits h / 32 ^ n
 | 0 => by simp [pq]
 | n + 1 => by
  show (pq h n).2 / 32 = _
  rw [pq_pert h n, Nat.div_div_eq_div_mul, Nat.pow_succ]
theorem pq_zero (h : Int) (n : Nat) (hn : 13 ≤ n) : (pq h n).2 = 0 := by
 rw [pq_pert]
 apply Nat.div_eq_of_lt
 have h1 : SetTable.bits h < 2 ^ 64 := by
  unfold SetTable.bits
  have a := Int.emod_lt_of_pos h (show (0 : Int) < 2 ^ 64 by decide)
  have b := Int.emod_nonneg h (show (2 ^ 64 : Int) ≠ 0 by decide)
  omega
 have h2 : 32 ^ 13 ≤ 32 ^ n := Nat.pow_le_pow_right (by decide) hn
 have h3 : (2 : Nat) ^ 64 < 32 ^ 13 := by decide
 omega
def lcg : Nat → Nat → Nat
 | i, 0 => i
 | i, k + 1 => (lcg i k * 5 + 1) % 8
theorem pq_lcg (h : Int) : ∀ k, (pq h (13 + k)).1 = lcg (pq h 13).1 k
 | 0 => rfl
 | k + 1 => by
  show ((pq h (13 + k)).1 * 5 + 1 + (pq h (13 + k)).2 / 32) % (7 + 1) = _
  rw [pq_zero h _ (by omega), pq_lcg h k]
  rfl
theorem lcg_all : ∀ i : Fin 8, ∀ j : Fin 8, ∃ k : Fin 8, lcg i k = j.val := by decide +kernel
theorem pq_all (h : Int) {j : Nat} (hj : j < 8) : ∃ n, n < 21 ∧ (pq h n).1 = j := by
 obtain ⟨k, e⟩ := lcg_all ⟨(pq h 13).1, pq_lt h 13⟩ ⟨j, hj⟩
 exact ⟨13 + k.val, by omega, by rw [pq_lcg]; exact e⟩
theorem least {P : Nat → Bool} : ∀ (B : Nat), (∃ n, n < B ∧ P n = true) → ∃ N, N < B ∧ P N = true ∧ ∀ n, n < N → P n = false
 | 0, ⟨n, h, _⟩ => absurd h (Nat.not_lt_zero _)
 | B + 1, ⟨n, h, e⟩ => by
  by_cases q : ∃ n, n < B ∧ P n = true
  ·obtain ⟨N, a, b, c⟩ := least B q
   exact ⟨N, by omega, b, c⟩
  ·refine ⟨n, h, e, fun i hi => ?_⟩
   cases r : P i with
   | false => rfl
   | true => exact absurd ⟨i, by omega, r⟩ q
theorem road {m : Nat} (h : Int) (hf : ∃ j, j < 8 ∧ m.testBit j = false) : ∃ N, N < 21 ∧ m.testBit (pq h N).1 = false ∧ ∀ n, n < N → m.testBit (pq h n).1 = true := by
 obtain ⟨j, hj, e⟩ := hf
 obtain ⟨n, hn, en⟩ := pq_all h hj
 obtain ⟨N, a, b, c⟩ := least (P := fun n => !m.testBit (pq h n).1) 21 ⟨n, hn, by simp [en, e]⟩
 exact ⟨N, a, by simpa using b, fun n hn => by simpa using c n hn⟩
end L2
namespace L2
open PySem PySem.Spec PyProof.Rows
section
variable {prog : Program} {w : World} {A : Around} {E : Value → Shared → Prop} {s : Shared} {m : Nat} {ka : Nat → List Int} {ad : Nat → Addr} {t : SetTable} {a b : Addr} {k : List Int}
abbrev TK (prog : Program) (w : World) (h : Heap) (k : List Int) (a : Addr) : Prop := IsTupleKey (intKind prog w) h k a
def hT (prog : Program) (w : World) (k : List Int) : Int := tupleKeyHash (intKind prog w) k
def elL (prog : Program) (w : World) (m : Nat) (ka : Nat → List Int) (ad : Nat → Addr) : List (Int × Value) := (plL m).map fun j => (hT prog w (ka j), Value.ref (ad j))
structure TTab (prog : Program) (w : World) (h : Heap) (m : Nat) (ka : Nat → List Int) (ad : Nat → Addr) (t : SetTable) : Prop where
 mask : t.mask = 7
 place : t.place = (plL m).toArray
 dum : t.dummies = #[]
 m8 : m < 256
 few : (plL m).length ≤ 4
 key : ∀ j, j ∈ plL m → TK prog w h (ka j) (ad j)
 way : ∀ j, j ∈ plL m → ∃ n, (pq (hT prog w (ka j)) n).1 = j ∧ ∀ i, i < n → m.testBit (pq (hT prog w (ka j)) i).1 = true
def setO (es : Array (Int × Value)) (ep : Nat) (t : SetTable) : Obj := { cls := .type "set", dict := none, data := .set es ep t }
def TupSet (prog : Program) (w : World) (h : Heap) (a : Addr) (m : Nat) (ka : Nat → List Int) (ad : Nat → Addr) : Prop := ∃ ep t, h.get? a = some (setO (elL prog w m ka ad).toArray ep t) ∧ TTab prog w h m ka ad t
end
end L2
namespace L2
open PySem PySem.Spec PyProof.Rows
section
variable {prog : Program} {w : World} {A : Around} {E : Value → Shared → Prop} {R : Result → Shared → Prop}
structure Bears (prog : Program) (w : World) (z : Nat) (h : Heap) (S : Addr) (seen : List (List Int)) (m : Nat) (ka : Nat → List Int) (ad : Nat → Addr) : Prop where
 set : TupSet prog w h S m ka ad
 low : ∀ j, j ∈ plL m → ad j < z
 mem : ∀ k, k ∈ seen ↔ ∃ j, j ∈ plL m ∧ ka j = k
 len : (plL m).length = seen.length
end
end L2
namespace L2
open PySem PySem.Spec PyProof.Rows
section
variable {prog : Program} {w : World} {A : Around} {E : Value → Shared → Prop} {s : Shared}
end
end L2
namespace L2
open PySem PySem.Spec PyProof.Rows
section
variable {X : Cx} {K : PySem.W.Frag}
theorem items_of {prog : Program} {w : World} : ∀ {k : List Int} {us : List Value}, Vals (k.map V.int) us → ItemsAre (intKind prog w) k us
 | [], _, .nil => .nil
 | i :: k, _, .cons r t => by
  obtain ⟨tk, rfl⟩ := r
  exact .cons (intKind_is _ _ _ _) (items_of t)
end
end L2
namespace L2
open PySem PySem.Spec PyProof.Rows
section
variable {X : Cx} {K : PySem.W.Frag}
end
end L2
namespace L2
open PySem PySem.Spec PyProof.Rows
section
variable {κ : Type} [DecidableEq κ]
end


section
variable {P : Program} {w : World} {H : Hp} {h : Heap} {a : Addr}
end

section
variable {X : Cx} {pins : List (Addr × Obj)} {σ : St} {H : Hp} {s : Shared} {a : Addr} {y v : V} {u r : Value} {o : Option V} {A : Around} {E : Value → Shared → Prop}

theorem Inv.big (I : Inv X pins σ H s) : sysModules < s.heap.objs.size := by
 have h : mainGlobals < s.heap.objs.size := (I.mod.glob.keeps I.bk).lt
 exact Nat.lt_trans (by decide) h

theorem d_write {h' : Heap} {t' : Nat} {ob : HO} (I : Inv X pins σ H s) (mu : Mut (H a)) (hs : Heap.SameBut a s.heap h') (he : ∃ q, h'.get? a = some q) (new : ObjOk X.prog X.w (upd H a ob) h' a ob) :
  Inv X pins σ (upd H a ob) { s with heap := h', toks := t' } :=
 I.write (x := a) (e := a) mu (.inl rfl) (fun b q hb z => (hs.2 b hb).trans z) he new
end

section
variable {X : Cx} {pins : List (Addr × Obj)} {σ : St} {H : Hp} {s : Shared} {a : Addr} {kvs : List (Key × V)} {k : Key} {u : Value} {A : Around} {E : Value → Shared → Prop}
end


def NoSl (i : Expr) : Prop := ∀ ov iv, subscripted i false ov iv = operate [ov, iv] (getItem ov iv)
theorem subD_of {prog : Program} {w : World} {A : Around} {E : Value → Shared → Prop} {s : Shared} {env : Env} {value slice : Expr} {pos : Pos} {T id : String} {Q : Value → Shared → Prop}
  (hl : typeLookup (.type T) "__getitem__" = pure (some (.builtin id))) (hs : NoSl slice)
  (h : wpAny (model prog w) A (eval value env) (fun o s₁ => wpAny (model prog w) A (eval slice env) (fun i s₂ => s₂.TypeIs o T ∧ wpAny (model prog w) A (getItem o i) Q E s₂) E s₁) E s) :
  wpAny (model prog w) A (eval (.Subscript value slice pos) env) Q E s := by
 refine Subscript_ (wpAny_mono h (fun o s₁ h₁ => wpAny_mono h₁ (fun i s₂ h₂ => ?_) fun _ _ x => x) fun _ _ x => x)
 obtain ⟨hT, h₂⟩ := h₂
 unfold subscriptTail
 refine wpAny_bind ?_
 rw [getitemInPython_of_ne hT.not_modules]
 refine wpAny_bind (wpAny_specialOf hT hl ?_)
 have fin : wpAny (model prog w) A (subscripted slice false o i) (fun r s₃ => wpAny (model prog w) A (letTemporaryGo value o r >>= fun _ => pure r) Q E s₃) E s₂ := by
  rw [hs o i]
  exact wpAny_operating (wpAny_mono h₂ (fun r s₃ h₃ => wpAny_bind (wpAny_letTemporaryGo (wpAny_pure h₃))) fun _ _ x => x)
 first
  | exact wpAny_pure (wpAny_bind fin)
  | exact wpAny_bind (wpAny_pure (wpAny_bind fin))
  | exact wpAny_bind fin

section
variable {X : Cx} {o i e value : Expr} {pos pos' tpos : Pos} {td ty tv : TE}
end


theorem dt_empty {P : Program} {w : World} {H : Hp} (h : Heap) (hb : sysModules < h.objs.size) : ObjOk P w H (h.push { cls := .type "dict", data := .dict #[] }) h.objs.size (.dT []) :=
 ⟨Nat.zero_le _, beq_eq_false_iff_ne.mpr (Ne.symm (Nat.ne_of_lt hb)), [], .nil, _, #[], 0, Heap.get?_push_size _ rfl, ⟨rfl, rfl, rfl⟩, rfl, rfl, List.nodup_nil⟩
section
variable {X : Cx} {pos : Pos}
end

end L2
namespace L2
open PySem PySem.Spec PyProof.Rows
section
variable {K : PySem.W.Frag} {H : Hp} {μ : Mu} {kvs : List (Key × W)} {kvv : List (Key × V)} {k : Key} {w : W} {v : V}
end
section
variable {X : Cx} {a b : Expr} {ma mb : ME} {pos : Pos}
inductive DDs (X : Cx) : List (Option Expr) → List Expr → List (Key × ME) → Prop
 | nil : DDs X [] [] []
 | cons {x : Str} {j pos} {v : Expr} {m : ME} {ks : List (Option Expr)} {vs : List Expr} {r : List (Key × ME)} (h : DE X v m) (t : DDs X ks vs r) : DDs X (some (.Constant (.str x) j pos) :: ks) (v :: vs) ((.inr x, m) :: r)
end
inductive TabE (w : World) (K : PySem.W.Frag) : List DictEntry → List (Key × W) → Prop
 | nil : TabE w K [] []
 | cons {x : Str} {t} {v : V} {u : Value} {d : W} {es : List DictEntry} {tbl : List (Key × W)} (r : RelV v u) (q : ∀ H μ, Rep K H μ d v) (h : TabE w K es tbl) : TabE w K (⟨PyData.keyHash w.params x, .str x t, u⟩ :: es) ((.inr x, d) :: tbl)
section
variable {X : Cx} {b : Expr} {mb : ME} {pos p : Pos} {x : Str} {a : Addr} {tbl : List (Key × W)}
end
end L2
namespace L2
open PySem PySem.Spec PyProof.Rows
section
variable {X : Cx} {pos p p' : Pos} {x : Str} {a : Addr} {tbl : List (Key × W)}
end
end L2
namespace L2
open PySem PySem.Spec PyProof.Rows
section
variable {X : Cx}
end
end L2
namespace L2
open PySem PySem.Spec PyProof.Rows
section
variable {X : Cx} {K : PySem.W.Frag} {H : Hp} {μ : Mu} {h : Gh}
end
end L2
namespace L2
open PySem PySem.Spec PyProof.Rows
section
variable {X : Cx} {a b c : Expr} {ma mb mc : ME} {pos : Pos}
end
end L2
namespace L2
open PySem PySem.Spec PyProof.Rows
section
variable {K : PySem.W.Frag} {H : Hp} {μ : Mu} {fs : List (Str × W)} {fvs : List (Str × V)} {f : Str} {w : W} {v : V}
end
section
variable {X : Cx} {e o value : Expr} {es : List Expr} {ma mo mv : ME} {mr : MA} {f : Str} {C : Addr} {pos pos' apos : Pos}
end
end L2
namespace L2
open PySem PySem.Spec PyProof.Rows
section
variable {prog : Program} {w : World} {A : Around} {E : Value → Shared → Prop} {s : Shared}
end
section
variable {X : Cx}
end
section
variable {X : Cx} {e : Expr} {me : ME} {x : Str} {a : Addr} {tbl : List (Key × W)} {p pos : Pos}
end
end L2
namespace L2
open PySem PySem.Spec PyProof.Rows
section
variable {X : Cx} {Γ : St → Prop} {C : Addr} {o e : Expr} {es : List Expr} {mo : ME} {mr : MA} {pos apos : Pos}
end
end L2
namespace L2
open PySem PySem.Spec PyProof.Rows
def valT (kvs : List (List Int × W)) (k : List Int) : Option W := (kvs.find? fun x => decide (x.1 = k)).map (·.2)
def putT (kvs : List (List Int × W)) (k : List Int) (w : W) : List (List Int × W) := if (valT kvs k).isSome then kvs.map (fun x => if x.1 = k then (x.1, w) else x) else kvs ++ [(k, w)]
section
variable {X : Cx} {pins : List (Addr × Obj)} {σ : St} {H : Hp} {s : Shared} {K : PySem.W.Frag} {μ : Mu}
def KeysT (K : PySem.W.Frag) (H : Hp) (xs : List (List Int × Addr × Value)) : Prop := ∀ x ∈ xs, SqT K H x.2.1 (x.1.map V.int)
theorem key_sq {b : Addr} {k : List Int} (I : Inv X pins σ H s) (hb : SqT X.K H b (k.map V.int)) : (tupleKind (intKind X.prog X.w)).is s.heap k b := by
 obtain ⟨its2, r2, ⟨o, ho, hcl, n, hd⟩, _⟩ := I.tuple hb
 exact ⟨o, _, _, ho, hcl, hd, items_of r2⟩
theorem dicT_of {a : Addr} {xs : List (List Int × Addr × Value)} (I : Inv X pins σ H s) (e : H a = some (.ext (DicT a xs))) (hk : KeysT X.K H xs) : xs.length ≤ sizeLine ∧ (a == sysModules) = false ∧ s.heap.DictOfH (tupleKind (intKind X.prog X.w)) a xs := by
 obtain ⟨⟨z, y, nd, o, es, ep, h1, h2, h3, h4⟩, _⟩ := I.hok a _ e
 exact ⟨z, y, o, es, ep, h1, h2, h3, h4, fun x hx => key_sq I (hk x hx), nd⟩
theorem dicT_ok {P : Program} {w : World} {H' : Hp} {a : Addr} {xs : List (List Int × Addr × Value)} {h : Heap} (z : xs.length ≤ sizeLine) (y : (a == sysModules) = false) (d : h.DictOfH (tupleKind (intKind P w)) a xs) : ObjOk P w H' h a (.ext (DicT a xs)) := by
 obtain ⟨o, es, ep, h1, h2, h3, h4, _, h5⟩ := d
 exact ⟨⟨z, y, h5, o, es, ep, h1, h2, h3, h4⟩, ⟨o, h1⟩, fun g1 g2 ⟨z, y, nd, o, es, ep, a1, a2, a3, a4⟩ k => ⟨z, y, nd, o, es, ep, k o a1, a2, a3, a4⟩⟩
theorem at_cons {x : List Int × Addr × Value} {xs : List (List Int × Addr × Value)} {k : List Int} : atKey (x :: xs) k = if x.1 = k then some x.2 else atKey xs k := by
 unfold atKey
 rw [List.find?_cons]
 by_cases e : x.1 = k
 ·rw [if_pos e]; simp [e]
 ·rw [if_neg e]; simp [e]
theorem val_cons {x : List Int × W} {kvs : List (List Int × W)} {k : List Int} : valT (x :: kvs) k = if x.1 = k then some x.2 else valT kvs k := by
 unfold valT
 rw [List.find?_cons]
 by_cases e : x.1 = k
 ·rw [if_pos e]; simp [e]
 ·rw [if_neg e]; simp [e]
theorem dtt_val : ∀ {kvs : List (List Int × W)} {xs : List (List Int × Addr × Value)} {vs : List V}, kvs.map (·.1) = xs.map (·.1) → Vals vs (xs.map (·.2.2)) → Reps K H μ (kvs.map (·.2)) vs → ∀ k : List Int,
  (∀ w, valT kvs k = some w → ∃ p v, atKey xs k = some p ∧ RelV v p.2 ∧ Rep K H μ w v) ∧ (valT kvs k).isSome = (atKey xs k).isSome
 | [], [], _, _, _, _, k => ⟨fun w e => by simp [valT] at e, rfl⟩
 | [], _ :: _, _, e, _, _, _ => by simp at e
 | _ :: _, [], _, e, _, _, _ => by simp at e
 | x :: kvs, y :: xs, vs, e, hv, hr, k => by
  rw [List.map_cons, List.map_cons] at e
  obtain ⟨e1, e2⟩ := List.cons.inj e
  rw [List.map_cons, Reps] at hr
  obtain ⟨v, vs', rfl, r1, r2⟩ := hr
  rw [List.map_cons] at hv
  cases hv with
  | cons a b =>
   obtain ⟨i1, i2⟩ := dtt_val e2 b r2 k
   rw [val_cons, at_cons, e1]
   by_cases z : y.1 = k
   ·rw [if_pos z, if_pos z]
    exact ⟨fun w ew => by cases ew; exact ⟨_, v, rfl, a, r1⟩, rfl⟩
   ·rw [if_neg z, if_neg z]
    exact ⟨i1, i2⟩
theorem Rel.dttAt {h : Gh} {n : Nat} {kvs : List (List Int × W)} (R : Rel K μ H h) (e : h.c n = some (.dtt kvs)) : ∃ p xs vs, μ.f n = some p ∧ H p = some (.ext (DicT p xs)) ∧ kvs.map (·.1) = xs.map (·.1) ∧ Vals vs (xs.map (·.2.2)) ∧ Reps K H μ (kvs.map fun x => W.tup (x.1.map W.int)) (xs.map fun x => V.ref x.2.1) ∧ Reps K H μ (kvs.map (·.2)) vs := by
 obtain ⟨p, e1, xs, vs, a, b, c, d, f⟩ := R.cel n _ e
 exact ⟨p, xs, vs, e1, a, b, c, d, f⟩
theorem reps_int : ∀ {k : List Int} {vs : List V}, Reps K H μ (k.map W.int) vs → vs = k.map V.int
 | [], _, h => by rw [List.map_nil, Reps] at h; exact h
 | i :: k, _, h => by
  rw [List.map_cons, Reps] at h
  obtain ⟨v, vs, rfl, r, t⟩ := h
  rw [Rep] at r
  rw [r, reps_int t]
  rfl
theorem rep_key {k : List Int} {b : Addr} (r : Rep K H μ (.tup (k.map .int)) (.ref b)) : SqT K H b (k.map V.int) := by
 rw [Rep] at r
 obtain ⟨p, xs, e, hs, hr⟩ := r
 cases e
 rw [reps_int hr] at hs
 exact hs
theorem keysT_of : ∀ {kvs : List (List Int × W)} {xs : List (List Int × Addr × Value)}, kvs.map (·.1) = xs.map (·.1) → Reps K H μ (kvs.map fun x => W.tup (x.1.map W.int)) (xs.map fun x => V.ref x.2.1) → KeysT K H xs
 | [], [], _, _ => fun x hx => nomatch hx
 | [], _ :: _, e, _ => by simp at e
 | _ :: _, [], e, _ => by simp at e
 | x :: kvs, y :: xs, e, hr => by
  rw [List.map_cons, List.map_cons] at e
  obtain ⟨e1, e2⟩ := List.cons.inj e
  rw [List.map_cons, List.map_cons, Reps] at hr
  obtain ⟨v, vs', ev, r1, r2⟩ := hr
  obtain ⟨rfl, rfl⟩ := List.cons.inj ev
  intro z hz
  rcases List.mem_cons.mp hz with rfl | hz
  ·rw [e1] at r1
   exact rep_key r1
  ·exact keysT_of e2 r2 z hz
end
section
variable {X : Cx} {a b o i : Expr} {ma mb : ME} {td ty : TE} {pos : Pos}
def tKey : W → Option (List Int)
 | .tup ws => intsW ws
 | _ => none
def kTIx : M2 := fun x y h Q => match x, tKey y with
 | .loc n, some k => (match h.c n with
  | some (.dtt kvs) => (match valT kvs k with
   | some w => Q w h
   | none => False)
  | _ => False)
 | _, _ => False
theorem pe_dgetT (hu : X.A.units + 30 < cLine) (ho : PE X o td) (hi : PE X i ty) (hs : NoSl i) : PE X (.Subscript o i pos) (fun σ H Q => td σ H fun x H1 => ty σ H1 fun y H2 => ∃ a xs k b p v, x = .ref a ∧ H2 a = some (.ext (DicT a xs)) ∧ KeysT X.K H2 xs ∧ y = .ref b ∧ SqT X.K H2 b (k.map V.int) ∧ atKey xs k = some p ∧ RelV v p.2 ∧ Q v H2) := by
 intro pins s σ H Q I h
 refine subD_of PySem.F.slot_dict_getitem.lookup hs (thn (ho pins s σ H _ I h) fun u s1 ⟨x, H1, I1, rx, q1⟩ => thn (hi pins s1 σ H1 _ I1 q1) fun iv s2 ⟨y, H2, I2, ry, a, xs, k, b, p, v, ex, e, hk, ey, hb, l, rv, q2⟩ => ?_)
 subst ex ey
 obtain rfl : u = Value.ref a := rx
 obtain rfl : iv = Value.ref b := ry
 obtain ⟨z, hd, dd⟩ := dicT_of I2 e hk
 exact ⟨dd.typeIs, wpAny_getItem_heap (tupleKind_room_in1 (by omega)) (key_sq I2 hb) dd l ⟨v, H2, I2.tok _, rv, q2⟩⟩
theorem tKey_rep {K : PySem.W.Frag} {H : Hp} {μ : Mu} {y : W} {v : V} {k : List Int} (r : Rep K H μ y v) (e : tKey y = some k) : ∃ b, v = .ref b ∧ SqT K H b (k.map V.int) := by
 unfold tKey at e
 split at e
 ·rw [Rep] at r
  obtain ⟨p, xs, e1, hs, hr⟩ := r
  rw [intsW_ok hr e] at hs
  exact ⟨p, e1, hs⟩
 ·cases e
theorem d_tix (hu : X.A.units + 30 < cLine) (ha : DE X a ma) (hb : DE X b mb) (hs : NoSl b) : DE X (.Subscript a b pos) (mOp kTIx ma mb) := (pe_dgetT hu ha hb hs).of fun σ H Q h => two h fun {H2 μ2 h2 x y wx wy Qw} R r1 r2 m k => by
 unfold kTIx at m
 split at m
 ·rename_i n kk e
  split at m
  ·rename_i kvs ec
   split at m
   ·rename_i w ev
    obtain ⟨p, xs, vs, hp, hx, e1, e2, r3, r4⟩ := R.dttAt ec
    rw [Rep] at r1
    obtain ⟨p', ex, hp'⟩ := r1
    have ep : p' = p := by rw [hp] at hp'; exact (Option.some.inj hp').symm
    subst ep
    obtain ⟨b', eb, hb'⟩ := tKey_rep r2 e
    obtain ⟨q, v, h3, h4, h5⟩ := (dtt_val e1 e2 r4 kk).1 w ev
    exact ⟨p', xs, kk, b', q, v, ex, hx, keysT_of e1 r3, eb, hb', h3, h4, k _ _ ⟨μ2, w, h2, .refl, R, h5, m⟩⟩
   ·exact m.elim
  ·exact m.elim
 ·exact m.elim
theorem putAt_fst {k : List Int} {v : Value} : ∀ {xs : List (List Int × Addr × Value)}, (xs.map (putAt k v)).map (·.1) = xs.map (·.1)
 | [] => rfl
 | x :: xs => by
  rw [List.map_cons, List.map_cons, List.map_cons, putAt_fst]
  congr 1
  unfold putAt
  by_cases e : x.1 = k
  ·rw [if_pos e]
  ·rw [if_neg e]
theorem putAt_adr {k : List Int} {v : Value} : ∀ {xs : List (List Int × Addr × Value)}, (xs.map (putAt k v)).map (fun x => V.ref x.2.1) = xs.map (fun x => V.ref x.2.1)
 | [] => rfl
 | x :: xs => by
  rw [List.map_cons, List.map_cons, List.map_cons, putAt_adr]
  congr 1
  unfold putAt
  by_cases e : x.1 = k
  ·rw [if_pos e]
  ·rw [if_neg e]
def rSetT (K : PySem.W.Frag) : TSet := fun o i v H N => ∃ a xs k b, o = .ref a ∧ H a = some (.ext (DicT a xs)) ∧ KeysT K H xs ∧ i = .ref b ∧ SqT K H b (k.map V.int) ∧ xs.length < sizeLine ∧ ∀ u, RelV v u → N (upd H a (.ext (DicT a (storedH xs k b u))))
theorem stored_len {xs : List (List Int × Addr × Value)} {k : List Int} {b : Addr} {u : Value} : (storedH xs k b u).length ≤ xs.length + 1 := by
 unfold storedH
 split
 ·rw [List.length_map]; omega
 ·rw [List.length_append]; exact Nat.le_refl _
theorem set_dictT (hu : X.A.units + 30 < cLine) : PSet X (rSetT X.K) := by
 intro pins s σ H o i v ov iv u Q I ro ri rv ⟨a, xs, k, b, eo, e, hk, ei, hb, l, q⟩
 subst eo ei
 obtain rfl : ov = Value.ref a := ro
 obtain rfl : iv = Value.ref b := ri
 obtain ⟨z, hd, dd⟩ := dicT_of I e hk
 refine wpAny_setItem_heap (hsz := z) (tupleKind_room_in1 (by omega)) (key_sq I hb) dd fun h' dd' hs => ⟨_, ?_, q u rv⟩
 have he : ∃ q, h'.get? a = some q := let ⟨q, _, _, hq, _⟩ := dd'; ⟨q, hq⟩
 exact d_write I (by rw [e]; exact True.intro) hs he (dicT_ok (by have := stored_len (xs := xs) (k := k) (b := b) (u := u); omega) hd dd')
def mNewT : ME := fun _ h Q => Q (.loc h.nx) (h.new (.dtt []))
theorem pe_dnewT2 : PE X (.Dict [] [] pos) (fun _ H Q => ∀ p, H p = none → Q (.ref p) (upd H p (.ext (DicT p [])))) := fun pins s σ H Q I h =>
 wpAny_Dict_empty ⟨.ref s.heap.objs.size, _, I.laid (a := s.heap.objs.size) (o := .ext (DicT s.heap.objs.size [])) (t' := s.toks) (fun _ _ q => Heap.get?_push_of_some _ q) (Nat.le_refl _) (by
  obtain ⟨_, y, _⟩ := dt_empty (P := X.prog) (w := X.w) (H := H) s.heap I.big
  exact dicT_ok (P := X.prog) (w := X.w) (Nat.zero_le _) y ⟨_, #[], 0, Heap.get?_push_size _ rfl, ⟨rfl, rfl, rfl⟩, rfl, rfl, (fun x hx => absurd hx List.not_mem_nil), List.nodup_nil⟩), rfl, h _ (I.hok.fresh (Nat.le_refl _))⟩
theorem d_newT : DE X (.Dict [] [] pos) mNewT := pe_dnewT2.of fun σ H Q ⟨μ, g, σw, Qw, R, S, m, q⟩ p hp => by
 have R1 : Rel X.K (μ.put g.nx p) (upd H p (.ext (DicT p []))) (g.new (.dtt [])) := R.newCell hp trivial ⟨[], [], upd_same, rfl, .nil, by rw [List.map_nil, List.map_nil, Reps], by rw [List.map_nil, Reps]⟩
 exact q _ _ ⟨_, .loc g.nx, _, (Ex.newCell R hp).ext, R1, by rw [Rep]; exact ⟨p, rfl, Mu.put_same⟩, m⟩
def sSetT : MSet := fun o i w h N => match o, tKey i with
 | .loc n, some k => (match h.c n with
  | some (.dtt kvs) => szOk (kvs.length + 1) (N (h.set n (.dtt (putT kvs k w))))
  | _ => False)
 | _, _ => False
theorem dtt_put {K : PySem.W.Frag} {H : Hp} {μ : Mu} {k : List Int} {w : W} {v : V} {u : Value} (rv : RelV v u) (r : Rep K H μ w v) : ∀ {kvs : List (List Int × W)} {xs : List (List Int × Addr × Value)} {vs : List V}, kvs.map (·.1) = xs.map (·.1) → Vals vs (xs.map (·.2.2)) → Reps K H μ (kvs.map (·.2)) vs →
  ∃ vs', Vals vs' ((xs.map (putAt k u)).map (·.2.2)) ∧ Reps K H μ ((kvs.map (fun x => if x.1 = k then (x.1, w) else x)).map (·.2)) vs'
 | [], [], _, _, _, _ => ⟨[], .nil, by rw [List.map_nil, List.map_nil, Reps]⟩
 | [], _ :: _, _, e, _, _ => by simp at e
 | _ :: _, [], _, e, _, _ => by simp at e
 | x :: kvs, y :: xs, vs, e, hv, hr => by
  rw [List.map_cons, List.map_cons] at e
  obtain ⟨e1, e2⟩ := List.cons.inj e
  rw [List.map_cons, Reps] at hr
  obtain ⟨v1, vs', rfl, r1, r2⟩ := hr
  rw [List.map_cons] at hv
  cases hv with
  | cons a b =>
   obtain ⟨vs2, i1, i2⟩ := dtt_put rv r e2 b r2
   by_cases z : y.1 = k
   ·refine ⟨v :: vs2, ?_, ?_⟩
    ·rw [List.map_cons, List.map_cons]
     refine .cons ?_ i1
     unfold putAt
     rw [if_pos z]
     exact rv
    ·rw [List.map_cons, List.map_cons, Reps]
     refine ⟨v, vs2, rfl, ?_, i2⟩
     rw [if_pos (e1.trans z)]
     exact r
   ·refine ⟨v1 :: vs2, ?_, ?_⟩
    ·rw [List.map_cons, List.map_cons]
     refine .cons ?_ i1
     unfold putAt
     rw [if_neg z]
     exact a
    ·rw [List.map_cons, List.map_cons, Reps]
     refine ⟨v1, vs2, rfl, ?_, i2⟩
     rw [if_neg (fun q => z (e1.symm.trans q))]
     exact r1
theorem put_fst {k : List Int} {w : W} : ∀ {kvs : List (List Int × W)}, (kvs.map (fun x => if x.1 = k then (x.1, w) else x)).map (·.1) = kvs.map (·.1)
 | [] => rfl
 | x :: kvs => by
  rw [List.map_cons, List.map_cons, List.map_cons, put_fst]
  congr 1
  by_cases e : x.1 = k
  ·rw [if_pos e]
  ·rw [if_neg e]
theorem put_key {k : List Int} {w : W} : ∀ {kvs : List (List Int × W)}, (kvs.map (fun x => if x.1 = k then (x.1, w) else x)).map (fun x => W.tup (x.1.map W.int)) = kvs.map (fun x => W.tup (x.1.map W.int))
 | [] => rfl
 | x :: kvs => by
  rw [List.map_cons, List.map_cons, List.map_cons, put_key]
  congr 1
  by_cases e : x.1 = k
  ·rw [if_pos e]
  ·rw [if_neg e]
theorem Reps.snoc {K : PySem.W.Frag} {H : Hp} {μ : Mu} {w : W} {v : V} (r : Rep K H μ w v) : ∀ {ws : List W} {vs : List V}, Reps K H μ ws vs → Reps K H μ (ws ++ [w]) (vs ++ [v])
 | [], _, h => by
  rw [Reps] at h
  rw [h, List.nil_append, List.nil_append, Reps]
  exact ⟨v, [], rfl, r, by rw [Reps]⟩
 | a :: ws, _, h => by
  rw [Reps] at h
  obtain ⟨b, bs, rfl, h1, h2⟩ := h
  rw [List.cons_append, List.cons_append, Reps]
  exact ⟨b, bs ++ [v], rfl, h1, Reps.snoc r h2⟩
theorem int_vals {K : PySem.W.Frag} {H : Hp} {μ : Mu} : ∀ k : List Int, Reps K H μ (k.map W.int) (k.map V.int)
 | [] => by rw [List.map_nil, List.map_nil, Reps]
 | i :: k => by
  rw [List.map_cons, List.map_cons, Reps]
  exact ⟨_, _, rfl, by rw [Rep], int_vals k⟩
theorem sim_setT {K : PySem.W.Frag} : SimSet K (rSetT K) sSetT := by
 intro H μ h o i v wo wi w Nw N R ro ri r m k
 unfold sSetT at m
 split at m
 ·rename_i n kk e
  split at m
  ·rename_i kvs ec
   obtain ⟨p, xs, vs, hp, hx, e1, e2, r3, r4⟩ := R.dttAt ec
   rw [Rep] at ro
   obtain ⟨p', ex, hp'⟩ := ro
   have ep : p' = p := by rw [hp] at hp'; exact (Option.some.inj hp').symm
   subst ep
   obtain ⟨b, eb, hb⟩ := tKey_rep ri e
   have hlen : kvs.length = xs.length := by have := congrArg List.length e1; rwa [List.length_map, List.length_map] at this
   have we := fun (o : HO) => (Ex.write (o := o) R hp).ext
   have rk : Rep K H μ (.tup (kk.map W.int)) (.ref b) := by rw [Rep]; exact ⟨b, _, rfl, hb, int_vals kk⟩
   refine ⟨p', xs, kk, b, ex, hx, keysT_of e1 r3, eb, hb, by have := m.ok.1; omega, fun u ru => k _ ⟨μ, _, we _, R.write (c := .dtt (putT kvs kk w)) hp trivial ?_, m.ok.2⟩⟩
   have hs := (dtt_val e1 e2 r4 kk).2
   cases ea : atKey xs kk with
   | some q =>
    rw [ea] at hs
    obtain ⟨vs', i1, i2⟩ := dtt_put (k := kk) ru r e1 e2 r4
    rw [storedH_old ea]
    unfold putT
    rw [if_pos (show (valT kvs kk).isSome = true from hs)]
    exact ⟨_, vs', upd_same, put_fst.trans (e1.trans putAt_fst.symm), i1, by rw [put_key, putAt_adr]; exact (we _).s r3, (we _).s i2⟩
   | none =>
    rw [ea] at hs
    rw [storedH_new ea]
    unfold putT
    rw [if_neg (show ¬ (valT kvs kk).isSome = true from by rw [hs]; decide)]
    refine ⟨_, vs ++ [v], upd_same, ?_, ?_, ?_, ?_⟩
    ·rw [List.map_append, List.map_append, e1]; rfl
    ·rw [List.map_append]; exact Vals.append e2 (.cons ru .nil)
    ·rw [List.map_append, List.map_append]; exact (we _).s (Reps.snoc rk r3)
    ·rw [List.map_append]; exact (we _).s (Reps.snoc r r4)
  ·exact m.elim
 ·exact m.elim
end
section
variable {prog : Program} {w : World} {A : Around} {E : Value → Shared → Prop} {s : Shared}
end
section
variable {X : Cx}
end
end L2
namespace L2
open PySem PySem.Spec PyProof.Rows
def ps (h : Int) : Nat → Nat × Nat
 | 0 => (SetTable.bits h % 32, SetTable.bits h)
 | n + 1 => SetTable.leap 31 (ps h n).1 (ps h n).2
def liv (o : Array (Option Nat)) : List (Nat × Nat) := (List.range 32).filterMap fun j => (o.getD j none).map (j, ·)
structure Lay (o : Array (Option Nat)) (k : Nat) : Prop where
 sz : o.size = 32
 len : (liv o).length = k
 low : ∀ p, p ∈ liv o → p.2 < k
section
variable {prog : Program} {w : World} {A : Around} {E : Value → Shared → Prop} {s : Shared} {a : Addr}
end
end L2
namespace L2
open PySem PySem.Spec PyProof.Rows
section
variable {prog : Program} {w : World} {A : Around} {E : Value → Shared → Prop} {s : Shared} {m : Nat} {ka : Nat → List Int} {ad : Nat → Addr} {t : SetTable} {a b : Addr} {k : List Int}
end
end L2
namespace L2
open PySem PySem.Spec PyProof.Rows
section
variable {prog : Program} {w : World} {A : Around} {E : Value → Shared → Prop} {R : Result → Shared → Prop}
end
end L2
namespace L2
open PySem PySem.Spec PyProof.Rows
section
variable {prog : Program} {w : World} {A : Around} {E : Value → Shared → Prop} {s : Shared}
end
end L2
namespace L2
open PySem PySem.Spec PyProof.Rows
section
variable {X : Cx} {K : PySem.W.Frag}
end
end L2
namespace L2
open PySem PySem.Spec PyProof.Rows
section
variable {X : Cx} {K : PySem.W.Frag} {o e : Expr} {mo : ME} {apos cpos : Pos}
end
end L2
namespace L2
open PySem PySem.Spec PyProof.Rows
section
variable {prog : Program} {w : World} {A : Around} {s : Shared} {K : PySem.W.Frag} {x C : Addr} {R : Result → Shared → Prop}
end
end L2
namespace L2
open PySem PySem.Spec PyProof.Rows
section
variable {prog : Program} {w : World} {A : Around} {E : Value → Shared → Prop} {s : Shared} {K : PySem.W.Frag} {x dx C f : Addr} {mA : Str → Option Value} {name : Str} {v : Value}
end
section
variable {prog : Program} {w : World} {A : Around} {E : Value → Shared → Prop} {s : Shared} {K : PySem.W.Frag} {x D : Addr} {ox : Obj}
end
end L2
namespace L2
open PySem PySem.Spec PyProof.Rows
section
variable {prog : Program} {w : World} {A : Around} {E : Value → Shared → Prop} {h : Heap} {g : Array GenState} {d : Drawn} {t : Nat} {os : OsState}
variable {nm q : Str} {C N : Addr} {bs bm bmB : List Value} {hdct : Bool} {sn : List Str} {sub : List Value} {ab : Bool} {col : Option Bool} {dd : Option Addr} {k0 k1 k2 k3 k5 : Option Value} {B newId initId : String} {K : PySem.W.Frag} {f : Addr}
end
end L2
namespace L2
open PySem PySem.Spec PyProof.Rows
section
variable {prog : Program} {w : World} {M : Model} {A : Around} {E : Value → Shared → Prop} {s : Shared} {env : Env} {K : PySem.W.Frag} {f : Addr}
variable {nm q : Str} {C N : Addr} {bs bm bmB : List Value} {hdct : Bool} {sn : List Str} {sub : List Value} {ab : Bool} {col : Option Bool} {dd : Option Addr} {k0 k1 k2 k3 k5 : Option Value} {B newId initId : String}
end
end L2
namespace L2
open PySem PySem.Spec PyProof.Rows
section
variable {X : Cx} {o value : Expr} {f : Str} {C : Addr} {pos pos' : Pos} {ta tv : TE}
end
section
variable {X : Cx} {pins : List (Addr × Obj)} {σ : St} {H : Hp} {s : Shared} {e : Addr}
end
end L2
namespace L2
open PySem PySem.Spec PyProof.Rows
section
variable {X : Cx} {pins : List (Addr × Obj)} {σ : St} {H : Hp} {s : Shared} {C fi : Addr} {x f : Str} {np cpos pos : Pos} {e : Expr} {t : TA} {k : Nat} {fd : FuncData} {ps : List Str}
end
section
variable {X : Cx} {Γ : St → Prop} {e : Expr} {pos : Pos} {ma : ME}
end
section
variable {X : Cx} {e : Expr} {f : Str} {pos : Pos} {ma : ME}
end
end L2
namespace L2
open PySem PySem.Spec PyProof.Rows
section
variable {X : Cx}
end
end L2
namespace L2
open PySem PySem.Spec PyProof.Rows
section
variable {X : Cx} {Γ : St → Prop} {tg : Expr}
end
end L2
namespace L2
open PySem PySem.Spec PyProof.Rows
section
variable {X : Cx} {K : PySem.W.Frag}
end
end L2
namespace L2
open PySem PySem.Spec PyProof.Rows
section
variable {X : Cx} {mr : MA} {pos p : Pos} {e : Expr} {es : List Expr} {k : Nat} {fs : List (Addr × MSp)}
inductive VFs (X : Cx) (k : Nat) : List (Addr × MSp) → Prop
 | nil : VFs X k []
 | cons {f : Addr} {fd : FuncData} {ps : List Str} {ms : MSp} {fs : List (Addr × MSp)} (F : FnOk X.prog X.w X.K X.mg X.base CX0 k f fd ps (lift X.K ms)) (hk : PySem.W.keepIn X.K (.ref f) = true) (hb : Binds X.K fd ps []) (r : VFs X k fs) : VFs X k ((f, ms) :: fs)
end
end L2
namespace L2
open PySem PySem.Spec PyProof.Rows
def Cmp (P : Program) (w : World) (A : Around) (s : Shared) (kd : SortKind) (rk : Value → Nat) (good : Value → Prop) : Prop :=
 ∀ (E : Value → Shared → Prop) (Q : Bool → Shared → Prop) (x y : Value), good x → good y → Q (decide (rk x < rk y)) s → wpAny (model P w) A (keyLt' kd x y) Q E s
section
variable {P : Program} {w : World} {A : Around} {E : Value → Shared → Prop} {s : Shared} {kd : SortKind} {rk : Value → Nat} {good : Value → Prop}
def Rk (rk : Value → Nat) (a : Array Keyed) (i : Nat) : Nat := match a[i]? with
 | some p => rk p.1
 | none => 0
def Rising (rk : Value → Nat) (a : Array Keyed) (i j : Nat) : Prop := ∀ p q, i ≤ p → p < q → q < j → Rk rk a p < Rk rk a q
structure Keys (rk : Value → Nat) (good : Value → Prop) (a : Array Keyed) : Prop where
 good : ∀ p ∈ a.toList, good p.1
 nd : (a.toList.map fun p => rk p.1).Nodup
theorem Rk_eq {a b : Array Keyed} {i j : Nat} (h : a[i]? = b[j]?) : Rk rk a i = Rk rk b j := by unfold Rk; rw [h]
theorem Keys.perm {a b : Array Keyed} (h : Keys rk good a) (p : b.Perm a) : Keys rk good b := by
 have pl := Array.perm_iff_toList_perm.mp p
 exact ⟨fun x hx => h.good x (pl.mem_iff.mp hx), (pl.map _).nodup_iff.mpr h.nd⟩
theorem Keys.ne {a : Array Keyed} (h : Keys rk good a) {i j : Nat} (hi : i < a.size) (hj : j < a.size) (e : Rk rk a i = Rk rk a j) : i = j := by
 have e1 : ∀ k (hk : k < a.size), Rk rk a k = rk (a.toList[k]'(by simpa using hk)).1 := fun k hk => by
  unfold Rk
  rw [Array.getElem?_eq_getElem hk]
  rfl
 rw [e1 i hi, e1 j hj] at e
 refine (List.getElem_inj h.nd).mp (?_ : (a.toList.map fun p => rk p.1)[i]'(by simpa using hi) = (a.toList.map fun p => rk p.1)[j]'(by simpa using hj))
 simpa using e
structure SOk (kd : SortKind) (rk : Value → Nat) (good : Value → Prop) (st : SortSt) : Prop where
 kind : kindOf st = kd
 failed : failedOf st = none
 keys : Keys rk good (arrOf st)
theorem SOk.arr {st : SortSt} (h : SOk kd rk good st) {b : Array Keyed} (p : b.Perm (arrOf st)) : SOk kd rk good (setArr st b) := ⟨h.kind, h.failed, h.keys.perm p⟩
theorem w_elem {a : Array Keyed} {i : Nat} {st : SortSt} {Q : Keyed → SortSt → Prop} (hi : i < a.size) (q : Q a[i] st) : wpS (model P w) A E s (elem' a i) Q st := by
 rw [elem'_eq, Array.getElem?_eq_getElem hi]
 exact wpS_pure q
theorem w_lt (C : Cmp P w A s kd rk good) {x y : Keyed} {st : SortSt} {Q : Option Bool → SortSt → Prop} (hk : kindOf st = kd) (hx : good x.1) (hy : good y.1) (q : Q (some (decide (rk x.1 < rk y.1))) st) : wpS (model P w) A E s (lt' x y) Q st := by
 rw [lt'_eq]
 refine wpS_bind (wpS_get ?_)
 rw [hk]
 exact wpS_bind (wpS_lift (wpAny_attempt (C _ _ _ _ hx hy ⟨rfl, wpS_pure q⟩)))
theorem Rk_at {a : Array Keyed} {i : Nat} (hi : i < a.size) : Rk rk a i = rk a[i].1 := by
 unfold Rk
 rw [Array.getElem?_eq_getElem hi]
theorem w_ltAt (C : Cmp P w A s kd rk good) {i j : Nat} {st : SortSt} {Q : Option Bool → SortSt → Prop} (ok : SOk kd rk good st) (hi : i < (arrOf st).size) (hj : j < (arrOf st).size) (q : Q (some (decide (Rk rk (arrOf st) i < Rk rk (arrOf st) j))) st) : wpS (model P w) A E s (ltAt' i j) Q st := by
 rw [ltAt'_eq]
 refine wpS_bind (wpS_get (wpS_bind (w_elem hi (wpS_bind (w_elem hj (w_lt C ok.kind ?_ ?_ ?_))))))
 ·exact ok.keys.good _ (by simp)
 ·exact ok.keys.good _ (by simp)
 ·rw [← Rk_at (rk := rk) hi, ← Rk_at (rk := rk) hj]
  exact q
structure Within (a b : Array Keyed) (lo hi : Nat) : Prop where
 perm : b.Perm a
 out : ∀ k, k < lo ∨ hi ≤ k → b[k]? = a[k]?
theorem Within.size {a b : Array Keyed} {lo hi : Nat} (h : Within a b lo hi) : b.size = a.size := h.perm.size_eq
theorem Within.refl (a : Array Keyed) (lo hi : Nat) : Within a a lo hi := ⟨Array.Perm.refl _, fun _ _ => rfl⟩
theorem Within.trans {a b c : Array Keyed} {lo hi : Nat} (h : Within a b lo hi) (g : Within b c lo hi) : Within a c lo hi := ⟨g.perm.trans h.perm, fun k hk => (g.out k hk).trans (h.out k hk)⟩
theorem Within.wide {a b : Array Keyed} {lo hi lo' hi' : Nat} (h : Within a b lo hi) (h1 : lo' ≤ lo) (h2 : hi ≤ hi') : Within a b lo' hi' := ⟨h.perm, fun k hk => h.out k (by omega)⟩
theorem setArr_same (st : SortSt) : setArr st (arrOf st) = st := by cases st; rfl
theorem rising_snoc {a : Array Keyed} {lo n : Nat} (h : Rising rk a lo (lo + n)) (h1 : 1 ≤ n) (g : Rk rk a (lo + n - 1) < Rk rk a (lo + n)) : Rising rk a lo (lo + n + 1) := fun p q h2 h3 h4 => by
 by_cases c : q < lo + n
 ·exact h p q h2 h3 c
 ·have e : q = lo + n := by omega
  subst e
  by_cases c2 : p = lo + n - 1
  ·rw [c2]; exact g
  ·exact Nat.lt_trans (h p (lo + n - 1) h2 (by omega) (by omega)) g
theorem w_count (C : Cmp P w A s kd rk good) {lo nrem : Nat} {st : SortSt} {Q : Option Nat → SortSt → Prop} (ok : SOk kd rk good st) (h1 : 1 ≤ nrem) (hz : lo + nrem ≤ (arrOf st).size)
  (q : ∀ (n : Nat) (b : Array Keyed), 1 ≤ n → n ≤ nrem → Within (arrOf st) b lo (lo + nrem) → Rising rk b lo (lo + n) → (Rising rk (arrOf st) lo (lo + nrem) → n = nrem ∧ b = arrOf st) → Q (some n) (setArr st b)) :
  wpS (model P w) A E s (countRun' lo nrem) Q st := by
 rw [countRun'_eq]
 have ne : ∀ {i j : Nat}, i < (arrOf st).size → j < (arrOf st).size → i ≠ j → Rk rk (arrOf st) i ≠ Rk rk (arrOf st) j := fun hi hj c e => c (ok.keys.ne hi hj e)
 refine wpS_bind (wpS_mono (wpS_forRange
  (I := fun x c st' => st' = st ∧ c = (none, x) ∧ Rising rk (arrOf st) lo (lo + x) ∧ x ≤ nrem)
  (Q := fun c st' => st' = st ∧ ∃ n, c = (none, n) ∧ 1 ≤ n ∧ n ≤ nrem ∧ Rising rk (arrOf st) lo (lo + n) ∧ (n = nrem ∨ Rk rk (arrOf st) (lo + n) < Rk rk (arrOf st) (lo + n - 1))) ?_ ?_ ⟨rfl, rfl, fun p q a b c => by omega, h1⟩) ?_)
 ·rintro x c st' hx1 hx2 ⟨rfl, rfl, hr, _⟩
  dsimp only
  refine wpS_bind (w_ltAt C ok (by omega) (by omega) ?_)
  by_cases c : Rk rk (arrOf st') (lo + x) < Rk rk (arrOf st') (lo + x - 1)
  ·rw [decide_eq_true c]
   exact wpS_pure ⟨rfl, x, rfl, hx1, by omega, hr, .inr c⟩
  ·rw [decide_eq_false c]
   have := ne (i := lo + x) (j := lo + x - 1) (by omega) (by omega) (by omega)
   exact wpS_pure ⟨rfl, rfl, rising_snoc hr hx1 (by omega), by omega⟩
 ·rintro c st' ⟨rfl, rfl, hr, hx⟩
  have e : max 1 nrem = nrem := by omega
  rw [e] at hr ⊢
  exact ⟨rfl, nrem, rfl, h1, Nat.le_refl _, hr, .inl rfl⟩
 ·rintro c st' ⟨rfl, n, rfl, n1, n2, hr, hd⟩
  dsimp only
  by_cases en : n = nrem
  ·subst en
   simp only [beq_self_eq_true, if_true]
   have := q n (arrOf st') n1 (Nat.le_refl _) (.refl _ _ _) hr fun _ => ⟨rfl, rfl⟩
   rw [setArr_same] at this
   exact wpS_pure this
  ·have hd := hd.resolve_left en
   have not : ¬ Rising rk (arrOf st') lo (lo + nrem) := fun r => by
    have := r (lo + n - 1) (lo + n) (by omega) (by omega) (by omega)
    omega
   rw [if_neg (by simpa using en)]
   by_cases c1 : n > 1
   ·rw [if_pos c1]
    have hrise := hr lo (lo + n - 1) (Nat.le_refl _) (by omega) (by omega)
    refine wpS_bind (w_ltAt C ok (by omega) (by omega) ?_)
    rw [decide_eq_true hrise]
    have := q n (arrOf st') n1 n2 (.refl _ _ _) hr fun r => absurd r not
    rw [setArr_same] at this
    exact wpS_pure this
   ·rw [if_neg c1]
    have e1 : n = 1 := by omega
    subst e1
    refine wpS_bind (wpS_lift (wpAny_rule ⟨rfl, ?_⟩))
    refine wpS_bind (wpS_mono (wpS_forRange
     (I := fun x c st2 => st2 = st' ∧ c = (none, x, 0) ∧ (∀ u v, lo ≤ u → u < v → v < lo + x → Rk rk (arrOf st') v < Rk rk (arrOf st') u) ∧ x ≤ nrem)
     (Q := fun c st2 => st2 = st' ∧ ∃ m, c = (none, m, 0) ∧ 2 ≤ m ∧ m ≤ nrem ∧ ∀ u v, lo ≤ u → u < v → v < lo + m → Rk rk (arrOf st') v < Rk rk (arrOf st') u) ?_ ?_ ⟨rfl, rfl, fun u v h2 h3 h4 => ?_, by omega⟩) ?_)
    ·rintro x c st2 hx1 hx2 ⟨rfl, rfl, hf, _⟩
     dsimp only
     refine wpS_bind (w_ltAt C ok (by omega) (by omega) ?_)
     by_cases c : Rk rk (arrOf st2) (lo + x) < Rk rk (arrOf st2) (lo + x - 1)
     ·rw [decide_eq_true c]
      refine wpS_pure ⟨rfl, rfl, fun u v h2 h3 h4 => ?_, by omega⟩
      by_cases c2 : v < lo + x
      ·exact hf u v h2 h3 c2
      ·have ev : v = lo + x := by omega
       subst ev
       by_cases c3 : u = lo + x - 1
       ·rw [c3]; exact c
       ·exact Nat.lt_trans c (hf u (lo + x - 1) h2 (by omega) (by omega))
     ·rw [decide_eq_false c]
      have := ne (i := lo + x) (j := lo + x - 1) (by omega) (by omega) (by omega)
      refine wpS_bind (w_ltAt C ok (by omega) (by omega) ?_)
      rw [decide_eq_true (show Rk rk (arrOf st2) (lo + x - 1) < Rk rk (arrOf st2) (lo + x) by omega)]
      exact wpS_pure ⟨rfl, x, rfl, by omega, by omega, hf⟩
    ·rintro c st2 ⟨rfl, rfl, hf, hx⟩
     have e : max (1 + 1) nrem = nrem := by omega
     rw [e] at hf ⊢
     exact ⟨rfl, nrem, rfl, by omega, Nat.le_refl _, hf⟩
    ·have eu : u = lo + 1 - 1 := by omega
     have ev : v = lo + 1 := by omega
     rw [eu, ev]
     exact hd
    ·rintro c st2 ⟨rfl, m, rfl, m1, m2, hf⟩
     dsimp only
     rw [if_neg (Nat.lt_irrefl 0)]
     refine wpS_bind (wpS_reverse ?_)
     have hb : ∀ k, Rk rk (mirror (arrOf st2) lo (lo + m) ((lo + m - lo) / 2)) k = if lo ≤ k ∧ k < lo + m then Rk rk (arrOf st2) (lo + (lo + m) - 1 - k) else Rk rk (arrOf st2) k := fun k => by
      have e := getElem?_mirror_all (xs := arrOf st2) (i := lo) (j := lo + m) (by omega) k
      split
      ·rename_i c; rw [if_pos c] at e; exact Rk_eq e
      ·rename_i c; rw [if_neg c] at e; exact Rk_eq e
     have hw : Within (arrOf st2) (mirror (arrOf st2) lo (lo + m) ((lo + m - lo) / 2)) lo (lo + nrem) := ⟨mirror_perm _ _ _ _, fun k hk => by
      rw [getElem?_mirror_all (by omega), if_neg (by omega)]⟩
     have hrb : Rising rk (mirror (arrOf st2) lo (lo + m) ((lo + m - lo) / 2)) lo (lo + m) := fun u v h2 h3 h4 => by
      rw [hb, hb, if_pos (by omega), if_pos (by omega)]
      exact hf _ _ (by omega) (by omega) (by omega)
     generalize mirror (arrOf st2) lo (lo + m) ((lo + m - lo) / 2) = b at hb hw hrb
     have ok2 : SOk kd rk good (setArr st2 b) := ok.arr hw.perm
     have hz2 : (arrOf (setArr st2 b)).size = (arrOf st2).size := hw.size
     refine wpS_bind (wpS_mono (wpS_forRange
      (I := fun x c st3 => st3 = setArr st2 b ∧ c = (none, x) ∧ Rising rk b lo (lo + x) ∧ x ≤ nrem)
      (Q := fun c st3 => st3 = setArr st2 b ∧ ∃ n, c = (none, n) ∧ 1 ≤ n ∧ n ≤ nrem ∧ Rising rk b lo (lo + n)) ?_ ?_ ⟨rfl, rfl, hrb, m2⟩) ?_)
     ·rintro x c st3 hx1 hx2 ⟨rfl, rfl, hr3, _⟩
      dsimp only
      refine wpS_bind (w_ltAt C ok2 (by omega) (by omega) ?_)
      by_cases c : Rk rk (arrOf (setArr st2 b)) (lo + x) < Rk rk (arrOf (setArr st2 b)) (lo + x - 1)
      ·rw [decide_eq_true c]
       exact wpS_pure ⟨rfl, x, rfl, by omega, by omega, hr3⟩
      ·rw [decide_eq_false c]
       have : Rk rk b (lo + x) ≠ Rk rk b (lo + x - 1) := fun e => absurd (ok2.keys.ne (i := lo + x) (j := lo + x - 1) (by omega) (by omega) e) (by omega)
       have c : ¬ Rk rk b (lo + x) < Rk rk b (lo + x - 1) := c
       exact wpS_pure ⟨rfl, rfl, rising_snoc hr3 (by omega) (by omega), by omega⟩
     ·rintro c st3 ⟨rfl, rfl, hr3, hx⟩
      have e : max m nrem = nrem := by omega
      rw [e] at hr3 ⊢
      exact ⟨rfl, nrem, rfl, h1, Nat.le_refl _, hr3⟩
     ·rintro c st3 ⟨rfl, n, rfl, n1, n2, hr3⟩
      exact wpS_pure (q n b n1 n2 hw hr3 fun r => absurd r not)
end
end L2
namespace L2
open PySem PySem.Spec PyProof.Rows
section
variable {P : Program} {w : World} {A : Around} {E : Value → Shared → Prop} {s : Shared} {kd : SortKind} {rk : Value → Nat} {good : Value → Prop}
theorem w_bins (C : Cmp P w A s kd rk good) {lo n ok' : Nat} {st : SortSt} {Q : Bool → SortSt → Prop} (ok : SOk kd rk good st) (h1 : 1 ≤ ok') (hn : ok' ≤ n) (hz : lo + n ≤ (arrOf st).size) (hr : Rising rk (arrOf st) lo (lo + ok'))
  (q : ∀ b, Within (arrOf st) b lo (lo + n) → Rising rk b lo (lo + n) → Q true (setArr st b)) : wpS (model P w) A E s (binarySort' lo n ok') Q st := by
 rw [binarySort'_eq]
 refine wpS_bind (wpS_mono (wpS_forRange
  (I := fun x c st' => c = (none, ()) ∧ ∃ b, st' = setArr st b ∧ Within (arrOf st) b lo (lo + n) ∧ Rising rk b lo (lo + x) ∧ x ≤ n)
  (Q := fun c st' => c = (none, ()) ∧ ∃ b, st' = setArr st b ∧ Within (arrOf st) b lo (lo + n) ∧ Rising rk b lo (lo + n)) ?_ ?_ ⟨rfl, arrOf st, (setArr_same st).symm, .refl _ _ _, by rw [Nat.max_eq_left h1]; exact hr, by omega⟩) ?_)
 ·rintro x c st' hx1 hx2 ⟨rfl, b, rfl, hw, hb, _⟩
  have okb : SOk kd rk good (setArr st b) := ok.arr hw.perm
  have zb : (arrOf (setArr st b)).size = (arrOf st).size := hw.size
  have zb' : b.size = (arrOf st).size := hw.size
  have ne : ∀ {i j : Nat}, i < b.size → j < b.size → i ≠ j → Rk rk b i ≠ Rk rk b j := fun hi hj c e => c (okb.keys.ne hi hj e)
  refine wpS_bind (wpS_mono (wpS_forRange
   (I := fun y c st2 => st2 = setArr st b ∧ ∃ l r, c = (none, l, r) ∧ l ≤ r ∧ r ≤ x ∧ r - l ≤ x - y ∧ (∀ p, lo ≤ p → p < lo + l → Rk rk b p < Rk rk b (lo + x)) ∧ ∀ p, lo + r ≤ p → p < lo + x → Rk rk b (lo + x) < Rk rk b p)
   (Q := fun c st2 => st2 = setArr st b ∧ ∃ l, c = (none, l, l) ∧ l ≤ x ∧ (∀ p, lo ≤ p → p < lo + l → Rk rk b p < Rk rk b (lo + x)) ∧ ∀ p, lo + l ≤ p → p < lo + x → Rk rk b (lo + x) < Rk rk b p) ?_ ?_ ⟨rfl, 0, x, rfl, Nat.zero_le _, Nat.le_refl _, by omega, fun p h2 h3 => by omega, fun p h2 h3 => by omega⟩) ?_)
  ·rintro y c st2 hy1 hy2 ⟨rfl, l, r, rfl, a1, a2, a3, a4, a5⟩
   dsimp only
   by_cases c : l ≥ r
   ·rw [if_pos c]
    have e : l = r := by omega
    subst e
    exact wpS_pure ⟨rfl, l, rfl, a2, a4, a5⟩
   ·rw [if_neg c]
    refine wpS_bind (w_ltAt C okb (by omega) (by omega) ?_)
    by_cases c2 : Rk rk (arrOf (setArr st b)) (lo + x) < Rk rk (arrOf (setArr st b)) (lo + (l + r) / 2)
    ·rw [decide_eq_true c2]
     refine wpS_pure ⟨rfl, l, (l + r) / 2, rfl, by omega, by omega, by omega, a4, fun p h2 h3 => ?_⟩
     have c2 : Rk rk b (lo + x) < Rk rk b (lo + (l + r) / 2) := c2
     by_cases c3 : p = lo + (l + r) / 2
     ·rw [c3]; exact c2
     ·exact Nat.lt_trans c2 (hb _ p (by omega) (by omega) (by omega))
    ·rw [decide_eq_false c2]
     have c2 : ¬ Rk rk b (lo + x) < Rk rk b (lo + (l + r) / 2) := c2
     have := ne (i := lo + x) (j := lo + (l + r) / 2) (by omega) (by omega) (by omega)
     refine wpS_pure ⟨rfl, (l + r) / 2 + 1, r, rfl, by omega, by omega, by omega, fun p h2 h3 => ?_, a5⟩
     by_cases c3 : p = lo + (l + r) / 2
     ·rw [c3]; omega
     ·have := hb p (lo + (l + r) / 2) (by omega) (by omega) (by omega)
      omega
  ·rintro c st2 ⟨rfl, l, r, rfl, a1, a2, a3, a4, a5⟩
   have e : l = r := by omega
   subst e
   exact ⟨rfl, l, rfl, a2, a4, a5⟩
  ·rintro c st2 ⟨rfl, l, rfl, a2, a4, a5⟩
   dsimp only
   rw [moveDown'_eq]
   refine wpS_bind (wpS_modify ?_)
   have hbu : ∀ k, (bubble b (lo + x) (lo + x - (lo + l)))[k]? = if k = lo + l then b[lo + x]? else if lo + l < k ∧ k ≤ lo + x then b[k - 1]? else b[k]? := fun k => by
    have := getElem?_bubble (xs := b) (src := lo + x) (by omega) (lo + x - (lo + l)) (by omega) k
    rw [show lo + x - (lo + x - (lo + l)) = lo + l by omega] at this
    exact this
   have hR : ∀ k, Rk rk (bubble b (lo + x) (lo + x - (lo + l))) k = if k = lo + l then Rk rk b (lo + x) else if lo + l < k ∧ k ≤ lo + x then Rk rk b (k - 1) else Rk rk b k := fun k => by
    have e := hbu k
    split
    ·rename_i c; rw [if_pos c] at e; exact Rk_eq e
    ·rename_i c
     rw [if_neg c] at e
     split
     ·rename_i c2; rw [if_pos c2] at e; exact Rk_eq e
     ·rename_i c2; rw [if_neg c2] at e; exact Rk_eq e
   refine wpS_pure ⟨rfl, bubble b (lo + x) (lo + x - (lo + l)), rfl, hw.trans ⟨bubble_perm _ _ _, fun k hk => ?_⟩, fun u v h2 h3 h4 => ?_, by omega⟩
   ·rw [hbu, if_neg (by omega), if_neg (by omega)]
   ·rw [hR, hR]
    by_cases c1 : u = lo + l
    ·rw [if_pos c1]
     by_cases c2 : v = lo + l
     ·omega
     ·rw [if_neg c2, if_pos (by omega)]
      exact a5 _ (by omega) (by omega)
    ·rw [if_neg c1]
     by_cases c3 : lo + l < u ∧ u ≤ lo + x
     ·rw [if_pos c3, if_neg (by omega), if_pos (by omega)]
      exact hb _ _ (by omega) (by omega) (by omega)
     ·rw [if_neg c3]
      by_cases c2 : v = lo + l
      ·rw [if_pos c2]
       exact a4 _ (by omega) (by omega)
      ·rw [if_neg c2]
       by_cases c4 : lo + l < v ∧ v ≤ lo + x
       ·rw [if_pos c4]
        by_cases c5 : u = v - 1
        ·omega
        ·exact hb _ _ (by omega) (by omega) (by omega)
       ·rw [if_neg c4]
        exact hb _ _ (by omega) (by omega) (by omega)
 ·rintro c st' ⟨rfl, b, rfl, hw, hb, hx⟩
  rw [show max (max ok' 1) n = n by omega] at hb
  exact ⟨rfl, b, rfl, hw, hb⟩
 ·rintro c st' ⟨rfl, b, rfl, hw, hb⟩
  exact wpS_pure (q b hw hb)
end
end L2
namespace L2
open PySem PySem.Spec PyProof.Rows
section
variable {P : Program} {w : World} {A : Around} {E : Value → Shared → Prop} {s : Shared} {kd : SortKind} {rk : Value → Nat} {good : Value → Prop}
end
end L2
namespace L2
open PySem PySem.Spec PyProof.Rows
def RawD (h : Heap) (d : Addr) (es : Array DictEntry) (ep : Nat) : Prop := ∃ o, h.get? d = some o ∧ o.ExactDict ∧ o.data = .dict es ep
theorem RawD.of {h h' : Heap} {d : Addr} {es : Array DictEntry} {ep : Nat} (x : RawD h d es ep) (e : ∀ o, h.get? d = some o → h'.get? d = some o) : RawD h' d es ep := by
 obtain ⟨o, g, r⟩ := x
 exact ⟨o, e o g, r⟩
theorem RawD.ty {s : Shared} {d : Addr} {es : Array DictEntry} {ep : Nat} (x : RawD s.heap d es ep) : s.TypeIs (.ref d) "dict" := by
 obtain ⟨o, g, r, _⟩ := x
 exact ⟨o, g, r.1⟩
section
variable {P : Program} {w : World} {A : Around} {E : Value → Shared → Prop} {s : Shared} {d it : Addr} {es : Array DictEntry} {ep i : Nat}
theorem iter_raw {Q : Value → Shared → Prop} (nd : (d == sysModules) = false) (x : RawD s.heap d es ep)
  (q : Q (.ref s.heap.objs.size) { s with heap := s.heap.push { cls := .type "dict_keyiterator", data := .fields #[.ref d, .int 0 0, .int es.size 0, .int ep 0] } }) : wpAny (model P w) A (pyIter (.ref d)) Q E s := by
 have gT := x.ty
 obtain ⟨o, g, gc, gd⟩ := x
 refine wpAny_pyIter_slot gT F.slot_dict_iter (wpAny_call_entry F.slot_dict_iter gT F.entry_dict_iter ?_ (F.args_dict_iter_1 _))
 unfold Builtin.«dict.__iter__» Builtin.Dict.dictSlotNone
 refine wpAny_bind (wpAny_bind (wpAny_notOrdered_dict gT ?_))
 show wpAny _ _ (pure (Value.ref d)) _ _ s
 refine wpAny_pure ?_
 show wpAny _ _ (Builtin.Dict.showsAll d >>= _) _ _ s
 unfold Builtin.Dict.showsAll
 rw [nd, if_neg Bool.false_ne_true]
 refine wpAny_bind (wpAny_pure (wpAny_bind (wpAny_dictEntries g gd (wpAny_bind (wpAny_dictEpoch g gd ?_)))))
 refine wpAny_bind (wpAny_newObj_type (wpAny_pure ⟨_, rfl, "dict_keyiterator", _, ⟨_, Heap.get?_push_size _ rfl, rfl⟩, F.slot_dict_keyiterator_next.lookup, ?_⟩))
 simpa [rawInt] using q
theorem next_raw {Q : Option Value → Shared → Prop} (gi : s.heap.IsKeyIter it d i es.size ep) (x : RawD s.heap d es ep) (hi : i < es.size)
  (q : ∀ h', h'.IsKeyIter it d (i + 1) es.size ep → Heap.SameBut it s.heap h' → Q (some es[i].key) { s with heap := h' }) : wpAny (model P w) A (pyNext (.ref it)) Q E s := by
 obtain ⟨u, gu, gc, gd⟩ := id gi
 obtain ⟨o, g, _, ge⟩ := x
 unfold pyNext
 refine wpAny_bind (wpAny_attempt (wpAny_callSpecial?_slot (name := Str.ofString "__next__") gi.typeIs F.slot_dict_keyiterator_next (wpAny_call_entry F.slot_dict_keyiterator_next gi.typeIs F.entry_dict_keyiterator_next ?_ (F.args_dict_keyiterator_next_1 _))))
 refine wpAny_bind (wpAny_pure (wpAny_bind (wpAny_bind ?_)))
 first
  | refine wpAny_bind (wpAny_typeNameOfWhole_keyiter gi.typeIs (wpAny_pure ?_))
  | refine wpAny_bind (wpAny_typeNameOf_keyiter gi.typeIs (wpAny_pure ?_))
 refine wpAny_bind (wpAny_fieldsOf gu gd ?_)
 have ow : Builtin.Dict_items.ownsTuple "dict_keyiterator" = false := by decide
 simp only [ow, Bool.false_eq_true, if_false]
 show wpAny _ _ (if (Value.ref d == Value.none) = true then _ else _) _ _ s
 rw [if_neg (by exact Bool.false_ne_true)]
 refine wpAny_bind (wpAny_pure (wpAny_bind (wpAny_dictEntries g ge ?_)))
 rw [if_neg (by simp)]
 refine wpAny_bind (wpAny_pure (wpAny_bind (wpAny_dictEpoch g ge ?_)))
 rw [if_neg (by simp)]
 refine wpAny_pure ?_
 simp only [show ¬ ((i : Int) < 0) from by omega, if_false, Int.toNat_natCast, Array.getElem?_eq_getElem hi]
 refine wpAny_bind ?_
 first
  | refine wpAny_bind (wpAny_typeNameOfWhole_keyiter gi.typeIs (wpAny_pure ?_))
  | refine wpAny_bind (wpAny_typeNameOf_keyiter gi.typeIs (wpAny_pure ?_))
 refine wpAny_bind (wpAny_isOneOf_keyiter gi.typeIs ?_)
 show wpAny _ _ (setField (.ref it) 1 (rawInt ((i : Int) + 1)) >>= _) _ _ s
 refine wpAny_bind (wpAny_setField gu gd (by simp) ?_)
 have g2 : (s.heap.update it (Obj.mapFields (·.setIfInBounds 1 (rawInt ((i : Int) + 1))))).IsKeyIter it d (i + 1) es.size ep := by
  refine ⟨_, Heap.get?_update_self _ gu (Obj.isFreed_of_fields (Obj.data_mapFields gd _)), (Obj.cls_mapFields ..).trans gc, ?_⟩
  rw [Obj.data_mapFields gd]
  simp [rawInt]
 refine wpAny_bind (wpAny_holding (wpAny_bind (wpAny_isOneOf_keyiter (s := { s with heap := s.heap.update it (Obj.mapFields (·.setIfInBounds 1 (rawInt ((i : Int) + 1)))) }) g2.typeIs ?_)))
 show wpAny _ _ (pure es[i].key) _ _ _
 exact wpAny_pure (wpAny_pure ⟨_, rfl, wpAny_pure (q _ g2 (Heap.SameBut.update ..))⟩)
theorem stop_raw {Q : Option Value → Shared → Prop} (hh : A.handled = none) (gi : s.heap.IsKeyIter it d es.size es.size ep) (x : RawD s.heap d es ep) (q : ∀ h', Heap.ExtBut it s.heap h' → Q none { s with heap := h' }) : wpAny (model P w) A (pyNext (.ref it)) Q E s := by
 obtain ⟨u, gu, gc, gd⟩ := id gi
 obtain ⟨o, g, _, ge⟩ := x
 unfold pyNext
 refine wpAny_bind (wpAny_attempt (wpAny_callSpecial?_slot (name := Str.ofString "__next__") gi.typeIs F.slot_dict_keyiterator_next (wpAny_call_entry F.slot_dict_keyiterator_next gi.typeIs F.entry_dict_keyiterator_next ?_ (F.args_dict_keyiterator_next_1 _))))
 refine wpAny_bind (wpAny_pure (wpAny_bind (wpAny_bind ?_)))
 first
  | refine wpAny_bind (wpAny_typeNameOfWhole_keyiter gi.typeIs (wpAny_pure ?_))
  | refine wpAny_bind (wpAny_typeNameOf_keyiter gi.typeIs (wpAny_pure ?_))
 refine wpAny_bind (wpAny_fieldsOf gu gd ?_)
 have ow : Builtin.Dict_items.ownsTuple "dict_keyiterator" = false := by decide
 simp only [ow, Bool.false_eq_true, if_false]
 show wpAny _ _ (if (Value.ref d == Value.none) = true then _ else _) _ _ s
 rw [if_neg (by exact Bool.false_ne_true)]
 refine wpAny_bind (wpAny_pure (wpAny_bind (wpAny_dictEntries g ge ?_)))
 rw [if_neg (by simp)]
 refine wpAny_bind (wpAny_pure (wpAny_bind (wpAny_dictEpoch g ge ?_)))
 rw [if_neg (by simp)]
 refine wpAny_pure ?_
 simp only [show ¬ ((es.size : Int) < 0) from by omega, if_false, Int.toNat_natCast, Array.getElem?_eq_none (Nat.le_refl es.size)]
 refine wpAny_bind ?_
 first
  | refine wpAny_bind (wpAny_typeNameOfWhole_keyiter gi.typeIs (wpAny_pure ?_))
  | refine wpAny_bind (wpAny_typeNameOf_keyiter gi.typeIs (wpAny_pure ?_))
 show wpAny _ _ (setField (.ref it) 0 .none >>= _) _ _ s
 refine wpAny_bind (wpAny_setField gu gd (by simp) ?_)
 show wpAny _ _ (newExc (.type "StopIteration") [] >>= _) _ _ _
 refine wpAny_bind ?_
 simp only [newExc, newTuple]
 refine wpAny_bind (wpAny_newObj_type ?_ (by size_fits))
 refine wpAny_bind (m := firstArgMember _ _) (wpAny_of_eq (a := Value.none) (by first | rfl | (simp only [firstArgMember]; rfl)) ?_)
 refine wpAny_newObj_type ?_ (by size_fits)
 simp only [raiseNew]
 refine wpAny_bind (wpAny_handled ?_)
 rw [show A.in1.handled = none from hh]
 refine wpAny_bind (wpAny_pure (wpAny_throw ?_))
 refine wpAny_bind (wpAny_isInstance (b := true) (T := "StopIteration") ⟨_, Heap.get?_push_size _ rfl, rfl⟩ isSubtype_stop ?_)
 exact wpAny_pure (q _ (((Heap.SameBut.update ..).extBut.push _).push _))
theorem walks_raw (hh : A.handled = none) (I d : Addr) (ne : d ≠ I) (es : Array DictEntry) (ep : Nat) :
  Walks P w A I [I, d] [I] es.size (fun i v => ∃ h : i < es.size, v = es[i].key) (fun i h => h.IsKeyIter I d i es.size ep ∧ RawD h d es ep) where
 sub := fun b hb => by simp at hb; simp [hb]
 frame := fun i h h' st k => ⟨by obtain ⟨⟨o, g, r⟩, _⟩ := st; exact ⟨o, k I (by simp) o g, r⟩, st.2.of fun o e => k d (by simp) o e⟩
 item := fun i s Q E hi st q => next_raw st.1 st.2 hi fun h' g sb => q _ h' s.toks ⟨hi, rfl⟩ ⟨g, st.2.of fun o e => sb.extBut d o ne e⟩ fun b o hb e => sb.extBut b o (fun z => hb (by simp [z])) e
 done := fun s Q E st q => stop_raw hh st.1 st.2 fun h' eb => q h' s.toks fun b o hb e => eb b o (fun z => hb (by simp [z])) e
 self := fun _ _ _ _ st q => wpAny_pyIter_keyiter st.1 q
theorem src_raw (nd : (d == sysModules) = false) : PySem.W.KdlSrc P w "dict" d d es.size (fun i v => ∃ h : i < es.size, v = es[i].key) (fun h => RawD h d es ep) where
 type := fun _ x => x.ty
 there := fun _ x => by obtain ⟨o, g, _⟩ := x; exact ⟨Heap.lt_size g, Heap.lt_size g⟩
 keep := fun _ _ x k => x.of fun o e => k d (.inl rfl) o e
 notList := by decide
 notTuple := by decide
 hint := fun _ _ _ _ x q => PySem.W.kdl_hint_dict x.ty q
 iter := fun _ s hh x => by
  have lt : d < s.heap.objs.size := by obtain ⟨o, g, _⟩ := x; exact Heap.lt_size g
  exact ⟨_, _, fun _ _ q => iter_raw nd x q, walks_raw hh _ d (Nat.ne_of_lt lt) es ep, ⟨_, Heap.get?_push_size _ rfl, rfl, rfl⟩, x.of fun o e => Heap.get?_push_of_some _ e⟩
theorem collect_raw {Q : List Value → Shared → Prop} (hh : A.handled = none) (nd : (d == sysModules) = false) (x : RawD s.heap d es ep) (hz : es.size ≤ sizeLine)
  (q : ∀ h' tk, (∀ b o, s.heap.get? b = some o → h'.get? b = some o) → s.heap.objs.size < h'.objs.size → Q (es.toList.map (·.key)) { s with heap := h', toks := tk }) : wpAny (model P w) A (collect (.ref d)) Q E s := by
 have lt : d < s.heap.objs.size := by obtain ⟨o, g, _⟩ := x; exact Heap.lt_size g
 unfold collect
 refine wpAny_bind (wpAny_runValue (codeAny_builtin F.entry_proto_collect ?_))
 rw [Around.under_plainId F.plain_proto_collect _]
 show wpAny _ A.in1 (newList [] >>= fun l => again (.builtin "list.__iadd__" ⟨[l, .ref d], []⟩)) _ _ s
 refine wpAny_bind (wpAny_newObj_type (wpAny_pure ⟨plainId_quiet F.plain_list_iadd _, codeAny_builtin F.entry_list_iadd ?_⟩))
 rw [Around.under_plainId F.plain_list_iadd _]
 have g0 : (s.heap.push { cls := .type "list", data := .seq ([] : List Value).toArray }).get? s.heap.objs.size = some { cls := .type "list", data := .seq ([] : List Value).toArray } := Heap.get?_push_size _ rfl
 show wpAny _ A.in1 (Builtin.List.listExtendWith (.ref s.heap.objs.size) (.ref d) (.ref s.heap.objs.size)) _ _ _
 have fin : ∀ (f : Flow) (s' : Shared), (f = .ret (.ref s.heap.objs.size) ∧ ∃ h' tk acc c, s' = { s with heap := h', toks := tk } ∧ (∀ b o, b ≠ s.heap.objs.size → (s.heap.push { cls := .type "list", data := .seq ([] : List Value).toArray }).get? b = some o → h'.get? b = some o) ∧ h'.get? s.heap.objs.size = some { cls := .type "list", dict := none, data := .seq acc c, slots := #[] } ∧ ItemsOf (fun i v => ∃ h : i < es.size, v = es[i].key) acc es.size) →
   ∃ v, f = .ret v ∧ wpAny (model P w) A (match v with
    | Value.ref a => do
     let u ← load a
     match u.data with
     | Data.seq xs _ => pure xs.toList
     | _ => unsupported "internal:collect"
    | _ => unsupported "internal:collect") Q E s' := by
  rintro f s' ⟨rfl, h', tk, acc, c, rfl, k, e, it⟩
  refine ⟨_, rfl, ?_⟩
  show wpAny _ A (load s.heap.objs.size >>= _) _ _ _
  refine wpAny_bind (wpAny_load e ?_)
  have ea : acc.toList = es.toList.map (·.key) := by
   refine List.ext_getElem? fun j => ?_
   rw [List.getElem?_map, Array.getElem?_toList, Array.getElem?_toList]
   by_cases hj : j < es.size
   ·have hj' : j < acc.size := by rw [it.1]; exact hj
    obtain ⟨_, ev⟩ := it.2 j acc[j] (Array.getElem?_eq_getElem hj')
    rw [Array.getElem?_eq_getElem hj', Array.getElem?_eq_getElem hj, ev]
    rfl
   ·rw [Array.getElem?_eq_none (by rw [it.1]; omega), Array.getElem?_eq_none (by omega)]
    rfl
  refine wpAny_pure ?_
  rw [ea]
  exact q h' tk (fun b o g => k b o (Nat.ne_of_lt (Heap.lt_size g)) (Heap.get?_push_of_some _ g)) (Heap.lt_size e)
 refine wpAny_mono (PySem.W.kdl_extend (s := { s with heap := s.heap.push { cls := .type "list", data := .seq ([] : List Value).toArray } }) (R := fun r s' => match r with
  | .ok f => f = .ret (.ref s.heap.objs.size) ∧ ∃ h' tk acc c, s' = { s with heap := h', toks := tk } ∧ (∀ b o, b ≠ s.heap.objs.size → (s.heap.push { cls := .type "list", data := .seq ([] : List Value).toArray }).get? b = some o → h'.get? b = some o) ∧ h'.get? s.heap.objs.size = some { cls := .type "list", dict := none, data := .seq acc c, slots := #[] } ∧ ItemsOf (fun i v => ∃ h : i < es.size, v = es[i].key) acc es.size
  | .error _ => False) (src_raw (es := es) (ep := ep) nd) hh (x.of fun o e => Heap.get?_push_of_some _ e) s.heap.objs.size (Nat.ne_of_gt lt) (Nat.ne_of_gt lt) _ 0 g0 (fun h' tk acc c k e it => ⟨rfl, h', tk, acc, c, rfl, k, e, it⟩) hz) (fun r s' hr => ?_) fun e s' hr => hr.elim
 cases r with
 | done f =>
  obtain ⟨v, rfl, q'⟩ := fin f s' hr
  exact q'
 | again c =>
  refine ⟨hr.1, codeAny_mono hr.2 fun r s' hr => ?_⟩
  cases r with
  | error e => exact hr.elim
  | ok f =>
   obtain ⟨v, rfl, q'⟩ := fin f s' hr
   exact q'
end
end L2
namespace L2
open PySem PySem.Spec PyProof.Rows
def gal : Bool → Keyed → Array Keyed → Nat → Nat → Nat → StateT SortSt Sem (Option Nat) := sortPriv% PySem.Builtin.gallop
section
variable {P : Program} {w : World} {A : Around} {E : Value → Shared → Prop} {s : Shared} {kd : SortKind} {rk : Value → Nat} {good : Value → Prop}
def Bey (rk : Value → Nat) (left : Bool) (key : Keyed) (a : Array Keyed) (i : Nat) : Bool := if left then decide (Rk rk a i < rk key.1) else !decide (rk key.1 < Rk rk a i)
def beyM (left : Bool) (key : Keyed) (a : Array Keyed) (base i : Nat) : StateT SortSt Sem (Option Bool) := elem' a (base + i) >>= fun x => if left = true then lt' x key else lt' key x >>= fun r => pure (r.map (! ·))
theorem w_bey (C : Cmp P w A s kd rk good) {left : Bool} {key : Keyed} {a : Array Keyed} {base i : Nat} {st : SortSt} {Q : Option Bool → SortSt → Prop} (hk : kindOf st = kd) (ka : ∀ p ∈ a.toList, good p.1) (kg : good key.1) (hi : base + i < a.size) (q : Q (some (Bey rk left key a (base + i))) st) : wpS (model P w) A E s (beyM left key a base i) Q st := by
 refine wpS_bind (w_elem hi ?_)
 have gi : good a[base + i].1 := ka _ (by simp)
 unfold Bey at q
 rw [Rk_at hi] at q
 cases left with
 | true => exact w_lt C hk gi kg q
 | false => exact wpS_bind (w_lt C hk kg gi (wpS_pure q))
set_option maxHeartbeats 1000000 in
theorem w_gal (C : Cmp P w A s kd rk good) {left : Bool} {key : Keyed} {a : Array Keyed} {base n hint : Nat} {st : SortSt} {Q : Option Nat → SortSt → Prop} (hk : kindOf st = kd) (ka : ∀ p ∈ a.toList, good p.1) (kg : good key.1) (hz : base + n ≤ a.size) (hh : hint < n)
  (mono : ∀ i j, i ≤ j → j < n → Bey rk left key a (base + j) = true → Bey rk left key a (base + i) = true)
  (q : ∀ m, m ≤ n → (∀ i, i < m → Bey rk left key a (base + i) = true) → (∀ i, m ≤ i → i < n → Bey rk left key a (base + i) = false) → Q (some m) st) : wpS (model P w) A E s (gal left key a base n hint) Q st := by
 have anti : ∀ i j, i ≤ j → j < n → Bey rk left key a (base + i) = false → Bey rk left key a (base + j) = false := fun i j h1 h2 h3 => by
  cases e : Bey rk left key a (base + j) with
  | false => rfl
  | true => rw [mono i j h1 h2 e] at h3; cases h3
 refine wpS_bind (w_bey C hk ka kg (by omega) ?_)
 dsimp only
 cases hB : Bey rk left key a (base + hint) with
 | true =>
  rw [if_pos rfl]
  refine wpS_bind (wpS_mono (wpS_forRange
   (I := fun x c st' => st' = st ∧ ∃ l o, c = (none, l, o) ∧ l < o ∧ x < o ∧ hint + l < n ∧ Bey rk left key a (base + (hint + l)) = true)
   (Q := fun c st' => st' = st ∧ ∃ l o, c = (none, l, o) ∧ l < o ∧ hint + l < n ∧ Bey rk left key a (base + (hint + l)) = true ∧ (n - hint ≤ o ∨ Bey rk left key a (base + (hint + o)) = false)) ?_ ?_ ⟨rfl, 0, 1, rfl, by decide, by decide, by omega, hB⟩) ?_)
  ·rintro x c st' _ hx ⟨rfl, l, o, rfl, a1, a2, a3, a4⟩
   dsimp only
   by_cases c : o ≥ n - hint
   ·rw [if_pos c]
    exact wpS_pure ⟨rfl, l, o, rfl, a1, a3, a4, .inl c⟩
   ·rw [if_neg c]
    refine wpS_bind (w_bey C hk ka kg (by omega) ?_)
    cases hm : Bey rk left key a (base + (hint + o)) with
    | true => exact wpS_pure ⟨rfl, o, 2 * o + 1, rfl, by omega, by omega, by omega, hm⟩
    | false => exact wpS_pure ⟨rfl, l, o, rfl, a1, a3, a4, .inr hm⟩
  ·rintro c st' ⟨rfl, l, o, rfl, a1, a2, a3, a4⟩
   exact ⟨rfl, l, o, rfl, a1, a3, a4, .inl (by omega)⟩
  ·rintro c st' ⟨rfl, l, o, rfl, a1, a3, a4, a5⟩
   dsimp only
   have b1 : hint + l + 1 ≤ hint + min o (n - hint) := by omega
   have b2 : hint + min o (n - hint) ≤ n := by omega
   have b3 : ∀ i, i < hint + l + 1 → Bey rk left key a (base + i) = true := fun i hi => mono i (hint + l) (by omega) a3 a4
   have b4 : ∀ i, hint + min o (n - hint) ≤ i → i < n → Bey rk left key a (base + i) = false := fun i h1 h2 => by
    rcases a5 with c | c
    ·omega
    ·exact anti (hint + o) i (by omega) h2 c
   refine wpS_bind (wpS_mono (wpS_forRange
     (I := fun x c st2 => st2 = st' ∧ ∃ l r, c = (none, l, r) ∧ l ≤ r ∧ r ≤ n ∧ r - l ≤ n - x ∧ (∀ i, i < l → Bey rk left key a (base + i) = true) ∧ ∀ i, r ≤ i → i < n → Bey rk left key a (base + i) = false)
     (Q := fun c st2 => st2 = st' ∧ ∃ m, c = (none, m, m) ∧ m ≤ n ∧ (∀ i, i < m → Bey rk left key a (base + i) = true) ∧ ∀ i, m ≤ i → i < n → Bey rk left key a (base + i) = false) ?_ ?_ ⟨rfl, _, _, rfl, b1, b2, (Nat.le_trans (Nat.sub_le _ _) b2 : _ ≤ n - 0), b3, b4⟩) ?_)
   ·rintro x c st2 _ hx ⟨rfl, l, r, rfl, a1, a2, a3, a4, a5⟩
    dsimp only
    by_cases c : l ≥ r
    ·rw [if_pos c]
     have e : l = r := by omega
     subst e
     exact wpS_pure ⟨rfl, l, rfl, a2, a4, a5⟩
    ·rw [if_neg c]
     refine wpS_bind (w_bey C hk ka kg (by omega) ?_)
     cases hm : Bey rk left key a (base + (l + (r - l) / 2)) with
     | true => exact wpS_pure ⟨rfl, l + (r - l) / 2 + 1, r, rfl, by omega, a2, by omega, fun i hi => mono i (l + (r - l) / 2) (by omega) (by omega) hm, a5⟩
     | false => exact wpS_pure ⟨rfl, l, l + (r - l) / 2, rfl, by omega, by omega, by omega, a4, fun i h2 h3 => anti (l + (r - l) / 2) i h2 h3 hm⟩
   ·rintro c st2 ⟨rfl, l, r, rfl, a1, a2, a3, a4, a5⟩
    have e : l = r := by omega
    subst e
    exact ⟨rfl, l, rfl, a2, a4, a5⟩
   ·rintro c st2 ⟨rfl, m, rfl, a1, a2, a3⟩
    exact wpS_pure (q m a1 a2 a3)
 | false =>
  rw [if_neg Bool.false_ne_true]
  refine wpS_bind (wpS_mono (wpS_forRange
   (I := fun x c st' => st' = st ∧ ∃ l o, c = (none, l, o) ∧ l < o ∧ x < o ∧ l ≤ hint ∧ Bey rk left key a (base + (hint - l)) = false)
   (Q := fun c st' => st' = st ∧ ∃ l o, c = (none, l, o) ∧ l < o ∧ l ≤ hint ∧ Bey rk left key a (base + (hint - l)) = false ∧ (hint + 1 ≤ o ∨ Bey rk left key a (base + (hint - o)) = true)) ?_ ?_ ⟨rfl, 0, 1, rfl, by decide, by decide, by omega, hB⟩) ?_)
  ·rintro x c st' _ hx ⟨rfl, l, o, rfl, a1, a2, a3, a4⟩
   dsimp only
   by_cases c : o ≥ hint + 1
   ·rw [if_pos c]
    exact wpS_pure ⟨rfl, l, o, rfl, a1, a3, a4, .inl c⟩
   ·rw [if_neg c]
    refine wpS_bind (w_bey C hk ka kg (by omega) ?_)
    cases hm : Bey rk left key a (base + (hint - o)) with
    | true => exact wpS_pure ⟨rfl, l, o, rfl, a1, a3, a4, .inr hm⟩
    | false => exact wpS_pure ⟨rfl, o, 2 * o + 1, rfl, by omega, by omega, by omega, hm⟩
  ·rintro c st' ⟨rfl, l, o, rfl, a1, a2, a3, a4⟩
   exact ⟨rfl, l, o, rfl, a1, a3, a4, .inl (by omega)⟩
  ·rintro c st' ⟨rfl, l, o, rfl, a1, a3, a4, a5⟩
   dsimp only
   have b1 : hint + 1 - min o (hint + 1) ≤ hint - l := by omega
   have b2 : hint - l ≤ n := by omega
   have b3 : ∀ i, i < hint + 1 - min o (hint + 1) → Bey rk left key a (base + i) = true := fun i hi => by
    rcases a5 with c | c
    ·omega
    ·exact mono i (hint - o) (by omega) (by omega) c
   have b4 : ∀ i, hint - l ≤ i → i < n → Bey rk left key a (base + i) = false := fun i h1 h2 => anti (hint - l) i h1 h2 a4
   refine wpS_bind (wpS_mono (wpS_forRange
     (I := fun x c st2 => st2 = st' ∧ ∃ l r, c = (none, l, r) ∧ l ≤ r ∧ r ≤ n ∧ r - l ≤ n - x ∧ (∀ i, i < l → Bey rk left key a (base + i) = true) ∧ ∀ i, r ≤ i → i < n → Bey rk left key a (base + i) = false)
     (Q := fun c st2 => st2 = st' ∧ ∃ m, c = (none, m, m) ∧ m ≤ n ∧ (∀ i, i < m → Bey rk left key a (base + i) = true) ∧ ∀ i, m ≤ i → i < n → Bey rk left key a (base + i) = false) ?_ ?_ ⟨rfl, _, _, rfl, b1, b2, (Nat.le_trans (Nat.sub_le _ _) b2 : _ ≤ n - 0), b3, b4⟩) ?_)
   ·rintro x c st2 _ hx ⟨rfl, l, r, rfl, a1, a2, a3, a4, a5⟩
    dsimp only
    by_cases c : l ≥ r
    ·rw [if_pos c]
     have e : l = r := by omega
     subst e
     exact wpS_pure ⟨rfl, l, rfl, a2, a4, a5⟩
    ·rw [if_neg c]
     refine wpS_bind (w_bey C hk ka kg (by omega) ?_)
     cases hm : Bey rk left key a (base + (l + (r - l) / 2)) with
     | true => exact wpS_pure ⟨rfl, l + (r - l) / 2 + 1, r, rfl, by omega, a2, by omega, fun i hi => mono i (l + (r - l) / 2) (by omega) (by omega) hm, a5⟩
     | false => exact wpS_pure ⟨rfl, l, l + (r - l) / 2, rfl, by omega, by omega, by omega, a4, fun i h2 h3 => anti (l + (r - l) / 2) i h2 h3 hm⟩
   ·rintro c st2 ⟨rfl, l, r, rfl, a1, a2, a3, a4, a5⟩
    have e : l = r := by omega
    subst e
    exact ⟨rfl, l, rfl, a2, a4, a5⟩
   ·rintro c st2 ⟨rfl, m, rfl, a1, a2, a3⟩
    exact wpS_pure (q m a1 a2 a3)
end
end L2
namespace L2
open PySem PySem.Spec PyProof.Rows
def mLo : Array Keyed → Array Keyed → StateT SortSt Sem (Array Keyed) := sortPriv% PySem.Builtin.mergeLo
def mHi : Array Keyed → Array Keyed → StateT SortSt Sem (Array Keyed) := sortPriv% PySem.Builtin.mergeHi
def setMg : Nat → StateT SortSt Sem Unit := sortPriv% PySem.Builtin.setMinGallop
section
variable {rk : Value → Nat}
def SL (rk : Value → Nat) (l : List Keyed) : Prop := l.Pairwise fun x y => rk x.1 < rk y.1
def Be (rk : Value → Nat) (xs ys : List Keyed) : Prop := ∀ x ∈ xs, ∀ y ∈ ys, rk x.1 < rk y.1
def ML (rk : Value → Nat) (A B out al bl : List Keyed) : Prop := ∃ a1 b1, A = a1 ++ al ∧ B = b1 ++ bl ∧ out.Perm (a1 ++ b1) ∧ SL rk out ∧ Be rk out al ∧ Be rk out bl
def Mrg (rk : Value → Nat) (A B r : List Keyed) : Prop := r.Perm (A ++ B) ∧ SL rk r
theorem ML.swap {A B out al bl : List Keyed} (h : ML rk A B out al bl) : ML rk B A out bl al := by
 obtain ⟨a1, b1, e1, e2, p, s, q1, q2⟩ := h
 exact ⟨b1, a1, e2, e1, p.trans List.perm_append_comm, s, q2, q1⟩
theorem ML.a {A B out xs al bl : List Keyed} (sa : SL rk A) (h : ML rk A B out (xs ++ al) bl) (hx : Be rk xs bl) : ML rk A B (out ++ xs) al bl := by
 obtain ⟨a1, b1, e1, e2, p, s, q1, q2⟩ := h
 have sx : SL rk (xs ++ al) := by
  unfold SL at sa
  rw [e1, List.pairwise_append] at sa
  exact sa.2.1
 unfold SL at sx
 rw [List.pairwise_append] at sx
 refine ⟨a1 ++ xs, b1, by rw [e1, List.append_assoc], e2, ?_, ?_, ?_, ?_⟩
 ·refine (p.append_right xs).trans ?_
  rw [List.append_assoc, List.append_assoc]
  exact List.Perm.append_left _ List.perm_append_comm
 ·unfold SL
  rw [List.pairwise_append]
  exact ⟨s, sx.1, fun x hx y hy => q1 x hx y (List.mem_append_left _ hy)⟩
 ·intro x hx y hy
  rcases List.mem_append.mp hx with hx | hx
  ·exact q1 x hx y (List.mem_append_right _ hy)
  ·exact sx.2.2 x hx y hy
 ·intro x hx' y hy
  rcases List.mem_append.mp hx' with hx' | hx'
  ·exact q2 x hx' y hy
  ·exact hx x hx' y hy
theorem ML.b {A B out xs al bl : List Keyed} (sb : SL rk B) (h : ML rk A B out al (xs ++ bl)) (hx : Be rk xs al) : ML rk A B (out ++ xs) al bl := (h.swap.a sb hx).swap
theorem ML.fin {A B out al : List Keyed} (sa : SL rk A) (h : ML rk A B out al []) : Mrg rk A B (out ++ al) := by
 have h : ML rk A B out (al ++ []) [] := by rw [List.append_nil]; exact h
 obtain ⟨a1, b1, e1, e2, p, s, _⟩ := h.a sa fun _ _ _ h => (nomatch h)
 rw [List.append_nil] at e1 e2
 rw [e1, e2]
 exact ⟨p, s⟩
theorem ML.fin2 {A B out al bl : List Keyed} (sa : SL rk A) (sb : SL rk B) (h : ML rk A B out al bl) (hx : Be rk bl al) : Mrg rk A B (out ++ bl ++ al) := by
 have h : ML rk A B out al (bl ++ []) := by rw [List.append_nil]; exact h
 exact (h.b sb hx).fin sa
end
section
variable {P : Program} {w : World} {A : Around} {E : Value → Shared → Prop} {s : Shared} {kd : SortKind} {rk : Value → Nat} {good : Value → Prop}
def SameS (st st' : SortSt) : Prop := arrOf st' = arrOf st ∧ kindOf st' = kindOf st ∧ failedOf st' = failedOf st ∧ pendingOf st' = pendingOf st
theorem SameS.refl (st : SortSt) : SameS st st := ⟨rfl, rfl, rfl, rfl⟩
theorem SameS.trans {a b c : SortSt} (h : SameS a b) (g : SameS b c) : SameS a c := ⟨g.1.trans h.1, g.2.1.trans h.2.1, g.2.2.1.trans h.2.2.1, g.2.2.2.trans h.2.2.2⟩
theorem w_setMg {g : Nat} {st : SortSt} {Q : Unit → SortSt → Prop} (q : ∀ st', SameS st st' → Q () st') : wpS (model P w) A E s (setMg g) Q st := wpS_modify (q _ (by cases st; exact ⟨rfl, rfl, rfl, rfl⟩))
structure Two (rk : Value → Nat) (good : Value → Prop) (a b : Array Keyed) : Prop where
 sa : SL rk a.toList
 sb : SL rk b.toList
 ga : ∀ p ∈ a.toList, good p.1
 gb : ∀ p ∈ b.toList, good p.1
 ne : ∀ x ∈ a.toList, ∀ y ∈ b.toList, rk x.1 ≠ rk y.1
theorem dropA {a : Array Keyed} {i : Nat} (h : i < a.size) : a.toList.drop i = a[i] :: a.toList.drop (i + 1) := by
 rw [List.drop_eq_getElem_cons (by simpa using h)]
 simp
theorem extA (a : Array Keyed) (i k : Nat) (h : i + k ≤ a.size) : a.toList.drop i = (a.extract i (i + k)).toList ++ a.toList.drop (i + k) := by
 rw [Array.toList_extract]
 have e : i + k - i = k := by omega
 simp only [List.extract_eq_drop_take, e]
 rw [← List.drop_drop, List.take_append_drop]
theorem ext_end (a : Array Keyed) (i : Nat) : (a.extract i a.size).toList = a.toList.drop i := by
 rw [Array.toList_extract, List.extract_eq_drop_take, List.take_of_length_le (by simp)]
theorem ext_get {a : Array Keyed} {i k : Nat} {x : Keyed} (h : i + k ≤ a.size) (hx : x ∈ (a.extract i (i + k)).toList) : ∃ j, j < k ∧ ∃ hj : i + j < a.size, x = a[i + j] := by
 obtain ⟨j, hj, e⟩ := Array.mem_iff_getElem.mp (Array.mem_def.mpr hx)
 have hj' : j < k := by simp at hj; omega
 exact ⟨j, hj', by omega, by rw [← e]; simp⟩
theorem drop_get {a : Array Keyed} {i : Nat} {x : Keyed} (hx : x ∈ a.toList.drop i) : ∃ j, i ≤ j ∧ ∃ hj : j < a.size, x = a[j] := by
 obtain ⟨k, hk, e⟩ := List.mem_iff_getElem.mp hx
 rw [List.length_drop] at hk
 refine ⟨i + k, by omega, by simp at hk; omega, ?_⟩
 rw [← e, List.getElem_drop]
 simp
theorem SL.lt {a : Array Keyed} (h : SL rk a.toList) {i j : Nat} (hij : i < j) (hj : j < a.size) : rk (a[i]'(by omega)).1 < rk a[j].1 := by
 have := List.pairwise_iff_getElem.mp h i j (by simp; omega) (by simpa using hj) hij
 simpa using this
theorem SL.le {a : Array Keyed} (h : SL rk a.toList) {i j : Nat} (hij : i ≤ j) (hj : j < a.size) : rk (a[i]'(by omega)).1 ≤ rk a[j].1 := by
 rcases Nat.lt_or_ge i j with c | c
 ·exact Nat.le_of_lt (h.lt c hj)
 ·have : i = j := by omega
  subst this
  exact Nat.le_refl _
structure LI (rk : Value → Nat) (a b out : Array Keyed) (ia ib : Nat) : Prop where
 ml : ML rk a.toList b.toList out.toList (a.toList.drop ia) (b.toList.drop ib)
 ia : ia + 1 < a.size
 ib : ib < b.size
def LastA (rk : Value → Nat) (a b : Array Keyed) : Prop := ∀ (h : 0 < a.size), ∀ y ∈ b.toList, rk y.1 < rk (a[a.size - 1]).1
theorem push_list (out : Array Keyed) (x : Keyed) : (out.push x).toList = out.toList ++ [x] := by simp
theorem ml_pa {a b out : Array Keyed} {ia ib : Nat} (T : Two rk good a b) (h : ML rk a.toList b.toList out.toList (a.toList.drop ia) (b.toList.drop ib)) (hi : ia < a.size) (hx : ∀ y ∈ b.toList.drop ib, rk a[ia].1 < rk y.1) : ML rk a.toList b.toList (out.push a[ia]).toList (a.toList.drop (ia + 1)) (b.toList.drop ib) := by
 rw [push_list]
 refine ML.a T.sa (xs := [a[ia]]) ?_ fun x h y hy => ?_
 ·rw [List.singleton_append, ← dropA hi]; exact h
 ·rw [List.mem_singleton.mp h]; exact hx y hy
theorem ml_pb {a b out : Array Keyed} {ia ib : Nat} (T : Two rk good a b) (h : ML rk a.toList b.toList out.toList (a.toList.drop ia) (b.toList.drop ib)) (hi : ib < b.size) (hx : ∀ y ∈ a.toList.drop ia, rk b[ib].1 < rk y.1) : ML rk a.toList b.toList (out.push b[ib]).toList (a.toList.drop ia) (b.toList.drop (ib + 1)) := by
 rw [push_list]
 refine ML.b T.sb (xs := [b[ib]]) ?_ fun x h y hy => ?_
 ·rw [List.singleton_append, ← dropA hi]; exact h
 ·rw [List.mem_singleton.mp h]; exact hx y hy
theorem ml_xa {a b out : Array Keyed} {ia ib k : Nat} (T : Two rk good a b) (h : ML rk a.toList b.toList out.toList (a.toList.drop ia) (b.toList.drop ib)) (hi : ia + k ≤ a.size) (hx : Be rk (a.extract ia (ia + k)).toList (b.toList.drop ib)) : ML rk a.toList b.toList (out ++ a.extract ia (ia + k)).toList (a.toList.drop (ia + k)) (b.toList.drop ib) := by
 rw [Array.toList_append]
 refine ML.a T.sa ?_ hx
 rw [← extA a ia k hi]; exact h
theorem ml_xb {a b out : Array Keyed} {ia ib k : Nat} (T : Two rk good a b) (h : ML rk a.toList b.toList out.toList (a.toList.drop ia) (b.toList.drop ib)) (hi : ib + k ≤ b.size) (hx : Be rk (b.extract ib (ib + k)).toList (a.toList.drop ia)) : ML rk a.toList b.toList (out ++ b.extract ib (ib + k)).toList (a.toList.drop ia) (b.toList.drop (ib + k)) := by
 rw [Array.toList_append]
 refine ML.b T.sb ?_ hx
 rw [← extA b ib k hi]; exact h
theorem ml_done {a b out : Array Keyed} {ia ib : Nat} (T : Two rk good a b) (h : ML rk a.toList b.toList out.toList (a.toList.drop ia) (b.toList.drop ib)) (e : ib = b.size) : Mrg rk a.toList b.toList (out ++ a.extract ia a.size ++ b.extract ib b.size).toList := by
 have eb : b.toList.drop ib = [] := by rw [e]; simp
 rw [Array.toList_append, Array.toList_append, ext_end, ext_end, eb, List.append_nil]
 rw [eb] at h
 exact h.fin T.sa
theorem ml_last {a b out : Array Keyed} {ia ib : Nat} (T : Two rk good a b) (hL : LastA rk a b) (h : ML rk a.toList b.toList out.toList (a.toList.drop ia) (b.toList.drop ib)) (e : ia + 1 = a.size) : Mrg rk a.toList b.toList (out ++ b.extract ib b.size ++ a.extract ia a.size).toList := by
 rw [Array.toList_append, Array.toList_append, ext_end, ext_end]
 refine h.fin2 T.sa T.sb fun x hx y hy => ?_
 rw [dropA (by omega)] at hy
 have hn : a.toList.drop (ia + 1) = [] := by rw [e]; simp
 rw [hn, List.mem_singleton] at hy
 rw [hy]
 have := hL (by omega) x (List.mem_of_mem_drop hx)
 have ei : a.size - 1 = ia := by omega
 simpa only [ei] using this
theorem if_both {α : Type} {c : Prop} [Decidable c] {m1 m2 : StateT SortSt Sem α} {Q : α → SortSt → Prop} {st : SortSt} (h1 : wpS (model P w) A E s m1 Q st) (h2 : wpS (model P w) A E s m2 Q st) : wpS (model P w) A E s (if c then m1 else m2) Q st := by
 split
 ·exact h1
 ·exact h2
theorem bey_t {key : Keyed} {a : Array Keyed} {i : Nat} (hi : i < a.size) : Bey rk true key a i = decide (rk a[i].1 < rk key.1) := by unfold Bey; rw [if_pos rfl, Rk_at hi]
theorem bey_f {key : Keyed} {a : Array Keyed} {i : Nat} (hi : i < a.size) : Bey rk false key a i = !decide (rk key.1 < rk a[i].1) := by unfold Bey; rw [if_neg Bool.false_ne_true, Rk_at hi]
theorem mem_at {a : Array Keyed} {i : Nat} (h : i < a.size) : a[i] ∈ a.toList := by simp
theorem ifT {α : Type} {c : Prop} [Decidable c] {m1 m2 : StateT SortSt Sem α} {Q : α → SortSt → Prop} {st : SortSt} (h : c) (x : wpS (model P w) A E s m1 Q st) : wpS (model P w) A E s (if c then m1 else m2) Q st := by rw [if_pos h]; exact x
theorem ifF {α : Type} {c : Prop} [Decidable c] {m1 m2 : StateT SortSt Sem α} {Q : α → SortSt → Prop} {st : SortSt} (h : ¬ c) (x : wpS (model P w) A E s m2 Q st) : wpS (model P w) A E s (if c then m1 else m2) Q st := by rw [if_neg h]; exact x
theorem w_st3 {α : Type} {a b out : Array Keyed} {ia ib : Nat} {c : Prop} [Decidable c] {E1 E2 E3 : Keyed → StateT SortSt Sem α} {Q : α → SortSt → Prop} {st : SortSt} (T : Two rk good a b) (hL : LastA rk a b) (h : ML rk a.toList b.toList out.toList (a.toList.drop ia) (b.toList.drop ib)) (h1 : ia + 1 < a.size) (h2 : ib < b.size)
  (hx : ∀ y ∈ b.toList.drop ib, rk (a[ia]'(by omega)).1 < rk y.1)
  (q1 : ∀ x, Mrg rk a.toList b.toList (out.push x ++ b.extract ib b.size ++ a.extract (ia + 1) a.size).toList → wpS (model P w) A E s (E1 x) Q st)
  (q2 : ∀ x, LI rk a b (out.push x) (ia + 1) ib → wpS (model P w) A E s (E2 x) Q st) (q3 : ∀ x, LI rk a b (out.push x) (ia + 1) ib → wpS (model P w) A E s (E3 x) Q st) :
  wpS (model P w) A E s (elem' a ia >>= fun x => if (ia + 1 + 1 == a.size) = true then E1 x else if c then E2 x else E3 x) Q st := by
 refine wpS_bind (w_elem (by omega) ?_)
 have m := ml_pa T h (by omega) hx
 by_cases e : ia + 1 + 1 = a.size
 ·exact ifT (by simpa using e) (q1 _ (ml_last T hL m e))
 ·refine ifF (by simpa using e) ?_
  have li : LI rk a b (out.push (a[ia]'(by omega))) (ia + 1) ib := ⟨m, by omega, h2⟩
  exact if_both (q2 _ li) (q3 _ li)
set_option maxHeartbeats 1000000 in
theorem w_st2 (C : Cmp P w A s kd rk good) {α : Type} {a b out : Array Keyed} {ia ib : Nat} {D1 : Keyed → StateT SortSt Sem α} {K : Keyed → Keyed → Option Nat → StateT SortSt Sem α} {Q : α → SortSt → Prop} {st : SortSt} (T : Two rk good a b) (h : ML rk a.toList b.toList out.toList (a.toList.drop ia) (b.toList.drop ib)) (h1 : ia + 1 < a.size) (h2 : ib < b.size) (hk : kindOf st = kd)
  (hx : ∀ y ∈ a.toList.drop ia, rk b[ib].1 < rk y.1)
  (q1 : ∀ y, Mrg rk a.toList b.toList (out.push y ++ a.extract ia a.size ++ b.extract (ib + 1) b.size).toList → wpS (model P w) A E s (D1 y) Q st)
  (q2 : ∀ x y k, ib + 1 < b.size → ib + 1 + k ≤ b.size → ML rk a.toList b.toList (out.push y ++ b.extract (ib + 1) (ib + 1 + k)).toList (a.toList.drop ia) (b.toList.drop (ib + 1 + k)) → (∀ z ∈ b.toList.drop (ib + 1 + k), rk (a[ia]'(by omega)).1 < rk z.1) → wpS (model P w) A E s (K y x (some k)) Q st) :
  wpS (model P w) A E s (elem' b ib >>= fun y => if (ib + 1 == b.size) = true then D1 y else elem' a ia >>= fun x => gal true x b (ib + 1) (b.size - (ib + 1)) 0 >>= K y x) Q st := by
 refine wpS_bind (w_elem h2 ?_)
 have m := ml_pb T h h2 hx
 by_cases c : ib + 1 = b.size
 ·exact ifT (by simpa using c) (q1 _ (ml_done T m c))
 ·refine ifF (by simpa using c) ?_
  have ha : ia < a.size := by omega
  refine wpS_bind (w_elem ha ?_)
  refine wpS_bind (w_gal C hk T.gb (T.ga _ (mem_at ha)) (by omega) (by omega) (fun i j h3 h4 h5 => ?_) fun k hk1 hk2 hk3 => ?_)
  ·rw [bey_t (by omega)] at h5 ⊢
   have := T.sb.le (i := ib + 1 + i) (j := ib + 1 + j) (by omega) (by omega)
   simp at h5 ⊢
   omega
  ·refine q2 _ _ k (by omega) (by omega) (ml_xb (k := k) T m (by omega) fun x hx y hy => ?_) fun y hy => ?_
   ·obtain ⟨j, h3, h4, rfl⟩ := ext_get (by omega) hx
    obtain ⟨i, h5, h6, rfl⟩ := drop_get hy
    have := hk2 j h3
    rw [bey_t (by omega)] at this
    have := T.sa.le h5 h6
    simp at *
    omega
   ·obtain ⟨j, h3, h4, rfl⟩ := drop_get hy
    have := hk3 (j - (ib + 1)) (by omega) (by omega)
    rw [bey_t (by omega)] at this
    have ej : ib + 1 + (j - (ib + 1)) = j := by omega
    simp only [ej] at this
    have ne := T.ne _ (mem_at ha) _ (mem_at h4)
    simp at this
    omega
set_option maxHeartbeats 1000000 in
theorem w_st1 (C : Cmp P w A s kd rk good) {α : Type} {a b out : Array Keyed} {ia ib g : Nat} {K : Keyed → Option Nat → StateT SortSt Sem α} {Q : α → SortSt → Prop} {st : SortSt} (T : Two rk good a b) (hL : LastA rk a b) (li : LI rk a b out ia ib) (hk : kindOf st = kd)
  (q : ∀ y k st', SameS st st' → ia + k < a.size → ML rk a.toList b.toList (out ++ a.extract ia (ia + k)).toList (a.toList.drop (ia + k)) (b.toList.drop ib) → (∀ z ∈ a.toList.drop (ia + k), rk (b[ib]'li.ib).1 < rk z.1) → wpS (model P w) A E s (K y (some k)) Q st') :
  wpS (model P w) A E s (setMg g >>= fun _ => elem' b ib >>= fun y => gal false y a ia (a.size - ia) 0 >>= K y) Q st := by
 obtain ⟨h, h1, h2⟩ := li
 refine wpS_bind (w_setMg fun st1 s1 => ?_)
 refine wpS_bind (w_elem h2 ?_)
 refine wpS_bind (w_gal C (s1.2.1.trans hk) T.ga (T.gb _ (mem_at h2)) (by omega) (by omega) (fun i j h3 h4 h5 => ?_) fun k q1 q2 q3 => ?_)
 ·rw [bey_f (by omega)] at h5 ⊢
  have := T.sa.le (i := ia + i) (j := ia + j) (by omega) (by omega)
  simp at h5 ⊢
  omega
 ·have lk : ia + k < a.size := by
   refine Decidable.byContradiction fun z => ?_
   have := q2 (a.size - 1 - ia) (by omega)
   rw [bey_f (by omega)] at this
   have ej : ia + (a.size - 1 - ia) = a.size - 1 := by omega
   simp only [ej] at this
   have := hL (by omega) _ (mem_at h2)
   simp at *
   omega
  refine q _ k st1 s1 lk (ml_xa (k := k) T h (by omega) fun x hx y hy => ?_) fun y hy => ?_
  ·obtain ⟨j, h3, h4, rfl⟩ := ext_get (by omega) hx
   obtain ⟨i, h5, h6, rfl⟩ := drop_get hy
   have := q2 j h3
   rw [bey_f (by omega)] at this
   have := T.sb.le h5 h6
   have := T.ne _ (mem_at h4) _ (mem_at h2)
   simp at *
   omega
  ·obtain ⟨j, h3, h4, rfl⟩ := drop_get hy
   have := q3 (j - ia) (by omega) (by omega)
   rw [bey_f (by omega)] at this
   have ej : ia + (j - ia) = j := by omega
   simp only [ej] at this
   simpa using this
theorem ext_nil (out a : Array Keyed) (i : Nat) : out ++ a.extract i (i + 0) = out := by simp [Nat.min_le_left]
set_option maxHeartbeats 2000000 in
theorem w_mLo (C : Cmp P w A s kd rk good) {a b : Array Keyed} {st : SortSt} {Q : Array Keyed → SortSt → Prop} (T : Two rk good a b) (hL : LastA rk a b) (ha : 0 < a.size) (hb : 0 < b.size) (hf : rk b[0].1 < rk a[0].1) (hk : kindOf st = kd)
  (q : ∀ r st', Mrg rk a.toList b.toList r.toList → SameS st st' → Q r st') : wpS (model P w) A E s (mLo a b) Q st := by
 refine wpS_bind (wpS_lift (wpAny_rule ⟨rfl, ?_⟩))
 refine wpS_bind (w_elem hb ?_)
 have m0 : ML rk a.toList b.toList (#[b[0]] : Array Keyed).toList (a.toList.drop 0) (b.toList.drop 1) := by
  have m : ML rk a.toList b.toList (#[] : Array Keyed).toList (a.toList.drop 0) (b.toList.drop 0) := ⟨[], [], rfl, rfl, .nil, .nil, fun _ h => (nomatch h), fun _ h => (nomatch h)⟩
  exact ml_pb T m hb fun y hy => by
   obtain ⟨j, _, h4, rfl⟩ := drop_get hy
   exact Nat.lt_of_lt_of_le hf (T.sa.le (Nat.zero_le _) h4)
 by_cases c1 : 1 = b.size
 ·rw [if_pos (by simpa using c1)]
  exact wpS_pure (q _ _ (ml_done T m0 c1) (.refl _))
 rw [if_neg (by simpa using c1)]
 by_cases c2 : 0 + 1 = a.size
 ·rw [if_pos (by simpa using c2)]
  exact wpS_pure (q _ _ (ml_last T hL m0 c2) (.refl _))
 rw [if_neg (by simpa using c2)]
 refine wpS_bind (wpS_get ?_)
 dsimp only
 refine wpS_bind (wpS_mono (wpS_forRange
  (I := fun x c st' => SameS st st' ∧ ∃ out ia ib mg, c = (none, out, ia, ib, mg) ∧ LI rk a b out ia ib ∧ 1 + x ≤ ia + ib)
  (Q := fun c st' => SameS st st' ∧ ∃ r rest, c = (some r, rest) ∧ Mrg rk a.toList b.toList r.toList) ?_ ?_ ⟨.refl _, _, 0, 1, _, rfl, ⟨m0, by omega, by omega⟩, by omega⟩) ?_)
 ·rintro x c st' _ hx ⟨sm, out, ia, ib, mg, rfl, li, hp⟩
  dsimp only
  refine wpS_bind (wpS_mono (wpS_forRange
   (I := fun y c st2 => SameS st st2 ∧ ∃ out ia ib ac bc, c = (none, out, ia, ib, ac, bc) ∧ LI rk a b out ia ib ∧ 1 + x + y ≤ ia + ib)
   (Q := fun c st2 => SameS st st2 ∧ ((∃ r rest, c = (some r, rest) ∧ Mrg rk a.toList b.toList r.toList) ∨ ∃ out ia ib ac bc, c = (none, out, ia, ib, ac, bc) ∧ LI rk a b out ia ib ∧ 2 + x ≤ ia + ib)) ?_ ?_ ⟨sm, out, ia, ib, 0, 0, rfl, li, by omega⟩) ?_)
  ·rintro y c st2 _ hy ⟨sm2, out, ia, ib, ac, bc, rfl, ⟨m, h1, h2⟩, hp2⟩
   dsimp only
   have hia : ia < a.size := by omega
   refine wpS_bind (w_elem h2 (wpS_bind (w_elem hia (wpS_bind (w_lt C (sm2.2.1.trans hk) (T.gb _ (mem_at h2)) (T.ga _ (mem_at hia)) ?_)))))
   dsimp only
   by_cases cb : rk b[ib].1 < rk a[ia].1
   ·rw [if_pos (by simpa using cb)]
    refine wpS_bind (w_elem h2 ?_)
    have m2 := ml_pb T m h2 fun y hy => by
     obtain ⟨j, h3, h4, rfl⟩ := drop_get hy
     exact Nat.lt_of_lt_of_le cb (T.sa.le h3 h4)
    by_cases e : ib + 1 = b.size
    ·rw [if_pos (by simpa using e)]
     exact wpS_pure ⟨sm2, .inl ⟨_, _, rfl, ml_done T m2 e⟩⟩
    ·rw [if_neg (by simpa using e)]
     have li2 : LI rk a b (out.push b[ib]) ia (ib + 1) := ⟨m2, h1, by omega⟩
     split
     ·exact wpS_pure ⟨sm2, .inr ⟨_, _, _, _, _, rfl, li2, by omega⟩⟩
     ·exact wpS_pure ⟨sm2, _, _, _, _, _, rfl, li2, by omega⟩
   ·rw [if_neg (by simpa using cb)]
    refine wpS_bind (w_elem hia ?_)
    have m2 := ml_pa T m hia fun y hy => by
     obtain ⟨j, h3, h4, rfl⟩ := drop_get hy
     have := T.sb.le h3 h4
     have := T.ne _ (mem_at hia) _ (mem_at h2)
     omega
    by_cases e : ia + 1 + 1 = a.size
    ·rw [if_pos (by simpa using e)]
     exact wpS_pure ⟨sm2, .inl ⟨_, _, rfl, ml_last T hL m2 e⟩⟩
    ·rw [if_neg (by simpa using e)]
     have li2 : LI rk a b (out.push a[ia]) (ia + 1) ib := ⟨m2, by omega, h2⟩
     split
     ·exact wpS_pure ⟨sm2, .inr ⟨_, _, _, _, _, rfl, li2, by omega⟩⟩
     ·exact wpS_pure ⟨sm2, _, _, _, _, _, rfl, li2, by omega⟩
  ·rintro c st2 ⟨sm2, out, ia, ib, ac, bc, rfl, li2, hp2⟩
   exact ⟨sm2, .inr ⟨_, _, _, _, _, rfl, li2, by omega⟩⟩
  ·rintro c st2 ⟨sm2, (⟨r, rest, rfl, hr⟩ | ⟨out, ia, ib, ac, bc, rfl, li2, hp2⟩)⟩
   ·exact wpS_pure ⟨sm2, _, _, rfl, hr⟩
   ·dsimp only
    refine wpS_bind (wpS_lift (wpAny_rule ⟨rfl, ?_⟩))
    refine wpS_bind (wpS_mono (wpS_forRange
     (I := fun y c st3 => SameS st st3 ∧ ∃ out ia ib mg ac bc, c = (none, out, ia, ib, mg, ac, bc) ∧ LI rk a b out ia ib ∧ 2 + x ≤ ia + ib)
     (Q := fun c st3 => SameS st st3 ∧ ((∃ r rest, c = (some r, rest) ∧ Mrg rk a.toList b.toList r.toList) ∨ ∃ out ia ib mg ac bc, c = (none, out, ia, ib, mg, ac, bc) ∧ LI rk a b out ia ib ∧ 2 + x ≤ ia + ib)) ?_ ?_ ⟨sm2, out, ia, ib, mg + 1, ac, bc, rfl, li2, hp2⟩) ?_)
    ·rintro y c st3 _ hy ⟨sm3, out, ia, ib, mg, ac, bc, rfl, li3, hp3⟩
     refine if_both ?_ ?_ <;> refine w_st1 (out := out) (ia := ia) (ib := ib) C T hL li3 (sm3.2.1.trans hk) fun y k st4 s4 lk m4 lo => ?_
     all_goals
      have sm4 := sm3.trans s4
      by_cases k0 : k > 0
      ·refine ifT k0 ?_
       by_cases e1 : ia + k + 1 = a.size
       ·exact ifT (by simpa using e1) (wpS_pure ⟨sm4, .inl ⟨_, _, rfl, ml_last T hL m4 e1⟩⟩)
       ·refine ifF (by simpa using e1) (ifF (by simp; omega) ?_)
        refine w_st2 (out := out ++ a.extract ia (ia + k)) (ia := ia + k) (ib := ib) C T m4 (by omega) li3.ib (sm4.2.1.trans hk) lo (fun y h => wpS_pure ⟨sm4, .inl ⟨_, _, rfl, h⟩⟩) fun x' y' j j1 j2 m5 lo2 => ?_
        by_cases j0 : j > 0
        ·refine ifT j0 ?_
         by_cases e2 : ib + 1 + j = b.size
         ·exact ifT (by simpa using e2) (wpS_pure ⟨sm4, .inl ⟨_, _, rfl, ml_done T m5 e2⟩⟩)
         ·refine ifF (by simpa using e2) ?_
          exact w_st3 (ia := ia + k) (ib := ib + 1 + j) T hL m5 (by omega) (by omega) lo2 (fun x' h => wpS_pure ⟨sm4, .inl ⟨_, _, rfl, h⟩⟩) (fun x' h => wpS_pure ⟨sm4, .inr ⟨_, _, _, _, _, _, rfl, h, (show 2 + x ≤ ia + k + 1 + (ib + 1 + j) by omega)⟩⟩) fun x' h => wpS_pure ⟨sm4, _, _, _, _, _, _, rfl, h, (show 2 + x ≤ ia + k + 1 + (ib + 1 + j) by omega)⟩
        ·refine ifF j0 ?_
         have z : j = 0 := by omega
         subst z
         rw [ext_nil] at m5
         exact w_st3 (ia := ia + k) (ib := ib + 1) T hL m5 (by omega) (by omega) lo2 (fun x' h => wpS_pure ⟨sm4, .inl ⟨_, _, rfl, h⟩⟩) (fun x' h => wpS_pure ⟨sm4, .inr ⟨_, _, _, _, _, _, rfl, h, (show 2 + x ≤ ia + k + 1 + (ib + 1) by omega)⟩⟩) fun x' h => wpS_pure ⟨sm4, _, _, _, _, _, _, rfl, h, (show 2 + x ≤ ia + k + 1 + (ib + 1) by omega)⟩
      ·refine ifF k0 ?_
       have z : k = 0 := by omega
       subst z
       rw [ext_nil] at m4
       refine w_st2 (out := out) (ia := ia) (ib := ib) C T m4 li3.ia li3.ib (sm4.2.1.trans hk) lo (fun y h => wpS_pure ⟨sm4, .inl ⟨_, _, rfl, h⟩⟩) fun x' y' j j1 j2 m5 lo2 => ?_
       by_cases j0 : j > 0
       ·refine ifT j0 ?_
        by_cases e2 : ib + 1 + j = b.size
        ·exact ifT (by simpa using e2) (wpS_pure ⟨sm4, .inl ⟨_, _, rfl, ml_done T m5 e2⟩⟩)
        ·refine ifF (by simpa using e2) ?_
         exact w_st3 (ia := ia) (ib := ib + 1 + j) T hL m5 li3.ia (by omega) lo2 (fun x' h => wpS_pure ⟨sm4, .inl ⟨_, _, rfl, h⟩⟩) (fun x' h => wpS_pure ⟨sm4, .inr ⟨_, _, _, _, _, _, rfl, h, (show 2 + x ≤ ia + 1 + (ib + 1 + j) by omega)⟩⟩) fun x' h => wpS_pure ⟨sm4, _, _, _, _, _, _, rfl, h, (show 2 + x ≤ ia + 1 + (ib + 1 + j) by omega)⟩
       ·refine ifF j0 ?_
        have z : j = 0 := by omega
        subst z
        rw [ext_nil] at m5
        exact w_st3 (ia := ia) (ib := ib + 1) T hL m5 li3.ia (by omega) lo2 (fun x' h => wpS_pure ⟨sm4, .inl ⟨_, _, rfl, h⟩⟩) (fun x' h => wpS_pure ⟨sm4, .inr ⟨_, _, _, _, _, _, rfl, h, (show 2 + x ≤ ia + 1 + (ib + 1) by omega)⟩⟩) fun x' h => wpS_pure ⟨sm4, _, _, _, _, _, _, rfl, h, (show 2 + x ≤ ia + 1 + (ib + 1) by omega)⟩
    ·rintro c st3 ⟨sm3, out, ia, ib, mg, ac, bc, rfl, li3, hp3⟩
     exact ⟨sm3, .inr ⟨_, _, _, _, _, _, rfl, li3, hp3⟩⟩
    ·rintro c st3 ⟨sm3, (⟨r, rest, rfl, hr⟩ | ⟨out, ia, ib, mg, ac, bc, rfl, li3, hp3⟩)⟩
     ·exact wpS_pure ⟨sm3, _, _, rfl, hr⟩
     ·dsimp only
      refine wpS_bind (w_setMg fun st4 s4 => wpS_pure ⟨sm3.trans s4, _, _, _, _, rfl, li3, by omega⟩)
 ·rintro c st' ⟨sm, out, ia, ib, mg, rfl, ⟨_, h1, h2⟩, hp⟩
  omega
 ·rintro c st' ⟨sm, r, rest, rfl, hr⟩
  exact wpS_pure (q r st' hr sm)
end
end L2
namespace L2
open PySem PySem.Spec PyProof.Rows
section
variable {rk : Value → Nat}
def MH (rk : Value → Nat) (A B o ah bh : List Keyed) : Prop := ∃ a2 b2, A = ah ++ a2 ∧ B = bh ++ b2 ∧ o.Perm (a2 ++ b2) ∧ SL rk o ∧ Be rk ah o ∧ Be rk bh o
theorem MH.swap {A B o ah bh : List Keyed} (h : MH rk A B o ah bh) : MH rk B A o bh ah := by
 obtain ⟨a1, b1, e1, e2, p, s, q1, q2⟩ := h
 exact ⟨b1, a1, e2, e1, p.trans List.perm_append_comm, s, q2, q1⟩
theorem MH.a {A B o xs ah bh : List Keyed} (sa : SL rk A) (h : MH rk A B o (ah ++ xs) bh) (hx : Be rk bh xs) : MH rk A B (xs ++ o) ah bh := by
 obtain ⟨a2, b2, e1, e2, p, s, q1, q2⟩ := h
 have sx : SL rk (ah ++ xs) := by
  unfold SL at sa
  rw [e1, List.pairwise_append] at sa
  exact sa.1
 unfold SL at sx
 rw [List.pairwise_append] at sx
 refine ⟨xs ++ a2, b2, by rw [e1, List.append_assoc], e2, ?_, ?_, ?_, ?_⟩
 ·rw [List.append_assoc]
  exact p.append_left xs
 ·unfold SL
  rw [List.pairwise_append]
  exact ⟨sx.2.1, s, fun x hx y hy => q1 x (List.mem_append_right _ hx) y hy⟩
 ·intro x hx y hy
  rcases List.mem_append.mp hy with hy | hy
  ·exact sx.2.2 x hx y hy
  ·exact q1 x (List.mem_append_left _ hx) y hy
 ·intro x hx' y hy
  rcases List.mem_append.mp hy with hy | hy
  ·exact hx x hx' y hy
  ·exact q2 x hx' y hy
theorem MH.b {A B o xs ah bh : List Keyed} (sb : SL rk B) (h : MH rk A B o ah (bh ++ xs)) (hx : Be rk ah xs) : MH rk A B (xs ++ o) ah bh := (h.swap.a sb hx).swap
theorem MH.fin {A B o bh : List Keyed} (sb : SL rk B) (h : MH rk A B o [] bh) : Mrg rk A B (bh ++ o) := by
 have h : MH rk A B o [] ([] ++ bh) := h
 obtain ⟨a2, b2, e1, e2, p, s, _⟩ := h.b sb fun _ h => (nomatch h)
 rw [List.nil_append] at e1 e2
 rw [e1, e2]
 exact ⟨p, s⟩
theorem MH.fin2 {A B o ah bh : List Keyed} (sa : SL rk A) (sb : SL rk B) (h : MH rk A B o ah bh) (hx : Be rk bh ah) : Mrg rk A B (bh ++ ah ++ o) := by
 have h : MH rk A B o ([] ++ ah) bh := h
 rw [List.append_assoc]
 exact (h.a sa hx).fin sb
end
section
variable {P : Program} {w : World} {A : Around} {E : Value → Shared → Prop} {s : Shared} {kd : SortKind} {rk : Value → Nat} {good : Value → Prop}
theorem takeA {a : Array Keyed} {i : Nat} (h : i < a.size) : a.toList.take (i + 1) = a.toList.take i ++ [a[i]] := by
 rw [List.take_succ, List.getElem?_eq_getElem (by simpa using h)]
 simp
theorem extT (a : Array Keyed) {i n : Nat} (h : i ≤ n) : a.toList.take n = a.toList.take i ++ (a.extract i n).toList := by
 rw [Array.toList_extract, List.extract_eq_drop_take]
 have e : n = i + (n - i) := by omega
 conv => lhs; rw [e, List.take_add]
theorem ext_beg (a : Array Keyed) (n : Nat) : (a.extract 0 n).toList = a.toList.take n := by
 rw [Array.toList_extract, List.extract_eq_drop_take]
 simp
theorem take_get {a : Array Keyed} {n : Nat} {x : Keyed} (hx : x ∈ a.toList.take n) : ∃ j, j < n ∧ ∃ hj : j < a.size, x = a[j] := by
 obtain ⟨k, hk, e⟩ := List.mem_iff_getElem.mp hx
 rw [List.length_take] at hk
 simp at hk
 refine ⟨k, by omega, by omega, ?_⟩
 rw [← e, List.getElem_take]
 simp
theorem ext_get2 {a : Array Keyed} {i n : Nat} {x : Keyed} (h : n ≤ a.size) (hx : x ∈ (a.extract i n).toList) : ∃ j, i ≤ j ∧ j < n ∧ ∃ hj : j < a.size, x = a[j] := by
 obtain ⟨j, hj, e⟩ := Array.mem_iff_getElem.mp (Array.mem_def.mpr hx)
 have hj' : i + j < n := by simp at hj; omega
 exact ⟨i + j, by omega, hj', by omega, by rw [← e]; simp⟩
def FirstB (rk : Value → Nat) (a b : Array Keyed) : Prop := ∀ (h : 0 < b.size), ∀ x ∈ a.toList, rk b[0].1 < rk x.1
structure HI (rk : Value → Nat) (a b out : Array Keyed) (na nb : Nat) : Prop where
 mh : MH rk a.toList b.toList out.toList.reverse (a.toList.take na) (b.toList.take nb)
 pa : 0 < na
 pb : 1 < nb
 la : na ≤ a.size
 lb : nb ≤ b.size
theorem mh_pa {a b out : Array Keyed} {na nb : Nat} (T : Two rk good a b) (h : MH rk a.toList b.toList out.toList.reverse (a.toList.take na) (b.toList.take nb)) (h0 : 0 < na) (hi : na ≤ a.size) (hx : ∀ y ∈ b.toList.take nb, rk y.1 < rk (a[na - 1]'(by omega)).1) : MH rk a.toList b.toList (out.push (a[na - 1]'(by omega))).toList.reverse (a.toList.take (na - 1)) (b.toList.take nb) := by
 rw [push_list, List.reverse_append]
 refine MH.a T.sa (xs := [a[na - 1]'(by omega)]) ?_ fun x hx' y hy => ?_
 ·have e := takeA (a := a) (i := na - 1) (by omega)
  have e1 : na - 1 + 1 = na := by omega
  rw [e1] at e
  rw [← e]
  exact h
 ·rw [List.mem_singleton.mp hy]; exact hx x hx'
theorem mh_pb {a b out : Array Keyed} {na nb : Nat} (T : Two rk good a b) (h : MH rk a.toList b.toList out.toList.reverse (a.toList.take na) (b.toList.take nb)) (h0 : 0 < nb) (hi : nb ≤ b.size) (hx : ∀ y ∈ a.toList.take na, rk y.1 < rk (b[nb - 1]'(by omega)).1) : MH rk a.toList b.toList (out.push (b[nb - 1]'(by omega))).toList.reverse (a.toList.take na) (b.toList.take (nb - 1)) := by
 rw [push_list, List.reverse_append]
 refine MH.b T.sb (xs := [b[nb - 1]'(by omega)]) ?_ fun x hx' y hy => ?_
 ·have e := takeA (a := b) (i := nb - 1) (by omega)
  have e1 : nb - 1 + 1 = nb := by omega
  rw [e1] at e
  rw [← e]
  exact h
 ·rw [List.mem_singleton.mp hy]; exact hx x hx'
theorem rev_app (out xs : Array Keyed) : (out ++ xs.reverse).toList.reverse = xs.toList ++ out.toList.reverse := by simp
theorem mh_xa {a b out : Array Keyed} {na nb m : Nat} (T : Two rk good a b) (h : MH rk a.toList b.toList out.toList.reverse (a.toList.take na) (b.toList.take nb)) (hi : m ≤ na) (hx : Be rk (b.toList.take nb) (a.extract m na).toList) : MH rk a.toList b.toList (out ++ (a.extract m na).reverse).toList.reverse (a.toList.take m) (b.toList.take nb) := by
 rw [rev_app]
 refine MH.a T.sa ?_ hx
 rw [← extT a hi]
 exact h
theorem mh_xb {a b out : Array Keyed} {na nb m : Nat} (T : Two rk good a b) (h : MH rk a.toList b.toList out.toList.reverse (a.toList.take na) (b.toList.take nb)) (hi : m ≤ nb) (hx : Be rk (a.toList.take na) (b.extract m nb).toList) : MH rk a.toList b.toList (out ++ (b.extract m nb).reverse).toList.reverse (a.toList.take na) (b.toList.take m) := by
 rw [rev_app]
 refine MH.b T.sb ?_ hx
 rw [← extT b hi]
 exact h
theorem mh_done {a b out : Array Keyed} {na nb : Nat} (T : Two rk good a b) (h : MH rk a.toList b.toList out.toList.reverse (a.toList.take na) (b.toList.take nb)) (e : na = 0) : Mrg rk a.toList b.toList (a.extract 0 na ++ b.extract 0 nb ++ out.reverse).toList := by
 subst e
 rw [Array.toList_append, Array.toList_append, ext_beg, ext_beg, List.take_zero, List.nil_append, Array.toList_reverse]
 rw [List.take_zero] at h
 exact h.fin T.sb
theorem mh_first {a b out : Array Keyed} {na nb : Nat} (T : Two rk good a b) (hF : FirstB rk a b) (hb : 0 < b.size) (h : MH rk a.toList b.toList out.toList.reverse (a.toList.take na) (b.toList.take nb)) (e : nb = 1) : Mrg rk a.toList b.toList (b.extract 0 nb ++ a.extract 0 na ++ out.reverse).toList := by
 rw [Array.toList_append, Array.toList_append, ext_beg, ext_beg, Array.toList_reverse]
 refine h.fin2 T.sa T.sb fun x hx y hy => ?_
 obtain ⟨j, h1, h2, rfl⟩ := take_get hx
 have z : j = 0 := by omega
 subst z
 exact hF hb y (List.mem_of_mem_take hy)
theorem w_ht3 {α : Type} {a b out : Array Keyed} {na nb : Nat} {c : Prop} [Decidable c] {E1 E2 E3 : Keyed → StateT SortSt Sem α} {Q : α → SortSt → Prop} {st : SortSt} (T : Two rk good a b) (h : MH rk a.toList b.toList out.toList.reverse (a.toList.take na) (b.toList.take nb)) (h1 : 0 < na) (h2 : 1 < nb) (h3 : na ≤ a.size) (h4 : nb ≤ b.size)
  (hx : ∀ y ∈ b.toList.take nb, rk y.1 < rk (a[na - 1]'(by omega)).1)
  (q1 : ∀ x, Mrg rk a.toList b.toList (a.extract 0 (na - 1) ++ b.extract 0 nb ++ (out.push x).reverse).toList → wpS (model P w) A E s (E1 x) Q st)
  (q2 : ∀ x, HI rk a b (out.push x) (na - 1) nb → wpS (model P w) A E s (E2 x) Q st) (q3 : ∀ x, HI rk a b (out.push x) (na - 1) nb → wpS (model P w) A E s (E3 x) Q st) :
  wpS (model P w) A E s (elem' a (na - 1) >>= fun x => if (na - 1 == 0) = true then E1 x else if c then E2 x else E3 x) Q st := by
 refine wpS_bind (w_elem (by omega) ?_)
 have m := mh_pa T h h1 h3 hx
 by_cases e : na - 1 = 0
 ·exact ifT (by simpa using e) (q1 _ (mh_done T m e))
 ·refine ifF (by simpa using e) ?_
  have li : HI rk a b (out.push (a[na - 1]'(by omega))) (na - 1) nb := ⟨m, by omega, h2, by omega, h4⟩
  exact if_both (q2 _ li) (q3 _ li)
set_option maxHeartbeats 1000000 in
theorem w_ht2 (C : Cmp P w A s kd rk good) {α : Type} {a b out : Array Keyed} {na nb : Nat} {D1 : Keyed → StateT SortSt Sem α} {K : Keyed → Keyed → Option Nat → StateT SortSt Sem α} {Q : α → SortSt → Prop} {st : SortSt} (T : Two rk good a b) (hF : FirstB rk a b) (h : MH rk a.toList b.toList out.toList.reverse (a.toList.take na) (b.toList.take nb)) (h1 : 0 < na) (h2 : 1 < nb) (h3 : na ≤ a.size) (h4 : nb ≤ b.size) (hk : kindOf st = kd)
  (hx : ∀ y ∈ a.toList.take na, rk y.1 < rk (b[nb - 1]'(by omega)).1)
  (q1 : ∀ y, Mrg rk a.toList b.toList (b.extract 0 (nb - 1) ++ a.extract 0 na ++ (out.push y).reverse).toList → wpS (model P w) A E s (D1 y) Q st)
  (q2 : ∀ x y m, 1 < nb - 1 → 0 < m → m ≤ nb - 1 → MH rk a.toList b.toList (out.push y ++ (b.extract m (nb - 1)).reverse).toList.reverse (a.toList.take na) (b.toList.take m) → (∀ z ∈ b.toList.take m, rk z.1 < rk (a[na - 1]'(by omega)).1) → wpS (model P w) A E s (K y x (some m)) Q st) :
  wpS (model P w) A E s (elem' b (nb - 1) >>= fun y => if (nb - 1 == 1) = true then D1 y else elem' a (na - 1) >>= fun x => gal true x b 0 (nb - 1) (nb - 1 - 1) >>= K y x) Q st := by
 refine wpS_bind (w_elem (by omega) ?_)
 have m := mh_pb T h (by omega) h4 hx
 by_cases c : nb - 1 = 1
 ·exact ifT (by simpa using c) (q1 _ (mh_first T hF (by omega) m c))
 ·refine ifF (by simpa using c) ?_
  have ha : na - 1 < a.size := by omega
  refine wpS_bind (w_elem ha ?_)
  refine wpS_bind (w_gal C hk T.gb (T.ga _ (mem_at ha)) (by omega) (by omega) (fun i j h5 h6 h7 => ?_) fun k k1 k2 k3 => ?_)
  ·rw [bey_t (by omega)] at h7 ⊢
   have := T.sb.le (i := 0 + i) (j := 0 + j) (by omega) (by omega)
   simp at h7 this ⊢
   omega
  ·have kp : 0 < k := by
    refine Decidable.byContradiction fun z => ?_
    have := k3 0 (by omega) (by omega)
    rw [bey_t (by omega)] at this
    have := hF (by omega) _ (mem_at ha)
    simp at *
    omega
   refine q2 _ _ k (by omega) kp k1 (mh_xb T m k1 fun x hx y hy => ?_) fun y hy => ?_
   ·obtain ⟨j, j1, j2, rfl⟩ := take_get hx
    obtain ⟨i, i1, i2, i3, rfl⟩ := ext_get2 (by omega) hy
    have := k3 i i1 (by omega)
    rw [bey_t (by omega)] at this
    have := T.sa.le (i := j) (j := na - 1) (by omega) ha
    have := T.ne _ (mem_at ha) _ (mem_at i3)
    simp at *
    omega
   ·obtain ⟨j, j1, j2, rfl⟩ := take_get hy
    have := k2 j j1
    rw [bey_t (by omega)] at this
    simpa using this
set_option maxHeartbeats 1000000 in
theorem w_ht1 (C : Cmp P w A s kd rk good) {α : Type} {a b out : Array Keyed} {na nb g : Nat} {K : Keyed → Option Nat → StateT SortSt Sem α} {Q : α → SortSt → Prop} {st : SortSt} (T : Two rk good a b) (li : HI rk a b out na nb) (hk : kindOf st = kd)
  (q : ∀ y m st', SameS st st' → m ≤ na → MH rk a.toList b.toList (out ++ (a.extract m na).reverse).toList.reverse (a.toList.take m) (b.toList.take nb) → (∀ z ∈ a.toList.take m, rk z.1 < rk (b[nb - 1]'(by have := li.lb; have := li.pb; omega)).1) → wpS (model P w) A E s (K y (some m)) Q st') :
  wpS (model P w) A E s (setMg g >>= fun _ => elem' b (nb - 1) >>= fun y => gal false y a 0 na (na - 1) >>= K y) Q st := by
 obtain ⟨h, h1, h2, h3, h4⟩ := li
 have hb : nb - 1 < b.size := by omega
 refine wpS_bind (w_setMg fun st1 s1 => ?_)
 refine wpS_bind (w_elem hb ?_)
 refine wpS_bind (w_gal C (s1.2.1.trans hk) T.ga (T.gb _ (mem_at hb)) (by omega) (by omega) (fun i j h5 h6 h7 => ?_) fun k k1 k2 k3 => ?_)
 ·rw [bey_f (by omega)] at h7 ⊢
  have := T.sa.le (i := 0 + i) (j := 0 + j) (by omega) (by omega)
  simp at h7 this ⊢
  omega
 ·refine q _ k st1 s1 k1 (mh_xa T h k1 fun x hx y hy => ?_) fun y hy => ?_
  ·obtain ⟨j, j1, j2, rfl⟩ := take_get hx
   obtain ⟨i, i1, i2, i3, rfl⟩ := ext_get2 h3 hy
   have := k3 i i1 i2
   rw [bey_f (by omega)] at this
   have := T.sb.le (i := j) (j := nb - 1) (by omega) hb
   simp at *
   omega
  ·obtain ⟨j, j1, j2, rfl⟩ := take_get hy
   have := k2 j j1
   rw [bey_f (by omega)] at this
   have := T.ne _ (mem_at j2) _ (mem_at hb)
   simp at *
   omega
theorem ext_nil2 (out a : Array Keyed) (n : Nat) : out ++ (a.extract n n).reverse = out := by simp [Nat.min_le_left]
set_option maxHeartbeats 2000000 in
theorem w_mHi (C : Cmp P w A s kd rk good) {a b : Array Keyed} {st : SortSt} {Q : Array Keyed → SortSt → Prop} (T : Two rk good a b) (hL : LastA rk a b) (hF : FirstB rk a b) (ha : 0 < a.size) (hb : 0 < b.size) (hk : kindOf st = kd)
  (q : ∀ r st', Mrg rk a.toList b.toList r.toList → SameS st st' → Q r st') : wpS (model P w) A E s (mHi a b) Q st := by
 refine wpS_bind (wpS_lift (wpAny_rule ⟨rfl, ?_⟩))
 refine wpS_bind (w_elem (show a.size - 1 < a.size by omega) ?_)
 have m0 : MH rk a.toList b.toList (#[a[a.size - 1]] : Array Keyed).toList.reverse (a.toList.take (a.size - 1)) (b.toList.take b.size) := by
  have m : MH rk a.toList b.toList (#[] : Array Keyed).toList.reverse (a.toList.take a.size) (b.toList.take b.size) := ⟨[], [], by rw [List.append_nil, List.take_of_length_le (by simp)], by rw [List.append_nil, List.take_of_length_le (by simp)], .nil, .nil, fun _ _ _ h => (nomatch h), fun _ _ _ h => (nomatch h)⟩
  exact mh_pa T m ha (Nat.le_refl _) fun y hy => hL ha y (List.mem_of_mem_take hy)
 by_cases c1 : a.size - 1 = 0
 ·exact ifT (by simpa using c1) (wpS_pure (q _ _ (mh_done T m0 c1) (.refl _)))
 refine ifF (by simpa using c1) ?_
 by_cases c2 : b.size = 1
 ·exact ifT (by simpa using c2) (wpS_pure (q _ _ (mh_first T hF hb m0 c2) (.refl _)))
 refine ifF (by simpa using c2) ?_
 refine wpS_bind (wpS_get ?_)
 dsimp only
 refine wpS_bind (wpS_mono (wpS_forRange
  (I := fun x c st' => SameS st st' ∧ ∃ na nb out mg, c = (none, na, nb, out, mg) ∧ HI rk a b out na nb ∧ na + nb + 1 + x ≤ a.size + b.size)
  (Q := fun c st' => SameS st st' ∧ ∃ r rest, c = (some r, rest) ∧ Mrg rk a.toList b.toList r.toList) ?_ ?_ ⟨.refl _, _, _, _, _, rfl, ⟨m0, by omega, by omega, by omega, by omega⟩, by omega⟩) ?_)
 ·rintro x c st' _ hx ⟨sm, na, nb, out, mg, rfl, li, hp⟩
  dsimp only
  refine wpS_bind (wpS_mono (wpS_forRange
   (I := fun y c st2 => SameS st st2 ∧ ∃ na nb out ac bc, c = (none, na, nb, out, ac, bc) ∧ HI rk a b out na nb ∧ na + nb + 1 + x + y ≤ a.size + b.size)
   (Q := fun c st2 => SameS st st2 ∧ ((∃ r rest, c = (some r, rest) ∧ Mrg rk a.toList b.toList r.toList) ∨ ∃ na nb out ac bc, c = (none, na, nb, out, ac, bc) ∧ HI rk a b out na nb ∧ na + nb + 2 + x ≤ a.size + b.size)) ?_ ?_ ⟨sm, na, nb, out, 0, 0, rfl, li, by omega⟩) ?_)
  ·rintro y c st2 _ hy ⟨sm2, na, nb, out, ac, bc, rfl, ⟨m, h1, h2, h3, h4⟩, hp2⟩
   dsimp only
   have hia : na - 1 < a.size := by omega
   have hib : nb - 1 < b.size := by omega
   refine wpS_bind (w_elem hib (wpS_bind (w_elem hia (wpS_bind (w_lt C (sm2.2.1.trans hk) (T.gb _ (mem_at hib)) (T.ga _ (mem_at hia)) ?_)))))
   dsimp only
   by_cases cb : rk b[nb - 1].1 < rk a[na - 1].1
   ·refine ifT (by simpa using cb) ?_
    refine wpS_bind (w_elem hia ?_)
    have m2 := mh_pa T m h1 h3 fun y hy => by
     obtain ⟨j, j1, j2, rfl⟩ := take_get hy
     exact Nat.lt_of_le_of_lt (T.sb.le (by omega) hib) cb
    by_cases e : na - 1 = 0
    ·exact ifT (by simpa using e) (wpS_pure ⟨sm2, .inl ⟨_, _, rfl, mh_done T m2 e⟩⟩)
    ·refine ifF (by simpa using e) ?_
     have li2 : HI rk a b (out.push a[na - 1]) (na - 1) nb := ⟨m2, by omega, h2, by omega, h4⟩
     exact if_both (wpS_pure ⟨sm2, .inr ⟨_, _, _, _, _, rfl, li2, by omega⟩⟩) (wpS_pure ⟨sm2, _, _, _, _, _, rfl, li2, by omega⟩)
   ·refine ifF (by simpa using cb) ?_
    refine wpS_bind (w_elem hib ?_)
    have m2 := mh_pb T m (by omega) h4 fun y hy => by
     obtain ⟨j, j1, j2, rfl⟩ := take_get hy
     have := T.sa.le (i := j) (j := na - 1) (by omega) hia
     have := T.ne _ (mem_at hia) _ (mem_at hib)
     omega
    by_cases e : nb - 1 = 1
    ·exact ifT (by simpa using e) (wpS_pure ⟨sm2, .inl ⟨_, _, rfl, mh_first T hF hb m2 e⟩⟩)
    ·refine ifF (by simpa using e) ?_
     have li2 : HI rk a b (out.push b[nb - 1]) na (nb - 1) := ⟨m2, h1, by omega, h3, by omega⟩
     exact if_both (wpS_pure ⟨sm2, .inr ⟨_, _, _, _, _, rfl, li2, by omega⟩⟩) (wpS_pure ⟨sm2, _, _, _, _, _, rfl, li2, by omega⟩)
  ·rintro c st2 ⟨sm2, na, nb, out, ac, bc, rfl, li2, hp2⟩
   exact ⟨sm2, .inr ⟨_, _, _, _, _, rfl, li2, by omega⟩⟩
  ·rintro c st2 ⟨sm2, (⟨r, rest, rfl, hr⟩ | ⟨na, nb, out, ac, bc, rfl, li2, hp2⟩)⟩
   ·exact wpS_pure ⟨sm2, _, _, rfl, hr⟩
   ·dsimp only
    refine wpS_bind (wpS_lift (wpAny_rule ⟨rfl, ?_⟩))
    refine wpS_bind (wpS_mono (wpS_forRange
     (I := fun y c st3 => SameS st st3 ∧ ∃ na nb out mg ac bc, c = (none, na, nb, out, mg, ac, bc) ∧ HI rk a b out na nb ∧ na + nb + 2 + x ≤ a.size + b.size)
     (Q := fun c st3 => SameS st st3 ∧ ((∃ r rest, c = (some r, rest) ∧ Mrg rk a.toList b.toList r.toList) ∨ ∃ na nb out mg ac bc, c = (none, na, nb, out, mg, ac, bc) ∧ HI rk a b out na nb ∧ na + nb + 2 + x ≤ a.size + b.size)) ?_ ?_ ⟨sm2, na, nb, out, mg + 1, ac, bc, rfl, li2, hp2⟩) ?_)
    ·rintro y c st3 _ hy ⟨sm3, na, nb, out, mg, ac, bc, rfl, li3, hp3⟩
     have pb := li3.pb
     have pa := li3.pa
     have la := li3.la
     have lb := li3.lb
     refine if_both ?_ ?_ <;> refine w_ht1 (out := out) (na := na) (nb := nb) C T li3 (sm3.2.1.trans hk) fun y' m st4 s4 lk m4 lo => ?_
     all_goals
      have sm4 := sm3.trans s4
      by_cases k0 : na - m > 0
      ·refine ifT k0 ?_
       by_cases e1 : m = 0
       ·exact ifT (by simpa using e1) (wpS_pure ⟨sm4, .inl ⟨_, _, rfl, mh_done T m4 e1⟩⟩)
       ·refine ifF (by simpa using e1) ?_
        refine w_ht2 (out := out ++ (a.extract m na).reverse) (na := m) (nb := nb) C T hF m4 (by omega) pb (by omega) lb (sm4.2.1.trans hk) lo (fun y h => wpS_pure ⟨sm4, .inl ⟨_, _, rfl, h⟩⟩) fun x' y' j j1 jp j2 m5 lo2 => ?_
        by_cases j0 : nb - 1 - j > 0
        ·refine ifT j0 ?_
         by_cases e2 : j = 1
         ·exact ifT (by simpa using e2) (wpS_pure ⟨sm4, .inl ⟨_, _, rfl, mh_first T hF hb m5 e2⟩⟩)
         ·refine ifF (by simpa using e2) (ifF (by simp; omega) ?_)
          exact w_ht3 (na := m) (nb := j) T m5 (by omega) (by omega) (by omega) (by omega) lo2 (fun x' h => wpS_pure ⟨sm4, .inl ⟨_, _, rfl, h⟩⟩) (fun x' h => wpS_pure ⟨sm4, .inr ⟨_, _, _, _, _, _, rfl, h, (show m - 1 + j + 2 + x ≤ a.size + b.size by omega)⟩⟩) fun x' h => wpS_pure ⟨sm4, _, _, _, _, _, _, rfl, h, (show m - 1 + j + 2 + x ≤ a.size + b.size by omega)⟩
        ·refine ifF j0 ?_
         have z : j = nb - 1 := by omega
         subst z
         rw [ext_nil2] at m5
         exact w_ht3 (na := m) (nb := nb - 1) T m5 (by omega) (by omega) (by omega) (by omega) lo2 (fun x' h => wpS_pure ⟨sm4, .inl ⟨_, _, rfl, h⟩⟩) (fun x' h => wpS_pure ⟨sm4, .inr ⟨_, _, _, _, _, _, rfl, h, (show m - 1 + (nb - 1) + 2 + x ≤ a.size + b.size by omega)⟩⟩) fun x' h => wpS_pure ⟨sm4, _, _, _, _, _, _, rfl, h, (show m - 1 + (nb - 1) + 2 + x ≤ a.size + b.size by omega)⟩
      ·refine ifF k0 ?_
       have z : m = na := by omega
       subst z
       rw [ext_nil2] at m4
       refine w_ht2 (out := out) (na := m) (nb := nb) C T hF m4 pa pb la lb (sm4.2.1.trans hk) lo (fun y h => wpS_pure ⟨sm4, .inl ⟨_, _, rfl, h⟩⟩) fun x' y' j j1 jp j2 m5 lo2 => ?_
       by_cases j0 : nb - 1 - j > 0
       ·refine ifT j0 ?_
        by_cases e2 : j = 1
        ·exact ifT (by simpa using e2) (wpS_pure ⟨sm4, .inl ⟨_, _, rfl, mh_first T hF hb m5 e2⟩⟩)
        ·refine ifF (by simpa using e2) (ifF (by simp; omega) ?_)
         exact w_ht3 (na := m) (nb := j) T m5 pa (by omega) la (by omega) lo2 (fun x' h => wpS_pure ⟨sm4, .inl ⟨_, _, rfl, h⟩⟩) (fun x' h => wpS_pure ⟨sm4, .inr ⟨_, _, _, _, _, _, rfl, h, (show m - 1 + j + 2 + x ≤ a.size + b.size by omega)⟩⟩) fun x' h => wpS_pure ⟨sm4, _, _, _, _, _, _, rfl, h, (show m - 1 + j + 2 + x ≤ a.size + b.size by omega)⟩
       ·refine ifF j0 ?_
        have z : j = nb - 1 := by omega
        subst z
        rw [ext_nil2] at m5
        exact w_ht3 (na := m) (nb := nb - 1) T m5 pa (by omega) la (by omega) lo2 (fun x' h => wpS_pure ⟨sm4, .inl ⟨_, _, rfl, h⟩⟩) (fun x' h => wpS_pure ⟨sm4, .inr ⟨_, _, _, _, _, _, rfl, h, (show m - 1 + (nb - 1) + 2 + x ≤ a.size + b.size by omega)⟩⟩) fun x' h => wpS_pure ⟨sm4, _, _, _, _, _, _, rfl, h, (show m - 1 + (nb - 1) + 2 + x ≤ a.size + b.size by omega)⟩
    ·rintro c st3 ⟨sm3, na, nb, out, mg, ac, bc, rfl, li3, hp3⟩
     exact ⟨sm3, .inr ⟨_, _, _, _, _, _, rfl, li3, hp3⟩⟩
    ·rintro c st3 ⟨sm3, (⟨r, rest, rfl, hr⟩ | ⟨na, nb, out, mg, ac, bc, rfl, li3, hp3⟩)⟩
     ·exact wpS_pure ⟨sm3, _, _, rfl, hr⟩
     ·dsimp only
      refine wpS_bind (w_setMg fun st4 s4 => wpS_pure ⟨sm3.trans s4, _, _, _, _, rfl, li3, by omega⟩)
 ·rintro c st' ⟨sm, na, nb, out, mg, rfl, ⟨_, h1, h2, _, _⟩, hp⟩
  omega
 ·rintro c st' ⟨sm, r, rest, rfl, hr⟩
  exact wpS_pure (q r st' hr sm)
end
end L2
namespace L2
open PySem PySem.Spec PyProof.Rows
def mAt : Nat → StateT SortSt Sem Bool := sortPriv% PySem.Builtin.mergeAt
section
variable {P : Program} {w : World} {A : Around} {E : Value → Shared → Prop} {s : Shared} {kd : SortKind} {rk : Value → Nat} {good : Value → Prop}
theorem wpS_setS {st st2 : SortSt} {Q : PUnit → SortSt → Prop} (h : Q ⟨⟩ st2) : wpS (model P w) A E s (set st2 : StateT SortSt Sem PUnit) Q st := wpS_modify (f := fun _ => st2) h
theorem fold_set (s0 : Nat) : ∀ (m : List Keyed) (j0 : Nat) (arr : Array Keyed), s0 + j0 + m.length ≤ arr.size → ((m.zipIdx j0).foldl (fun a (p : Keyed × Nat) => a.setIfInBounds (s0 + p.2) p.1) arr).toList = arr.toList.take (s0 + j0) ++ m ++ arr.toList.drop (s0 + j0 + m.length)
 | [], j0, arr, h => by simp
 | p :: m, j0, arr, h => by
  rw [List.length_cons] at h
  rw [List.zipIdx_cons, List.foldl_cons, fold_set s0 m (j0 + 1) _ (by rw [Array.size_setIfInBounds]; omega)]
  dsimp only
  have e1 : (arr.setIfInBounds (s0 + j0) p).toList = arr.toList.set (s0 + j0) p := by simp
  have e2 : s0 + (j0 + 1) = s0 + j0 + 1 := by omega
  rw [e1, e2, List.take_succ, List.getElem?_set_self (by simp; omega), List.take_set_of_le (Nat.le_refl _), List.drop_set_of_lt (by omega)]
  have e3 : s0 + j0 + 1 + m.length = s0 + j0 + (p :: m).length := by rw [List.length_cons]; omega
  rw [e3]
  simp
theorem rising_sl {a : Array Keyed} {i j : Nat} (hj : j ≤ a.size) (h : Rising rk a i j) : SL rk (a.extract i j).toList := by
 unfold SL
 rw [List.pairwise_iff_getElem]
 intro p q hp hq hpq
 have lp : (a.extract i j).toList.length = j - i := by simp; omega
 have hq' : q < j - i := by rw [← lp]; exact hq
 have := h (i + p) (i + q) (by omega) (by omega) (by omega)
 rw [Rk_at (by omega), Rk_at (by omega)] at this
 simpa using this
theorem sl_rising {a : Array Keyed} {i j : Nat} {l1 l2 l : List Keyed} (e : a.toList = l1 ++ l ++ l2) (e1 : l1.length = i) (e2 : l.length = j - i) (h : SL rk l) : Rising rk a i j := by
 intro p q h1 h2 h3
 have hl : ∀ k (hk : k < l.length), Rk rk a (i + k) = rk (l[k]).1 := fun k hk => by
  unfold Rk
  have : a[i + k]? = some l[k] := by
   rw [← Array.getElem?_toList, e, List.append_assoc, List.getElem?_append_right (by omega), List.getElem?_append_left (by omega)]
   have ek : i + k - l1.length = k := by omega
   rw [ek, List.getElem?_eq_getElem hk]
  rw [this]
 have hp := hl (p - i) (by omega)
 have hq := hl (q - i) (by omega)
 have ep : i + (p - i) = p := by omega
 have eq : i + (q - i) = q := by omega
 rw [ep] at hp
 rw [eq] at hq
 rw [hp, hq]
 exact List.pairwise_iff_getElem.mp h _ _ (by omega) (by omega) (by omega)
theorem split_at (a : Array Keyed) {i j : Nat} (h : i ≤ j) (hj : j ≤ a.size) : a.toList.drop i = (a.extract i j).toList ++ a.toList.drop j := by
 have := extA a i (j - i) (by omega)
 have e : i + (j - i) = j := by omega
 rw [e] at this
 exact this
theorem len_ext (a : Array Keyed) {i j : Nat} (hj : j ≤ a.size) : (a.extract i j).toList.length = j - i := by simp; omega
structure Runs (rk : Value → Nat) (a : Array Keyed) (sa k sb n' e : Nat) : Prop where
 h1 : sa + k ≤ sb
 h2 : sb + n' ≤ e
 h3 : e ≤ a.size
 r1 : Rising rk a sa sb
 r2 : Rising rk a sb e
 lo : ∀ p, sa ≤ p → p < sa + k → Rk rk a p < Rk rk a sb
 hi : ∀ p, sb + n' ≤ p → p < e → Rk rk a (sb - 1) < Rk rk a p
theorem Rising.le {a : Array Keyed} {i j p q : Nat} (h : Rising rk a i j) (h1 : i ≤ p) (h2 : p ≤ q) (h3 : q < j) : Rk rk a p ≤ Rk rk a q := by
 rcases Nat.lt_or_ge p q with c | c
 ·exact Nat.le_of_lt (h p q h1 c h3)
 ·have : p = q := by omega
  subst this
  exact Nat.le_refl _
theorem mid_same {α : Type} {t m1 m2 d : List α} (hl : m1.length = m2.length) {q : Nat} (hq : q < t.length ∨ t.length + m1.length ≤ q) : (t ++ m1 ++ d)[q]? = (t ++ m2 ++ d)[q]? := by
 rcases hq with hq | hq
 ·rw [List.append_assoc, List.append_assoc, List.getElem?_append_left hq, List.getElem?_append_left hq]
 ·rw [List.getElem?_append_right (by rw [List.length_append]; exact hq), List.getElem?_append_right (by rw [List.length_append, ← hl]; exact hq), List.length_append, List.length_append, hl]
set_option maxHeartbeats 1000000 in
theorem merged_ok {a W : Array Keyed} {sa k sb n' e : Nat} {m : List Keyed} (R : Runs rk a sa k sb n' e) (hx : sa + k < sb) (M : Mrg rk (a.extract (sa + k) sb).toList (a.extract sb (sb + n')).toList m) (eW : W.toList = a.toList.take (sa + k) ++ m ++ a.toList.drop (sb + n')) : Within a W sa e ∧ Rising rk W sa e := by
 obtain ⟨h1, h2, h3, r1, r2, lo, hi⟩ := R
 have ea : a.toList = a.toList.take (sa + k) ++ ((a.extract (sa + k) sb).toList ++ (a.extract sb (sb + n')).toList) ++ a.toList.drop (sb + n') := by
  rw [List.append_assoc, List.append_assoc, ← split_at a (by omega) (by omega), ← split_at a h1 (by omega), List.take_append_drop]
 have lm : m.length = ((a.extract (sa + k) sb).toList ++ (a.extract sb (sb + n')).toList).length := M.1.length_eq
 have lt : (a.toList.take (sa + k)).length = sa + k := by rw [List.length_take]; simp; omega
 have lx : ((a.extract (sa + k) sb).toList ++ (a.extract sb (sb + n')).toList).length = sb + n' - (sa + k) := by rw [List.length_append, len_ext a (by omega), len_ext a (by omega)]; omega
 refine ⟨⟨?_, fun q hq => ?_⟩, ?_⟩
 ·rw [Array.perm_iff_toList_perm, eW]
  conv => rhs; rw [ea]
  exact ((M.1.append_left _).append_right _)
 ·rw [← Array.getElem?_toList, ← Array.getElem?_toList, eW]
  conv => rhs; rw [ea]
  exact mid_same lm (by rw [lt, lm, lx]; omega)
 ·have et : a.toList.take (sa + k) = a.toList.take sa ++ (a.extract sa (sa + k)).toList := extT a (by omega)
  have ed : a.toList.drop (sb + n') = (a.extract (sb + n') e).toList ++ a.toList.drop e := split_at a h2 h3
  have em : ∀ z ∈ m, (∃ p, sa + k ≤ p ∧ p < sb ∧ rk z.1 = Rk rk a p) ∨ ∃ p, sb ≤ p ∧ p < sb + n' ∧ rk z.1 = Rk rk a p := fun z hz => by
   rcases List.mem_append.mp (M.1.mem_iff.mp hz) with hz | hz
   ·obtain ⟨p, p1, p2, p3, rfl⟩ := ext_get2 (by omega) hz
    exact .inl ⟨p, p1, p2, (Rk_at p3).symm⟩
   ·obtain ⟨p, p1, p2, p3, rfl⟩ := ext_get2 (by omega) hz
    exact .inr ⟨p, p1, p2, (Rk_at p3).symm⟩
  have ep : ∀ z ∈ (a.extract sa (sa + k)).toList, ∃ p, sa ≤ p ∧ p < sa + k ∧ rk z.1 = Rk rk a p := fun z hz => by
   obtain ⟨p, p1, p2, p3, rfl⟩ := ext_get2 (by omega) hz
   exact ⟨p, p1, p2, (Rk_at p3).symm⟩
  have eq : ∀ z ∈ (a.extract (sb + n') e).toList, ∃ p, sb + n' ≤ p ∧ p < e ∧ rk z.1 = Rk rk a p := fun z hz => by
   obtain ⟨p, p1, p2, p3, rfl⟩ := ext_get2 h3 hz
   exact ⟨p, p1, p2, (Rk_at p3).symm⟩
  have sp : SL rk (a.extract sa (sa + k)).toList := rising_sl (by omega) fun p q q1 q2 q3 => r1 p q q1 q2 (by omega)
  have sq : SL rk (a.extract (sb + n') e).toList := rising_sl h3 fun p q q1 q2 q3 => r2 p q (by omega) q2 q3
  refine sl_rising (l1 := a.toList.take sa) (l := (a.extract sa (sa + k)).toList ++ m ++ (a.extract (sb + n') e).toList) (l2 := a.toList.drop e) (by rw [eW, et, ed]; simp only [List.append_assoc]) (by rw [List.length_take]; simp; omega) ?_ ?_
  ·rw [List.length_append, List.length_append, lm, lx, len_ext a (by omega), len_ext a h3]
   omega
  ·unfold SL at *
   rw [List.pairwise_append, List.pairwise_append]
   refine ⟨⟨sp, M.2, fun u hu v hv => ?_⟩, sq, fun u hu v hv => ?_⟩
   ·obtain ⟨p, p1, p2, e1⟩ := ep u hu
    rw [e1]
    have l1 := lo p p1 p2
    rcases em v hv with ⟨q, q1, q2, e2⟩ | ⟨q, q1, q2, e2⟩ <;> rw [e2]
    ·exact r1 p q p1 (by omega) q2
    ·exact Nat.lt_of_lt_of_le l1 (r2.le (Nat.le_refl _) q1 (by omega))
   ·obtain ⟨q, q1, q2, e2⟩ := eq v hv
    rw [e2]
    rcases List.mem_append.mp hu with hu | hu
    ·obtain ⟨p, p1, p2, e1⟩ := ep u hu
     rw [e1]
     exact Nat.lt_of_lt_of_le (lo p p1 p2) (r2.le (Nat.le_refl _) (by omega) q2)
    ·rcases em u hu with ⟨p, p1, p2, e1⟩ | ⟨p, p1, p2, e1⟩ <;> rw [e1]
     ·exact Nat.lt_of_le_of_lt (r1.le (by omega) (by omega) (by omega)) (hi q q1 q2)
     ·exact r2 p q p1 (by omega) q2
set_option maxHeartbeats 1000000 in
theorem w_mAt (C : Cmp P w A s kd rk good) {i : Nat} {st : SortSt} {Q : Bool → SortSt → Prop} {sa na p sb nb p2 : Nat} (ok : SOk kd rk good st) (e1 : (pendingOf st)[i]? = some (sa, na, p)) (e2 : (pendingOf st)[i + 1]? = some (sb, nb, p2)) (hb : sb = sa + na) (h1 : 0 < na) (h2 : 0 < nb) (hz : sb + nb ≤ (arrOf st).size) (r1 : Rising rk (arrOf st) sa sb) (r2 : Rising rk (arrOf st) sb (sb + nb))
  (q : ∀ st', SOk kd rk good st' → Within (arrOf st) (arrOf st') sa (sb + nb) → Rising rk (arrOf st') sa (sb + nb) → pendingOf st' = ((pendingOf st).setIfInBounds i (sa, na + nb, p)).eraseIdxIfInBounds (i + 1) → Q true st') : wpS (model P w) A E s (mAt i) Q st := by
 refine wpS_bind (wpS_get ?_)
 simp only [e1, e2]
 refine wpS_bind (wpS_setS ?_)
 have hsb : sb < (arrOf st).size := by omega
 have gd : ∀ x ∈ (arrOf st).toList, good x.1 := ok.keys.good
 refine wpS_bind (w_elem (a := arrOf st) hsb ?_)
 refine wpS_bind (w_gal (a := arrOf st) C ok.kind gd (gd _ (mem_at hsb)) (by omega) (by omega) (fun x y h5 h6 h7 => ?_) fun k k1 k2 k3 => ?_)
 ·unfold Bey at h7 ⊢
  have := r1.le (p := sa + x) (q := sa + y) (by omega) (by omega) (by omega)
  simp at h7 ⊢
  omega
 have key : rk (arrOf st)[sb].1 = Rk rk (arrOf st) sb := (Rk_at hsb).symm
 have lo : ∀ p, sa ≤ p → p < sa + k → Rk rk (arrOf st) p < Rk rk (arrOf st) sb := fun p p1 p3 => by
  have := k2 (p - sa) (by omega)
  have ep : sa + (p - sa) = p := by omega
  unfold Bey at this
  rw [ep, key] at this
  have ne : Rk rk (arrOf st) p ≠ Rk rk (arrOf st) sb := fun z => by have := ok.keys.ne (by omega) hsb z; omega
  simp at this
  omega
 have up : ∀ p, sa + k ≤ p → p < sb → Rk rk (arrOf st) sb < Rk rk (arrOf st) p := fun p p1 p3 => by
  have := k3 (p - sa) (by omega) (by omega)
  have ep : sa + (p - sa) = p := by omega
  unfold Bey at this
  rw [ep, key] at this
  simpa using this
 by_cases c : na - k = 0
 ·refine ifT (by simpa using c) (wpS_pure (q _ ⟨ok.kind, ok.failed, ok.keys⟩ (Within.refl _ _ _) (fun p q p1 p3 p4 => ?_) rfl))
  show Rk rk (arrOf st) p < Rk rk (arrOf st) q
  by_cases c1 : q < sb
  ·exact r1 p q p1 p3 c1
  ·by_cases c2 : sb ≤ p
   ·exact r2 p q c2 p3 p4
   ·exact Nat.lt_of_lt_of_le (lo p p1 (by omega)) (r2.le (Nat.le_refl _) (by omega) p4)
 refine ifF (by simpa using c) ?_
 have hl : sa + k + (na - k) - 1 < (arrOf st).size := by omega
 have el : sa + k + (na - k) - 1 = sb - 1 := by omega
 refine wpS_bind (w_elem (a := arrOf st) hl ?_)
 have key2 : rk ((arrOf st)[sa + k + (na - k) - 1]'hl).1 = Rk rk (arrOf st) (sb - 1) := by rw [← Rk_at (rk := rk) hl, el]
 refine wpS_bind (w_gal (a := arrOf st) C ok.kind gd (gd _ (mem_at hl)) (by omega) (by omega) (fun x y h5 h6 h7 => ?_) fun n' n1 n2 n3 => ?_)
 ·unfold Bey at h7 ⊢
  have := r2.le (p := sb + x) (q := sb + y) (by omega) (by omega) (by omega)
  simp at h7 ⊢
  omega
 have be : ∀ p, sb ≤ p → p < sb + n' → Rk rk (arrOf st) p < Rk rk (arrOf st) (sb - 1) := fun p p1 p3 => by
  have := n2 (p - sb) (by omega)
  have ep : sb + (p - sb) = p := by omega
  unfold Bey at this
  rw [ep, key2] at this
  simpa using this
 have hi : ∀ p, sb + n' ≤ p → p < sb + nb → Rk rk (arrOf st) (sb - 1) < Rk rk (arrOf st) p := fun p p1 p3 => by
  have := n3 (p - sb) (by omega) (by omega)
  have ep : sb + (p - sb) = p := by omega
  unfold Bey at this
  rw [ep, key2] at this
  have ne : Rk rk (arrOf st) p ≠ Rk rk (arrOf st) (sb - 1) := fun z => by have := ok.keys.ne (by omega) (by omega) z; omega
  simp at this
  omega
 have np : 0 < n' := by
  refine Decidable.byContradiction fun z => ?_
  have := hi sb (by omega) (by omega)
  have := up (sb - 1) (by omega) (by omega)
  omega
 refine ifF (by simp; omega) ?_
 have zx : ((arrOf st).extract (sa + k) sb).size = sb - (sa + k) := by simp; omega
 have zy : ((arrOf st).extract sb (sb + n')).size = n' := by simp; omega
 have T : Two rk good ((arrOf st).extract (sa + k) sb) ((arrOf st).extract sb (sb + n')) := ⟨rising_sl (by omega) fun p q p1 p3 p4 => r1 p q (by omega) p3 p4, rising_sl (by omega) fun p q p1 p3 p4 => r2 p q p1 p3 (by omega), fun x hx => by
   obtain ⟨p, _, _, p3, rfl⟩ := ext_get2 (by omega) hx
   exact gd _ (mem_at p3), fun x hx => by
   obtain ⟨p, _, _, p3, rfl⟩ := ext_get2 (by omega) hx
   exact gd _ (mem_at p3), fun x hx y hy e => by
   obtain ⟨p, p1, p3, p4, rfl⟩ := ext_get2 (by omega) hx
   obtain ⟨q, q1, q3, q4, rfl⟩ := ext_get2 (by omega) hy
   rw [← Rk_at (rk := rk) p4, ← Rk_at (rk := rk) q4] at e
   have := ok.keys.ne p4 q4 e
   omega⟩
 have hL : LastA rk ((arrOf st).extract (sa + k) sb) ((arrOf st).extract sb (sb + n')) := fun h z hz => by
  obtain ⟨p, p1, p3, p4, rfl⟩ := ext_get2 (by omega) hz
  have := be p p1 p3
  rw [Rk_at p4, Rk_at (by omega)] at this
  have ex : sa + k + (((arrOf st).extract (sa + k) sb).size - 1) = sb - 1 := by omega
  simpa only [Array.getElem_extract, ex] using this
 have hF : FirstB rk ((arrOf st).extract (sa + k) sb) ((arrOf st).extract sb (sb + n')) := fun h z hz => by
  obtain ⟨p, p1, p3, p4, rfl⟩ := ext_get2 (by omega) hz
  have := up p p1 p3
  rw [Rk_at p4, Rk_at hsb] at this
  simpa only [Array.getElem_extract, Nat.add_zero] using this
 have fin : ∀ (m : Array Keyed) (st2 : SortSt), Mrg rk ((arrOf st).extract (sa + k) sb).toList ((arrOf st).extract sb (sb + n')).toList m.toList → arrOf st2 = arrOf st → Within (arrOf st) (m.toList.zipIdx.foldl (fun a (p : Keyed × Nat) => a.setIfInBounds (sa + k + p.2) p.1) (arrOf st2)) sa (sb + nb) ∧ Rising rk (m.toList.zipIdx.foldl (fun a (p : Keyed × Nat) => a.setIfInBounds (sa + k + p.2) p.1) (arrOf st2)) sa (sb + nb) := fun m st2 M ea => by
  have lm : m.toList.length = sb + n' - (sa + k) := by rw [M.1.length_eq, List.length_append, len_ext _ (by omega), len_ext _ (by omega)]; omega
  rw [ea]
  refine merged_ok ⟨by omega, by omega, hz, r1, r2, lo, hi⟩ (by omega) M ?_
  rw [fold_set (sa + k) m.toList 0 (arrOf st) (by omega), Nat.add_zero]
  have e : sa + k + m.toList.length = sb + n' := by omega
  rw [e]
 have hx0 : 0 < ((arrOf st).extract (sa + k) sb).size := by omega
 have hy0 : 0 < ((arrOf st).extract sb (sb + n')).size := by omega
 refine if_both (wpS_bind (w_mLo C T hL hx0 hy0 (hF hy0 _ (mem_at hx0)) ok.kind fun m st2 M sm => ?_)) (wpS_bind (w_mHi C T hL hF hx0 hy0 ok.kind fun m st2 M sm => ?_))
 all_goals
  obtain ⟨f1, f2⟩ := fin m st2 M sm.1
  have fl : failedOf st2 = none := sm.2.2.1.trans ok.failed
  refine wpS_bind (wpS_modify (wpS_bind (wpS_get (wpS_pure ?_))))
  show Q (failedOf st2).isNone _
  rw [fl]
  exact q _ ⟨sm.2.1.trans ok.kind, fl, ok.keys.perm f1.perm⟩ f1 f2 sm.2.2.2
end
end L2
namespace L2
open PySem PySem.Spec PyProof.Rows
section
variable {P : Program} {w : World} {A : Around} {E : Value → Shared → Prop} {s : Shared} {kd : SortKind} {rk : Value → Nat} {good : Value → Prop}
def Cont (rk : Value → Nat) (a : Array Keyed) : List (Nat × Nat × Nat) → Nat → Nat → Prop
 | [], i, j => i = j
 | (s, n, _) :: r, i, j => s = i ∧ 0 < n ∧ Rising rk a i (i + n) ∧ Cont rk a r (i + n) j
theorem cont_le {a : Array Keyed} : ∀ {ps : List (Nat × Nat × Nat)} {i j : Nat}, Cont rk a ps i j → i + ps.length ≤ j
 | [], i, j, h => by have h : i = j := h; simp; omega
 | (s, n, p) :: r, i, j, h => by
  obtain ⟨_, h1, _, h2⟩ := h
  have := cont_le h2
  simp
  omega
theorem cont_app {a : Array Keyed} : ∀ {ps qs : List (Nat × Nat × Nat)} {i j : Nat}, Cont rk a (ps ++ qs) i j ↔ ∃ k, Cont rk a ps i k ∧ Cont rk a qs k j
 | [], qs, i, j => ⟨fun h => ⟨i, rfl, h⟩, fun ⟨k, e, h⟩ => by have e : i = k := e; rw [e]; exact h⟩
 | (s, n, p) :: r, qs, i, j => by
  constructor
  ·rintro ⟨h1, h2, h3, h4⟩
   obtain ⟨k, a1, a2⟩ := cont_app.mp h4
   exact ⟨k, ⟨h1, h2, h3, a1⟩, a2⟩
  ·rintro ⟨k, ⟨h1, h2, h3, h4⟩, h5⟩
   exact ⟨h1, h2, h3, cont_app.mpr ⟨k, h4, h5⟩⟩
theorem rise_within {a b : Array Keyed} {lo hi i j : Nat} (W : Within a b lo hi) (h : Rising rk a i j) (o : j ≤ lo ∨ hi ≤ i) : Rising rk b i j := fun p q h1 h2 h3 => by
 rw [Rk_eq (W.out p (by omega)), Rk_eq (W.out q (by omega))]
 exact h p q h1 h2 h3
theorem cont_within {a b : Array Keyed} {lo hi : Nat} (W : Within a b lo hi) : ∀ {ps : List (Nat × Nat × Nat)} {i j : Nat}, Cont rk a ps i j → (j ≤ lo ∨ hi ≤ i) → Cont rk b ps i j
 | [], i, j, h, _ => h
 | (s, n, p) :: r, i, j, ⟨h1, h2, h3, h4⟩, o => ⟨h1, h2, rise_within W h3 (by have := cont_le h4; omega), cont_within W h4 (by omega)⟩
theorem cont_mod {a : Array Keyed} {f : Nat × Nat × Nat → Nat × Nat × Nat} (hf : ∀ x, (f x).1 = x.1 ∧ (f x).2.1 = x.2.1) : ∀ {ps : List (Nat × Nat × Nat)} {k i j : Nat}, Cont rk a ps i j → Cont rk a (ps.modify k f) i j
 | [], k, i, j, h => by simpa using h
 | (s, n, p) :: r, 0, i, j, ⟨h1, h2, h3, h4⟩ => by
  obtain ⟨e1, e2⟩ := hf (s, n, p)
  have e : f (s, n, p) = (s, n, (f (s, n, p)).2.2) := by
   rw [Prod.ext_iff, Prod.ext_iff]
   exact ⟨e1, e2, rfl⟩
  show Cont rk a (f (s, n, p) :: r) i j
  rw [e]
  exact ⟨h1, h2, h3, h4⟩
 | (s, n, p) :: r, k + 1, i, j, ⟨h1, h2, h3, h4⟩ => ⟨h1, h2, h3, cont_mod hf h4⟩
theorem split2 {α : Type} {l : List α} {i : Nat} (h : i + 1 < l.length) : l = l.take i ++ l[i] :: l[i + 1] :: l.drop (i + 2) := by
 rw [← List.drop_eq_getElem_cons h, ← List.drop_eq_getElem_cons (by omega), List.take_append_drop]
structure JI (kd : SortKind) (rk : Value → Nat) (good : Value → Prop) (a0 : Array Keyed) (lo : Nat) (st : SortSt) : Prop where
 ok : SOk kd rk good st
 perm : (arrOf st).Perm a0
 cont : Cont rk (arrOf st) (pendingOf st).toList 0 lo
set_option maxHeartbeats 1000000 in
theorem w_mergeI (C : Cmp P w A s kd rk good) {i lo : Nat} {st : SortSt} {a0 : Array Keyed} {Q : Bool → SortSt → Prop} (J : JI kd rk good a0 lo st) (hl : lo ≤ a0.size) (hi : i + 1 < (pendingOf st).size)
  (q : ∀ st', JI kd rk good a0 lo st' → Within (arrOf st) (arrOf st') 0 lo → (pendingOf st').size + 1 = (pendingOf st).size → Q true st') : wpS (model P w) A E s (mAt i) Q st := by
 obtain ⟨ok, pm, ct⟩ := J
 have hi' : i + 1 < (pendingOf st).toList.length := by simpa using hi
 have es := split2 hi'
 obtain ⟨sa, na, p, hx⟩ : ∃ sa na p, (pendingOf st).toList[i] = (sa, na, p) := ⟨_, _, _, rfl⟩
 obtain ⟨sb, nb, p2, hy⟩ : ∃ sb nb p2, (pendingOf st).toList[i + 1] = (sb, nb, p2) := ⟨_, _, _, rfl⟩
 rw [hx, hy] at es
 have ct2 := ct
 rw [es] at ct2
 obtain ⟨k, c1, e1, n1, r1, e2, n2, r2, c2⟩ := cont_app.mp ct2
 subst e1 e2
 have hz := cont_le c2
 have hs := pm.size_eq
 refine w_mAt C ok (sa := sa) (na := na) (p := p) (sb := sa + na) (nb := nb) (p2 := p2) ?_ ?_ rfl n1 n2 (by omega) r1 r2 fun st' ok' W R e => ?_
 ·rw [← Array.getElem?_toList, List.getElem?_eq_getElem (by omega), hx]
 ·rw [← Array.getElem?_toList, List.getElem?_eq_getElem hi', hy]
 have lt : ((pendingOf st).toList.take i).length = i := by rw [List.length_take]; omega
 have el : (pendingOf st').toList = (pendingOf st).toList.take i ++ (sa, na + nb, p) :: (pendingOf st).toList.drop (i + 2) := by
  rw [e, Array.toList_eraseIdxIfInBounds, Array.toList_setIfInBounds]
  conv => lhs; rw [es]
  rw [List.set_append_right _ _ (by omega), lt, Nat.sub_self, List.set_cons_zero, List.eraseIdx_append_of_length_le (by omega), lt]
  have : i + 1 - i = 1 := by omega
  rw [this]
  rfl
 refine q st' ⟨ok', W.perm.trans pm, ?_⟩ (W.wide (Nat.zero_le _) (by omega)) ?_
 ·rw [el]
  refine cont_app.mpr ⟨sa, cont_within W c1 (.inl (Nat.le_refl _)), rfl, by omega, ?_, ?_⟩
  ·rw [← Nat.add_assoc]; exact R
  ·rw [← Nat.add_assoc]; exact cont_within W c2 (.inr (Nat.le_refl _))
 ·have l1 := congrArg List.length el
  have l2 := congrArg List.length es
  simp only [List.length_append, List.length_cons, Array.length_toList] at l1 l2
  omega
theorem ite_pred {c : Prop} [Decidable c] (i : Nat) : (if c then i - 1 else i) ≤ i := by split <;> omega
theorem setPend_ok {st : SortSt} {pd : Array (Nat × Nat × Nat)} (ok : SOk kd rk good st) : SOk kd rk good (setPending st pd) := ⟨ok.kind, ok.failed, ok.keys⟩
set_option maxHeartbeats 2000000 in
theorem w_runs (C : Cmp P w A s kd rk good) {st : SortSt} {Q : Unit → SortSt → Prop} (ok : SOk kd rk good st) (hp : pendingOf st = #[]) (h2 : 2 ≤ (arrOf st).size)
  (q : ∀ st', (arrOf st').Perm (arrOf st) → failedOf st' = none → Rising rk (arrOf st') 0 (arrOf st).size → Q () st') : wpS (model P w) A E s sortRuns' Q st := by
 rw [sortRuns'_eq]
 refine wpS_bind (wpS_get ?_)
 dsimp only
 obtain ⟨a0, ea0⟩ : ∃ a0, arrOf st = a0 := ⟨_, rfl⟩
 have J0 : JI kd rk good a0 0 st := ⟨ok, by rw [ea0], by rw [hp]; rfl⟩
 rw [ea0] at h2 q ⊢
 generalize hn : a0.size = N at *
 generalize hmr : minRun' N N 0 = mr at *
 refine wpS_bind (wpS_mono (wpS_forRange
  (I := fun x c st' => ∃ lo, c = (none, lo) ∧ JI kd rk good a0 lo st' ∧ lo ≤ N ∧ x ≤ lo)
  (Q := fun c st' => c = (none, N) ∧ JI kd rk good a0 N st') ?_ ?_ ⟨0, rfl, J0, Nat.zero_le _, Nat.le_refl _⟩) ?_)
 ·rintro x c st' _ hx ⟨lo, rfl, J, hlo, hxl⟩
  dsimp only
  by_cases c0 : lo ≥ N
  ·have e : lo = N := by omega
   subst e
   exact ifT c0 (wpS_pure ⟨rfl, J⟩)
  refine ifF c0 ?_
  have hsz : (arrOf st').size = N := by rw [J.perm.size_eq, hn]
  refine wpS_bind (w_count C J.ok (by omega) (by omega) fun n b n1 n2 hw hr _ => ?_)
  dsimp only
  have ok2 : SOk kd rk good (setArr st' b) := J.ok.arr hw.perm
  have fin : ∀ (m : Nat) (st2 : SortSt), SOk kd rk good st2 → (arrOf st2).Perm a0 → Cont rk (arrOf st2) (pendingOf st2).toList 0 lo → Rising rk (arrOf st2) lo (lo + m) → 0 < m → lo + m ≤ N → JI kd rk good a0 (lo + m) (setPending st2 ((pendingOf st2).push (lo, m, 0))) := fun m st2 o2 p2 c2 r2 m0 m1 => by
   refine ⟨setPend_ok o2, p2, ?_⟩
   show Cont rk (arrOf st2) ((pendingOf st2).push (lo, m, 0)).toList 0 (lo + m)
   rw [Array.toList_push]
   exact cont_app.mpr ⟨lo, c2, rfl, m0, r2, rfl⟩
  have back : ∀ (m pw : Nat) (st2 : SortSt), JI kd rk good a0 lo st2 → Rising rk (arrOf st2) lo (lo + m) → 0 < m → lo + m ≤ N → wpS (model P w) A E s (forIn [0:N] ((none : Option Unit), ()) fun _ _ => do
     let p := pendingOf (← get)
     match (if p.size > 1 then p[p.size - 2]? else none) with
     | some (_, _, older) => if older ≤ pw then pure (ForInStep.done ((none : Option Unit), ())) else do
       let r ← mAt (p.size - 2)
       if (!r) = true then pure (ForInStep.done (some (), ())) else pure (ForInStep.yield ((none : Option Unit), ()))
     | x => pure (ForInStep.done ((none : Option Unit), ())))
    (fun c st3 => c = (none, ()) ∧ JI kd rk good a0 lo st3 ∧ Rising rk (arrOf st3) lo (lo + m)) st2 := fun m pw st2 J2 R2 m0 m1 => by
   refine wpS_forRange (I := fun _ c st3 => c = (none, ()) ∧ JI kd rk good a0 lo st3 ∧ Rising rk (arrOf st3) lo (lo + m)) ?_ (fun c st3 h => h) ⟨rfl, J2, R2⟩
   rintro y c st3 _ hy ⟨rfl, J3, R3⟩
   refine wpS_bind (wpS_get ?_)
   dsimp only
   by_cases hs : (pendingOf st3).size > 1
   ·rw [if_pos hs]
    obtain ⟨a1, a2, a3, ex⟩ : ∃ a1 a2 a3, (pendingOf st3)[(pendingOf st3).size - 2]? = some (a1, a2, a3) := ⟨_, _, _, Array.getElem?_eq_getElem (by omega)⟩
    rw [ex]
    dsimp only
    by_cases c3 : a3 ≤ pw
    ·exact ifT c3 (wpS_pure ⟨rfl, J3, R3⟩)
    ·refine ifF c3 (wpS_bind (w_mergeI C J3 (by omega) (by omega) fun st4 J4 W4 _ => ?_))
     exact ifF (by simp) (wpS_pure ⟨rfl, J4, rise_within W4 R3 (.inr (Nat.le_refl _))⟩)
   ·rw [if_neg hs]
    exact wpS_pure ⟨rfl, J3, R3⟩
  by_cases c : n < mr
  ·refine ifT c (wpS_bind (wpS_lift (wpAny_rule ⟨rfl, ?_⟩)))
   refine wpS_bind (w_bins C ok2 n1 (show n ≤ min (N - lo) mr by omega) (by show lo + min (N - lo) mr ≤ b.size; rw [hw.size]; omega) hr fun b2 hw2 hr2 => ?_)
   refine ifF (by simp) ?_
   have W : Within (arrOf st') b2 lo (lo + (N - lo)) := hw.trans (hw2.wide (Nat.le_refl _) (by omega))
   have J2 : JI kd rk good a0 lo (setArr (setArr st' b) b2) := ⟨ok2.arr hw2.perm, W.perm.trans J.perm, cont_within W J.cont (.inl (Nat.le_refl _))⟩
   refine wpS_bind (wpS_get ?_)
   cases hbk : (pendingOf (setArr (setArr st' b) b2)).back? with
   | none => exact wpS_bind (wpS_modify (wpS_pure ⟨_, rfl, fin (min (N - lo) mr) _ J2.ok J2.perm J2.cont hr2 (by omega) (by omega), by omega, by omega⟩))
   | some t =>
    obtain ⟨s1, l1, p1⟩ := t
    dsimp only
    refine wpS_bind (wpS_mono (back (min (N - lo) mr) _ _ J2 hr2 (by omega) (by omega)) ?_)
    rintro c st3 ⟨rfl, J3, R3⟩
    dsimp only
    refine wpS_bind (wpS_modify (wpS_bind (wpS_modify (wpS_pure ⟨_, rfl, fin (min (N - lo) mr) (setPending st3 _) (setPend_ok J3.ok) J3.perm ?_ R3 (by omega) (by omega), by omega, by omega⟩))))
    show Cont rk (arrOf st3) ((pendingOf st3).modify _ _).toList 0 lo
    rw [Array.toList_modify]
    refine @cont_mod rk (arrOf st3) _ ?_ _ _ _ _ J3.cont
    exact fun _ => ⟨rfl, rfl⟩
  ·refine ifF c ?_
   have J2 : JI kd rk good a0 lo (setArr st' b) := ⟨ok2, hw.perm.trans J.perm, cont_within hw J.cont (.inl (Nat.le_refl _))⟩
   refine wpS_bind (wpS_get ?_)
   cases hbk : (pendingOf (setArr st' b)).back? with
   | none => exact wpS_bind (wpS_modify (wpS_pure ⟨_, rfl, fin n _ J2.ok J2.perm J2.cont hr (by omega) (by omega), by omega, by omega⟩))
   | some t =>
    obtain ⟨s1, l1, p1⟩ := t
    dsimp only
    refine wpS_bind (wpS_mono (back n _ _ J2 hr (by omega) (by omega)) ?_)
    rintro c st3 ⟨rfl, J3, R3⟩
    dsimp only
    refine wpS_bind (wpS_modify (wpS_bind (wpS_modify (wpS_pure ⟨_, rfl, fin n (setPending st3 _) (setPend_ok J3.ok) J3.perm ?_ R3 (by omega) (by omega), by omega, by omega⟩))))
    show Cont rk (arrOf st3) ((pendingOf st3).modify _ _).toList 0 lo
    rw [Array.toList_modify]
    refine @cont_mod rk (arrOf st3) _ ?_ _ _ _ _ J3.cont
    exact fun _ => ⟨rfl, rfl⟩
 ·rintro c st' ⟨lo, rfl, J, hlo, hxl⟩
  have e : lo = N := by omega
  subst e
  exact ⟨rfl, J⟩
 ·rintro c st' ⟨rfl, J⟩
  dsimp only
  refine wpS_bind (wpS_mono (wpS_forRange
   (I := fun x c st2 => c = (none, ()) ∧ JI kd rk good a0 N st2 ∧ (pendingOf st2).size + x ≤ N) (Q := fun c st2 => c = (none, ()) ∧ JI kd rk good a0 N st2 ∧ (pendingOf st2).size ≤ 1) ?_ ?_ ⟨rfl, J, ?_⟩) ?_)
  ·rintro x c st2 _ hx ⟨rfl, J2, hl⟩
   refine wpS_bind (wpS_get ?_)
   by_cases c1 : (pendingOf st2).size ≤ 1
   ·exact ifT c1 (wpS_pure ⟨rfl, J2, c1⟩)
   ·refine ifF c1 (wpS_bind (w_mergeI C J2 (by omega) ?_ fun st4 J4 _ e4 => ifF (by simp) (wpS_pure ⟨rfl, J4, by omega⟩)))
    exact Nat.lt_of_le_of_lt (Nat.add_le_add_right (ite_pred _) 1) (by omega)
  ·rintro c st2 ⟨rfl, J2, hl⟩
   exact ⟨rfl, J2, by omega⟩
  ·have := cont_le J.cont
   simp at this
   omega
  ·rintro c st2 ⟨rfl, J2, hl⟩
   refine wpS_pure (q _ J2.perm J2.ok.failed ?_)
   have ct := J2.cont
   match hl2 : (pendingOf st2).toList, ct with
   | [], ct =>
    have ct : 0 = N := ct
    omega
   | [(s1, l1, p1)], ⟨_, _, r, e⟩ =>
    have e : 0 + l1 = N := e
    rw [e] at r
    exact r
   | _ :: _ :: _, _ =>
    have := congrArg List.length hl2
    simp at this
    omega
end
end L2
namespace L2
open PySem PySem.Spec PyProof.Rows
def cmpL : List Int → List Int → Option Bool
 | a :: k, b :: l => if a = b then cmpL k l else some (decide (a < b))
 | _, _ => none
theorem cmpL_lt : ∀ k l : List Int, (match cmpL k l with | some r => r | none => decide (k.length < l.length)) = decide (k < l)
 | [], [] => by simp [cmpL]
 | [], b :: l => by simp [cmpL]
 | a :: k, [] => by simp [cmpL]
 | a :: k, b :: l => by
  unfold cmpL
  by_cases e : a = b
  ·subst e
   rw [if_pos rfl]
   have := cmpL_lt k l
   simp only [List.length_cons, Nat.add_lt_add_iff_right]
   rw [this]
   exact decide_eq_decide.mpr (by rw [List.cons_lt_cons_iff]; simp [Int.lt_irrefl])
  ·rw [if_neg e]
   exact decide_eq_decide.mpr (by rw [List.cons_lt_cons_iff]; simp [e])
section
variable {P : Program} {w : World} {A : Around} {E : Value → Shared → Prop} {s : Shared}
def TupI (h : Heap) (v : Value) (k : List Int) : Prop := ∃ a o its n, v = .ref a ∧ h.get? a = some o ∧ o.cls = .type "tuple" ∧ o.data = .seq its n ∧ Vals (k.map V.int) its.toList
theorem lt_false {a b : Int} {t u : Tok} {Q : Bool → Shared → Prop} (h : Q (decide (a < b)) s) : wpAny (model P w) A (oneLt' false (.int a t) (.int b u)) Q E s := by
 rw [oneLt'_eq]
 simp only [Bool.false_eq_true, if_false]
 exact wpAny_bind (wpAny_richCompare_same (typeIs_int s a t) (typeIs_int s b u) slot_int_lt (call_int_lt ⟨by simp, wpAny_truthy_bool h⟩))
theorem lt_loop {f : (Value × Value) × Nat → Option Bool × Unit → Sem (ForInStep (Option Bool × Unit))}
  (hf : ∀ (a b : Int) (t u : Tok) (i : Nat) (R : ForInStep (Option Bool × Unit) → Shared → Prop), R (if a = b then .yield (none, ()) else .done (some (decide (a < b)), ())) s → wpAny (model P w) A (f ((.int a t, .int b u), i) (none, ())) R E s) :
  ∀ {k l : List Int} {ps qs : List Value} {j : Nat}, Vals (k.map V.int) ps → Vals (l.map V.int) qs → ∀ {R : Option Bool × Unit → Shared → Prop}, R (cmpL k l, ()) s → wpAny (model P w) A (forIn ((ps.zip qs).zipIdx j) (none, ()) f) R E s
 | [], l, ps, qs, j, hp, hq, R, q => by
  cases hp
  rw [List.zip_nil_left, List.zipIdx_nil, List.forIn_nil]
  exact wpAny_pure q
 | a :: k, [], ps, qs, j, hp, hq, R, q => by
  cases hq
  rw [List.zip_nil_right, List.zipIdx_nil, List.forIn_nil]
  exact wpAny_pure q
 | a :: k, b :: l, ps, qs, j, hp, hq, R, q => by
  cases hp with
  | cons r1 hp =>
   cases hq with
   | cons r2 hq =>
    obtain ⟨t, rfl⟩ := r1
    obtain ⟨u, rfl⟩ := r2
    rw [List.zip_cons_cons, List.zipIdx_cons, List.forIn_cons]
    refine wpAny_bind (hf a b t u j _ ?_)
    unfold cmpL at q
    by_cases e : a = b
    ·rw [if_pos e] at q ⊢
     exact lt_loop hf hp hq q
    ·rw [if_neg e] at q ⊢
     exact wpAny_pure q
theorem lt_tup {fo : Bool} {x y : Value} {k l : List Int} {Q : Bool → Shared → Prop} (hx : TupI s.heap x k) (hy : TupI s.heap y l) (q : Q (decide (k < l)) s) : wpAny (model P w) A (keyLt' (tuples' fo) x y) Q E s := by
 obtain ⟨a, o, its, n, rfl, ga, _, da, va⟩ := hx
 obtain ⟨b, u, jts, m, rfl, gb, _, db, vb⟩ := hy
 refine wpAny_bind (listItems_at ga da (wpAny_bind (listItems_at gb db (wpAny_bind (lt_loop (fun c d t u i R hR => ?_) va vb ?_)))))
 ·dsimp only
  refine wpAny_bind (wpAny_eqBool_int ?_)
  by_cases e : c = d
  ·rw [if_pos e] at hR
   rw [show (c == d) = true by simpa using e]
   exact wpAny_pure hR
  ·rw [if_neg e] at hR
   rw [show (c == d) = false by simpa using e]
   refine wpAny_bind ?_
   cases hb : (fo && i == 0) with
   | true => exact oneLt_int (wpAny_pure hR)
   | false => exact lt_false (wpAny_pure hR)
 ·have e := cmpL_lt k l
  have la : its.size = k.length := by have := va.length; simpa using this.symm
  have lb : jts.size = l.length := by have := vb.length; simpa using this.symm
  rw [← e] at q
  dsimp only
  cases c : cmpL k l with
  | some r => rw [c] at q; exact wpAny_pure q
  | none => rw [c] at q; rw [la, lb]; exact wpAny_pure q
theorem first_tup {x : Value} {i : Int} {k : List Int} {Q : Option Value → Shared → Prop} (hx : TupI s.heap x (i :: k)) (q : ∀ t, Q (some (.int i t)) s) : wpAny (model P w) A (firstOfTuple' x) Q E s := by
 obtain ⟨a, o, its, n, rfl, ga, ca, da, va⟩ := hx
 refine wpAny_bind (wpAny_typeOf (T := "tuple") ⟨o, ga, ca⟩ ?_)
 rw [if_neg (by decide)]
 refine wpAny_bind (listItems_at ga da ?_)
 obtain ⟨xs⟩ := its
 cases va with
 | cons r _ =>
  obtain ⟨t, rfl⟩ := r
  exact wpAny_pure (q t)
theorem firsts_tup : ∀ {vs : List Value} {ks : List (List Int)} {Q : List (Option Value) → Shared → Prop}, Paired (fun k v => TupI s.heap v k) ks vs → (∀ k ∈ ks, k ≠ []) → (∀ us : List Value, us.length = vs.length → (∀ u ∈ us, ∃ i t, u = .int i t) → Q (us.map some) s) → wpAny (model P w) A (vs.mapM firstOfTuple') Q E s
 | [], _, Q, h, _, q => by
  cases h
  exact wpAny_pure (q [] rfl fun _ h => nomatch h)
 | v :: vs, ks, Q, h, hn, q => by
  cases h with
  | @cons k _ ks' _ r h =>
   rw [List.mapM_cons]
   obtain ⟨i, k', rfl⟩ : ∃ i k', k = i :: k' := List.exists_cons_of_ne_nil (hn k List.mem_cons_self)
   refine wpAny_bind (first_tup r fun t => wpAny_bind ?_)
   refine firsts_tup h (fun k hk => hn k (List.mem_cons_of_mem _ hk)) fun us hl hu => wpAny_pure ?_
   refine q (.int i t :: us) (by simp [hl]) fun u hm => ?_
   rcases List.mem_cons.mp hm with rfl | hm
   ·exact ⟨i, t, rfl⟩
   ·exact hu u hm
theorem types_int : ∀ {us : List Value} {Q : List Value → Shared → Prop}, (∀ u ∈ us, ∃ i t, u = Value.int i t) → Q (us.map fun _ => .type "int") s → wpAny (model P w) A (us.mapM typeOf) Q E s
 | [], Q, _, q => wpAny_pure q
 | u :: us, Q, h, q => by
  rw [List.mapM_cons]
  obtain ⟨i, t, rfl⟩ := h u List.mem_cons_self
  exact wpAny_bind (wpAny_typeOf (typeIs_int s i t) (wpAny_bind (types_int (fun v hv => h v (List.mem_cons_of_mem _ hv)) (wpAny_pure q))))
theorem kind_tup {vs : List Value} {ks : List (List Int)} {Q : SortKind → Shared → Prop} (h : Paired (fun k v => TupI s.heap v k) ks vs) (hn : ∀ k ∈ ks, k ≠ []) (h1 : 1 ≤ vs.length) (q : Q (tuples' true) s) : wpAny (model P w) A (keyKind' vs.toArray) Q E s := by
 rw [keyKind'_eq, List.mapM_toArray]
 refine wpAny_bind (wpAny_map ?_)
 refine firsts_tup h hn fun us hl hu => ?_
 rw [if_pos (by simp)]
 refine wpAny_bind (wpAny_rule (wpAny_bind ?_))
 have ef : (us.map some).toArray.filterMap id = us.toArray := by
  rw [List.filterMap_toArray]
  simp
 rw [ef, oneTypeOnly'_eq, List.mapM_toArray]
 refine wpAny_bind (wpAny_map (types_int hu ?_))
 obtain ⟨u, us', rfl⟩ : ∃ u us', us = u :: us' := List.exists_cons_of_ne_nil fun e => by rw [e] at hl; simp at hl; omega
 show wpAny _ _ (pure (if _ then some (Value.type "int") else none)) _ _ s
 rw [if_pos (by simp)]
 exact wpAny_pure (wpAny_pure q)
end
section
variable {P : Program} {w : World} {A : Around} {E : Value → Shared → Prop} {s : Shared}
def rankOf (ks : List (List Int)) (k : List Int) : Nat := ks.countP fun l => decide (l < k)
theorem rank_le {k l : List Int} (h : k < l) : ∀ ks : List (List Int), rankOf ks k ≤ rankOf ks l ∧ (k ∈ ks → rankOf ks k < rankOf ks l)
 | [] => ⟨Nat.le_refl _, fun h => nomatch h⟩
 | a :: as => by
  obtain ⟨i1, i2⟩ := rank_le h as
  unfold rankOf at *
  rw [List.countP_cons, List.countP_cons]
  by_cases c : a < k
  ·have c2 : a < l := List.lt_trans c h
   rw [if_pos (decide_eq_true c), if_pos (decide_eq_true c2)]
   refine ⟨by omega, fun hm => ?_⟩
   rcases List.mem_cons.mp hm with e | hm
   ·exact absurd c (by rw [e]; exact List.lt_irrefl a)
   ·have := i2 hm
    omega
  ·rw [if_neg (by simpa using c)]
   refine ⟨by split <;> omega, fun hm => ?_⟩
   rcases List.mem_cons.mp hm with e | hm
   ·subst e
    rw [if_pos (decide_eq_true h)]
    omega
   ·have := i2 hm
    split <;> omega
theorem rank_lt {ks : List (List Int)} {k l : List Int} (hk : k ∈ ks) : rankOf ks k < rankOf ks l ↔ k < l := by
 refine ⟨fun h => ?_, fun h => (rank_le h ks).2 hk⟩
 refine Decidable.byContradiction fun c => ?_
 have c : l ≤ k := List.not_lt.mp c
 by_cases e : l = k
 ·subst e; exact absurd h (Nat.lt_irrefl _)
 ·have c2 : l < k := Decidable.byContradiction fun c3 => e (List.le_antisymm c (List.not_lt.mp c3))
  exact absurd h (Nat.not_lt.mpr (rank_le c2 ks).1)
theorem TupI.fn {h : Heap} {v : Value} {k l : List Int} (x : TupI h v k) (y : TupI h v l) : k = l := by
 obtain ⟨a, o, its, n, rfl, ga, _, da, va⟩ := x
 obtain ⟨b, u, jts, m, e, gb, _, db, vb⟩ := y
 cases e
 rw [ga] at gb
 cases gb
 rw [da] at db
 cases db
 have go : ∀ {k l : List Int} {xs : List Value}, Vals (k.map V.int) xs → Vals (l.map V.int) xs → k = l := by
  intro k
  induction k with
  | nil =>
   intro l xs h1 h2
   cases h1
   cases l with
   | nil => rfl
   | cons b l => cases h2
  | cons a k ih =>
   intro l xs h1 h2
   cases h1 with
   | cons r1 h1 =>
    cases l with
    | nil => cases h2
    | cons b l =>
     cases h2 with
     | cons r2 h2 =>
      obtain ⟨t, e1⟩ := r1
      obtain ⟨u, e2⟩ := r2
      rw [e1] at e2
      cases e2
      rw [ih h1 h2]
 exact go va vb
theorem TupI.of {h h' : Heap} {v : Value} {k : List Int} (x : TupI h v k) (e : ∀ b o, v = .ref b → o.cls = .type "tuple" → h.get? b = some o → h'.get? b = some o) : TupI h' v k := by
 obtain ⟨a, o, its, n, rfl, ga, ca, r⟩ := x
 exact ⟨a, o, its, n, rfl, e a o rfl ca ga, ca, r⟩
open Classical in
noncomputable def rkV (h : Heap) (ks : List (List Int)) (v : Value) : Nat := if e : ∃ k, TupI h v k then rankOf ks e.choose else 0
theorem rkV_eq {h : Heap} {ks : List (List Int)} {v : Value} {k : List Int} (x : TupI h v k) : rkV h ks v = rankOf ks k := by
 unfold rkV
 have e : ∃ k, TupI h v k := ⟨k, x⟩
 rw [dif_pos e, e.choose_spec.fn x]
theorem cmp_tup {fo : Bool} {ks : List (List Int)} : Cmp P w A s (tuples' fo) (rkV s.heap ks) (fun v => ∃ k ∈ ks, TupI s.heap v k) := fun E Q x y ⟨k, hk, hx⟩ ⟨l, hl, hy⟩ q => by
 refine lt_tup hx hy ?_
 rw [rkV_eq hx, rkV_eq hy] at q
 rw [← decide_eq_decide.mpr (rank_lt (ks := ks) (l := l) hk)]
 exact q
open Classical in
noncomputable def keyV (h : Heap) (v : Value) : List Int := if e : ∃ k, TupI h v k then e.choose else []
theorem keyV_eq {h : Heap} {v : Value} {k : List Int} (x : TupI h v k) : keyV h v = k := by
 unfold keyV
 have e : ∃ k, TupI h v k := ⟨k, x⟩
 rw [dif_pos e, e.choose_spec.fn x]
theorem keys_map {h : Heap} : ∀ {ks : List (List Int)} {vs : List Value}, Paired (fun k v => TupI h v k) ks vs → ks = vs.map (keyV h) ∧ ∀ v ∈ vs, ∃ k ∈ ks, TupI h v k
 | [], _, p => by cases p; exact ⟨rfl, fun _ h => nomatch h⟩
 | k :: ks, _, p => by
  cases p with
  | cons r p =>
   obtain ⟨e, g⟩ := keys_map p
   refine ⟨by rw [List.map_cons, keyV_eq r, ← e], fun v hv => ?_⟩
   rcases List.mem_cons.mp hv with rfl | hv
   ·exact ⟨k, List.mem_cons_self, r⟩
   ·obtain ⟨l, hl, x⟩ := g v hv
    exact ⟨l, List.mem_cons_of_mem _ hl, x⟩
theorem paired_map {h : Heap} : ∀ {vs : List Value}, (∀ v ∈ vs, ∃ k, TupI h v k) → Paired (fun k v => TupI h v k) (vs.map (keyV h)) vs
 | [], _ => .nil
 | v :: vs, g => by
  obtain ⟨k, x⟩ := g v List.mem_cons_self
  exact .cons (by rw [keyV_eq x]; exact x) (paired_map fun u hu => g u (List.mem_cons_of_mem _ hu))
theorem out_ok {h : Heap} {ks : List (List Int)} {vs : List Value} {b : Array Keyed} (p : Paired (fun k v => TupI h v k) ks vs) (hp : b.Perm (pairsOf vs)) (hr : Rising (rkV h ks) b 0 vs.length) :
  ∃ ks', Paired (fun k v => TupI h v k) ks' (b.map (·.2)).toList ∧ ks'.Perm ks ∧ ks'.Pairwise (· < ·) ∧ (b.map (·.2)).toList.Perm vs := by
 obtain ⟨ek, g⟩ := keys_map p
 have hl := Array.perm_iff_toList_perm.mp hp
 have ep : (pairsOf vs).toList = vs.map fun v => (v, v) := by
  have z : ∀ l : List Value, l.zip l = l.map fun v => (v, v) := fun l => by
   induction l with
   | nil => rfl
   | cons a l ih => rw [List.zip_cons_cons, ih]; rfl
  unfold pairsOf
  rw [Array.toList_zip]
  exact z vs
 rw [ep] at hl
 have same : ∀ x ∈ b.toList, x.1 = x.2 ∧ x.2 ∈ vs := fun x hx => by
  obtain ⟨v, hv, rfl⟩ := List.mem_map.mp (hl.mem_iff.mp hx)
  exact ⟨rfl, hv⟩
 have eo : (b.map (·.2)).toList = b.toList.map (·.2) := by simp
 have po : (b.toList.map (·.2)).Perm vs := by
  have := hl.map (·.2)
  rw [List.map_map] at this
  simpa [Function.comp_def] using this
 rw [eo]
 refine ⟨(b.toList.map (·.2)).map (keyV h), paired_map fun v hv => ?_, ?_, ?_, po⟩
 ·obtain ⟨k, _, x⟩ := g v (po.mem_iff.mp hv)
  exact ⟨k, x⟩
 ·rw [ek]
  exact po.map _
 ·rw [List.map_map, List.pairwise_map, List.pairwise_iff_getElem]
  intro i j hi hj hij
  have hb : b.toList.length = vs.length := by have := po.length_eq; simpa using this
  have hi' : i < b.size := by simpa using hi
  have hj' : j < b.size := by simpa using hj
  have := hr i j (Nat.zero_le _) hij (by rw [← hb]; exact hj)
  rw [Rk_at hi', Rk_at hj'] at this
  have e1 := same b[i] (by simp)
  have e2 := same b[j] (by simp)
  obtain ⟨k, hk, x⟩ := g b[i].2 e1.2
  obtain ⟨l, _, y⟩ := g b[j].2 e2.2
  rw [e1.1, e2.1, rkV_eq x, rkV_eq y, rank_lt hk] at this
  show keyV h b.toList[i].2 < keyV h b.toList[j].2
  rw [Array.getElem_toList, Array.getElem_toList, keyV_eq x, keyV_eq y]
  exact this
theorem paired_imp {α β : Type} {F G : α → β → Prop} : ∀ {as : List α} {bs : List β}, Paired F as bs → (∀ a b, b ∈ bs → F a b → G a b) → Paired G as bs
 | [], _, h, _ => by cases h; exact .nil
 | a :: as, _, h, g => by
  cases h with
  | cons r h => exact .cons (g _ _ List.mem_cons_self r) (paired_imp h fun a b hb => g a b (List.mem_cons_of_mem _ hb))
theorem rk_map {h : Heap} {KS : List (List Int)} : ∀ {ks : List (List Int)} {vs : List Value}, Paired (fun k v => TupI h v k) ks vs → vs.map (rkV h KS) = ks.map (rankOf KS)
 | [], _, p => by cases p; rfl
 | k :: ks, _, p => by
  cases p with
  | cons r p => rw [List.map_cons, List.map_cons, rkV_eq r, rk_map p]
theorem rank_nd {ks : List (List Int)} (nd : ks.Nodup) : (ks.map (rankOf ks)).Nodup := by
 unfold List.Nodup
 rw [List.pairwise_map]
 refine List.Pairwise.imp_of_mem (fun {k l} hk hl ne e => ne ?_) nd
 have n1 : ¬ k < l := fun c => by have := (rank_lt hk).mpr c; omega
 have n2 : ¬ l < k := fun c => by have := (rank_lt hl).mpr c; omega
 exact List.le_antisymm (List.not_lt.mp n2) (List.not_lt.mp n1)
theorem pairs_rk {h : Heap} {KS ks : List (List Int)} {vs : List Value} (p : Paired (fun k v => TupI h v k) ks vs) : ((pairsOf vs).toList.map fun x => rkV h KS x.1) = ks.map (rankOf KS) := by
 have ep : (pairsOf vs).toList.map (·.1) = vs := by
  unfold pairsOf
  rw [Array.toList_zip, List.map_fst_zip (Nat.le_refl _)]
 rw [← rk_map p, ← ep, List.map_map, ep]
 rfl
theorem sort_tups {a : Addr} {vs : List Value} {ks : List (List Int)} {n : Nat} {R : Fin → Shared → Prop} (ho : s.heap.get? a = some (seqObj "list" vs.toArray n)) (p : Paired (fun k v => TupI s.heap v k) ks vs)
  (hne : 2 ≤ vs.length → ∀ k ∈ ks, k ≠ []) (nd : ks.Nodup) (hz : vs.length ≤ sizeLine)
  (q : ∀ (out : Array Value) (ks' : List (List Int)), Paired (fun k v => TupI s.heap v k) ks' out.toList → ks'.Perm ks → ks'.Pairwise (· < ·) → out.toList.Perm vs → R (.done (.ret .none)) { s with heap := sortedHeap s.heap a vs out }) :
  wpAny (model P w) A (Builtin.«list.sort» ⟨[.ref a], []⟩) R E s := by
 have la : a < s.heap.objs.size := Heap.lt_size ho
 rw [list_sort_plain]
 refine wpAny_bind (listItems_at ho rfl (wpAny_bind (listUpdate_at ho rfl ?_ (by simpa using hz) (Nat.zero_le _))))
 obtain ⟨e1, h1⟩ : ∃ e1, (s.heap.update a (Obj.mapSeq fun _ => #[])).get? a = some (seqObj "list" #[] e1) := ⟨_, get?_update_seq ho (fun _ => #[])⟩
 refine wpAny_bind (seqEpoch_at h1 rfl (wpAny_bind (wpAny_newTuple (wpAny_bind (wpAny_newList (wpAny_holding ?_))))))
 have h6 : (((s.heap.update a (Obj.mapSeq fun _ => #[])).push (seqObj "tuple" vs.toArray 0)).push (seqObj "list" #[] 0)).get? a = some (seqObj "list" #[] e1) := Heap.get?_push_of_some _ (Heap.get?_push_of_some _ h1)
 have keep : ∀ b o, o.cls = .type "tuple" → s.heap.get? b = some o → (((s.heap.update a (Obj.mapSeq fun _ => #[])).push (seqObj "tuple" vs.toArray 0)).push (seqObj "list" #[] 0)).get? b = some o := fun b o hc hb => by
  have ne : b ≠ a := fun e => by rw [e, ho] at hb; cases hb; simp at hc
  exact Heap.get?_push_of_some _ (Heap.get?_push_of_some _ ((Heap.get?_update_other _ _ (Ne.symm ne)).trans hb))
 have back : ∀ {v : Value} {k : List Int}, (∃ l, TupI s.heap v l) → TupI (((s.heap.update a (Obj.mapSeq fun _ => #[])).push (seqObj "tuple" vs.toArray 0)).push (seqObj "list" #[] 0)) v k → TupI s.heap v k := fun {v k} ⟨l, x⟩ y => by
  have := (x.of fun b o _ hc hb => keep b o hc hb).fn y
  exact this ▸ x
 have p6 : Paired (fun k v => TupI (((s.heap.update a (Obj.mapSeq fun _ => #[])).push (seqObj "tuple" vs.toArray 0)).push (seqObj "list" #[] 0)) v k) ks vs := paired_imp p fun k v _ x => x.of fun b o _ hc hb => keep b o hc hb
 have lk : ks.length = vs.length := p.length
 show wpAny (model P w) A _ R E { s with heap := ((s.heap.update a (Obj.mapSeq fun _ => #[])).push (seqObj "tuple" vs.toArray 0)).push (seqObj "list" #[] 0) }
 dsimp only
 have size : vs.toArray.size = vs.length := by simp
 have fin : ∀ b : Array Keyed, b.Perm (pairsOf vs) → Rising (rkV (((s.heap.update a (Obj.mapSeq fun _ => #[])).push (seqObj "tuple" vs.toArray 0)).push (seqObj "list" #[] 0)) ks) b 0 vs.length → R (.done (.ret .none)) { s with heap := sortedHeap s.heap a vs (b.map (·.2)) } := fun b hp hr => by
  obtain ⟨ks', g1, g2, g3, g4⟩ := out_ok p6 hp hr
  refine q _ ks' (paired_imp g1 fun k v hv x => back ?_ x) g2 g3 g4
  obtain ⟨l, _, y⟩ := (keys_map p).2 v (g4.mem_iff.mp hv)
  exact ⟨l, y⟩
 by_cases h2 : vs.toArray.size < 2
 ·rw [if_pos h2, if_pos h2]
  refine wpAny_bind (wpAny_pure ?_)
  rw [StateT.run_pure]
  refine wpAny_bind (wpAny_pure ?_)
  dsimp only
  refine wpAny_bind (seqEpoch_at h6 rfl (wpAny_bind (listUpdate_at h6 rfl ?_ (hsz2 := ?_))))
  ·simp only [bne_self_eq_false, Bool.false_eq_true, if_false]
   refine wpAny_pure (fin (vs.toArray.zip vs.toArray) (Array.Perm.refl _) fun u v _ h3 h4 => ?_)
   omega
  ·rw [Array.size_map]
   show (pairsOf vs).size ≤ _
   rw [pairsOf_size]
   omega
 ·rw [if_neg h2, if_neg h2]
  refine wpAny_bind (kind_tup p6 (hne (by omega)) (by omega) (wpAny_bind ?_))
  have kk := keys_map p6
  have ep : (pairsOf vs).toList.map (·.1) = vs := by
   unfold pairsOf
   rw [Array.toList_zip, List.map_fst_zip (Nat.le_refl _)]
  have ok : SOk (tuples' true) (rkV (((s.heap.update a (Obj.mapSeq fun _ => #[])).push (seqObj "tuple" vs.toArray 0)).push (seqObj "list" #[] 0)) ks) (fun v => ∃ k ∈ ks, TupI (((s.heap.update a (Obj.mapSeq fun _ => #[])).push (seqObj "tuple" vs.toArray 0)).push (seqObj "list" #[] 0)) v k) (SortSt.mk' (tuples' true) (pairsOf vs) #[] 7 none) := ⟨rfl, rfl, ⟨fun x hx => kk.2 x.1 (by rw [← ep]; exact List.mem_map.mpr ⟨x, hx, rfl⟩), by
   rw [pairs_rk p6]
   exact rank_nd nd⟩⟩
  have zp : (pairsOf vs).size = vs.length := pairsOf_size _
  refine wpAny_mono (w_runs (s := { s with heap := ((s.heap.update a (Obj.mapSeq fun _ => #[])).push (seqObj "tuple" vs.toArray 0)).push (seqObj "list" #[] 0) }) (Q := fun _ st' => (arrOf st').Perm (pairsOf vs) ∧ failedOf st' = none ∧ Rising (rkV (((s.heap.update a (Obj.mapSeq fun _ => #[])).push (seqObj "tuple" vs.toArray 0)).push (seqObj "list" #[] 0)) ks) (arrOf st') 0 vs.length) cmp_tup ok rfl (by show 2 ≤ (pairsOf vs).size; omega) fun st' g1 g2 g3 => ⟨g1, g2, by rw [← zp]; exact g3⟩) (fun r s' hr => ?_) fun _ _ e => e
  ·obtain ⟨r1, st'⟩ := r
   obtain ⟨rfl, g1, g2, g3⟩ := hr
   dsimp only
   refine wpAny_bind (seqEpoch_at h6 rfl (wpAny_bind (listUpdate_at h6 rfl ?_ (hsz2 := ?_))))
   ·rw [g2]
    simp only [bne_self_eq_false, Bool.false_eq_true, if_false]
    exact wpAny_pure (fin _ g1 g3)
   ·rw [Array.size_map, g1.size_eq, zp]
    omega
theorem sorted_raw {d : Addr} {es : Array DictEntry} {ep : Nat} {ks : List (List Int)} {Q : Value → Shared → Prop} (hh : A.handled = none) (nd0 : (d == sysModules) = false) (x : RawD s.heap d es ep) (hz : es.size ≤ sizeLine)
  (p : Paired (fun k v => TupI s.heap v k) ks (es.toList.map (·.key))) (hne : 2 ≤ ks.length → ∀ k ∈ ks, k ≠ []) (nd : ks.Nodup)
  (q : ∀ (h' : Heap) (tk : Nat) (l : Addr) (out : Array Value) (ks' : List (List Int)) (c : Nat), (∀ b o, s.heap.get? b = some o → h'.get? b = some o) → s.heap.objs.size ≤ l → h'.get? l = some (seqObj "list" out c) → Paired (fun k v => TupI s.heap v k) ks' out.toList → ks'.Perm ks → ks'.Pairwise (· < ·) → out.toList.Perm (es.toList.map (·.key)) → Q (.ref l) { s with heap := h', toks := tk }) :
  wpAny (model P w) A (call (.builtin "sorted") [.ref d]) Q E s := by
 have lk : ks.length = (es.toList.map (·.key)).length := p.length
 have le : (es.toList.map (·.key)).length = es.size := by simp
 refine Calls.call_function_entry kind_sorted plain_sorted entry_sorted (args_sorted1 _) ?_
 unfold Builtin.«sorted»
 refine wpAny_bind (m := checkCount "sorted" 1 1 _) (wpAny_pure ?_)
 refine wpAny_bind (collect_raw hh nd0 x hz fun h1 tk k1 lt1 => wpAny_bind (wpAny_newList ?_))
 have ho : (h1.push (seqObj "list" (es.toList.map (·.key)).toArray 0)).get? h1.objs.size = some (seqObj "list" (es.toList.map (·.key)).toArray 0) := Heap.get?_push_size _ rfl
 have sz : s.heap.objs.size ≤ h1.objs.size := Nat.le_of_lt lt1
 have k2 : ∀ b o, s.heap.get? b = some o → (h1.push (seqObj "list" (es.toList.map (·.key)).toArray 0)).get? b = some o := fun b o hb => Heap.get?_push_of_some _ (k1 b o hb)
 have p2 : Paired (fun k v => TupI (h1.push (seqObj "list" (es.toList.map (·.key)).toArray 0)) v k) ks (es.toList.map (·.key)) := paired_imp p fun k v _ y => y.of fun b o _ _ hb => k2 b o hb
 show wpAny _ _ _ _ _ { s with heap := h1.push (seqObj "list" (es.toList.map (·.key)).toArray 0), toks := tk }
 refine wpAny_bind (wpAny_holding (wpAny_call_entry slot_list_sort ⟨_, ho, rfl⟩ entry_list_sort (sort_tups (s := { s with heap := h1.push (seqObj "list" (es.toList.map (·.key)).toArray 0), toks := tk }) ho p2 (fun h => hne (by omega)) nd (by rw [le]; exact hz) fun out ks' g1 g2 g3 g4 => ⟨_, rfl, wpAny_pure ⟨_, rfl, ?_⟩⟩) (args_list_sort _)))
 obtain ⟨c, e⟩ := sortedHeap_at (a := h1.objs.size) (vs := es.toList.map (·.key)) (out := out) ho
 refine q _ tk _ out ks' c (fun b o hb => ?_) sz e ?_ g2 g3 g4
 ·have lt := Heap.lt_size (k1 b o hb)
  rw [sortedHeap_old (Nat.ne_of_lt lt) (Nat.lt_of_lt_of_le lt (by rw [size_push']; exact Nat.le_succ _))]
  exact k2 b o hb
 ·refine paired_imp g1 fun k v hv y => ?_
  obtain ⟨l, _, z⟩ := (keys_map p).2 v (g4.mem_iff.mp hv)
  have := (z.of fun b o _ _ hb => k2 b o hb).fn y
  exact this ▸ z
end
end L2
namespace L2
open PySem PySem.Spec PyProof.Rows
theorem perm_map {α β : Type} {f : α → β} {l l' : List β} (h : l'.Perm l) : ∀ {xs : List α}, l = xs.map f → ∃ ys : List α, ys.Perm xs ∧ l' = ys.map f := by
 induction h with
 | nil =>
  intro xs e
  cases xs with
  | nil => exact ⟨[], .refl _, rfl⟩
  | cons x xs => simp at e
 | cons a h ih =>
  intro xs e
  cases xs with
  | nil => simp at e
  | cons x xs =>
   rw [List.map_cons] at e
   obtain ⟨e1, e2⟩ := List.cons.inj e
   obtain ⟨ys, p, e3⟩ := ih e2
   exact ⟨x :: ys, p.cons x, by rw [List.map_cons, ← e1, ← e3]⟩
 | swap a b l =>
  intro xs e
  match xs with
  | [] => simp at e
  | [x] => simp at e
  | x :: y :: xs =>
   rw [List.map_cons, List.map_cons] at e
   obtain ⟨e1, e2⟩ := List.cons.inj e
   obtain ⟨e2, e3⟩ := List.cons.inj e2
   exact ⟨y :: x :: xs, .swap x y xs, by rw [List.map_cons, List.map_cons, ← e1, ← e2, ← e3]⟩
 | trans h1 h2 i1 i2 =>
  intro xs e
  obtain ⟨ys, p, e1⟩ := i2 e
  obtain ⟨zs, p2, e2⟩ := i1 e1
  exact ⟨zs, p2.trans p, e2⟩
section
variable {X : Cx} {K : PySem.W.Frag}
theorem tupI_of {pins : List (Addr × Obj)} {σ : St} {H : Hp} {s : Shared} {b : Addr} {k : List Int} (I : Inv X pins σ H s) (h : SqT X.K H b (k.map V.int)) : TupI s.heap (.ref b) k := by
 obtain ⟨its, r, ⟨o, ho, hc, n, hd⟩, _⟩ := I.tuple h
 exact ⟨b, o, its.toArray, n, rfl, ho, hc, hd, by simpa using r⟩
def SortG (ks : List (List Int)) : Prop := 2 ≤ ks.length → ∀ k ∈ ks, k ≠ []
theorem call_sortT (hc : X.calm = true) : CallR X (.builtin "sorted") (fun vs H Q => ∃ a xs, vs = [.ref a] ∧ H a = some (.ext (DicT a xs)) ∧ KeysT X.K H xs ∧ SortG (xs.map (·.1)) ∧
  ∀ ys : List (List Int × Addr × Value), ys.Perm xs → (ys.map (·.1)).Pairwise (· < ·) → ∀ l, H l = none → Q (.ref l) (upd H l (.lst (ys.map fun y => V.ref y.2.1)))) := by
 intro pins s σ H vs us Q I r ⟨a, xs, ev, hx, hk, c1, q⟩
 subst ev
 obtain ⟨u, rfl, ru⟩ := vals1 r
 cases ru
 obtain ⟨⟨z, y, nd, o, es, ep, g1, g2, g3, g4⟩, _⟩ := I.hok a _ hx
 have ek : es.toList.map (·.key) = xs.map fun x => Value.ref x.2.1 := by
  rw [g4, List.map_map]
  rfl
 have p : ∀ zs : List (List Int × Addr × Value), (∀ x ∈ zs, x ∈ xs) → Paired (fun k v => TupI s.heap v k) (zs.map (·.1)) (zs.map fun x => Value.ref x.2.1) := fun zs hz => by
  induction zs with
  | nil => exact .nil
  | cons x zs ih => exact .cons (tupI_of I (hk x (hz x List.mem_cons_self))) (ih fun y hy => hz y (List.mem_cons_of_mem _ hy))
 have le : es.size = xs.length := by rw [← Array.length_toList, g4, List.length_map]
 refine sorted_raw (I.ok.hd hc) y ⟨o, g1, g2, g3⟩ (by rw [le]; exact z) (ks := xs.map (·.1)) (by rw [ek]; exact p xs fun _ h => h) (show 2 ≤ (xs.map (·.1)).length → ∀ k ∈ xs.map (·.1), k ≠ [] from c1) nd fun h' tk l out ks' c keep hl e pr pm pw po => ?_
 rw [ek] at po
 obtain ⟨ys, py, eo⟩ := perm_map po rfl
 have hy := p ys fun x hx => py.mem_iff.mp hx
 have eks : ks' = ys.map (·.1) := by
  rw [eo] at pr
  exact (keys_map pr).1.trans (keys_map hy).1.symm
 rw [eks] at pw
 refine ⟨.ref l, _, I.laid (t' := tk) keep hl (show ObjOk X.prog X.w _ h' _ (.lst (ys.map fun y => V.ref y.2.1)) from ⟨by rw [List.length_map, py.length_eq]; exact z, out.toList, c, ?_, by simpa using e⟩), rfl, q ys py pw l (I.hok.fresh hl)⟩
 rw [eo]
 clear eo pr eks pw hy py po
 induction ys with
 | nil => exact .nil
 | cons y ys ih => exact .cons rfl ih
def kSortG : MC := fun ws h Q => match ws with
 | [.loc n] => (match h.c n with
  | some (.dtt kvs) => SortG (kvs.map (·.1)) ∧ ∀ ks : List (List Int), ks.Perm (kvs.map (·.1)) → ks.Pairwise (· < ·) → Q (.lst (ks.map fun k => .tup (k.map .int))) h
  | _ => False)
 | _ => False
theorem c_sortG (hc : X.calm = true) : DCall X (.builtin "sorted") kSortG := ⟨_, call_sortT hc, by
 intro H μ h vs ws Qw Q R r m k
 unfold kSortG at m
 split at m
 ·rename_i n
  split at m
  ·rename_i kvs ec
   obtain ⟨p, xs, vs', hp, hx, e1, e2, r3, r4⟩ := R.dttAt ec
   obtain ⟨v, rfl, r1⟩ := reps1 r
   rw [Rep] at r1
   obtain ⟨p', rfl, hp'⟩ := r1
   have ep : p' = p := by rw [hp] at hp'; exact (Option.some.inj hp').symm
   subst ep
   obtain ⟨m1, m2⟩ := m
   rw [e1] at m1 m2
   refine ⟨p', xs, rfl, hx, keysT_of e1 r3, m1, fun ys py pw l hl => ?_⟩
   refine k _ _ ⟨μ, _, h, (Ex.laid hl).ext, R.laid hl, ?_, m2 (ys.map (·.1)) (py.map _) pw⟩
   refine .lstNew R hl ?_
   have kk := keysT_of e1 r3
   have go : ∀ zs : List (List Int × Addr × Value), (∀ z ∈ zs, z ∈ xs) → Reps X.K H μ ((zs.map (·.1)).map fun k => W.tup (k.map .int)) (zs.map fun y => V.ref y.2.1) := fun zs hz => by
    induction zs with
    | nil => exact .nil
    | cons z zs ih =>
     refine Reps.cons ?_ (ih fun y hy => hz y (List.mem_cons_of_mem _ hy))
     rw [Rep]
     exact ⟨z.2.1, z.1.map V.int, rfl, kk z (hz z List.mem_cons_self), reps_ints _⟩
   exact go ys fun z hz => py.mem_iff.mp hz
  ·exact m.elim
 ·exact m.elim⟩
end
section
variable {X : Cx} {o e1 e2 : Expr} {mo : ME} {ma : MA} {apos cpos : Pos}
def kGetT : MM := fun x ws h Q => match x, ws with
 | .loc n, [y, z] => (match h.c n, tKey y with
  | some (.dtt kvs), some k => Q ((valT kvs k).getD z) h
  | _, _ => False)
 | _, _ => False
def isDtt (h : Gh) (x : W) (P : Prop) : Prop := match x with
 | .loc n => (match h.c n with
  | some (.dtt _) => P
  | _ => False)
 | _ => False
def mBMd (r : MM) (mo : ME) (ma : MA) : ME := fun σ h Q => mo σ h fun x h1 => isDtt h1 x (ma σ h1 fun xs h2 => r x xs h2 Q)
theorem d_getT (hu : X.A.units + 30 < cLine) (ho : DE X o mo) (ha : DAs X [e1, e2] ma)
  (hbase : attributeBase o "get" X.env (eval o X.env) = eval o X.env := by rfl)
  (hfew : ((backTo cpos (starEach [e1, e2] X.env)).all (fun x => !x.1) && (backToKw cpos (keywordEach [] X.env)).all (fun x => x.1.isSome)
   && decide (([e1, e2] : List Expr).length + ([] : List Keyword).length + (if ([] : List Keyword).isEmpty then 0 else 1) < 30)) = true := by rfl)
  (hline : (apos.endLine == cpos.line) = true := by rfl) (hst : starEach [e1, e2] X.env = (false, eval e1 X.env) :: starEach [e2] X.env := by rfl) (hplain : (backTo cpos (starEach [e2] X.env)).any (·.1) = false := by rfl) :
  DE X (.Call (.Attribute o "get" apos) [e1, e2] [] cpos) (mBMd kGetT mo ma) := by
 intro pins s σ H Q I ⟨μ, h, σw, Qw, R, S, m, k⟩
 refine wpAny_Call_method_late hbase hfew hline rfl (thn (ho pins s σ H _ I ⟨μ, h, σw, _, R, S, m, fun _ _ z => z⟩) fun u s1 ⟨x, H1, I1, rx, μ1, wx, h1, e1', R1, r1, il⟩ => ?_)
 unfold isDtt at il
 dsimp only at il
 split at il
 ·rename_i n
  split at il
  ·rename_i kv0 ec0
   have r0 := r1
   rw [Rep] at r1
   obtain ⟨a, rfl, ha'⟩ := r1
   obtain rfl : u = Value.ref a := rx
   obtain ⟨p, xs, vs, hp, hx, _⟩ := R1.dttAt ec0
   have ep : p = a := by rw [ha'] at hp; exact (Option.some.inj hp).symm
   subst ep
   obtain ⟨⟨z, y, nd, ob, es, epo, g1, g2, g3, g4⟩, _⟩ := I1.hok p _ hx
   refine ⟨"dict", "dict.get", PySem.F.plainAttrs_dict, PySem.F.slot_dict_get, PySem.F.type_dict_get, ⟨ob, g1, g2.1⟩, fun b e => by cases e; exact ⟨ob, g1, g2.2.1⟩, ?_⟩
   have hA := ha cpos pins s1 σ H1 _ I1 ⟨μ1, h1, σw, _, R1, S.ext e1', il, fun _ _ z => z⟩
   rw [hst] at hA ⊢
   refine Calls.callWith_builtin (by show (false || (backTo cpos (starEach [e2] X.env)).any (·.1)) = false; rw [hplain] <;> rfl) (Calls.evalArgs_plain ?_)
   refine thn hA fun us s2 ⟨ys, H2, I2, r2, μ2, ws, h2, e2', R2, rs, m2⟩ => ?_
   unfold kGetT at m2
   dsimp only at m2
   split at m2
   ·rename_i n' y' z' e3
    cases e3
    split at m2
    ·rename_i kvs kk ec ek
     obtain ⟨v1, v2, rfl, ry, rz⟩ := reps2 rs
     obtain ⟨b, rfl, hb⟩ := tKey_rep ry ek
     obtain ⟨u1, u2, rfl, ru1, ru2⟩ := vals2 r2
     cases ru1
     obtain ⟨p2, xs2, vs2, hp2, hx2, q1, q2, q3, q4⟩ := R2.dttAt ec
     have r0' := e2'.r _ _ r0
     rw [Rep] at r0'
     obtain ⟨a2, ea, ha2⟩ := r0'
     cases ea
     have ep2 : p2 = p := by rw [ha2] at hp2; exact (Option.some.inj hp2).symm
     subst ep2
     obtain ⟨_, hd2, dd⟩ := dicT_of I2 hx2 (keysT_of q1 q3)
     obtain ⟨t1, t2⟩ := dtt_val q1 q2 q4 kk
     refine call_meetsIn PySem.F.slot_dict_get dd.typeIs PySem.F.entry_dict_get (PySem.F.args_dict_get_3 _ _ _) (meetsH_dict_get_default (tupleKind (intKind X.prog X.w)) p2 b hd2 u2) ⟨tupleKind_room_in1 (by omega), kk, xs2, key_sq I2 hb, dd, ?_⟩
     cases ev : valT kvs kk with
     | some wv =>
      rw [ev] at m2
      obtain ⟨pp, v, a1, a2, a3⟩ := t1 wv ev
      rw [a1]
      exact ⟨v, H2, I2.tok _, a2, k _ _ ⟨μ2, wv, h2, e1'.trans e2', R2, a3, m2⟩⟩
     | none =>
      rw [ev] at m2 t2
      have a1 : atKey xs2 kk = none := by
       cases e : atKey xs2 kk with
       | none => rfl
       | some _ => rw [e] at t2; cases t2
      rw [a1]
      exact ⟨v2, H2, I2.tok _, ru2, k _ _ ⟨μ2, z', h2, e1'.trans e2', R2, rz, m2⟩⟩
    ·exact m2.elim
   ·exact m2.elim
  ·exact il.elim
 ·exact il.elim
end
end L2
namespace L2
open PySem PySem.Spec PyProof.Rows
section
variable {X : Cx} {K : PySem.W.Frag}
variable {o e : Expr} {mo : ME} {ma : MA} {apos cpos : Pos}
end
end L2
namespace L2
open PySem PySem.Spec PyProof.Rows
section
variable {prog : Program} {w : World} {A : Around} {R : Result → Shared → Prop} {E : Value → Shared → Prop} {L I : Addr} {ns : List Int} {its : List Value}
end
section
variable {X : Cx}
end
end L2
namespace L2
open PySem PySem.Spec PyProof.Rows
section
open AutoSeq1 (wpAny_loadPart')
set_option maxRecDepth 100000
end
section
variable {prog : Program} {w : World} {A : Around} {E : Value → Shared → Prop} {s : Shared}
end
section
variable {X : Cx} {K : PySem.W.Frag}
end
end L2
namespace L2
open PySem PySem.Spec PyProof.Rows
section
variable {prog : Program} {w : World} {A : Around} {R : Result → Shared → Prop} {L I : Addr} {its : List Value}
end
section
variable {X : Cx} {K : PySem.W.Frag}
end
end L2
namespace L2
open PySem PySem.Spec PyProof.Rows
section
variable {X : Cx} {K : PySem.W.Frag}
def zipC (h : Gh) (x y : W) : Option Src := match stayW x, y with
 | some as, .loc n => (match h.c n with
  | some (.lst bs) => some ⟨zipW as bs, some (n, bs)⟩
  | _ => none)
 | _, _ => none
end
end L2
namespace L2
open PySem PySem.Spec PyProof.Rows
section
variable {X : Cx}
end
end L2
namespace L2
open PySem PySem.Spec PyProof.Rows
section
variable {prog : Program} {w : World} {A : Around} {E : Value → Shared → Prop} {s : Shared}
theorem tuple_keys_none : typeLookup (.type "tuple") "keys" = pure none := by rw [typeLookup_type, builtinLookup_eq_fast]; kernel_rfl
theorem list_keys_none : typeLookup (.type "list") "keys" = pure none := by rw [typeLookup_type, builtinLookup_eq_fast]; kernel_rfl
set_option maxRecDepth 100000 in
theorem noKeys_tup {a : Addr} {o : Obj} {xs : Array Value} {k : Nat} {Q : Option Value → Shared → Prop} (hx : s.heap.get? a = some o) (hc : o.cls = .type "tuple") (hdat : o.data = .seq xs k) (hd : o.dict = none) (hA : A.handled = none)
  (h : ∀ h' tk, (∀ b ob, s.heap.get? b = some ob → h'.get? b = some ob) → Q none { s with heap := h', toks := tk }) : wpAny (model prog w) A (getAttr? (.ref a) "keys") Q E s := by
 obtain ⟨c, dct, dat, sl⟩ := o
 simp only at hc hdat hd
 subst hc hdat hd
 obtain ⟨hp, g, d, tk, os⟩ := s
 have hT : ∀ tk', (⟨hp, g, d, tk', os⟩ : Shared).TypeIs (.ref a) "tuple" := fun _ => ⟨_, hx, rfl⟩
 have f1 := sub_AttributeError
 have f3 := F.slot_tuple_getattribute.lookup
 have f4 := F.slot_tuple_getattribute.bind (.ref a)
 have f5 := am_tuple_getattr_none
 unfold getAttr? getAttrBy? getAttrBy
 repeat (any_goals (first | assumption | exact hT _ | ((with_reducible show wpAny _ _ (call (Value.builtin "tuple.__getattribute__") _ _) _ _ _); refine call_meets F.slot_tuple_getattribute (hT _) am_entry_tuple_getattribute (F.args_tuple_getattribute_2 _ _) (meets_getattribute_miss_tuple a xs k sl "keys" _ tuple_keys_none (by decide) (by size_fits)) ⟨hx, hA, fun h' tk' e hx' => ?_⟩) | wp_step))
 obtain ⟨t', u', he⟩ := hx'.there
 show wpAny _ _ (getattributeRaised _ _ _ _ _ _ _) _ _ _
 unfold getattributeRaised
 repeat (any_goals (first | assumption | wp_step))
 exact h _ _ hx'.keeps
set_option maxRecDepth 100000 in
theorem noKeys_lst {a : Addr} {o : Obj} {xs : Array Value} {k : Nat} {Q : Option Value → Shared → Prop} (hx : s.heap.get? a = some o) (hc : o.cls = .type "list") (hdat : o.data = .seq xs k) (hd : o.dict = none) (hA : A.handled = none)
  (h : ∀ h' tk, (∀ b ob, s.heap.get? b = some ob → h'.get? b = some ob) → Q none { s with heap := h', toks := tk }) : wpAny (model prog w) A (getAttr? (.ref a) "keys") Q E s := by
 obtain ⟨c, dct, dat, sl⟩ := o
 simp only at hc hdat hd
 subst hc hdat hd
 obtain ⟨hp, g, d, tk, os⟩ := s
 have hT : ∀ tk', (⟨hp, g, d, tk', os⟩ : Shared).TypeIs (.ref a) "list" := fun _ => ⟨_, hx, rfl⟩
 have f1 := sub_AttributeError
 have f3 := F.slot_list_getattribute.lookup
 have f4 := F.slot_list_getattribute.bind (.ref a)
 have f5 := am_list_getattr_none
 unfold getAttr? getAttrBy? getAttrBy
 repeat (any_goals (first | assumption | exact hT _ | ((with_reducible show wpAny _ _ (call (Value.builtin "list.__getattribute__") _ _) _ _ _); refine call_meets F.slot_list_getattribute (hT _) am_entry_list_getattribute (F.args_list_getattribute_2 _ _) (meets_getattribute_miss_list a xs k sl "keys" _ list_keys_none (by decide) (by size_fits)) ⟨hx, hA, fun h' tk' e hx' => ?_⟩) | wp_step))
 obtain ⟨t', u', he⟩ := hx'.there
 show wpAny _ _ (getattributeRaised _ _ _ _ _ _ _) _ _ _
 unfold getattributeRaised
 repeat (any_goals (first | assumption | wp_step))
 exact h _ _ hx'.keeps
theorem entry_dul : entryFor table "dict.update.loop" = some Builtin.«dict.update.loop» := entryFor_of_tree (by kernel_rfl)
theorem plain_dul : plainId "dict.update.loop" = true := by decide +kernel
abbrev tkd (prog : Program) (w : World) := tupleKind (intKind prog w)
theorem is_mono {h h' : Heap} {k : List Int} {a : Addr} (x : (tkd prog w).is h k a) (m : ∀ b o, h.get? b = some o → h'.get? b = some o) : (tkd prog w).is h' k a := by
 obtain ⟨o, its, n, ho, r⟩ := x
 exact ⟨o, its, n, m _ _ ho, r⟩
theorem dictH_mono {h0 h h' : Heap} {d : Addr} {xs : List (List Int × Addr × Value)} (x : Heap.DictOfH (tkd prog w) h d xs) (hd : ∀ o, h.get? d = some o → h'.get? d = some o) (hk : ∀ y ∈ xs, (tkd prog w).is h' y.1 y.2.1) : Heap.DictOfH (tkd prog w) h' d xs := by
 obtain ⟨o, es, ep, e1, e2, e3, e4, _, e6⟩ := x
 exact ⟨o, es, ep, hd o e1, e2, e3, e4, hk, e6⟩
theorem dict_loop {R : Result → Shared → Prop} {I d : Addr} {items : Array Value} {fp : List Addr} {St : Nat → Heap → Prop} (W : Walks prog w A.in1 I fp [I] items.size (fun i v => items[i]? = some v) St) (hdf : d ∉ fp) (hu : A.in1.units < cLine) (h0 : Heap) (hd0 : h0.get? d = none) (hI0 : h0.get? I = none)
  {ps : List (List Int × Addr × Value)} (hp : items.size = ps.length) (hk : ∀ (j : Nat) (p : List Int × Addr × Value), ps[j]? = some p → ∃ q, items[j]? = some (.ref q) ∧ IsTup h0 q #[.ref p.2.1, p.2.2] ∧ (tkd prog w).is h0 p.1 p.2.1) (nd : (ps.map (·.1)).Nodup) (hz : ps.length ≤ sizeLine) :
  ∀ (k j : Nat) (s : Shared) (t : Tok), ps.length - j = k → j ≤ ps.length → St j s.heap → Heap.DictOfH (tkd prog w) s.heap d (ps.take j) → (∀ b o, h0.get? b = some o → s.heap.get? b = some o) →
  (∀ h' tk, Heap.DictOfH (tkd prog w) h' d ps → (∀ b o, h0.get? b = some o → h'.get? b = some o) → R (.ok (.ret .none)) { s with heap := h', toks := tk }) →
  codeAny (model prog w) A (.builtin "dict.update.loop" ⟨[.ref d, .ref I, .int (j : Int) t, .none], []⟩) R s := by
 have dI : d ≠ I := fun e => hdf (W.sub d (by rw [e]; simp))
 have keys : ∀ (j : Nat) (h' : Heap), (∀ b o, h0.get? b = some o → h'.get? b = some o) → ∀ y ∈ ps.take j, (tkd prog w).is h' y.1 y.2.1 := fun j h' m y hy => by
  obtain ⟨i, hi, e⟩ := List.mem_iff_getElem.mp (List.mem_of_mem_take hy)
  obtain ⟨q, _, _, hq⟩ := hk i y (by rw [← e]; exact List.getElem?_eq_getElem hi)
  exact is_mono hq m
 intro k
 induction k with
 | zero =>
  intro j s t hkj hj st hm h00 hR
  have ej : j = ps.length := by omega
  refine codeAny_builtin entry_dul ?_
  rw [Around.under_plainId plain_dul _]
  show wpAny _ A.in1 (pyNext (.ref I) >>= _) _ _ s
  refine wpAny_bind (W.done s _ _ (by rw [hp, ← ej]; exact st) fun h' tk hk' => ?_)
  have m : ∀ b o, h0.get? b = some o → h'.get? b = some o := fun b o e => hk' b o (by intro z; rw [List.mem_singleton.mp z, hI0] at e; cases e) (h00 b o e)
  have hm' : Heap.DictOfH (tkd prog w) h' d ps := by
   rw [ej, List.take_length] at hm
   refine dictH_mono (h0 := h0) hm (fun o e => hk' d o (by simpa using dI) e) fun y hy => keys ps.length h' m y (by rw [List.take_length]; exact hy)
  exact wpAny_bind (wpAny_pure (wpAny_pure (hR h' tk hm' m)))
 | succ k ih =>
  intro j s t hkj hj st hm h00 hR
  have hlt : j < ps.length := by omega
  have ep : ps[j]? = some ps[j] := List.getElem?_eq_getElem hlt
  generalize ps[j] = p at ep
  obtain ⟨q, eq, hq, hkey⟩ := hk j p ep
  refine codeAny_builtin entry_dul ?_
  rw [Around.under_plainId plain_dul _]
  show wpAny _ A.in1 (pyNext (.ref I) >>= _) _ _ s
  refine wpAny_bind (W.item j s _ _ (by rw [hp]; exact hlt) st fun v h' tk hP st' hk' => ?_)
  have ev : v = .ref q := by rw [eq] at hP; exact (Option.some.inj hP).symm
  subst ev
  have m : ∀ b o, h0.get? b = some o → h'.get? b = some o := fun b o e => hk' b o (by intro z; rw [List.mem_singleton.mp z, hI0] at e; cases e) (h00 b o e)
  have hm' : Heap.DictOfH (tkd prog w) h' d (ps.take j) := dictH_mono (h0 := h0) hm (fun o e => hk' d o (by simpa using dI) e) (keys j h' m)
  obtain ⟨oq, goq, cq, nq, dq⟩ := hq
  have goq' := m _ _ goq
  refine wpAny_bind (wpAny_holding (wpAny_bind (wpAny_tryCatch ?_)))
  unfold Builtin.Dict.pairItems
  refine wpAny_bind (wpAny_typeOf (T := "tuple") ⟨oq, goq', cq⟩ ?_)
  rw [if_pos (by decide)]
  refine wpAny_bind (wpAny_seqItems goq' dq (wpAny_pure ?_))
  show wpAny _ _ (holding [_, _] (dictSet d _ _)) _ _ _
  have hno : atKey (ps.take j) p.1 = none := by
   unfold atKey
   rw [Option.map_eq_none_iff, List.find?_eq_none]
   intro y hy
   have hn : p.1 ∉ (ps.take j).map (·.1) := by
    have e1 : ps = ps.take j ++ p :: ps.drop (j + 1) := by
     conv => lhs; rw [← List.take_append_drop j ps]
     congr 1
     rw [List.drop_eq_getElem_cons hlt]
     congr 1
     rw [List.getElem?_eq_getElem hlt] at ep
     exact Option.some.inj ep
    rw [e1, List.map_append, List.nodup_append] at nd
    intro z
    exact nd.2.2 _ z p.1 (by simp) rfl
   intro z
   exact hn (List.mem_map.mpr ⟨y, hy, by simpa using z⟩)
  refine wpAny_holding (wpAny_dictSet_heap (hsz := by rw [List.length_take]; omega) hu (is_mono hkey m) hm' fun h2 hd2 hs2 => ?_)
  rw [storedH_new hno] at hd2
  have et : ps.take j ++ [(p.1, p.2.1, p.2.2)] = ps.take (j + 1) := by rw [List.take_succ, ep]; rfl
  rw [et] at hd2
  have keep2 : ∀ b o, b ≠ d → h'.get? b = some o → h2.get? b = some o := fun b o hb e => hs2.extBut b o hb e
  refine wpAny_pure ⟨plainId_quiet plain_dul _, ?_⟩
  have ej : ((j : Int) + 1) = ((j + 1 : Nat) : Int) := by omega
  show codeAny _ _ (.builtin "dict.update.loop" ⟨[.ref d, .ref I, .int ((j : Int) + 1) 0, .none], []⟩) _ _
  rw [ej]
  refine ih (j + 1) _ 0 (by omega) hlt (W.frame _ _ _ st' fun b hb o e => keep2 b o (fun z => hdf (z ▸ hb)) e) hd2 (fun b o e => keep2 b o (fun z => by rw [z, hd0] at e; cases e) (m b o e)) fun h3 tk3 d3 m3 => hR h3 tk3 d3 m3
theorem call_dict_raw {T : Addr} {items : Array Value} {Q : Value → Shared → Prop} (hh : A.handled = none) (hu : A.units + 30 < cLine)
  (src : (∃ o n, s.heap.get? T = some o ∧ o.cls = .type "tuple" ∧ o.data = .seq items n ∧ o.dict = none) ∨ (∃ o n, s.heap.get? T = some o ∧ o.cls = .type "list" ∧ o.data = .seq items n ∧ o.dict = none))
  {ps : List (List Int × Addr × Value)} (hp : items.size = ps.length) (hk : ∀ (j : Nat) (p : List Int × Addr × Value), ps[j]? = some p → ∃ q, items[j]? = some (.ref q) ∧ IsTup s.heap q #[.ref p.2.1, p.2.2] ∧ (tkd prog w).is s.heap p.1 p.2.1) (nd : (ps.map (·.1)).Nodup) (hz : ps.length ≤ sizeLine)
  (h : ∀ h' tk, Heap.DictOfH (tkd prog w) h' s.heap.objs.size ps → (∀ b o, s.heap.get? b = some o → h'.get? b = some o) → Q (.ref s.heap.objs.size) { s with heap := h', toks := tk }) :
  wpAny (model prog w) A (call (.type "dict") [.ref T]) Q E s := by
 have hhA : A.in1.in1.handled = none := hh
 have hu2 : A.in1.in1.units < cLine := by
  have : A.in1.in1.units = A.units + 1 + 1 := rfl
  omega
 have hT0 : T < s.heap.objs.size := by
  rcases src with ⟨o, _, e, _⟩ | ⟨o, _, e, _⟩ <;> exact Heap.lt_size e
 refine callType_codes (Q₁ := fun obj s₁ => obj = .ref s.heap.objs.size ∧ s₁ = { s with heap := s.heap.push { cls := .type "dict", data := .dict #[] } }) F.kt_called_dict (F.kt_typeCall_dict_1 _) F.entry_dict_init (kt_code_dict_new _ ⟨rfl, rfl⟩) ?_
 rintro obj s₁ ⟨rfl, rfl⟩
 have hTd : ({ s with heap := s.heap.push { cls := .type "dict", data := .dict #[] } } : Shared).TypeIs (.ref s.heap.objs.size) "dict" := ⟨_, Heap.get?_push_size _ rfl, rfl⟩
 refine ⟨hTd, F.args_dict_init_2 _ _, ?_⟩
 unfold Builtin.«dict.__init__»
 refine wpAny_bind ?_
 unfold Builtin.Dict.selfAndRest
 refine wpAny_bind (wpAny_notOrdered_dict hTd ?_)
 show wpAny _ _ (pure (s.heap.objs.size, [Value.ref T])) _ _ _
 refine wpAny_pure ?_
 show wpAny _ _ (Builtin.Dict.updateFrom "dict.__init__" s.heap.objs.size (.ref T) [] .none) _ _ _
 unfold Builtin.Dict.updateFrom
 have loop : ∀ (h1 : Heap) (tk1 : Nat), (∀ b ob, (s.heap.push { cls := .type "dict", data := .dict #[] }).get? b = some ob → h1.get? b = some ob) → ∀ (h2 : Heap) (fp : List Addr) (St : Nat → Heap → Prop), h1.objs.size ∉ ([s.heap.objs.size] : List Addr) → (∀ b ob, h1.get? b = some ob → h2.get? b = some ob) → s.heap.objs.size ∉ fp → Walks prog w A.in1.in1 h1.objs.size fp [h1.objs.size] items.size (fun i v => items[i]? = some v) St → St 0 h2 →
   codeAny (model prog w) A.in1 (.builtin "dict.update.loop" ⟨[.ref s.heap.objs.size, .ref h1.objs.size, rawInt 0, .none], []⟩) (wants (fun r s₂ => r = .none ∧ Q (.ref s.heap.objs.size) s₂) E) { s with heap := h2, toks := tk1 } := by
  intro h1 tk1 m1 h2 fp St hne m2 hfp W st
  have hd1 := m1 _ _ (Heap.get?_push_size s.heap (o := { cls := .type "dict", data := .dict #[] }) rfl)
  refine dict_loop (A := A.in1) W hfp hu2 s.heap (Heap.get?_none_of_le (Nat.le_refl _)) (Heap.get?_none_of_le (Nat.le_of_lt (Heap.lt_size hd1))) hp hk nd hz ps.length 0 _ _ rfl (Nat.zero_le _) st ?_ (fun b o e => m2 b o (m1 b o (Heap.get?_push_of_some _ e))) fun h' tk d m => ⟨rfl, h h' tk d m⟩
  exact ⟨_, #[], 0, m2 _ _ hd1, ⟨rfl, rfl, rfl⟩, rfl, rfl, (fun x hx => absurd hx List.not_mem_nil), List.nodup_nil⟩
 rcases src with ⟨o, n, g1, g2, g3, g4⟩ | ⟨o, n, g1, g2, g3, g4⟩
 ·have g1' : (s.heap.push { cls := .type "dict", data := .dict #[] }).get? T = some o := Heap.get?_push_of_some _ g1
  refine wpAny_bind (wpAny_typeOf (T := "tuple") ⟨o, g1', g2⟩ ?_)
  rw [if_pos (by decide)]
  refine wpAny_bind (noKeys_tup g1' g2 g3 g4 hhA fun h1 tk1 m1 => ?_)
  rw [if_pos (show (none : Option Value).isNone = true from rfl)]
  refine wpAny_bind (wpAny_rule ?_)
  have hT : h1.IsTuple T items := ⟨o, m1 _ _ g1', g2, n, g3⟩
  refine wpAny_bind (wpAny_pyIter_tuple hT ?_)
  have hlt : T < h1.objs.size := Heap.lt_size (m1 _ _ g1')
  have hd1 := Heap.lt_size (m1 _ _ (Heap.get?_push_size s.heap (o := { cls := .type "dict", data := .dict #[] }) rfl))
  refine wpAny_pure ⟨plainId_quiet plain_dul _, ?_⟩
  exact loop h1 tk1 m1 _ _ _ (by simpa using Nat.ne_of_gt hd1) (fun b ob e => Heap.get?_push_of_some _ e) (by simp only [List.mem_cons, List.not_mem_nil, or_false, not_or]; exact ⟨Nat.ne_of_lt hd1, Nat.ne_of_gt hT0⟩) (Walks.tuple hhA _ T (Nat.ne_of_lt hlt) items) ⟨⟨_, Heap.get?_push_size _ rfl, rfl, rfl⟩, hT.push _⟩
 ·have g1' : (s.heap.push { cls := .type "dict", data := .dict #[] }).get? T = some o := Heap.get?_push_of_some _ g1
  refine wpAny_bind (wpAny_typeOf (T := "list") ⟨o, g1', g2⟩ ?_)
  rw [if_pos (by decide)]
  refine wpAny_bind (noKeys_lst g1' g2 g3 g4 hhA fun h1 tk1 m1 => ?_)
  rw [if_pos (show (none : Option Value).isNone = true from rfl)]
  refine wpAny_bind (wpAny_rule ?_)
  have hT : h1.IsList T items := ⟨o, m1 _ _ g1', g2, n, g3⟩
  refine wpAny_bind (wpAny_pyIter_list hT ?_)
  have hlt : T < h1.objs.size := Heap.lt_size (m1 _ _ g1')
  have hd1 := Heap.lt_size (m1 _ _ (Heap.get?_push_size s.heap (o := { cls := .type "dict", data := .dict #[] }) rfl))
  refine wpAny_pure ⟨plainId_quiet plain_dul _, ?_⟩
  exact loop h1 tk1 m1 _ _ _ (by simpa using Nat.ne_of_gt hd1) (fun b ob e => Heap.get?_push_of_some _ e) (by simp only [List.mem_cons, List.not_mem_nil, or_false, not_or]; exact ⟨Nat.ne_of_lt hd1, Nat.ne_of_gt hT0⟩) (Walks.list hhA _ T (Nat.ne_of_lt hlt) items) ⟨⟨_, Heap.get?_push_size _ rfl, rfl, rfl⟩, hT.push _⟩
end
section
variable {X : Cx} {K : PySem.W.Frag}
abbrev PairV (K : PySem.W.Frag) (H : Hp) (y : V) (p : List Int × Addr × V) : Prop := ∃ q, y = V.ref q ∧ SqT K H q [.ref p.2.1, p.2.2] ∧ SqT K H p.2.1 (p.1.map V.int)
theorem pairsV_of {pins : List (Addr × Obj)} {σ : St} {H : Hp} {s : Shared} (I : Inv X pins σ H s) : ∀ {ys : List V} {ps : List (List Int × Addr × V)} {its : List Value}, Vals ys its → Paired (PairV X.K H) ys ps →
  ∃ xs : List (List Int × Addr × Value), xs.map (·.1) = ps.map (·.1) ∧ xs.map (·.2.1) = ps.map (·.2.1) ∧ Vals (ps.map (·.2.2)) (xs.map (·.2.2)) ∧ ∀ (j : Nat) (p : List Int × Addr × Value), xs[j]? = some p → ∃ q, its[j]? = some (.ref q) ∧ IsTup s.heap q #[.ref p.2.1, p.2.2] ∧ (tkd X.prog X.w).is s.heap p.1 p.2.1
 | _, _, _, .nil, .nil => ⟨[], rfl, rfl, .nil, fun j p e => by simp at e⟩
 | _, _, _, .cons r rv, .cons (b := p) hp pp => by
  obtain ⟨xs, a1, a2, a3, a4⟩ := pairsV_of I rv pp
  obtain ⟨q, rfl, h1, h2⟩ := hp
  cases r
  obtain ⟨js, r2, ht, _⟩ := I.tuple h1
  cases r2 with
  | cons r3 r4 =>
   cases r4 with
   | cons r5 r6 =>
    cases r6
    cases r3
    rename_i v
    refine ⟨(p.1, p.2.1, v) :: xs, by simp [a1], by simp [a2], .cons r5 a3, fun j z e => ?_⟩
    cases j with
    | zero =>
     simp at e
     subst e
     exact ⟨q, rfl, ht, key_sq I h2⟩
    | succ j =>
     obtain ⟨q', b1, b2⟩ := a4 j z (by simpa using e)
     exact ⟨q', by simpa using b1, b2⟩
theorem call_dictT (hc : X.calm = true) (hu : X.A.units + 30 < cLine) : CallR X (.type "dict") (fun vs H Q => ∃ (T : Addr) (ys : List V) (ps : List (List Int × Addr × V)), vs = [.ref T] ∧ (SqL X.K H T ys ∨ SqT X.K H T ys) ∧ Paired (PairV X.K H) ys ps ∧ (ps.map (·.1)).Nodup ∧
  ∀ d, H d = none → ∀ xs : List (List Int × Addr × Value), xs.map (·.1) = ps.map (·.1) → xs.map (·.2.1) = ps.map (·.2.1) → Vals (ps.map (·.2.2)) (xs.map (·.2.2)) → Q (.ref d) (upd H d (.ext (DicT d xs)))) := by
 intro pins s σ H vs us Q I r ⟨T, ys, ps, ev, hS, pp, nd, q⟩
 subst ev
 obtain ⟨u, rfl, ru⟩ := vals1 r
 cases ru
 have key : ∀ its : List Value, Vals ys its → ys.length ≤ sizeLine → ((∃ o n, s.heap.get? T = some o ∧ o.cls = .type "tuple" ∧ o.data = .seq its.toArray n ∧ o.dict = none) ∨ (∃ o n, s.heap.get? T = some o ∧ o.cls = .type "list" ∧ o.data = .seq its.toArray n ∧ o.dict = none)) → wpAny (model X.prog X.w) X.A (call (.type "dict") [.ref T]) (EP X pins σ Q) X.xe s := fun its rv hz src => by
  obtain ⟨xs, a1, a2, a3, a4⟩ := pairsV_of I rv pp
  have e1 : ys.length = its.length := rv.length
  have e2 : ys.length = ps.length := Paired.length pp
  have e3 : xs.length = ps.length := by have := congrArg List.length a1; simpa using this
  refine call_dict_raw (I.ok.hd hc) hu src (ps := xs) (by rw [List.size_toArray]; omega) (fun j p e => by
   obtain ⟨q, b1, b2⟩ := a4 j p e
   exact ⟨q, by rw [List.getElem?_toArray]; exact b1, b2⟩) (by rw [a1]; exact nd) (by omega) fun h' tk d m => ?_
  have y : (s.heap.objs.size == sysModules) = false := (dt_empty (P := X.prog) (w := X.w) (H := H) s.heap I.big).2.1
  exact ⟨.ref s.heap.objs.size, _, I.laid (a := s.heap.objs.size) (o := .ext (DicT s.heap.objs.size xs)) (t' := tk) m (Nat.le_refl _) (dicT_ok (P := X.prog) (w := X.w) (by omega) y d), rfl, q _ (I.hok.fresh (Nat.le_refl _)) xs a1 a2 a3⟩
 rcases hS with hS | hS
 ·obtain ⟨its, rv, ⟨o, n, g1, g2, g3, g4⟩, hz⟩ := I.list hS
  exact key its rv hz (.inr ⟨o, n, g1, g2, g4, g3⟩)
 ·obtain ⟨its, rv, ⟨o, g1, g2, ⟨n, g3⟩, g4⟩, hz⟩ := I.tupO hS
  exact key its rv hz (.inl ⟨o, n, g1, g2, g3, g4⟩)
def pairsT : List W → Option (List (List Int × W))
 | [] => some []
 | .tup [k, v] :: r => (match tKey k with
  | some ks => (pairsT r).map ((ks, v) :: ·)
  | none => none)
 | _ => none
theorem pairsT_ok {H : Hp} {μ : Mu} : ∀ {us : List W} {ys : List V} {ps : List (List Int × W)}, Reps K H μ us ys → pairsT us = some ps → ∃ qs : List (List Int × Addr × V), Paired (PairV K H) ys qs ∧ qs.map (·.1) = ps.map (·.1) ∧ Reps K H μ (ps.map fun x => W.tup (x.1.map W.int)) (qs.map fun x => V.ref x.2.1) ∧ Reps K H μ (ps.map (·.2)) (qs.map (·.2.2))
 | [], ys, ps, r, e => by
  rw [Reps] at r
  cases e
  subst r
  exact ⟨[], .nil, rfl, by rw [List.map_nil, List.map_nil, Reps], by rw [List.map_nil, List.map_nil, Reps]⟩
 | w :: us, ys, ps, r, e => by
  rw [Reps] at r
  obtain ⟨y, yr, rfl, ra, r⟩ := r
  unfold pairsT at e
  split at e
  ·rename_i h; cases h
  ·rename_i k v us' h
   cases h
   split at e
   ·rename_i ks ek
    cases q : pairsT us with
    | none => rw [q] at e; cases e
    | some cs =>
     rw [q] at e
     cases (show some ((ks, v) :: cs) = some ps from e)
     obtain ⟨qs, p1, p2, p3, p4⟩ := pairsT_ok r q
     rw [Rep] at ra
     obtain ⟨b, zs, rfl, hb, rz⟩ := ra
     obtain ⟨z1, z2, rfl, rk, rw'⟩ := reps2 rz
     obtain ⟨kb, rfl, hkb⟩ := tKey_rep rk ek
     refine ⟨(ks, kb, z2) :: qs, .cons ⟨b, rfl, hb, hkb⟩ p1, by simp [p2], ?_, ?_⟩
     ·rw [List.map_cons, List.map_cons, Reps]
      exact ⟨_, _, rfl, by rw [Rep]; exact ⟨kb, _, rfl, hkb, int_vals ks⟩, p3⟩
     ·rw [List.map_cons, List.map_cons, Reps]
      exact ⟨_, _, rfl, rw', p4⟩
   ·cases e
  ·cases e
def kDictT : MC := fun ws h Q => match ws with
 | [w] => (match view h w with
  | some us => (match pairsT us with
   | some ps => (ps.map (·.1)).Nodup ∧ Q (.loc h.nx) (h.new (.dtt ps))
   | none => False)
  | none => False)
 | _ => False
theorem c_dictT (hc : X.calm = true) (hu : X.A.units + 30 < cLine) : DCall X (.type "dict") kDictT := ⟨_, call_dictT hc hu, by
 intro H μ h vs ws Qw Q R r m k
 unfold kDictT at m
 split at m
 ·split at m
  ·split at m
   ·rename_i w _ us ev _ ps ek
    obtain ⟨v, e, rv⟩ := reps1 r
    obtain ⟨p, ys, ex, hs, rs⟩ := view_ok R rv ev
    obtain ⟨qs, p1, p2, p3, p4⟩ := pairsT_ok rs ek
    subst e ex
    refine ⟨p, ys, qs, rfl, hs, p1, by rw [p2]; exact m.1, fun d hd xs a1 a2 a3 => ?_⟩
    have xt := (Ex.newCell (o := .ext (DicT d xs)) R hd).ext
    have e3 : (xs.map fun x => V.ref x.2.1) = qs.map fun x => V.ref x.2.1 := by
     have : (xs.map (·.2.1)).map V.ref = (qs.map (·.2.1)).map V.ref := by rw [a2]
     rw [List.map_map, List.map_map] at this
     exact this
    have R1 : Rel X.K (μ.put h.nx d) (upd H d (.ext (DicT d xs))) (h.new (.dtt ps)) := R.newCell hd trivial ⟨xs, qs.map (·.2.2), upd_same, (by rw [a1, p2]), a3, by rw [e3]; exact xt.s p3, xt.s p4⟩
    exact k _ _ ⟨_, .loc h.nx, _, xt, R1, by rw [Rep]; exact ⟨d, rfl, Mu.put_same⟩, m.2⟩
   ·exact m.elim
  ·exact m.elim
 ·exact m.elim⟩
end
end L2
namespace L2
open PySem PySem.Spec PyProof.Rows
section
variable {prog : Program} {w : World} {A : Around} {E : Value → Shared → Prop} {s : Shared} {r l : Addr} {items : Array Value}
end
section
variable {X : Cx}
end
end L2
namespace L2
open PySem PySem.Spec PyProof.Rows
section
variable {P : Program} {w : World} {A : Around} {E : Value → Shared → Prop} {s : Shared}
end
section
variable {X : Cx} {K : PySem.W.Frag}
end
section
variable {X : Cx} {o e1 e2 : Expr} {mo : ME} {ma : MA} {apos cpos : Pos}
end
end L2
namespace L2
open PySem PySem.Spec PyProof.Rows
section
variable {prog : Program} {w : World} {A : Around} {R : Result → Shared → Prop} {E : Value → Shared → Prop} {L I : Addr} {ns : List Int} {its : List Value}
end
section
variable {X : Cx}
end
end L2
namespace My
set_option maxHeartbeats 4000000
open PySem L2 PyProof.Rows
def top (i : Nat) : Stmt := PySem.Challenge.pw_easelroom_k52_sums_and_differences.main.body.getD i (.Pass ⟨0, 0, 0, 0⟩)
abbrev s_sum_of_totals : Stmt := top 8
theorem sc_sum_of_totals : FnScope ["totals", "terms"] ["totals"] (defScope s_sum_of_totals) := ⟨rfl, rfl, rfl, by decide +kernel, rfl, by decide +kernel, by decide +kernel⟩
abbrev s_with_times : Stmt := top 9
theorem sc_with_times : FnScope ["one", "other", "factor", "totals", "powers", "number"] ["one", "other", "factor"] (defScope s_with_times) := ⟨rfl, rfl, rfl, by decide +kernel, rfl, by decide +kernel, by decide +kernel⟩
abbrev s_plus : Stmt := top 10
theorem sc_plus : FnScope ["one", "other"] ["one", "other"] (defScope s_plus) := ⟨rfl, rfl, rfl, by decide +kernel, rfl, by decide +kernel, by decide +kernel⟩
abbrev s_minus : Stmt := top 11
theorem sc_minus : FnScope ["one", "other"] ["one", "other"] (defScope s_minus) := ⟨rfl, rfl, rfl, by decide +kernel, rfl, by decide +kernel, by decide +kernel⟩
abbrev s_l_cell : Stmt := top 13
theorem sc_l_cell : FnScope ["_law_script", "_law_k"] ["_law_script", "_law_k"] (defScope s_l_cell) := ⟨rfl, rfl, rfl, by decide +kernel, rfl, by decide +kernel, by decide +kernel⟩
abbrev s_l_draws : Stmt := top 14
theorem sc_l_draws : FnScope ["_law_script", "_law_k", "_law_many", "_law_left", "_law_free", "_law_seed", "_law_found", "_law_j", "_law_near"] ["_law_script", "_law_k", "_law_many"] (defScope s_l_draws) := ⟨rfl, rfl, rfl, by decide +kernel, rfl, by decide +kernel, by decide +kernel⟩
abbrev s_l_number : Stmt := top 15
theorem sc_l_number : FnScope ["_law_x"] ["_law_x"] (defScope s_l_number) := ⟨rfl, rfl, rfl, by decide +kernel, rfl, by decide +kernel, by decide +kernel⟩
abbrev s_l_powers : Stmt := top 16
theorem sc_l_powers : FnScope ["_law_x", "_law_letters", "_law_most", "_law_found", "_law_k"] ["_law_x", "_law_letters", "_law_most"] (defScope s_l_powers) := ⟨rfl, rfl, rfl, by decide +kernel, rfl, by decide +kernel, by decide +kernel⟩
abbrev s_l_ordered : Stmt := top 17
theorem sc_l_ordered : FnScope ["_law_found"] ["_law_found"] (defScope s_l_ordered) := ⟨rfl, rfl, rfl, by decide +kernel, rfl, by decide +kernel, by decide +kernel⟩
abbrev s_l_sum : Stmt := top 18
theorem sc_l_sum : FnScope ["_law_script", "_law_k", "_law_letters", "_law_many", "_law_most", "_law_found", "_law_j", "_law_x"] ["_law_script", "_law_k", "_law_letters", "_law_many", "_law_most"] (defScope s_l_sum) := ⟨rfl, rfl, rfl, by decide +kernel, rfl, by decide +kernel, by decide +kernel⟩
abbrev s_l_is_sum : Stmt := top 19
theorem sc_l_is_sum : FnScope ["_law_found", "_law_due", "_law_k", "_law_term"] ["_law_found", "_law_due"] (defScope s_l_is_sum) := ⟨rfl, rfl, rfl, by decide +kernel, rfl, by decide +kernel, by decide +kernel⟩
abbrev s_l_longer : Stmt := top 20
theorem sc_l_longer : FnScope ["_law_one", "_law_letters", "_law_many", "_law_first", "_law_found", "_law_k"] ["_law_one", "_law_letters", "_law_many", "_law_first"] (defScope s_l_longer) := ⟨rfl, rfl, rfl, by decide +kernel, rfl, by decide +kernel, by decide +kernel⟩
abbrev s_l_two : Stmt := top 21
theorem sc_l_two : FnScope ["_law_script", "_law_letters", "_law_most", "_law_one", "_law_other", "_law_way", "_law_found", "_law_powers_here", "_law_number_here"] ["_law_script", "_law_letters"] (defScope s_l_two) := ⟨rfl, rfl, rfl, by decide +kernel, rfl, by decide +kernel, by decide +kernel⟩
abbrev s_l_added : Stmt := top 22
theorem sc_l_added : FnScope ["_law_one", "_law_other", "_law_factor", "_law_found", "_law_powers_here", "_law_number_here"] ["_law_one", "_law_other", "_law_factor"] (defScope s_l_added) := ⟨rfl, rfl, rfl, by decide +kernel, rfl, by decide +kernel, by decide +kernel⟩
abbrev s_l_refused : Stmt := top 23
theorem sc_l_refused : FnScope ["_law_one", "_law_other", "_law_way", "_law_others", "e"] ["_law_one", "_law_other", "_law_way"] (defScope s_l_refused) := ⟨rfl, rfl, rfl, by decide +kernel, rfl, by decide +kernel, by decide +kernel⟩
abbrev s_l_right : Stmt := top 24
theorem sc_l_right : FnScope ["_law_one", "_law_other", "_law_way", "_law_due", "_law_found"] ["_law_one", "_law_other"] (defScope s_l_right) := ⟨rfl, rfl, rfl, by decide +kernel, rfl, by decide +kernel, by decide +kernel⟩
abbrev s_l_at_bound : Stmt := top 25
theorem sc_l_at_bound : FnScope ["_law_letters", "_law_one", "_law_other"] ["_law_letters"] (defScope s_l_at_bound) := ⟨rfl, rfl, rfl, by decide +kernel, rfl, by decide +kernel, by decide +kernel⟩
abbrev s_law : Stmt := top 26
theorem sc_law : FnScope ["_law_script", "_law_letters", "_law_one", "_law_other", "_law_mine", "_law_yours"] ["_law_script"] (defScope s_law) := ⟨rfl, rfl, rfl, by decide +kernel, rfl, by decide +kernel, by decide +kernel⟩
def t_sum_of_totals_2 (E : XWK) : MS :=
  (mRet (mVar 1))
def r_sum_of_totals : MSp := mFn 1 2 false fun E =>
  (mSeq (mAsg (mCB kTuple (mCons (mLC ow1 [0] (nIt (mCB kSortG (mCons (mVar 0) mNil))) (mTest (mOp kNe (mOp kTIx (mVar 1) (mVar 0)) (mC (.int 0)))) (mTup (mCons (mVar 0) (mCons (mOp kTIx (mVar 1) (mVar 0)) mNil)))) mNil)) (nName 1))
  (mSeq (mIfS (mTest (mOp kGt (mCB kLen (mCons (mVar 1) mNil)) (mC (.int 600)))) (mRaise "TooMuch" E) mNext)
  (t_sum_of_totals_2 E)))
def m_sum_of_totals : MSp := r_sum_of_totals
def t_with_times_2 (c_sum_of_totals : MSp) (E : XWK) : MS :=
  (mRet (mCall c_sum_of_totals E (mCons (mVar 3) mNil)))
def r_with_times (c_sum_of_totals : MSp) : MSp := mFn 3 6 true fun E =>
  (mSeq (mAsg (mCB kDictT (mCons (mVar 0) mNil)) (nName 3))
  (mSeq (mFor (nIt (mVar 1)) (nTup2 2 (nCons (nName 4) (nCons (nName 5) nNil))) (mAsg (mOp kAddA (mBMd kGetT (mVar 3) (mCons (mVar 4) (mCons (mC (.int 0)) mNil))) (mOp kMul (mVar 2) (mVar 5))) (nSub (mVar 3) (mVar 4) sSetT)))
  (t_with_times_2 c_sum_of_totals E)))
def m_with_times : MSp := r_with_times m_sum_of_totals
def r_plus (c_with_times : MSp) : MSp := mFn 2 2 false fun E =>
  (mRet (mCall c_with_times E (mCons (mVar 0) (mCons (mVar 1) (mCons (mC (.int 1)) mNil)))))
def m_plus : MSp := r_plus m_with_times
def r_minus (c_with_times : MSp) : MSp := mFn 2 2 false fun E =>
  (mRet (mCall c_with_times E (mCons (mVar 0) (mCons (mVar 1) (mCons (mUn mNeg (mC (.int 1))) mNil)))))
def m_minus : MSp := r_minus m_with_times
def t_l_cell_1 (E : XWK) : MS :=
  (mRet (mC (.int 0)))
def r_l_cell : MSp := mFn 2 2 false fun E =>
  (mSeq (mIfS (mTest (mOp kLt (mVar 1) (mCB kLen (mCons (mVar 0) mNil)))) (mRet (mOp kIx (mVar 0) (mVar 1))) mNext)
  (t_l_cell_1 E))
def m_l_cell : MSp := r_l_cell
def t_l_draws_5 (c_l_cell : MSp) (E : XWK) : MS :=
  (mRet (mVar 6))
def r_l_draws (c_l_cell : MSp) : MSp := mFn 3 9 true fun E =>
  (mSeq (mAsg (mCall c_l_cell E (mCons (mVar 0) (mCons (mVar 1) mNil))) (nName 3))
  (mSeq (mAsg (mOp kGt (mBits (mVar 3)) (mOp kMul (mC (.int 107)) (mVar 2))) (nName 4))
  (mSeq (mAsg (mOp kMod (mOp kAddA (mOp kAddA (mVar 3) (mOp kMul (mC (.int 7919)) (mVar 1))) (mC (.int 11))) (mC (.int 4294967291))) (nName 5))
  (mSeq (mAsg (mLstM mNil) (nName 6))
  (mSeq (mFor (nRng1 (mCons (mVar 2) mNil)) (nName 7) (mIfS (mTru (mVar 4)) (mSeq (mDrop (mBMr kAppend (mVar 6) (mCons (mOp kMod (mVar 3) (mOp kPow (mC (.int 10)) (mC (.int 32)))) mNil)))
  (mAsg (mOp kDiv (mVar 3) (mOp kPow (mC (.int 10)) (mC (.int 32)))) (nName 3))) (mSeq (mAsg (mOp kMod (mOp kAddA (mOp kAddA (mOp kMul (mVar 5) (mC (.int 69069))) (mC (.int 362437))) (mOp kMul (mVar 7) (mVar 7))) (mC (.int 4294967291))) (nName 5))
  (mSeq (mAsg (mOp kMod (mOp kMul (mVar 5) (mOp kAddA (mOp kAddA (mOp kDiv (mVar 5) (mC (.int 4096))) (mVar 7)) (mC (.int 1)))) (mC (.int 999999999989))) (nName 8))
  (mDrop (mBMr kAppend (mVar 6) (mCons (mOp kMod (mOp kMul (mOp kMul (mVar 8) (mOp kAddA (mVar 8) (mC (.int 7)))) (mOp kAddA (mVar 5) (mC (.int 1)))) (mOp kPow (mC (.int 10)) (mC (.int 32)))) mNil)))))))
  (t_l_draws_5 c_l_cell E))))))
def m_l_draws : MSp := r_l_draws m_l_cell
def r_l_number : MSp := mFn 1 1 false fun E =>
  (mRet (mOp kIx (mLst (mCons (mOp kSub (mOp kMod (mOp kDiv (mVar 0) (mC (.int 3))) (mC (.int 7))) (mC (.int 3))) (mCons (mOp kSub (mOp kMod (mOp kDiv (mVar 0) (mC (.int 3))) (mC (.int 201))) (mC (.int 100))) (mCons (mOp kSub (mOp kMod (mOp kDiv (mVar 0) (mC (.int 3))) (mOp kMul (mC (.int 2)) (mOp kPow (mC (.int 10)) (mC (.int 30))))) (mOp kPow (mC (.int 10)) (mC (.int 30)))) mNil)))) (mOp kMod (mVar 0) (mC (.int 3)))))
def m_l_number : MSp := r_l_number
def t_l_powers_2 (E : XWK) : MS :=
  (mRet (mCB kTuple (mCons (mVar 3) mNil)))
def r_l_powers : MSp := mFn 3 5 true fun E =>
  (mSeq (mAsg (mLstM mNil) (nName 3))
  (mSeq (mFor (nRng1 (mCons (mVar 1) mNil)) (nName 4) (mSeq (mDrop (mBMr kAppend (mVar 3) (mCons (mOp kMod (mVar 0) (mOp kAddA (mVar 2) (mC (.int 1)))) mNil)))
  (mAsg (mOp kDiv (mVar 0) (mOp kAddA (mVar 2) (mC (.int 1)))) (nName 0))))
  (t_l_powers_2 E)))
def m_l_powers : MSp := r_l_powers
def r_l_ordered : MSp := mFn 1 1 false fun E =>
  (mRet (mCB kTuple (mCons (mLC ow1 [0] (nIt (mCB kSortG (mCons (mVar 0) mNil))) (mTest (mOp kNe (mOp kTIx (mVar 1) (mVar 0)) (mC (.int 0)))) (mTup (mCons (mVar 0) (mCons (mOp kTIx (mVar 1) (mVar 0)) mNil)))) mNil)))
def m_l_ordered : MSp := r_l_ordered
def t_l_sum_2 (c_l_draws c_l_number c_l_powers c_l_ordered : MSp) (E : XWK) : MS :=
  (mRet (mCall c_l_ordered E (mCons (mVar 5) mNil)))
def r_l_sum (c_l_draws c_l_number c_l_powers c_l_ordered : MSp) : MSp := mFn 5 8 false fun E =>
  (mSeq (mAsg mNewT (nName 5))
  (mSeq (mFor (nRng1 (mCons (mVar 3) mNil)) (nName 6) (mSeq (mAsg (mCall c_l_draws E (mCons (mVar 0) (mCons (mOp kAddA (mVar 1) (mVar 6)) (mCons (mC (.int 2)) mNil)))) (nName 7))
  (mAsg (mCall c_l_number E (mCons (mOp kIx (mVar 7) (mC (.int 1))) mNil)) (nSub (mVar 5) (mCall c_l_powers E (mCons (mOp kIx (mVar 7) (mC (.int 0))) (mCons (mVar 2) (mCons (mVar 4) mNil)))) sSetT))))
  (t_l_sum_2 c_l_draws c_l_number c_l_powers c_l_ordered E)))
def m_l_sum : MSp := r_l_sum m_l_draws m_l_number m_l_powers m_l_ordered
def t_l_is_sum_2 (E : XWK) : MS :=
  (mRet (mC (.bl true)))
def t_l_is_sum_1 (E : XWK) : MS :=
  (mSeq (mFor (nRng1 (mCons (mCB kLen (mCons (mVar 1) mNil)) mNil)) (nName 2) (mSeq (mAsg (mOp kIx (mVar 0) (mVar 2)) (nName 3))
  (mSeq (mIfS (mOr (mNot (mTru (mCB kIsi (mCons (mVar 3) (mCons (mC (.ty "tuple")) mNil))))) (mOr (mTest (mOp kNe (mCB kLen (mCons (mVar 3) mNil)) (mC (.int 2)))) (mOr (mNot (mTru (mCB kIsi (mCons (mOp kIx (mVar 3) (mC (.int 0))) (mCons (mC (.ty "tuple")) mNil))))) (mTest (mOp kNe (mVar 3) (mOp kIx (mVar 1) (mVar 2))))))) (mRet (mC (.bl false))) mNext)
  (mIfS (mNot (mTru (mCB kAll (mCons (mLC ow1 [] (nIt (mOp kAddA (mOp kIx (mVar 3) (mC (.int 0))) (mSl kSl2 (mVar 3) (mPart (mC (.int 1))) mNoPart))) mYes (mAndV (mCB kIsi (mCons (mVar 0) (mCons (mC (.ty "int")) mNil))) (mNotV (mCB kIsi (mCons (mVar 0) (mCons (mC (.ty "bool")) mNil)))))) mNil)))) (mRet (mC (.bl false))) mNext))))
  (t_l_is_sum_2 E))
def r_l_is_sum : MSp := mFn 2 4 false fun E =>
  (mSeq (mIfS (mOr (mNot (mTru (mCB kIsi (mCons (mVar 0) (mCons (mC (.ty "tuple")) mNil))))) (mTest (mOp kNe (mCB kLen (mCons (mVar 0) mNil)) (mCB kLen (mCons (mVar 1) mNil))))) (mRet (mC (.bl false))) mNext)
  (t_l_is_sum_1 E))
def m_l_is_sum : MSp := r_l_is_sum
def t_l_longer_2 (c_l_ordered : MSp) (E : XWK) : MS :=
  (mRet (mCall c_l_ordered E (mCons (mVar 4) mNil)))
def r_l_longer (c_l_ordered : MSp) : MSp := mFn 4 6 true fun E =>
  (mSeq (mAsg (mCB kDictT (mCons (mVar 0) mNil)) (nName 4))
  (mSeq (mFor (nRng1 (mCons (mVar 2) mNil)) (nName 5) (mAsg (mOp kAddA (mC (.int 1)) (mOp kMod (mVar 5) (mC (.int 9)))) (nSub (mVar 4) (mOp kAddA (mTup (mCons (mOp kAddA (mVar 3) (mOp kDiv (mVar 5) (mC (.int 50)))) (mCons (mOp kMod (mVar 5) (mC (.int 50))) mNil))) (mOp kMulA (mTup (mCons (mC (.int 7)) mNil)) (mOp kSub (mVar 1) (mC (.int 2))))) sSetT)))
  (t_l_longer_2 c_l_ordered E)))
def m_l_longer : MSp := r_l_longer m_l_ordered
def t_l_two_6 (c_l_cell c_l_ordered c_l_sum c_l_longer : MSp) (E : XWK) : MS :=
  (mRet (mTup (mCons (mVar 3) (mCons (mVar 4) mNil))))
def t_l_two_5 (c_l_cell c_l_ordered c_l_sum c_l_longer : MSp) (E : XWK) : MS :=
  (mSeq (mIfS (mAnd (mTest (mOp kGt (mVar 1) (mC (.int 1)))) (mTest (mOp kEq (mOp kMod (mCall c_l_cell E (mCons (mVar 0) (mCons (mC (.int 3)) mNil))) (mC (.int 6))) (mC (.int 5))))) (mSeq (mAsg (mCall c_l_longer E (mCons (mVar 3) (mCons (mVar 1) (mCons (mOp kAddA (mC (.int 280)) (mOp kMod (mOp kDiv (mCall c_l_cell E (mCons (mVar 0) (mCons (mC (.int 3)) mNil))) (mC (.int 6))) (mC (.int 41)))) (mCons (mC (.int 0)) mNil))))) (nName 3))
  (mAsg (mCall c_l_longer E (mCons (mVar 4) (mCons (mVar 1) (mCons (mOp kAddA (mC (.int 280)) (mOp kMod (mOp kDiv (mCall c_l_cell E (mCons (mVar 0) (mCons (mC (.int 3)) mNil))) (mC (.int 246))) (mC (.int 41)))) (mCons (mC (.int 10)) mNil))))) (nName 4))) mNext)
  (t_l_two_6 c_l_cell c_l_ordered c_l_sum c_l_longer E))
def r_l_two (c_l_cell c_l_ordered c_l_sum c_l_longer : MSp) : MSp := mFn 2 9 true fun E =>
  (mSeq (mAsg (mOp kIx (mLst (mCons (mC (.int 2)) (mCons (mC (.int 60)) mNil))) (mOp kMod (mOp kDiv (mCall c_l_cell E (mCons (mVar 0) (mCons (mC (.int 1)) mNil))) (mC (.int 13))) (mC (.int 2)))) (nName 2))
  (mSeq (mAsg (mCall c_l_sum E (mCons (mVar 0) (mCons (mC (.int 4)) (mCons (mVar 1) (mCons (mOp kMod (mCall c_l_cell E (mCons (mVar 0) (mCons (mC (.int 1)) mNil))) (mC (.int 13))) (mCons (mVar 2) mNil)))))) (nName 3))
  (mSeq (mAsg (mCall c_l_sum E (mCons (mVar 0) (mCons (mC (.int 17)) (mCons (mVar 1) (mCons (mOp kMod (mCall c_l_cell E (mCons (mVar 0) (mCons (mC (.int 2)) mNil))) (mC (.int 13))) (mCons (mVar 2) mNil)))))) (nName 4))
  (mSeq (mAsg (mOp kMod (mOp kDiv (mCall c_l_cell E (mCons (mVar 0) (mCons (mC (.int 2)) mNil))) (mC (.int 13))) (mC (.int 4))) (nName 5))
  (mSeq (mIfS (mTest (mOp kGt (mVar 5) (mC (.int 1)))) (mSeq (mAsg (mCB kDictT (mCons (mVar 4) mNil)) (nName 6))
  (mSeq (mFor (nIt (mSl kSl2 (mVar 3) mNoPart (mPart (mOp kAddA (mC (.int 1)) (mOp kMod (mOp kDiv (mCall c_l_cell E (mCons (mVar 0) (mCons (mC (.int 2)) mNil))) (mC (.int 52))) (mC (.int 12))))))) (nTup2 2 (nCons (nName 7) (nCons (nName 8) nNil))) (mAsg (mOp kIx (mLst (mCons (mVar 8) (mCons (mOp kSub (mC (.int 0)) (mVar 8)) mNil))) (mOp kSub (mVar 5) (mC (.int 2)))) (nSub (mVar 6) (mVar 7) sSetT)))
  (mAsg (mCall c_l_ordered E (mCons (mVar 6) mNil)) (nName 4)))) mNext)
  (t_l_two_5 c_l_cell c_l_ordered c_l_sum c_l_longer E))))))
def m_l_two : MSp := r_l_two m_l_cell m_l_ordered m_l_sum m_l_longer
def t_l_added_2 (c_l_ordered : MSp) (E : XWK) : MS :=
  (mRet (mCall c_l_ordered E (mCons (mVar 3) mNil)))
def r_l_added (c_l_ordered : MSp) : MSp := mFn 3 6 true fun E =>
  (mSeq (mAsg (mCB kDictT (mCons (mVar 0) mNil)) (nName 3))
  (mSeq (mFor (nIt (mVar 1)) (nTup2 2 (nCons (nName 4) (nCons (nName 5) nNil))) (mAsg (mOp kAddA (mBMd kGetT (mVar 3) (mCons (mVar 4) (mCons (mC (.int 0)) mNil))) (mOp kMul (mVar 2) (mVar 5))) (nSub (mVar 3) (mVar 4) sSetT)))
  (t_l_added_2 c_l_ordered E)))
def m_l_added : MSp := r_l_added m_l_ordered
def t_l_refused_1 (c_plus c_minus : MSp) (E : XWK) : MS :=
  (mRet (mC (.bl false)))
def r_l_refused (c_plus c_minus : MSp) : MSp := mFn 3 5 false fun E =>
  (mSeq (mTry 4 "EaselError" (fun E => (mIfS (mTest (mOp kEq (mVar 2) (mC (.int 0)))) (mDrop (mCall c_plus E (mCons (mVar 0) (mCons (mVar 1) mNil)))) (mDrop (mCall c_minus E (mCons (mVar 0) (mCons (mVar 1) mNil)))))) (mSeq (mAsg (mLst (mCons (mIsX (fun n => (isX n "NoPart")) (mVar 4)) (mCons (mIsX (fun n => (isX n "Nothing")) (mVar 4)) (mCons (mIsX (fun n => (isX n "Stuck")) (mVar 4)) mNil)))) (nName 3))
  (mRet (mAndV (mIsX (fun n => (isX n "TooMuch")) (mVar 4)) (mAndV (mIsX (fun n => true) (mVar 4)) (mNotV (mCB kAny (mCons (mVar 3) mNil))))))))
  (t_l_refused_1 c_plus c_minus E))
def m_l_refused : MSp := r_l_refused m_plus m_minus
def t_l_right_1 (c_plus c_minus c_l_is_sum c_l_added c_l_refused : MSp) (E : XWK) : MS :=
  (mRet (mC (.bl true)))
def r_l_right (c_plus c_minus c_l_is_sum c_l_added c_l_refused : MSp) : MSp := mFn 2 5 false fun E =>
  (mSeq (mFor (nRng1 (mCons (mC (.int 2)) mNil)) (nName 2) (mSeq (mAsg (mCall c_l_added E (mCons (mVar 0) (mCons (mVar 1) (mCons (mOp kSub (mC (.int 1)) (mOp kMul (mC (.int 2)) (mVar 2))) mNil)))) (nName 3))
  (mIfS (mTest (mOp kGt (mCB kLen (mCons (mVar 3) mNil)) (mC (.int 600)))) (mIfS (mNot (mTru (mCall c_l_refused E (mCons (mVar 0) (mCons (mVar 1) (mCons (mVar 2) mNil)))))) (mRet (mC (.bl false))) mNext) (mSeq (mIfS (mTest (mOp kEq (mVar 2) (mC (.int 0)))) (mAsg (mCall c_plus E (mCons (mVar 0) (mCons (mVar 1) mNil))) (nName 4)) (mAsg (mCall c_minus E (mCons (mVar 0) (mCons (mVar 1) mNil))) (nName 4)))
  (mIfS (mNot (mTru (mCall c_l_is_sum E (mCons (mVar 4) (mCons (mVar 3) mNil))))) (mRet (mC (.bl false))) mNext)))))
  (t_l_right_1 c_plus c_minus c_l_is_sum c_l_added c_l_refused E))
def m_l_right : MSp := r_l_right m_plus m_minus m_l_is_sum m_l_added m_l_refused
def t_l_at_bound_4 (c_plus c_l_is_sum c_l_longer c_l_added c_l_refused : MSp) (E : XWK) : MS :=
  (mRet (mCall c_l_is_sum E (mCons (mCall c_plus E (mCons (mVar 1) (mCons (mSl kSl2 (mVar 2) (mPart (mC (.int 1))) mNoPart) mNil))) (mCons (mCall c_l_added E (mCons (mVar 1) (mCons (mSl kSl2 (mVar 2) (mPart (mC (.int 1))) mNoPart) (mCons (mC (.int 1)) mNil)))) mNil))))
def t_l_at_bound_1 (c_plus c_l_is_sum c_l_longer c_l_added c_l_refused : MSp) (E : XWK) : MS :=
  (mSeq (mAsg (mCall c_l_longer E (mCons (mTup mNil) (mCons (mVar 0) (mCons (mC (.int 300)) (mCons (mC (.int 0)) mNil))))) (nName 1))
  (mSeq (mAsg (mCall c_l_longer E (mCons (mTup mNil) (mCons (mVar 0) (mCons (mC (.int 301)) (mCons (mC (.int 10)) mNil))))) (nName 2))
  (mSeq (mIfS (mOr (mNot (mTru (mCall c_l_refused E (mCons (mVar 1) (mCons (mVar 2) (mCons (mC (.int 0)) mNil)))))) (mNot (mTru (mCall c_l_refused E (mCons (mVar 2) (mCons (mVar 1) (mCons (mC (.int 1)) mNil))))))) (mRet (mC (.bl false))) mNext)
  (t_l_at_bound_4 c_plus c_l_is_sum c_l_longer c_l_added c_l_refused E))))
def r_l_at_bound (c_plus c_l_is_sum c_l_longer c_l_added c_l_refused : MSp) : MSp := mFn 1 3 false fun E =>
  (mSeq (mIfS (mTest (mOp kLt (mVar 0) (mC (.int 2)))) (mRet (mC (.bl true))) mNext)
  (t_l_at_bound_1 c_plus c_l_is_sum c_l_longer c_l_added c_l_refused E))
def m_l_at_bound : MSp := r_l_at_bound m_plus m_l_is_sum m_l_longer m_l_added m_l_refused
def t_law_4 (c_plus c_minus c_l_cell c_l_two c_l_right c_l_at_bound : MSp) (E : XWK) : MS :=
  (mRet (mAndV (mOp kEq (mCall c_minus E (mCons (mVar 2) (mCons (mVar 2) mNil))) (mTup mNil)) (mAndV (mOp kEq (mCall c_plus E (mCons (mVar 2) (mCons (mTup mNil) mNil))) (mVar 2)) (mOp kEq (mCall c_minus E (mCons (mVar 3) (mCons (mTup mNil) mNil))) (mVar 3)))))
def t_law_3 (c_plus c_minus c_l_cell c_l_two c_l_right c_l_at_bound : MSp) (E : XWK) : MS :=
  (mSeq (mFor (nIt (mLst (mCons (mTup (mCons (mVar 2) (mCons (mVar 3) mNil))) (mCons (mTup (mCons (mVar 3) (mCons (mVar 2) mNil))) (mCons (mTup (mCons (mVar 2) (mCons (mTup mNil) mNil))) (mCons (mTup (mCons (mTup mNil) (mCons (mVar 3) mNil))) (mCons (mTup (mCons (mVar 2) (mCons (mVar 2) mNil))) (mCons (mTup (mCons (mVar 2) (mCons (mVar 3) mNil))) mNil)))))))) (nTup2 2 (nCons (nName 4) (nCons (nName 5) nNil))) (mIfS (mNot (mTru (mCall c_l_right E (mCons (mVar 4) (mCons (mVar 5) mNil))))) (mRet (mC (.bl false))) mNext))
  (t_law_4 c_plus c_minus c_l_cell c_l_two c_l_right c_l_at_bound E))
def r_law (c_plus c_minus c_l_cell c_l_two c_l_right c_l_at_bound : MSp) : MSp := mFn 1 6 false fun E =>
  (mSeq (mAsg (mOp kMod (mCall c_l_cell E (mCons (mVar 0) (mCons (mC (.int 0)) mNil))) (mC (.int 9))) (nName 1))
  (mSeq (mAsg (mCall c_l_two E (mCons (mVar 0) (mCons (mVar 1) mNil))) (nTup2 2 (nCons (nName 2) (nCons (nName 3) nNil))))
  (mSeq (mIfS (mNot (mTru (mCall c_l_at_bound E (mCons (mVar 1) mNil)))) (mRet (mC (.bl false))) mNext)
  (t_law_3 c_plus c_minus c_l_cell c_l_two c_l_right c_l_at_bound E))))
def m_law : MSp := r_law m_plus m_minus m_l_cell m_l_two m_l_right m_l_at_bound
structure Ad where
 f_sum_of_totals : Addr
 d_sum_of_totals : FuncData
 f_with_times : Addr
 d_with_times : FuncData
 f_plus : Addr
 d_plus : FuncData
 f_minus : Addr
 d_minus : FuncData
 f_l_cell : Addr
 d_l_cell : FuncData
 f_l_draws : Addr
 d_l_draws : FuncData
 f_l_number : Addr
 d_l_number : FuncData
 f_l_powers : Addr
 d_l_powers : FuncData
 f_l_ordered : Addr
 d_l_ordered : FuncData
 f_l_sum : Addr
 d_l_sum : FuncData
 f_l_is_sum : Addr
 d_l_is_sum : FuncData
 f_l_longer : Addr
 d_l_longer : FuncData
 f_l_two : Addr
 d_l_two : FuncData
 f_l_added : Addr
 d_l_added : FuncData
 f_l_refused : Addr
 d_l_refused : FuncData
 f_l_right : Addr
 d_l_right : FuncData
 f_l_at_bound : Addr
 d_l_at_bound : FuncData
 f_law : Addr
 d_law : FuncData
 a_MOST_TERMS : Tok
 x_EaselError : Addr
 x_Nothing : Addr
 x_Stuck : Addr
 x_NoPart : Addr
 x_TooMuch : Addr
structure Txt (K : PySem.W.Frag) (mg : Str → Option Value) (t : Ad) : Prop where
 F_sum_of_totals : Fun K "sum_of_totals" "sum_of_totals" s_sum_of_totals t.f_sum_of_totals t.d_sum_of_totals
 m_sum_of_totals : mg "sum_of_totals" = some (.ref t.f_sum_of_totals)
 b_sum_of_totals : Binds K t.d_sum_of_totals ["totals"] []
 F_with_times : Fun K "with_times" "with_times" s_with_times t.f_with_times t.d_with_times
 m_with_times : mg "with_times" = some (.ref t.f_with_times)
 b_with_times : Binds K t.d_with_times ["one", "other", "factor"] []
 F_plus : Fun K "plus" "plus" s_plus t.f_plus t.d_plus
 m_plus : mg "plus" = some (.ref t.f_plus)
 b_plus : Binds K t.d_plus ["one", "other"] []
 F_minus : Fun K "minus" "minus" s_minus t.f_minus t.d_minus
 m_minus : mg "minus" = some (.ref t.f_minus)
 b_minus : Binds K t.d_minus ["one", "other"] []
 F_l_cell : Fun K "_law_cell" "_law_cell" s_l_cell t.f_l_cell t.d_l_cell
 m_l_cell : mg "_law_cell" = some (.ref t.f_l_cell)
 b_l_cell : Binds K t.d_l_cell ["_law_script", "_law_k"] []
 F_l_draws : Fun K "_law_draws" "_law_draws" s_l_draws t.f_l_draws t.d_l_draws
 m_l_draws : mg "_law_draws" = some (.ref t.f_l_draws)
 b_l_draws : Binds K t.d_l_draws ["_law_script", "_law_k", "_law_many"] []
 F_l_number : Fun K "_law_number" "_law_number" s_l_number t.f_l_number t.d_l_number
 m_l_number : mg "_law_number" = some (.ref t.f_l_number)
 b_l_number : Binds K t.d_l_number ["_law_x"] []
 F_l_powers : Fun K "_law_powers" "_law_powers" s_l_powers t.f_l_powers t.d_l_powers
 m_l_powers : mg "_law_powers" = some (.ref t.f_l_powers)
 b_l_powers : Binds K t.d_l_powers ["_law_x", "_law_letters", "_law_most"] []
 F_l_ordered : Fun K "_law_ordered" "_law_ordered" s_l_ordered t.f_l_ordered t.d_l_ordered
 m_l_ordered : mg "_law_ordered" = some (.ref t.f_l_ordered)
 b_l_ordered : Binds K t.d_l_ordered ["_law_found"] []
 F_l_sum : Fun K "_law_sum" "_law_sum" s_l_sum t.f_l_sum t.d_l_sum
 m_l_sum : mg "_law_sum" = some (.ref t.f_l_sum)
 b_l_sum : Binds K t.d_l_sum ["_law_script", "_law_k", "_law_letters", "_law_many", "_law_most"] []
 F_l_is_sum : Fun K "_law_is_sum" "_law_is_sum" s_l_is_sum t.f_l_is_sum t.d_l_is_sum
 m_l_is_sum : mg "_law_is_sum" = some (.ref t.f_l_is_sum)
 b_l_is_sum : Binds K t.d_l_is_sum ["_law_found", "_law_due"] []
 F_l_longer : Fun K "_law_longer" "_law_longer" s_l_longer t.f_l_longer t.d_l_longer
 m_l_longer : mg "_law_longer" = some (.ref t.f_l_longer)
 b_l_longer : Binds K t.d_l_longer ["_law_one", "_law_letters", "_law_many", "_law_first"] []
 F_l_two : Fun K "_law_two" "_law_two" s_l_two t.f_l_two t.d_l_two
 m_l_two : mg "_law_two" = some (.ref t.f_l_two)
 b_l_two : Binds K t.d_l_two ["_law_script", "_law_letters"] []
 F_l_added : Fun K "_law_added" "_law_added" s_l_added t.f_l_added t.d_l_added
 m_l_added : mg "_law_added" = some (.ref t.f_l_added)
 b_l_added : Binds K t.d_l_added ["_law_one", "_law_other", "_law_factor"] []
 F_l_refused : Fun K "_law_refused" "_law_refused" s_l_refused t.f_l_refused t.d_l_refused
 m_l_refused : mg "_law_refused" = some (.ref t.f_l_refused)
 b_l_refused : Binds K t.d_l_refused ["_law_one", "_law_other", "_law_way"] []
 F_l_right : Fun K "_law_right" "_law_right" s_l_right t.f_l_right t.d_l_right
 m_l_right : mg "_law_right" = some (.ref t.f_l_right)
 b_l_right : Binds K t.d_l_right ["_law_one", "_law_other"] []
 F_l_at_bound : Fun K "_law_at_bound" "_law_at_bound" s_l_at_bound t.f_l_at_bound t.d_l_at_bound
 m_l_at_bound : mg "_law_at_bound" = some (.ref t.f_l_at_bound)
 b_l_at_bound : Binds K t.d_l_at_bound ["_law_letters"] []
 F_law : Fun K "law" "law" s_law t.f_law t.d_law
 m_law : mg "law" = some (.ref t.f_law)
 b_law : Binds K t.d_law ["_law_script"] []
 z_ValueError : mg "ValueError" = none
 z_all : mg "all" = none
 z_any : mg "any" = none
 z_bool : mg "bool" = none
 z_dict : mg "dict" = none
 z_int : mg "int" = none
 z_isinstance : mg "isinstance" = none
 z_len : mg "len" = none
 z_range : mg "range" = none
 z_sorted : mg "sorted" = none
 z_tuple : mg "tuple" = none
 g_MOST_TERMS : mg "MOST_TERMS" = some (.int 600 t.a_MOST_TERMS)
 xm_EaselError : mg "EaselError" = some (.ref t.x_EaselError)
 xd_EaselError : xdIn K t.x_EaselError "EaselError" = true
 xm_Nothing : mg "Nothing" = some (.ref t.x_Nothing)
 xd_Nothing : xdIn K t.x_Nothing "Nothing" = true
 xm_Stuck : mg "Stuck" = some (.ref t.x_Stuck)
 xd_Stuck : xdIn K t.x_Stuck "Stuck" = true
 xm_NoPart : mg "NoPart" = some (.ref t.x_NoPart)
 xd_NoPart : xdIn K t.x_NoPart "NoPart" = true
 xm_TooMuch : mg "TooMuch" = some (.ref t.x_TooMuch)
 xd_TooMuch : xdIn K t.x_TooMuch "TooMuch" = true
 xc_TooMuch : xcIn K t.x_TooMuch "TooMuch" = true
 xq_TooMuch : PySem.W.excIn K t.x_TooMuch vmB "ValueError.__new__" = true
section
variable {P : Program} {w : World} {K : PySem.W.Frag} {mg : Str → Option Value} {base : Heap} {t : Ad}
theorem okX_sum_of_totals (T : Txt K mg t) : FnOk P w K mg base (CXX P w) 10 t.f_sum_of_totals t.d_sum_of_totals ["totals"] (liftX K m_sum_of_totals) := by
 have nd := sc_sum_of_totals.nd
 refine d_fnX (k := 9) T.F_sum_of_totals sc_sum_of_totals fun cdv A outer s H E hr => ?_
 have hc := hr.calm (by decide)
 refine dssx_cons (fun _ => trivial) ?_ ?_
 ·exact (dsx_of (ds_set (i := 1) nd (by rfl) (by exact Or.inl rfl) (d_callTy c_tuple (by rfl) (by exact T.z_tuple) boot_tuple (da_cons (d_lc [0] hc (blk_of (by rfl)) own_1 (pgo_1 (blk_of (by rfl))) (di_seq (d_callB (c_sortG hc) (by rfl) (by exact T.z_sorted) PyProof.Rows.boot_sorted (da_cons (dv 0 (pv 0)) da_nil (star_of (by rfl))) (by decide) (by decide) (star_of (by rfl)) (plain_of (by rfl)))) (fun _ _ _ _ => (dif_one (dt_cmp (o_ne (hu30 hr)) (d_tix (hu30 hr) (dv 1 (pv 1)) (dv 0 (pv 0)) (by intro _ _; rfl)) d_int (nomark _)))) (fun _ _ _ _ => (d_tup (da_cons (dv 0 (pv 0)) (da_cons (d_tix (hu30 hr) (dv 1 (pv 1)) (dv 0 (pv 0)) (by intro _ _; rfl)) da_nil (star_of (by rfl))) (star_of (by rfl)))))) da_nil (star_of (by rfl))) (by decide) (by decide) (star_of (by rfl)) (plain_of (by rfl)))))
 refine dssx_cons (fun _ => trivial) ?_ ?_
 ·exact (dsx_if (dt_cmp o_gt (d_callB c_len (by rfl) (by exact T.z_len) PySem.boot_len (da_cons (dv 1 (pv 1)) da_nil (star_of (by rfl))) (by decide) (by decide) (star_of (by rfl)) (plain_of (by rfl))) (dc (v := .int 600) (pe_glob (by rfl) T.g_MOST_TERMS ⟨_, rfl⟩) (fun _ _ => repI)) (nomark _)) (dssx_one (dsx_raise hc (by rfl) T.xm_TooMuch T.xq_TooMuch T.xc_TooMuch)) dssx_nil)
 refine dssx_one ?_
 exact (dsx_of (ds_ret (dv 1 (pv 1))))
theorem okX_with_times (T : Txt K mg t) : FnOk P w K mg base (CXX P w) 11 t.f_with_times t.d_with_times ["one", "other", "factor"] (liftX K m_with_times) := by
 have nd := sc_with_times.nd
 refine d_fnX (k := 10) T.F_with_times sc_with_times fun cdv A outer s H E hr => ?_
 have hc := hr.calm (by decide)
 refine dssx_cons (fun _ => trivial) ?_ ?_
 ·exact (dsx_of (ds_set (i := 3) nd (by rfl) (by exact Or.inl rfl) (d_callTy (c_dictT hc (hu30 hr)) (by rfl) (by exact T.z_dict) boot_dict (da_cons (dv 0 (pv 0)) da_nil (star_of (by rfl))) (by decide) (by decide) (star_of (by rfl)) (plain_of (by rfl)))))
 refine dssx_cons (fun _ => trivial) ?_ ?_
 ·exact (dsx_of (noxS (ds_for PassesOwn.never hc (di_seq (dv 1 (pv 1))) (dg_tup2 hc (dgs_cons (dg_name (pg_name (i := 4) nd (by rfl) (by exact Or.inl rfl))) (dgs_cons (dg_name (pg_name (i := 5) nd (by rfl) (by exact Or.inl rfl))) dgs_nil))) (dss_one (ds_asg (d_op o_addA (d_getT (hu30 hr) (dv 3 (pv 3)) (da_cons (dv 4 (pv 4)) (da_cons d_int da_nil (star_of (by rfl))) (star_of (by rfl))) (by rfl) (few_2 (by rfl) (by rfl)) (by rfl) (star_of (by rfl)) (plain_of (by rfl))) (d_op o_mul (dv 2 (pv 2)) (dv 5 (pv 5)))) (dg_sub (dv 3 (pv 3)) (dv 4 (pv 4)) (set_dictT (hu30 hr)) sim_setT))))))
 refine dssx_one ?_
 exact (dsx_ret (d_callX ((okX_sum_of_totals T).mono (by decide)) hr (by rfl) (by exact T.m_sum_of_totals) (by exact T.F_sum_of_totals.kp) (by exact T.b_sum_of_totals) (da_cons (dv 3 (pv 3)) da_nil (star_of (by rfl))) (by decide) (star_of (by rfl)) (plain_of (by rfl))))
theorem okX_plus (T : Txt K mg t) : FnOk P w K mg base (CXX P w) 12 t.f_plus t.d_plus ["one", "other"] (liftX K m_plus) := by
 have nd := sc_plus.nd
 refine d_fnX (k := 11) T.F_plus sc_plus fun cdv A outer s H E hr => ?_
 have hc := hr.calm (by decide)
 refine dssx_one ?_
 exact (dsx_ret (d_callX ((okX_with_times T).mono (by decide)) hr (by rfl) (by exact T.m_with_times) (by exact T.F_with_times.kp) (by exact T.b_with_times) (da_cons (dv 0 (pv 0)) (da_cons (dv 1 (pv 1)) (da_cons d_int da_nil (star_of (by rfl))) (star_of (by rfl))) (star_of (by rfl))) (by decide) (star_of (by rfl)) (plain_of (by rfl))))
theorem ok_plus (T : Txt K mg t) : FnOk P w K mg base CX0 12 t.f_plus t.d_plus ["one", "other"] (lift K m_plus) := (okX_plus T).tame
theorem okX_minus (T : Txt K mg t) : FnOk P w K mg base (CXX P w) 12 t.f_minus t.d_minus ["one", "other"] (liftX K m_minus) := by
 have nd := sc_minus.nd
 refine d_fnX (k := 11) T.F_minus sc_minus fun cdv A outer s H E hr => ?_
 have hc := hr.calm (by decide)
 refine dssx_one ?_
 exact (dsx_ret (d_callX ((okX_with_times T).mono (by decide)) hr (by rfl) (by exact T.m_with_times) (by exact T.F_with_times.kp) (by exact T.b_with_times) (da_cons (dv 0 (pv 0)) (da_cons (dv 1 (pv 1)) (da_cons (d_neg d_int) da_nil (star_of (by rfl))) (star_of (by rfl))) (star_of (by rfl))) (by decide) (star_of (by rfl)) (plain_of (by rfl))))
theorem ok_minus (T : Txt K mg t) : FnOk P w K mg base CX0 12 t.f_minus t.d_minus ["one", "other"] (lift K m_minus) := (okX_minus T).tame
theorem ok_l_cell (T : Txt K mg t) : FnOk P w K mg base CX0 10 t.f_l_cell t.d_l_cell ["_law_script", "_law_k"] (lift K m_l_cell) := by
 have nd := sc_l_cell.nd
 refine d_fn (k := 9) T.F_l_cell sc_l_cell fun cdv A outer s H E hr => ?_
 have hc := hr.calm (by decide)
 refine dss_cons ?_ ?_
 ·exact (ds_if (dt_cmp o_lt (dv 1 (pv 1)) (d_callB c_len (by rfl) (by exact T.z_len) PySem.boot_len (da_cons (dv 0 (pv 0)) da_nil (star_of (by rfl))) (by decide) (by decide) (star_of (by rfl)) (plain_of (by rfl))) (nomark _)) (dss_one (ds_ret (d_ix (dv 0 (pv 0)) (dv 1 (pv 1)) (by intro _ _; rfl)))) dss_nil)
 refine dss_one ?_
 exact (ds_ret d_int)
theorem ok_l_draws (T : Txt K mg t) : FnOk P w K mg base CX0 11 t.f_l_draws t.d_l_draws ["_law_script", "_law_k", "_law_many"] (lift K m_l_draws) := by
 have nd := sc_l_draws.nd
 refine d_fn (k := 10) T.F_l_draws sc_l_draws fun cdv A outer s H E hr => ?_
 have hc := hr.calm (by decide)
 refine dss_cons ?_ ?_
 ·exact (ds_set (i := 3) nd (by rfl) (by exact Or.inl rfl) (d_call ((ok_l_cell T).mono (by decide)) hr (by rfl) (by exact T.m_l_cell) (by exact T.F_l_cell.kp) (by exact T.b_l_cell) (da_cons (dv 0 (pv 0)) (da_cons (dv 1 (pv 1)) da_nil (star_of (by rfl))) (star_of (by rfl))) (by decide) (star_of (by rfl)) (plain_of (by rfl))))
 refine dss_cons ?_ ?_
 ·exact (ds_set (i := 4) nd (by rfl) (by exact Or.inl rfl) (d_cmp o_gt (d_bits (dv 3 (pv 3))) (d_op o_mul d_int (dv 2 (pv 2))) (nomark _)))
 refine dss_cons ?_ ?_
 ·exact (ds_set (i := 5) nd (by rfl) (by exact Or.inl rfl) (d_op o_mod (d_op o_addA (d_op o_addA (dv 3 (pv 3)) (d_op o_mul d_int (dv 1 (pv 1)))) d_int) d_int))
 refine dss_cons ?_ ?_
 ·exact (ds_set (i := 6) nd (by rfl) (by exact Or.inl rfl) (d_lstM da_nil))
 refine dss_cons ?_ ?_
 ·exact (ds_for PassesOwn.never hc (di_range1 (by rfl) (by exact T.z_range) (da_cons (dv 2 (pv 2)) da_nil (star_of (by rfl))) (star_1 (by rfl))) (dg_name (pg_name (i := 7) nd (by rfl) (by exact Or.inl rfl))) (dss_one (ds_if (dt_tru (dv 4 (pv 4))) (dss_cons (ds_expr (d_append (dv 6 (pv 6)) (da_cons (d_op o_mod (dv 3 (pv 3)) (d_op o_pow d_int d_int)) da_nil (star_of (by rfl))) (by rfl) (few_1 (by rfl)) (by rfl) (star_of (by rfl)) (by rfl)))
  (dss_one (ds_set (i := 3) nd (by rfl) (by exact Or.inl rfl) (d_op o_div (dv 3 (pv 3)) (d_op o_pow d_int d_int))))) (dss_cons (ds_set (i := 5) nd (by rfl) (by exact Or.inl rfl) (d_op o_mod (d_op o_addA (d_op o_addA (d_op o_mul (dv 5 (pv 5)) d_int) d_int) (d_op o_mul (dv 7 (pv 7)) (dv 7 (pv 7)))) d_int))
  (dss_cons (ds_set (i := 8) nd (by rfl) (by exact Or.inl rfl) (d_op o_mod (d_op o_mul (dv 5 (pv 5)) (d_op o_addA (d_op o_addA (d_op o_div (dv 5 (pv 5)) d_int) (dv 7 (pv 7))) d_int)) d_int))
  (dss_one (ds_expr (d_append (dv 6 (pv 6)) (da_cons (d_op o_mod (d_op o_mul (d_op o_mul (dv 8 (pv 8)) (d_op o_addA (dv 8 (pv 8)) d_int)) (d_op o_addA (dv 5 (pv 5)) d_int)) (d_op o_pow d_int d_int)) da_nil (star_of (by rfl))) (by rfl) (few_1 (by rfl)) (by rfl) (star_of (by rfl)) (by rfl)))))))))
 refine dss_one ?_
 exact (ds_ret (dv 6 (pv 6)))
theorem ok_l_number (T : Txt K mg t) : FnOk P w K mg base CX0 10 t.f_l_number t.d_l_number ["_law_x"] (lift K m_l_number) := by
 have nd := sc_l_number.nd
 refine d_fn (k := 9) T.F_l_number sc_l_number fun cdv A outer s H E hr => ?_
 have hc := hr.calm (by decide)
 refine dss_one ?_
 exact (ds_ret (d_ix (d_lst (da_cons (d_op o_sub (d_op o_mod (d_op o_div (dv 0 (pv 0)) d_int) d_int) d_int) (da_cons (d_op o_sub (d_op o_mod (d_op o_div (dv 0 (pv 0)) d_int) d_int) d_int) (da_cons (d_op o_sub (d_op o_mod (d_op o_div (dv 0 (pv 0)) d_int) (d_op o_mul d_int (d_op o_pow d_int d_int))) (d_op o_pow d_int d_int)) da_nil (star_of (by rfl))) (star_of (by rfl))) (star_of (by rfl)))) (d_op o_mod (dv 0 (pv 0)) d_int) (by intro _ _; rfl)))
theorem ok_l_powers (T : Txt K mg t) : FnOk P w K mg base CX0 10 t.f_l_powers t.d_l_powers ["_law_x", "_law_letters", "_law_most"] (lift K m_l_powers) := by
 have nd := sc_l_powers.nd
 refine d_fn (k := 9) T.F_l_powers sc_l_powers fun cdv A outer s H E hr => ?_
 have hc := hr.calm (by decide)
 refine dss_cons ?_ ?_
 ·exact (ds_set (i := 3) nd (by rfl) (by exact Or.inl rfl) (d_lstM da_nil))
 refine dss_cons ?_ ?_
 ·exact (ds_for PassesOwn.never hc (di_range1 (by rfl) (by exact T.z_range) (da_cons (dv 1 (pv 1)) da_nil (star_of (by rfl))) (star_1 (by rfl))) (dg_name (pg_name (i := 4) nd (by rfl) (by exact Or.inl rfl))) (dss_cons (ds_expr (d_append (dv 3 (pv 3)) (da_cons (d_op o_mod (dv 0 (pv 0)) (d_op o_addA (dv 2 (pv 2)) d_int)) da_nil (star_of (by rfl))) (by rfl) (few_1 (by rfl)) (by rfl) (star_of (by rfl)) (by rfl)))
  (dss_one (ds_set (i := 0) nd (by rfl) (by exact Or.inl rfl) (d_op o_div (dv 0 (pv 0)) (d_op o_addA (dv 2 (pv 2)) d_int))))))
 refine dss_one ?_
 exact (ds_ret (d_callTy c_tuple (by rfl) (by exact T.z_tuple) boot_tuple (da_cons (dv 3 (pv 3)) da_nil (star_of (by rfl))) (by decide) (by decide) (star_of (by rfl)) (plain_of (by rfl))))
theorem ok_l_ordered (T : Txt K mg t) : FnOk P w K mg base CX0 10 t.f_l_ordered t.d_l_ordered ["_law_found"] (lift K m_l_ordered) := by
 have nd := sc_l_ordered.nd
 refine d_fn (k := 9) T.F_l_ordered sc_l_ordered fun cdv A outer s H E hr => ?_
 have hc := hr.calm (by decide)
 refine dss_one ?_
 exact (ds_ret (d_callTy c_tuple (by rfl) (by exact T.z_tuple) boot_tuple (da_cons (d_lc [0] hc (blk_of (by rfl)) own_1 (pgo_1 (blk_of (by rfl))) (di_seq (d_callB (c_sortG hc) (by rfl) (by exact T.z_sorted) PyProof.Rows.boot_sorted (da_cons (dv 0 (pv 0)) da_nil (star_of (by rfl))) (by decide) (by decide) (star_of (by rfl)) (plain_of (by rfl)))) (fun _ _ _ _ => (dif_one (dt_cmp (o_ne (hu30 hr)) (d_tix (hu30 hr) (dv 1 (pv 1)) (dv 0 (pv 0)) (by intro _ _; rfl)) d_int (nomark _)))) (fun _ _ _ _ => (d_tup (da_cons (dv 0 (pv 0)) (da_cons (d_tix (hu30 hr) (dv 1 (pv 1)) (dv 0 (pv 0)) (by intro _ _; rfl)) da_nil (star_of (by rfl))) (star_of (by rfl)))))) da_nil (star_of (by rfl))) (by decide) (by decide) (star_of (by rfl)) (plain_of (by rfl))))
theorem ok_l_sum (T : Txt K mg t) : FnOk P w K mg base CX0 12 t.f_l_sum t.d_l_sum ["_law_script", "_law_k", "_law_letters", "_law_many", "_law_most"] (lift K m_l_sum) := by
 have nd := sc_l_sum.nd
 refine d_fn (k := 11) T.F_l_sum sc_l_sum fun cdv A outer s H E hr => ?_
 have hc := hr.calm (by decide)
 refine dss_cons ?_ ?_
 ·first
  | (with_reducible exact (ds_set (hs := by with_unfolding_all rfl) (hf := by with_unfolding_all first | exact .inl rfl | exact .inr rfl) (i := 5) (by with_unfolding_all exact nd) (by with_unfolding_all rfl) (by with_unfolding_all exact Or.inl rfl) d_newT))
  | (exact (ds_set (i := 5) nd (by rfl) (by exact Or.inl rfl) d_newT))
 refine dss_cons ?_ ?_
 ·exact (ds_for PassesOwn.never hc (di_range1 (by rfl) (by exact T.z_range) (da_cons (dv 3 (pv 3)) da_nil (star_of (by rfl))) (star_1 (by rfl))) (dg_name (pg_name (i := 6) nd (by rfl) (by exact Or.inl rfl))) (dss_cons (ds_set (i := 7) nd (by rfl) (by exact Or.inl rfl) (d_call ((ok_l_draws T).mono (by decide)) hr (by rfl) (by exact T.m_l_draws) (by exact T.F_l_draws.kp) (by exact T.b_l_draws) (da_cons (dv 0 (pv 0)) (da_cons (d_op o_addA (dv 1 (pv 1)) (dv 6 (pv 6))) (da_cons d_int da_nil (star_of (by rfl))) (star_of (by rfl))) (star_of (by rfl))) (by decide) (star_of (by rfl)) (plain_of (by rfl))))
  (dss_one (ds_asg (d_call ((ok_l_number T).mono (by decide)) hr (by rfl) (by exact T.m_l_number) (by exact T.F_l_number.kp) (by exact T.b_l_number) (da_cons (d_ix (dv 7 (pv 7)) d_int (by intro _ _; rfl)) da_nil (star_of (by rfl))) (by decide) (star_of (by rfl)) (plain_of (by rfl))) (dg_sub (dv 5 (pv 5)) (d_call ((ok_l_powers T).mono (by decide)) hr (by rfl) (by exact T.m_l_powers) (by exact T.F_l_powers.kp) (by exact T.b_l_powers) (da_cons (d_ix (dv 7 (pv 7)) d_int (by intro _ _; rfl)) (da_cons (dv 2 (pv 2)) (da_cons (dv 4 (pv 4)) da_nil (star_of (by rfl))) (star_of (by rfl))) (star_of (by rfl))) (by decide) (star_of (by rfl)) (plain_of (by rfl))) (set_dictT (hu30 hr)) sim_setT)))))
 refine dss_one ?_
 exact (ds_ret (d_call ((ok_l_ordered T).mono (by decide)) hr (by rfl) (by exact T.m_l_ordered) (by exact T.F_l_ordered.kp) (by exact T.b_l_ordered) (da_cons (dv 5 (pv 5)) da_nil (star_of (by rfl))) (by decide) (star_of (by rfl)) (plain_of (by rfl))))
theorem ok_l_is_sum (T : Txt K mg t) : FnOk P w K mg base CX0 10 t.f_l_is_sum t.d_l_is_sum ["_law_found", "_law_due"] (lift K m_l_is_sum) := by
 have nd := sc_l_is_sum.nd
 refine d_fn (k := 9) T.F_l_is_sum sc_l_is_sum fun cdv A outer s H E hr => ?_
 have hc := hr.calm (by decide)
 refine dss_cons ?_ ?_
 ·exact (ds_if (dw_or (dt_not (dt_tru (d_callB c_isi (by rfl) (by exact T.z_isinstance) boot_isinstance (da_cons (dv 0 (pv 0)) (da_cons (dc (pe_bltn (v := .ty "tuple") (by rfl) (by exact T.z_tuple) boot_tuple (by rfl)) (fun _ _ => by rw [Rep])) da_nil (star_of (by rfl))) (star_of (by rfl))) (by decide) (by decide) (star_of (by rfl)) (plain_of (by rfl))))) (dw_or1 (dt_cmp (o_ne (hu30 hr)) (d_callB c_len (by rfl) (by exact T.z_len) PySem.boot_len (da_cons (dv 0 (pv 0)) da_nil (star_of (by rfl))) (by decide) (by decide) (star_of (by rfl)) (plain_of (by rfl))) (d_callB c_len (by rfl) (by exact T.z_len) PySem.boot_len (da_cons (dv 1 (pv 1)) da_nil (star_of (by rfl))) (by decide) (by decide) (star_of (by rfl)) (plain_of (by rfl))) (nomark _)))).pt (dss_one (ds_ret d_bl)) dss_nil)
 refine dss_cons ?_ ?_
 ·exact (ds_for PassesOwn.never hc (di_range1 (by rfl) (by exact T.z_range) (da_cons (d_callB c_len (by rfl) (by exact T.z_len) PySem.boot_len (da_cons (dv 1 (pv 1)) da_nil (star_of (by rfl))) (by decide) (by decide) (star_of (by rfl)) (plain_of (by rfl))) da_nil (star_of (by rfl))) (star_1 (by rfl))) (dg_name (pg_name (i := 2) nd (by rfl) (by exact Or.inl rfl))) (dss_cons (ds_set (i := 3) nd (by rfl) (by exact Or.inl rfl) (d_ix (dv 0 (pv 0)) (dv 2 (pv 2)) (by intro _ _; rfl)))
  (dss_cons (ds_if (dw_or (dt_not (dt_tru (d_callB c_isi (by rfl) (by exact T.z_isinstance) boot_isinstance (da_cons (dv 3 (pv 3)) (da_cons (dc (pe_bltn (v := .ty "tuple") (by rfl) (by exact T.z_tuple) boot_tuple (by rfl)) (fun _ _ => by rw [Rep])) da_nil (star_of (by rfl))) (star_of (by rfl))) (by decide) (by decide) (star_of (by rfl)) (plain_of (by rfl))))) (dw_or (dt_cmp (o_ne (hu30 hr)) (d_callB c_len (by rfl) (by exact T.z_len) PySem.boot_len (da_cons (dv 3 (pv 3)) da_nil (star_of (by rfl))) (by decide) (by decide) (star_of (by rfl)) (plain_of (by rfl))) d_int (nomark _)) (dw_or (dt_not (dt_tru (d_callB c_isi (by rfl) (by exact T.z_isinstance) boot_isinstance (da_cons (d_ix (dv 3 (pv 3)) d_int (by intro _ _; rfl)) (da_cons (dc (pe_bltn (v := .ty "tuple") (by rfl) (by exact T.z_tuple) boot_tuple (by rfl)) (fun _ _ => by rw [Rep])) da_nil (star_of (by rfl))) (star_of (by rfl))) (by decide) (by decide) (star_of (by rfl)) (plain_of (by rfl))))) (dw_or1 (dt_cmp (o_ne (hu30 hr)) (dv 3 (pv 3)) (d_ix (dv 1 (pv 1)) (dv 2 (pv 2)) (by intro _ _; rfl)) (nomark _)))))).pt (dss_one (ds_ret d_bl)) dss_nil)
  (dss_one (ds_if (dt_not (dt_tru (d_callB (c_all hc) (by rfl) (by exact T.z_all) boot_all (da_cons (d_lc [] hc (blk_of (by rfl)) own_1 (pgo_1 (blk_of (by rfl))) (di_seq (d_op o_addA (d_ix (dv 3 (pv 3)) d_int (by intro _ _; rfl)) (d_sl2 (dv 3 (pv 3)) (do_some d_int) do_none))) (fun _ _ _ _ => dif_nil) (fun _ _ _ _ => (d_and (d_callB c_isi (by rfl) (by exact T.z_isinstance) boot_isinstance (da_cons (dv 0 (pv 0)) (da_cons (dc (pe_bltn (v := .ty "int") (by rfl) (by exact T.z_int) boot_int (by rfl)) (fun _ _ => by rw [Rep])) da_nil (star_of (by rfl))) (star_of (by rfl))) (by decide) (by decide) (star_of (by rfl)) (plain_of (by rfl))) (d_one (d_not (d_callB c_isi (by rfl) (by exact T.z_isinstance) boot_isinstance (da_cons (dv 0 (pv 0)) (da_cons (dc (pe_bltn (v := .ty "bool") (by rfl) (by exact T.z_bool) boot_bool (by rfl)) (fun _ _ => by rw [Rep])) da_nil (star_of (by rfl))) (star_of (by rfl))) (by decide) (by decide) (star_of (by rfl)) (plain_of (by rfl)))))))) da_nil (star_of (by rfl))) (by decide) (by decide) (star_of (by rfl)) (plain_of (by rfl))))) (dss_one (ds_ret d_bl)) dss_nil)))))
 refine dss_one ?_
 exact (ds_ret d_bl)
theorem ok_l_longer (T : Txt K mg t) : FnOk P w K mg base CX0 11 t.f_l_longer t.d_l_longer ["_law_one", "_law_letters", "_law_many", "_law_first"] (lift K m_l_longer) := by
 have nd := sc_l_longer.nd
 refine d_fn (k := 10) T.F_l_longer sc_l_longer fun cdv A outer s H E hr => ?_
 have hc := hr.calm (by decide)
 refine dss_cons ?_ ?_
 ·exact (ds_set (i := 4) nd (by rfl) (by exact Or.inl rfl) (d_callTy (c_dictT hc (hu30 hr)) (by rfl) (by exact T.z_dict) boot_dict (da_cons (dv 0 (pv 0)) da_nil (star_of (by rfl))) (by decide) (by decide) (star_of (by rfl)) (plain_of (by rfl))))
 refine dss_cons ?_ ?_
 ·exact (ds_for PassesOwn.never hc (di_range1 (by rfl) (by exact T.z_range) (da_cons (dv 2 (pv 2)) da_nil (star_of (by rfl))) (star_1 (by rfl))) (dg_name (pg_name (i := 5) nd (by rfl) (by exact Or.inl rfl))) (dss_one (ds_asg (d_op o_addA d_int (d_op o_mod (dv 5 (pv 5)) d_int)) (dg_sub (dv 4 (pv 4)) (d_op o_addA (d_tup (da_cons (d_op o_addA (dv 3 (pv 3)) (d_op o_div (dv 5 (pv 5)) d_int)) (da_cons (d_op o_mod (dv 5 (pv 5)) d_int) da_nil (star_of (by rfl))) (star_of (by rfl)))) (d_op o_mulA (d_tup (da_cons d_int da_nil (star_of (by rfl)))) (d_op o_sub (dv 1 (pv 1)) d_int))) (set_dictT (hu30 hr)) sim_setT))))
 refine dss_one ?_
 exact (ds_ret (d_call ((ok_l_ordered T).mono (by decide)) hr (by rfl) (by exact T.m_l_ordered) (by exact T.F_l_ordered.kp) (by exact T.b_l_ordered) (da_cons (dv 4 (pv 4)) da_nil (star_of (by rfl))) (by decide) (star_of (by rfl)) (plain_of (by rfl))))
theorem ok_l_two (T : Txt K mg t) : FnOk P w K mg base CX0 13 t.f_l_two t.d_l_two ["_law_script", "_law_letters"] (lift K m_l_two) := by
 have nd := sc_l_two.nd
 refine d_fn (k := 12) T.F_l_two sc_l_two fun cdv A outer s H E hr => ?_
 have hc := hr.calm (by decide)
 refine dss_cons ?_ ?_
 ·exact (ds_set (i := 2) nd (by rfl) (by exact Or.inl rfl) (d_ix (d_lst (da_cons d_int (da_cons d_int da_nil (star_of (by rfl))) (star_of (by rfl)))) (d_op o_mod (d_op o_div (d_call ((ok_l_cell T).mono (by decide)) hr (by rfl) (by exact T.m_l_cell) (by exact T.F_l_cell.kp) (by exact T.b_l_cell) (da_cons (dv 0 (pv 0)) (da_cons d_int da_nil (star_of (by rfl))) (star_of (by rfl))) (by decide) (star_of (by rfl)) (plain_of (by rfl))) d_int) d_int) (by intro _ _; rfl)))
 refine dss_cons ?_ ?_
 ·exact (ds_set (i := 3) nd (by rfl) (by exact Or.inl rfl) (d_call ((ok_l_sum T).mono (by decide)) hr (by rfl) (by exact T.m_l_sum) (by exact T.F_l_sum.kp) (by exact T.b_l_sum) (da_cons (dv 0 (pv 0)) (da_cons d_int (da_cons (dv 1 (pv 1)) (da_cons (d_op o_mod (d_call ((ok_l_cell T).mono (by decide)) hr (by rfl) (by exact T.m_l_cell) (by exact T.F_l_cell.kp) (by exact T.b_l_cell) (da_cons (dv 0 (pv 0)) (da_cons d_int da_nil (star_of (by rfl))) (star_of (by rfl))) (by decide) (star_of (by rfl)) (plain_of (by rfl))) d_int) (da_cons (dv 2 (pv 2)) da_nil (star_of (by rfl))) (star_of (by rfl))) (star_of (by rfl))) (star_of (by rfl))) (star_of (by rfl))) (by decide) (star_of (by rfl)) (plain_of (by rfl))))
 refine dss_cons ?_ ?_
 ·exact (ds_set (i := 4) nd (by rfl) (by exact Or.inl rfl) (d_call ((ok_l_sum T).mono (by decide)) hr (by rfl) (by exact T.m_l_sum) (by exact T.F_l_sum.kp) (by exact T.b_l_sum) (da_cons (dv 0 (pv 0)) (da_cons d_int (da_cons (dv 1 (pv 1)) (da_cons (d_op o_mod (d_call ((ok_l_cell T).mono (by decide)) hr (by rfl) (by exact T.m_l_cell) (by exact T.F_l_cell.kp) (by exact T.b_l_cell) (da_cons (dv 0 (pv 0)) (da_cons d_int da_nil (star_of (by rfl))) (star_of (by rfl))) (by decide) (star_of (by rfl)) (plain_of (by rfl))) d_int) (da_cons (dv 2 (pv 2)) da_nil (star_of (by rfl))) (star_of (by rfl))) (star_of (by rfl))) (star_of (by rfl))) (star_of (by rfl))) (by decide) (star_of (by rfl)) (plain_of (by rfl))))
 refine dss_cons ?_ ?_
 ·exact (ds_set (i := 5) nd (by rfl) (by exact Or.inl rfl) (d_op o_mod (d_op o_div (d_call ((ok_l_cell T).mono (by decide)) hr (by rfl) (by exact T.m_l_cell) (by exact T.F_l_cell.kp) (by exact T.b_l_cell) (da_cons (dv 0 (pv 0)) (da_cons d_int da_nil (star_of (by rfl))) (star_of (by rfl))) (by decide) (star_of (by rfl)) (plain_of (by rfl))) d_int) d_int))
 refine dss_cons ?_ ?_
 ·exact (ds_if (dt_cmp o_gt (dv 5 (pv 5)) d_int (nomark _)) (dss_cons (ds_set (i := 6) nd (by rfl) (by exact Or.inl rfl) (d_callTy (c_dictT hc (hu30 hr)) (by rfl) (by exact T.z_dict) boot_dict (da_cons (dv 4 (pv 4)) da_nil (star_of (by rfl))) (by decide) (by decide) (star_of (by rfl)) (plain_of (by rfl))))
  (dss_cons (ds_for PassesOwn.never hc (di_seq (d_sl2 (dv 3 (pv 3)) do_none (do_some (d_op o_addA d_int (d_op o_mod (d_op o_div (d_call ((ok_l_cell T).mono (by decide)) hr (by rfl) (by exact T.m_l_cell) (by exact T.F_l_cell.kp) (by exact T.b_l_cell) (da_cons (dv 0 (pv 0)) (da_cons d_int da_nil (star_of (by rfl))) (star_of (by rfl))) (by decide) (star_of (by rfl)) (plain_of (by rfl))) d_int) d_int))))) (dg_tup2 hc (dgs_cons (dg_name (pg_name (i := 7) nd (by rfl) (by exact Or.inl rfl))) (dgs_cons (dg_name (pg_name (i := 8) nd (by rfl) (by exact Or.inl rfl))) dgs_nil))) (dss_one (ds_asg (d_ix (d_lst (da_cons (dv 8 (pv 8)) (da_cons (d_op o_sub d_int (dv 8 (pv 8))) da_nil (star_of (by rfl))) (star_of (by rfl)))) (d_op o_sub (dv 5 (pv 5)) d_int) (by intro _ _; rfl)) (dg_sub (dv 6 (pv 6)) (dv 7 (pv 7)) (set_dictT (hu30 hr)) sim_setT))))
  (dss_one (ds_set (i := 4) nd (by rfl) (by exact Or.inl rfl) (d_call ((ok_l_ordered T).mono (by decide)) hr (by rfl) (by exact T.m_l_ordered) (by exact T.F_l_ordered.kp) (by exact T.b_l_ordered) (da_cons (dv 6 (pv 6)) da_nil (star_of (by rfl))) (by decide) (star_of (by rfl)) (plain_of (by rfl))))))) dss_nil)
 refine dss_cons ?_ ?_
 ·exact (ds_if (dw_and (dt_cmp o_gt (dv 1 (pv 1)) d_int (nomark _)) (dw_and1 (dt_cmp (o_eq (hu30 hr)) (d_op o_mod (d_call ((ok_l_cell T).mono (by decide)) hr (by rfl) (by exact T.m_l_cell) (by exact T.F_l_cell.kp) (by exact T.b_l_cell) (da_cons (dv 0 (pv 0)) (da_cons d_int da_nil (star_of (by rfl))) (star_of (by rfl))) (by decide) (star_of (by rfl)) (plain_of (by rfl))) d_int) d_int (nomark _)))).pt (dss_cons (ds_set (i := 3) nd (by rfl) (by exact Or.inl rfl) (d_call ((ok_l_longer T).mono (by decide)) hr (by rfl) (by exact T.m_l_longer) (by exact T.F_l_longer.kp) (by exact T.b_l_longer) (da_cons (dv 3 (pv 3)) (da_cons (dv 1 (pv 1)) (da_cons (d_op o_addA d_int (d_op o_mod (d_op o_div (d_call ((ok_l_cell T).mono (by decide)) hr (by rfl) (by exact T.m_l_cell) (by exact T.F_l_cell.kp) (by exact T.b_l_cell) (da_cons (dv 0 (pv 0)) (da_cons d_int da_nil (star_of (by rfl))) (star_of (by rfl))) (by decide) (star_of (by rfl)) (plain_of (by rfl))) d_int) d_int)) (da_cons d_int da_nil (star_of (by rfl))) (star_of (by rfl))) (star_of (by rfl))) (star_of (by rfl))) (by decide) (star_of (by rfl)) (plain_of (by rfl))))
  (dss_one (ds_set (i := 4) nd (by rfl) (by exact Or.inl rfl) (d_call ((ok_l_longer T).mono (by decide)) hr (by rfl) (by exact T.m_l_longer) (by exact T.F_l_longer.kp) (by exact T.b_l_longer) (da_cons (dv 4 (pv 4)) (da_cons (dv 1 (pv 1)) (da_cons (d_op o_addA d_int (d_op o_mod (d_op o_div (d_call ((ok_l_cell T).mono (by decide)) hr (by rfl) (by exact T.m_l_cell) (by exact T.F_l_cell.kp) (by exact T.b_l_cell) (da_cons (dv 0 (pv 0)) (da_cons d_int da_nil (star_of (by rfl))) (star_of (by rfl))) (by decide) (star_of (by rfl)) (plain_of (by rfl))) d_int) d_int)) (da_cons d_int da_nil (star_of (by rfl))) (star_of (by rfl))) (star_of (by rfl))) (star_of (by rfl))) (by decide) (star_of (by rfl)) (plain_of (by rfl)))))) dss_nil)
 refine dss_one ?_
 exact (ds_ret (d_tup (da_cons (dv 3 (pv 3)) (da_cons (dv 4 (pv 4)) da_nil (star_of (by rfl))) (star_of (by rfl)))))
theorem ok_l_added (T : Txt K mg t) : FnOk P w K mg base CX0 11 t.f_l_added t.d_l_added ["_law_one", "_law_other", "_law_factor"] (lift K m_l_added) := by
 have nd := sc_l_added.nd
 refine d_fn (k := 10) T.F_l_added sc_l_added fun cdv A outer s H E hr => ?_
 have hc := hr.calm (by decide)
 refine dss_cons ?_ ?_
 ·exact (ds_set (i := 3) nd (by rfl) (by exact Or.inl rfl) (d_callTy (c_dictT hc (hu30 hr)) (by rfl) (by exact T.z_dict) boot_dict (da_cons (dv 0 (pv 0)) da_nil (star_of (by rfl))) (by decide) (by decide) (star_of (by rfl)) (plain_of (by rfl))))
 refine dss_cons ?_ ?_
 ·exact (ds_for PassesOwn.never hc (di_seq (dv 1 (pv 1))) (dg_tup2 hc (dgs_cons (dg_name (pg_name (i := 4) nd (by rfl) (by exact Or.inl rfl))) (dgs_cons (dg_name (pg_name (i := 5) nd (by rfl) (by exact Or.inl rfl))) dgs_nil))) (dss_one (ds_asg (d_op o_addA (d_getT (hu30 hr) (dv 3 (pv 3)) (da_cons (dv 4 (pv 4)) (da_cons d_int da_nil (star_of (by rfl))) (star_of (by rfl))) (by rfl) (few_2 (by rfl) (by rfl)) (by rfl) (star_of (by rfl)) (plain_of (by rfl))) (d_op o_mul (dv 2 (pv 2)) (dv 5 (pv 5)))) (dg_sub (dv 3 (pv 3)) (dv 4 (pv 4)) (set_dictT (hu30 hr)) sim_setT))))
 refine dss_one ?_
 exact (ds_ret (d_call ((ok_l_ordered T).mono (by decide)) hr (by rfl) (by exact T.m_l_ordered) (by exact T.F_l_ordered.kp) (by exact T.b_l_ordered) (da_cons (dv 3 (pv 3)) da_nil (star_of (by rfl))) (by decide) (star_of (by rfl)) (plain_of (by rfl))))
theorem ok_l_refused (T : Txt K mg t) : FnOk P w K mg base CX0 13 t.f_l_refused t.d_l_refused ["_law_one", "_law_other", "_law_way"] (lift K m_l_refused) := by
 have nd := sc_l_refused.nd
 refine d_fn (k := 12) T.F_l_refused sc_l_refused fun cdv A outer s H E hr => ?_
 have hc := hr.calm (by decide)
 refine dss_cons ?_ ?_
 ·exact (ds_try (i := 4) nd (by rfl) (by rfl) (by rfl) T.xm_EaselError T.xd_EaselError ⟨rfl, rfl⟩ rfl (fun pins xe σ0 => (dssx_one (dsx_if (dt_cmp (o_eq (hu30 hr)) (dv 2 (pv 2)) d_int (nomark _)) (dssx_one (dsx_expr (d_callX ((okX_plus T).mono (by decide)) hr (by rfl) (by exact T.m_plus) (by exact T.F_plus.kp) (by exact T.b_plus) (da_cons (dv 0 (pv 0)) (da_cons (dv 1 (pv 1)) da_nil (star_of (by rfl))) (star_of (by rfl))) (by decide) (star_of (by rfl)) (plain_of (by rfl))))) (dssx_one (dsx_expr (d_callX ((okX_minus T).mono (by decide)) hr (by rfl) (by exact T.m_minus) (by exact T.F_minus.kp) (by exact T.b_minus) (da_cons (dv 0 (pv 0)) (da_cons (dv 1 (pv 1)) da_nil (star_of (by rfl))) (star_of (by rfl))) (by decide) (star_of (by rfl)) (plain_of (by rfl)))))))) (fun a o u => by
  have hr := room_hnd (a := a) hr (by decide)
  exact (dss_cons (ds_set (i := 3) nd (by rfl) (by exact Or.inl rfl) (d_lst (da_cons (d_isx1 (by rfl) (by exact T.z_isinstance) (dv 4 (pv 4)) (pe_glob (v := .ref t.x_NoPart) (by rfl) T.xm_NoPart (by rfl)) (CsOk.own T.xd_NoPart) (star_of (by rfl)) (star_of (by rfl)) (plain_of (by rfl))) (da_cons (d_isx1 (by rfl) (by exact T.z_isinstance) (dv 4 (pv 4)) (pe_glob (v := .ref t.x_Nothing) (by rfl) T.xm_Nothing (by rfl)) (CsOk.own T.xd_Nothing) (star_of (by rfl)) (star_of (by rfl)) (plain_of (by rfl))) (da_cons (d_isx1 (by rfl) (by exact T.z_isinstance) (dv 4 (pv 4)) (pe_glob (v := .ref t.x_Stuck) (by rfl) T.xm_Stuck (by rfl)) (CsOk.own T.xd_Stuck) (star_of (by rfl)) (star_of (by rfl)) (plain_of (by rfl))) da_nil (star_of (by rfl))) (star_of (by rfl))) (star_of (by rfl)))))
  (dss_one (ds_ret (d_and (d_isx1 (by rfl) (by exact T.z_isinstance) (dv 4 (pv 4)) (pe_glob (v := .ref t.x_TooMuch) (by rfl) T.xm_TooMuch (by rfl)) (CsOk.own T.xd_TooMuch) (star_of (by rfl)) (star_of (by rfl)) (plain_of (by rfl))) (d_and (d_isx1 (by rfl) (by exact T.z_isinstance) (dv 4 (pv 4)) (pe_bltn (v := .ty "ValueError") (by rfl) (by exact T.z_ValueError) PyProof.Rows.Boot.«ValueError» (by rfl)) CsOk.val (star_of (by rfl)) (star_of (by rfl)) (plain_of (by rfl))) (d_one (d_not (d_callB c_anyQ (by rfl) (by exact T.z_any) boot_any (da_cons (dv 3 (pv 3)) da_nil (star_of (by rfl))) (by decide) (by decide) (star_of (by rfl)) (plain_of (by rfl))))))))))))
 refine dss_one ?_
 exact (ds_ret d_bl)
theorem ok_l_right (T : Txt K mg t) : FnOk P w K mg base CX0 14 t.f_l_right t.d_l_right ["_law_one", "_law_other"] (lift K m_l_right) := by
 have nd := sc_l_right.nd
 refine d_fn (k := 13) T.F_l_right sc_l_right fun cdv A outer s H E hr => ?_
 have hc := hr.calm (by decide)
 refine dss_cons ?_ ?_
 ·exact (ds_for PassesOwn.never hc (di_range1 (by rfl) (by exact T.z_range) (da_cons d_int da_nil (star_of (by rfl))) (star_1 (by rfl))) (dg_name (pg_name (i := 2) nd (by rfl) (by exact Or.inl rfl))) (dss_cons (ds_set (i := 3) nd (by rfl) (by exact Or.inl rfl) (d_call ((ok_l_added T).mono (by decide)) hr (by rfl) (by exact T.m_l_added) (by exact T.F_l_added.kp) (by exact T.b_l_added) (da_cons (dv 0 (pv 0)) (da_cons (dv 1 (pv 1)) (da_cons (d_op o_sub d_int (d_op o_mul d_int (dv 2 (pv 2)))) da_nil (star_of (by rfl))) (star_of (by rfl))) (star_of (by rfl))) (by decide) (star_of (by rfl)) (plain_of (by rfl))))
  (dss_one (ds_if (dt_cmp o_gt (d_callB c_len (by rfl) (by exact T.z_len) PySem.boot_len (da_cons (dv 3 (pv 3)) da_nil (star_of (by rfl))) (by decide) (by decide) (star_of (by rfl)) (plain_of (by rfl))) d_int (nomark _)) (dss_one (ds_if (dt_not (dt_tru (d_call ((ok_l_refused T).mono (by decide)) hr (by rfl) (by exact T.m_l_refused) (by exact T.F_l_refused.kp) (by exact T.b_l_refused) (da_cons (dv 0 (pv 0)) (da_cons (dv 1 (pv 1)) (da_cons (dv 2 (pv 2)) da_nil (star_of (by rfl))) (star_of (by rfl))) (star_of (by rfl))) (by decide) (star_of (by rfl)) (plain_of (by rfl))))) (dss_one (ds_ret d_bl)) dss_nil)) (dss_cons (ds_if (dt_cmp (o_eq (hu30 hr)) (dv 2 (pv 2)) d_int (nomark _)) (dss_one (ds_set (i := 4) nd (by rfl) (by exact Or.inl rfl) (d_call ((ok_plus T).mono (by decide)) hr (by rfl) (by exact T.m_plus) (by exact T.F_plus.kp) (by exact T.b_plus) (da_cons (dv 0 (pv 0)) (da_cons (dv 1 (pv 1)) da_nil (star_of (by rfl))) (star_of (by rfl))) (by decide) (star_of (by rfl)) (plain_of (by rfl))))) (dss_one (ds_set (i := 4) nd (by rfl) (by exact Or.inl rfl) (d_call ((ok_minus T).mono (by decide)) hr (by rfl) (by exact T.m_minus) (by exact T.F_minus.kp) (by exact T.b_minus) (da_cons (dv 0 (pv 0)) (da_cons (dv 1 (pv 1)) da_nil (star_of (by rfl))) (star_of (by rfl))) (by decide) (star_of (by rfl)) (plain_of (by rfl))))))
  (dss_one (ds_if (dt_not (dt_tru (d_call ((ok_l_is_sum T).mono (by decide)) hr (by rfl) (by exact T.m_l_is_sum) (by exact T.F_l_is_sum.kp) (by exact T.b_l_is_sum) (da_cons (dv 4 (pv 4)) (da_cons (dv 3 (pv 3)) da_nil (star_of (by rfl))) (star_of (by rfl))) (by decide) (star_of (by rfl)) (plain_of (by rfl))))) (dss_one (ds_ret d_bl)) dss_nil)))))))
 refine dss_one ?_
 exact (ds_ret d_bl)
theorem ok_l_at_bound (T : Txt K mg t) : FnOk P w K mg base CX0 14 t.f_l_at_bound t.d_l_at_bound ["_law_letters"] (lift K m_l_at_bound) := by
 have nd := sc_l_at_bound.nd
 refine d_fn (k := 13) T.F_l_at_bound sc_l_at_bound fun cdv A outer s H E hr => ?_
 have hc := hr.calm (by decide)
 refine dss_cons ?_ ?_
 ·exact (ds_if (dt_cmp o_lt (dv 0 (pv 0)) d_int (nomark _)) (dss_one (ds_ret d_bl)) dss_nil)
 refine dss_cons ?_ ?_
 ·exact (ds_set (i := 1) nd (by rfl) (by exact Or.inl rfl) (d_call ((ok_l_longer T).mono (by decide)) hr (by rfl) (by exact T.m_l_longer) (by exact T.F_l_longer.kp) (by exact T.b_l_longer) (da_cons (d_tup da_nil) (da_cons (dv 0 (pv 0)) (da_cons d_int (da_cons d_int da_nil (star_of (by rfl))) (star_of (by rfl))) (star_of (by rfl))) (star_of (by rfl))) (by decide) (star_of (by rfl)) (plain_of (by rfl))))
 refine dss_cons ?_ ?_
 ·exact (ds_set (i := 2) nd (by rfl) (by exact Or.inl rfl) (d_call ((ok_l_longer T).mono (by decide)) hr (by rfl) (by exact T.m_l_longer) (by exact T.F_l_longer.kp) (by exact T.b_l_longer) (da_cons (d_tup da_nil) (da_cons (dv 0 (pv 0)) (da_cons d_int (da_cons d_int da_nil (star_of (by rfl))) (star_of (by rfl))) (star_of (by rfl))) (star_of (by rfl))) (by decide) (star_of (by rfl)) (plain_of (by rfl))))
 refine dss_cons ?_ ?_
 ·exact (ds_if (dw_or (dt_not (dt_tru (d_call ((ok_l_refused T).mono (by decide)) hr (by rfl) (by exact T.m_l_refused) (by exact T.F_l_refused.kp) (by exact T.b_l_refused) (da_cons (dv 1 (pv 1)) (da_cons (dv 2 (pv 2)) (da_cons d_int da_nil (star_of (by rfl))) (star_of (by rfl))) (star_of (by rfl))) (by decide) (star_of (by rfl)) (plain_of (by rfl))))) (dw_or1 (dt_not (dt_tru (d_call ((ok_l_refused T).mono (by decide)) hr (by rfl) (by exact T.m_l_refused) (by exact T.F_l_refused.kp) (by exact T.b_l_refused) (da_cons (dv 2 (pv 2)) (da_cons (dv 1 (pv 1)) (da_cons d_int da_nil (star_of (by rfl))) (star_of (by rfl))) (star_of (by rfl))) (by decide) (star_of (by rfl)) (plain_of (by rfl))))))).pt (dss_one (ds_ret d_bl)) dss_nil)
 refine dss_one ?_
 exact (ds_ret (d_call ((ok_l_is_sum T).mono (by decide)) hr (by rfl) (by exact T.m_l_is_sum) (by exact T.F_l_is_sum.kp) (by exact T.b_l_is_sum) (da_cons (d_call ((ok_plus T).mono (by decide)) hr (by rfl) (by exact T.m_plus) (by exact T.F_plus.kp) (by exact T.b_plus) (da_cons (dv 1 (pv 1)) (da_cons (d_sl2 (dv 2 (pv 2)) (do_some d_int) do_none) da_nil (star_of (by rfl))) (star_of (by rfl))) (by decide) (star_of (by rfl)) (plain_of (by rfl))) (da_cons (d_call ((ok_l_added T).mono (by decide)) hr (by rfl) (by exact T.m_l_added) (by exact T.F_l_added.kp) (by exact T.b_l_added) (da_cons (dv 1 (pv 1)) (da_cons (d_sl2 (dv 2 (pv 2)) (do_some d_int) do_none) (da_cons d_int da_nil (star_of (by rfl))) (star_of (by rfl))) (star_of (by rfl))) (by decide) (star_of (by rfl)) (plain_of (by rfl))) da_nil (star_of (by rfl))) (star_of (by rfl))) (by decide) (star_of (by rfl)) (plain_of (by rfl))))
theorem ok_law (T : Txt K mg t) : FnOk P w K mg base CX0 15 t.f_law t.d_law ["_law_script"] (lift K m_law) := by
 have nd := sc_law.nd
 refine d_fn (k := 14) T.F_law sc_law fun cdv A outer s H E hr => ?_
 have hc := hr.calm (by decide)
 refine dss_cons ?_ ?_
 ·exact (ds_set (i := 1) nd (by rfl) (by exact Or.inl rfl) (d_op o_mod (d_call ((ok_l_cell T).mono (by decide)) hr (by rfl) (by exact T.m_l_cell) (by exact T.F_l_cell.kp) (by exact T.b_l_cell) (da_cons (dv 0 (pv 0)) (da_cons d_int da_nil (star_of (by rfl))) (star_of (by rfl))) (by decide) (star_of (by rfl)) (plain_of (by rfl))) d_int))
 refine dss_cons ?_ ?_
 ·exact (ds_asg (d_call ((ok_l_two T).mono (by decide)) hr (by rfl) (by exact T.m_l_two) (by exact T.F_l_two.kp) (by exact T.b_l_two) (da_cons (dv 0 (pv 0)) (da_cons (dv 1 (pv 1)) da_nil (star_of (by rfl))) (star_of (by rfl))) (by decide) (star_of (by rfl)) (plain_of (by rfl))) (dg_tup2 hc (dgs_cons (dg_name (pg_name (i := 2) nd (by rfl) (by exact Or.inl rfl))) (dgs_cons (dg_name (pg_name (i := 3) nd (by rfl) (by exact Or.inl rfl))) dgs_nil))))
 refine dss_cons ?_ ?_
 ·exact (ds_if (dt_not (dt_tru (d_call ((ok_l_at_bound T).mono (by decide)) hr (by rfl) (by exact T.m_l_at_bound) (by exact T.F_l_at_bound.kp) (by exact T.b_l_at_bound) (da_cons (dv 1 (pv 1)) da_nil (star_of (by rfl))) (by decide) (star_of (by rfl)) (plain_of (by rfl))))) (dss_one (ds_ret d_bl)) dss_nil)
 refine dss_cons ?_ ?_
 ·first
  | (with_reducible exact (ds_for (hs := by with_unfolding_all (intro _; rfl)) (by with_unfolding_all exact PassesOwn.never) (by with_unfolding_all exact hc) (di_seq (d_lst (da_cons (d_tup (da_cons (dv 2 (by with_unfolding_all exact pv 2)) (da_cons (dv 3 (by with_unfolding_all exact pv 3)) da_nil (star_of (by with_unfolding_all rfl))) (star_of (by with_unfolding_all rfl)))) (da_cons (d_tup (da_cons (dv 3 (by with_unfolding_all exact pv 3)) (da_cons (dv 2 (by with_unfolding_all exact pv 2)) da_nil (star_of (by with_unfolding_all rfl))) (star_of (by with_unfolding_all rfl)))) (da_cons (d_tup (da_cons (dv 2 (by with_unfolding_all exact pv 2)) (da_cons (d_tup da_nil) da_nil (star_of (by with_unfolding_all rfl))) (star_of (by with_unfolding_all rfl)))) (da_cons (d_tup (da_cons (d_tup da_nil) (da_cons (dv 3 (by with_unfolding_all exact pv 3)) da_nil (star_of (by with_unfolding_all rfl))) (star_of (by with_unfolding_all rfl)))) (da_cons (d_tup (da_cons (dv 2 (by with_unfolding_all exact pv 2)) (da_cons (dv 2 (by with_unfolding_all exact pv 2)) da_nil (star_of (by with_unfolding_all rfl))) (star_of (by with_unfolding_all rfl)))) (da_cons (d_tup (da_cons (dv 2 (by with_unfolding_all exact pv 2)) (da_cons (dv 3 (by with_unfolding_all exact pv 3)) da_nil (star_of (by with_unfolding_all rfl))) (star_of (by with_unfolding_all rfl)))) da_nil (star_of (by with_unfolding_all rfl))) (star_of (by with_unfolding_all rfl))) (star_of (by with_unfolding_all rfl))) (star_of (by with_unfolding_all rfl))) (star_of (by with_unfolding_all rfl))) (star_of (by with_unfolding_all rfl))))) (dg_tup2 (hn := by with_unfolding_all rfl) (hst := by with_unfolding_all rfl) (by with_unfolding_all exact hc) (dgs_cons (hs := by with_unfolding_all rfl) (dg_name (pg_name (i := 4) (by with_unfolding_all exact nd) (by with_unfolding_all rfl) (by with_unfolding_all exact Or.inl rfl))) (dgs_cons (hs := by with_unfolding_all rfl) (dg_name (pg_name (i := 5) (by with_unfolding_all exact nd) (by with_unfolding_all rfl) (by with_unfolding_all exact Or.inl rfl))) dgs_nil))) (dss_one (ds_if (dt_not (dt_tru (h := by with_unfolding_all (intro _; rfl)) (d_call (k := 14) (by with_unfolding_all exact (ok_l_right T).mono (by decide)) (by with_unfolding_all exact hr) (by with_unfolding_all rfl) (by with_unfolding_all exact T.m_l_right) (by with_unfolding_all exact T.F_l_right.kp) (by with_unfolding_all exact T.b_l_right) (da_cons (dv 4 (by with_unfolding_all exact pv 4)) (da_cons (dv 5 (by with_unfolding_all exact pv 5)) da_nil (star_of (by with_unfolding_all rfl))) (star_of (by with_unfolding_all rfl))) (by decide) (star_of (by with_unfolding_all rfl)) (plain_of (by with_unfolding_all rfl))))) (dss_one (ds_ret d_bl)) dss_nil))))
  | (exact (ds_for PassesOwn.never hc (di_seq (d_lst (da_cons (d_tup (da_cons (dv 2 (pv 2)) (da_cons (dv 3 (pv 3)) da_nil (star_of (by rfl))) (star_of (by rfl)))) (da_cons (d_tup (da_cons (dv 3 (pv 3)) (da_cons (dv 2 (pv 2)) da_nil (star_of (by rfl))) (star_of (by rfl)))) (da_cons (d_tup (da_cons (dv 2 (pv 2)) (da_cons (d_tup da_nil) da_nil (star_of (by rfl))) (star_of (by rfl)))) (da_cons (d_tup (da_cons (d_tup da_nil) (da_cons (dv 3 (pv 3)) da_nil (star_of (by rfl))) (star_of (by rfl)))) (da_cons (d_tup (da_cons (dv 2 (pv 2)) (da_cons (dv 2 (pv 2)) da_nil (star_of (by rfl))) (star_of (by rfl)))) (da_cons (d_tup (da_cons (dv 2 (pv 2)) (da_cons (dv 3 (pv 3)) da_nil (star_of (by rfl))) (star_of (by rfl)))) da_nil (star_of (by rfl))) (star_of (by rfl))) (star_of (by rfl))) (star_of (by rfl))) (star_of (by rfl))) (star_of (by rfl))))) (dg_tup2 hc (dgs_cons (dg_name (pg_name (i := 4) nd (by rfl) (by exact Or.inl rfl))) (dgs_cons (dg_name (pg_name (i := 5) nd (by rfl) (by exact Or.inl rfl))) dgs_nil))) (dss_one (ds_if (dt_not (dt_tru (d_call ((ok_l_right T).mono (by decide)) hr (by rfl) (by exact T.m_l_right) (by exact T.F_l_right.kp) (by exact T.b_l_right) (da_cons (dv 4 (pv 4)) (da_cons (dv 5 (pv 5)) da_nil (star_of (by rfl))) (star_of (by rfl))) (by decide) (star_of (by rfl)) (plain_of (by rfl))))) (dss_one (ds_ret d_bl)) dss_nil))))
 refine dss_one ?_
 exact (ds_ret (d_and (d_cmp (o_eq (hu30 hr)) (d_call ((ok_minus T).mono (by decide)) hr (by rfl) (by exact T.m_minus) (by exact T.F_minus.kp) (by exact T.b_minus) (da_cons (dv 2 (pv 2)) (da_cons (dv 2 (pv 2)) da_nil (star_of (by rfl))) (star_of (by rfl))) (by decide) (star_of (by rfl)) (plain_of (by rfl))) (d_tup da_nil) (nomark _)) (d_and (d_cmp (o_eq (hu30 hr)) (d_call ((ok_plus T).mono (by decide)) hr (by rfl) (by exact T.m_plus) (by exact T.F_plus.kp) (by exact T.b_plus) (da_cons (dv 2 (pv 2)) (da_cons (d_tup da_nil) da_nil (star_of (by rfl))) (star_of (by rfl))) (by decide) (star_of (by rfl)) (plain_of (by rfl))) (dv 2 (pv 2)) (nomark _)) (d_one (d_cmp (o_eq (hu30 hr)) (d_call ((ok_minus T).mono (by decide)) hr (by rfl) (by exact T.m_minus) (by exact T.F_minus.kp) (by exact T.b_minus) (da_cons (dv 3 (pv 3)) (da_cons (d_tup da_nil) da_nil (star_of (by rfl))) (star_of (by rfl))) (by decide) (star_of (by rfl)) (plain_of (by rfl))) (dv 3 (pv 3)) (nomark _))))))
end
def fO (x : Str) (s : Stmt) (oc : Value) (od : Option Addr) (kV dc pm : Value) (an : Option Addr) (cd ct : Value) (sl : Array (Option Value)) : Option Obj := some ⟨oc, od, .func (PySem.W.fnOf x x (defArgs s) (defBody s) (defScope s) .none kV dc pm an cd ct), sl⟩
def sR (f : Addr) : Option (Option Value) := some (some (.ref f))
open PySem.W (nsIn codeIn keepIn) in
theorem all_mk {l : PySem.W.OpenLaw} {w : World} {K : PySem.W.Frag} {h : Heap} {mg : Str → Option Value} {fa : Addr} (hlaw : ∀ ns : List Int, ns.length ≤ 63 → m_law [.kls (ns.map W.int)] g0 (fun w _ => w = .bl true) EF) (X : K.In h) (G : h.Ns mainGlobals mg) (hfa : mg "law" = some (.ref fa))
  {f0 f1 f2 f3 f4 f5 f6 f7 f8 f9 f10 f11 f12 f13 f14 f15 f16 f17 : Addr} {od0 an0 od1 an1 od2 an2 od3 an3 od4 an4 od5 an5 od6 an6 od7 an7 od8 an8 od9 an9 od10 an10 od11 an11 od12 an12 od13 an13 od14 an14 od15 an15 od16 an16 od17 an17 : Option Addr} {sl0 sl1 sl2 sl3 sl4 sl5 sl6 sl7 sl8 sl9 sl10 sl11 sl12 sl13 sl14 sl15 sl16 sl17 : Array (Option Value)} {oc0 kV0 dc0 pm0 cd0 ct0 oc1 kV1 dc1 pm1 cd1 ct1 oc2 kV2 dc2 pm2 cd2 ct2 oc3 kV3 dc3 pm3 cd3 ct3 oc4 kV4 dc4 pm4 cd4 ct4 oc5 kV5 dc5 pm5 cd5 ct5 oc6 kV6 dc6 pm6 cd6 ct6 oc7 kV7 dc7 pm7 cd7 ct7 oc8 kV8 dc8 pm8 cd8 ct8 oc9 kV9 dc9 pm9 cd9 ct9 oc10 kV10 dc10 pm10 cd10 ct10 oc11 kV11 dc11 pm11 cd11 ct11 oc12 kV12 dc12 pm12 cd12 ct12 oc13 kV13 dc13 pm13 cd13 ct13 oc14 kV14 dc14 pm14 cd14 ct14 oc15 kV15 dc15 pm15 cd15 ct15 oc16 kV16 dc16 pm16 cd16 ct16 oc17 kV17 dc17 pm17 cd17 ct17 : Value}
  {n_MOST_TERMS : Tok}
  {x_EaselError : Addr}
  {x_Nothing : Addr}
  {x_Stuck : Addr}
  {x_NoPart : Addr}
  {x_TooMuch : Addr}
  (a0 : nsIn K mainGlobals "sum_of_totals" = sR f0) (l0 : K.lookup f0 = fO "sum_of_totals" s_sum_of_totals oc0 od0 kV0 dc0 pm0 an0 cd0 ct0 sl0) (c0 : codeIn K cd0 "sum_of_totals" = true) (k0 : keepIn K (.ref f0) = true)
  (a1 : nsIn K mainGlobals "with_times" = sR f1) (l1 : K.lookup f1 = fO "with_times" s_with_times oc1 od1 kV1 dc1 pm1 an1 cd1 ct1 sl1) (c1 : codeIn K cd1 "with_times" = true) (k1 : keepIn K (.ref f1) = true)
  (a2 : nsIn K mainGlobals "plus" = sR f2) (l2 : K.lookup f2 = fO "plus" s_plus oc2 od2 kV2 dc2 pm2 an2 cd2 ct2 sl2) (c2 : codeIn K cd2 "plus" = true) (k2 : keepIn K (.ref f2) = true)
  (a3 : nsIn K mainGlobals "minus" = sR f3) (l3 : K.lookup f3 = fO "minus" s_minus oc3 od3 kV3 dc3 pm3 an3 cd3 ct3 sl3) (c3 : codeIn K cd3 "minus" = true) (k3 : keepIn K (.ref f3) = true)
  (a4 : nsIn K mainGlobals "_law_cell" = sR f4) (l4 : K.lookup f4 = fO "_law_cell" s_l_cell oc4 od4 kV4 dc4 pm4 an4 cd4 ct4 sl4) (c4 : codeIn K cd4 "_law_cell" = true) (k4 : keepIn K (.ref f4) = true)
  (a5 : nsIn K mainGlobals "_law_draws" = sR f5) (l5 : K.lookup f5 = fO "_law_draws" s_l_draws oc5 od5 kV5 dc5 pm5 an5 cd5 ct5 sl5) (c5 : codeIn K cd5 "_law_draws" = true) (k5 : keepIn K (.ref f5) = true)
  (a6 : nsIn K mainGlobals "_law_number" = sR f6) (l6 : K.lookup f6 = fO "_law_number" s_l_number oc6 od6 kV6 dc6 pm6 an6 cd6 ct6 sl6) (c6 : codeIn K cd6 "_law_number" = true) (k6 : keepIn K (.ref f6) = true)
  (a7 : nsIn K mainGlobals "_law_powers" = sR f7) (l7 : K.lookup f7 = fO "_law_powers" s_l_powers oc7 od7 kV7 dc7 pm7 an7 cd7 ct7 sl7) (c7 : codeIn K cd7 "_law_powers" = true) (k7 : keepIn K (.ref f7) = true)
  (a8 : nsIn K mainGlobals "_law_ordered" = sR f8) (l8 : K.lookup f8 = fO "_law_ordered" s_l_ordered oc8 od8 kV8 dc8 pm8 an8 cd8 ct8 sl8) (c8 : codeIn K cd8 "_law_ordered" = true) (k8 : keepIn K (.ref f8) = true)
  (a9 : nsIn K mainGlobals "_law_sum" = sR f9) (l9 : K.lookup f9 = fO "_law_sum" s_l_sum oc9 od9 kV9 dc9 pm9 an9 cd9 ct9 sl9) (c9 : codeIn K cd9 "_law_sum" = true) (k9 : keepIn K (.ref f9) = true)
  (a10 : nsIn K mainGlobals "_law_is_sum" = sR f10) (l10 : K.lookup f10 = fO "_law_is_sum" s_l_is_sum oc10 od10 kV10 dc10 pm10 an10 cd10 ct10 sl10) (c10 : codeIn K cd10 "_law_is_sum" = true) (k10 : keepIn K (.ref f10) = true)
  (a11 : nsIn K mainGlobals "_law_longer" = sR f11) (l11 : K.lookup f11 = fO "_law_longer" s_l_longer oc11 od11 kV11 dc11 pm11 an11 cd11 ct11 sl11) (c11 : codeIn K cd11 "_law_longer" = true) (k11 : keepIn K (.ref f11) = true)
  (a12 : nsIn K mainGlobals "_law_two" = sR f12) (l12 : K.lookup f12 = fO "_law_two" s_l_two oc12 od12 kV12 dc12 pm12 an12 cd12 ct12 sl12) (c12 : codeIn K cd12 "_law_two" = true) (k12 : keepIn K (.ref f12) = true)
  (a13 : nsIn K mainGlobals "_law_added" = sR f13) (l13 : K.lookup f13 = fO "_law_added" s_l_added oc13 od13 kV13 dc13 pm13 an13 cd13 ct13 sl13) (c13 : codeIn K cd13 "_law_added" = true) (k13 : keepIn K (.ref f13) = true)
  (a14 : nsIn K mainGlobals "_law_refused" = sR f14) (l14 : K.lookup f14 = fO "_law_refused" s_l_refused oc14 od14 kV14 dc14 pm14 an14 cd14 ct14 sl14) (c14 : codeIn K cd14 "_law_refused" = true) (k14 : keepIn K (.ref f14) = true)
  (a15 : nsIn K mainGlobals "_law_right" = sR f15) (l15 : K.lookup f15 = fO "_law_right" s_l_right oc15 od15 kV15 dc15 pm15 an15 cd15 ct15 sl15) (c15 : codeIn K cd15 "_law_right" = true) (k15 : keepIn K (.ref f15) = true)
  (a16 : nsIn K mainGlobals "_law_at_bound" = sR f16) (l16 : K.lookup f16 = fO "_law_at_bound" s_l_at_bound oc16 od16 kV16 dc16 pm16 an16 cd16 ct16 sl16) (c16 : codeIn K cd16 "_law_at_bound" = true) (k16 : keepIn K (.ref f16) = true)
  (a17 : nsIn K mainGlobals "law" = sR f17) (l17 : K.lookup f17 = fO "law" s_law oc17 od17 kV17 dc17 pm17 an17 cd17 ct17 sl17) (c17 : codeIn K cd17 "law" = true) (k17 : keepIn K (.ref f17) = true)
  (z_ValueError : PySem.W.nsIn K mainGlobals "ValueError" = some none)
  (z_all : PySem.W.nsIn K mainGlobals "all" = some none)
  (z_any : PySem.W.nsIn K mainGlobals "any" = some none)
  (z_bool : PySem.W.nsIn K mainGlobals "bool" = some none)
  (z_dict : PySem.W.nsIn K mainGlobals "dict" = some none)
  (z_int : PySem.W.nsIn K mainGlobals "int" = some none)
  (z_isinstance : PySem.W.nsIn K mainGlobals "isinstance" = some none)
  (z_len : PySem.W.nsIn K mainGlobals "len" = some none)
  (z_range : PySem.W.nsIn K mainGlobals "range" = some none)
  (z_sorted : PySem.W.nsIn K mainGlobals "sorted" = some none)
  (z_tuple : PySem.W.nsIn K mainGlobals "tuple" = some none)
  (gk_MOST_TERMS : PySem.W.nsIn K mainGlobals "MOST_TERMS" = some (some (.int 600 n_MOST_TERMS)))
  (gx_EaselError : nsIn K mainGlobals "EaselError" = sR x_EaselError) (xd_EaselError : xdIn K x_EaselError "EaselError" = true)
  (gx_Nothing : nsIn K mainGlobals "Nothing" = sR x_Nothing) (xd_Nothing : xdIn K x_Nothing "Nothing" = true)
  (gx_Stuck : nsIn K mainGlobals "Stuck" = sR x_Stuck) (xd_Stuck : xdIn K x_Stuck "Stuck" = true)
  (gx_NoPart : nsIn K mainGlobals "NoPart" = sR x_NoPart) (xd_NoPart : xdIn K x_NoPart "NoPart" = true)
  (gx_TooMuch : nsIn K mainGlobals "TooMuch" = sR x_TooMuch) (xd_TooMuch : xdIn K x_TooMuch "TooMuch" = true)
  (xc_TooMuch : xcIn K x_TooMuch "TooMuch" = true) (xq_TooMuch : PySem.W.excIn K x_TooMuch vmB "ValueError.__new__" = true)
  : ∃ fd : FuncData, (∀ (s : Shared) (v : Value), BindsTo s fd ⟨[v], []⟩ [("_law_script", v)]) ∧ ∀ base : Heap, K.In base → base.Ns mainGlobals mg → FnOk l.prog w K mg base CX0 15 fa fd ["_law_script"] (spLaw K) := by
 have e := hfa.symm.trans (PySem.W.mg_of X G a17)
 cases e
 have F0 := fun_mk (st := s_sum_of_totals) l0 c0 k0
 have b0 := F0.binds (ps := ["totals"]) fun _ _ _ _ _ _ us hl => match us, hl with | [_], _ => rfl
 have F1 := fun_mk (st := s_with_times) l1 c1 k1
 have b1 := F1.binds (ps := ["one", "other", "factor"]) fun _ _ _ _ _ _ us hl => match us, hl with | [_, _, _], _ => rfl
 have F2 := fun_mk (st := s_plus) l2 c2 k2
 have b2 := F2.binds (ps := ["one", "other"]) fun _ _ _ _ _ _ us hl => match us, hl with | [_, _], _ => rfl
 have F3 := fun_mk (st := s_minus) l3 c3 k3
 have b3 := F3.binds (ps := ["one", "other"]) fun _ _ _ _ _ _ us hl => match us, hl with | [_, _], _ => rfl
 have F4 := fun_mk (st := s_l_cell) l4 c4 k4
 have b4 := F4.binds (ps := ["_law_script", "_law_k"]) fun _ _ _ _ _ _ us hl => match us, hl with | [_, _], _ => rfl
 have F5 := fun_mk (st := s_l_draws) l5 c5 k5
 have b5 := F5.binds (ps := ["_law_script", "_law_k", "_law_many"]) fun _ _ _ _ _ _ us hl => match us, hl with | [_, _, _], _ => rfl
 have F6 := fun_mk (st := s_l_number) l6 c6 k6
 have b6 := F6.binds (ps := ["_law_x"]) fun _ _ _ _ _ _ us hl => match us, hl with | [_], _ => rfl
 have F7 := fun_mk (st := s_l_powers) l7 c7 k7
 have b7 := F7.binds (ps := ["_law_x", "_law_letters", "_law_most"]) fun _ _ _ _ _ _ us hl => match us, hl with | [_, _, _], _ => rfl
 have F8 := fun_mk (st := s_l_ordered) l8 c8 k8
 have b8 := F8.binds (ps := ["_law_found"]) fun _ _ _ _ _ _ us hl => match us, hl with | [_], _ => rfl
 have F9 := fun_mk (st := s_l_sum) l9 c9 k9
 have b9 := F9.binds (ps := ["_law_script", "_law_k", "_law_letters", "_law_many", "_law_most"]) fun _ _ _ _ _ _ us hl => match us, hl with | [_, _, _, _, _], _ => rfl
 have F10 := fun_mk (st := s_l_is_sum) l10 c10 k10
 have b10 := F10.binds (ps := ["_law_found", "_law_due"]) fun _ _ _ _ _ _ us hl => match us, hl with | [_, _], _ => rfl
 have F11 := fun_mk (st := s_l_longer) l11 c11 k11
 have b11 := F11.binds (ps := ["_law_one", "_law_letters", "_law_many", "_law_first"]) fun _ _ _ _ _ _ us hl => match us, hl with | [_, _, _, _], _ => rfl
 have F12 := fun_mk (st := s_l_two) l12 c12 k12
 have b12 := F12.binds (ps := ["_law_script", "_law_letters"]) fun _ _ _ _ _ _ us hl => match us, hl with | [_, _], _ => rfl
 have F13 := fun_mk (st := s_l_added) l13 c13 k13
 have b13 := F13.binds (ps := ["_law_one", "_law_other", "_law_factor"]) fun _ _ _ _ _ _ us hl => match us, hl with | [_, _, _], _ => rfl
 have F14 := fun_mk (st := s_l_refused) l14 c14 k14
 have b14 := F14.binds (ps := ["_law_one", "_law_other", "_law_way"]) fun _ _ _ _ _ _ us hl => match us, hl with | [_, _, _], _ => rfl
 have F15 := fun_mk (st := s_l_right) l15 c15 k15
 have b15 := F15.binds (ps := ["_law_one", "_law_other"]) fun _ _ _ _ _ _ us hl => match us, hl with | [_, _], _ => rfl
 have F16 := fun_mk (st := s_l_at_bound) l16 c16 k16
 have b16 := F16.binds (ps := ["_law_letters"]) fun _ _ _ _ _ _ us hl => match us, hl with | [_], _ => rfl
 have F17 := fun_mk (st := s_law) l17 c17 k17
 have b17 := F17.binds (ps := ["_law_script"]) fun _ _ _ _ _ _ us hl => match us, hl with | [_], _ => rfl
 have T : Txt K mg ⟨f0, _, f1, _, f2, _, f3, _, f4, _, f5, _, f6, _, f7, _, f8, _, f9, _, f10, _, f11, _, f12, _, f13, _, f14, _, f15, _, f16, _, fa, _, n_MOST_TERMS, x_EaselError, x_Nothing, x_Stuck, x_NoPart, x_TooMuch⟩ := ⟨F0, PySem.W.mg_of X G a0, b0, F1, PySem.W.mg_of X G a1, b1, F2, PySem.W.mg_of X G a2, b2, F3, PySem.W.mg_of X G a3, b3, F4, PySem.W.mg_of X G a4, b4, F5, PySem.W.mg_of X G a5, b5, F6, PySem.W.mg_of X G a6, b6, F7, PySem.W.mg_of X G a7, b7, F8, PySem.W.mg_of X G a8, b8, F9, PySem.W.mg_of X G a9, b9, F10, PySem.W.mg_of X G a10, b10, F11, PySem.W.mg_of X G a11, b11, F12, PySem.W.mg_of X G a12, b12, F13, PySem.W.mg_of X G a13, b13, F14, PySem.W.mg_of X G a14, b14, F15, PySem.W.mg_of X G a15, b15, F16, PySem.W.mg_of X G a16, b16, F17, PySem.W.mg_of X G a17, b17, PySem.W.mg_none_of X G z_ValueError, PySem.W.mg_none_of X G z_all, PySem.W.mg_none_of X G z_any, PySem.W.mg_none_of X G z_bool, PySem.W.mg_none_of X G z_dict, PySem.W.mg_none_of X G z_int, PySem.W.mg_none_of X G z_isinstance, PySem.W.mg_none_of X G z_len, PySem.W.mg_none_of X G z_range, PySem.W.mg_none_of X G z_sorted, PySem.W.mg_none_of X G z_tuple, PySem.W.mg_of X G gk_MOST_TERMS, PySem.W.mg_of X G gx_EaselError, xd_EaselError, PySem.W.mg_of X G gx_Nothing, xd_Nothing, PySem.W.mg_of X G gx_Stuck, xd_Stuck, PySem.W.mg_of X G gx_NoPart, xd_NoPart, PySem.W.mg_of X G gx_TooMuch, xd_TooMuch, xc_TooMuch, xq_TooMuch⟩
 exact ⟨_, fun s v => .of_eq rfl, fun base _ _ => law_imp hlaw (ok_law T)⟩
theorem walk {l : PySem.W.OpenLaw} {q : Program} {loose : List Str} {XP : (Str → Option Value) → Heap → Prop} {YP : World → Heap → Prop} {d : DefRec} {K : Params → PySem.W.Frag} (hn : l.most = some 63) (hdf : d.params.defaults = [])
  (hY : ∀ (w : World) (h : Heap), YP w h → (K w.params).In h)
  (F : ∀ (w : World) (mg : Str → Option Value) (fa : Addr) (h : Heap), (K w.params).In h → h.Ns mainGlobals mg → mg d.name = some (.ref fa) →
   ∃ fd : FuncData, (∀ (s : Shared) (u : Value), BindsTo s fd ⟨[u], []⟩ [("_law_script", u)]) ∧ ∀ base : Heap, (K w.params).In base → base.Ns mainGlobals mg → FnOk l.prog w (K w.params) mg base CX0 15 fa fd ["_law_script"] (spLaw (K w.params))) :
  PySem.W.WalkO q loose XP YP l.row.toRowW d [] (fun f vs => PySem.call f vs) :=
 L2.walk_of (n := 63) (k := 15) (x := "_law_script") (CX := fun _ => CX0) (sp := fun w => spLaw (K w.params)) hn (by decide) hdf ⟨fun _ => rfl, by decide, by decide⟩ hY F (fun _ _ a ns hl hO hS => ⟨a, ns, rfl, hS, hO, hl, fun _ => rfl⟩) fun _ _ _ _ _ z => z

local macro_rules | `(tactic| trivial) => `(tactic| with_reducible exact Sm.lit (by decide))
local macro_rules | `(tactic| trivial) => `(tactic| with_reducible exact Sm.zero)
local macro_rules | `(tactic| trivial) => `(tactic| with_reducible exact Sm.neg (by trivial))
local macro_rules | `(tactic| trivial) => `(tactic| with_reducible exact Sm.sub (by trivial) (by trivial))
local macro_rules | `(tactic| trivial) => `(tactic| with_reducible exact Sm.add (by trivial) (by trivial))
local macro_rules | `(tactic| trivial) => `(tactic| with_reducible exact Sm.mul (by trivial) (by trivial))
local macro_rules | `(tactic| trivial) => `(tactic| with_reducible assumption)

theorem set_c (h : Gh) (n : Nat) (c : Cell) : (h.set n c).c n = some c := by show (if n = n then some c else h.c n) = some c; rw [if_pos rfl]
theorem set_ne {h : Gh} {n m : Nat} {c : Cell} (e : m ≠ n) : (h.set n c).c m = h.c m := by show (if m = n then some c else h.c m) = _; rw [if_neg e]
theorem new_c (h : Gh) (c : Cell) : (h.new c).c h.nx = some c := by show (if h.nx = h.nx then some c else h.c h.nx) = some c; rw [if_pos rfl]
theorem new_ne {h : Gh} {m : Nat} {c : Cell} (e : m ≠ h.nx) : (h.new c).c m = h.c m := by show (if m = h.nx then some c else h.c m) = _; rw [if_neg e]
theorem view_loc {h : Gh} {n : Nat} {ws : List W} (e : h.c n = some (.lst ws)) : view h (.loc n) = some ws := by simp only [view, viewL, e]
theorem fmod_pos {a b : Int} (h : 0 < b) : a.fmod b = a % b := Int.fmod_eq_emod_of_nonneg a (Int.le_of_lt h)
theorem fdiv_pos {a b : Int} (h : 0 < b) : a.fdiv b = a / b := Int.fdiv_eq_ediv_of_nonneg a (Int.le_of_lt h)
theorem by2_t {A B : Prop} {c : Bool} (e : c = true) (h : A) : by2 c A B := by subst e; exact h
theorem by2_d {c : Prop} [Decidable c] {A B : Prop} (h1 : c → A) (h2 : ¬ c → B) : by2 (decide c) A B := by
 by_cases h : c
 ·rw [decide_eq_true h]; exact h1 h
 ·rw [decide_eq_false h]; exact h2 h
theorem for_inv {ws ws0 : List W} {g : MG} {b : MS} {D : MEnds} (I : Nat → Sw → Gh → Prop)
  (step : ∀ (i : Nat) (w : W) (σ : Sw) (h : Gh) (N : Sw → Gh → Prop), (∀ σ' h', I (i + 1) σ' h' → N σ' h') → ws[i]? = some w → I i σ h → g w σ h fun σ1 h1 => b { D with nx := N, ct := N, bk := D.nx } σ1 h1)
  (fin : ∀ σ h, I ws.length σ h → D.nx σ h) : ∀ {σ : Sw} {h : Gh}, I 0 σ h → mForL ⟨ws0, none⟩ g b D ws σ h := by
 induction ws generalizing I with
 | nil => intro σ h h0; exact fin σ h h0
 | cons w ws ih =>
  intro σ h h0
  refine step 0 w σ h _ (fun σ' h' q => ?_) rfl h0
  exact ih (fun i => I (i + 1)) (fun i w σ h N hN e hi => step (i + 1) w σ h N hN (by simpa using e) hi) (fun σ h q => fin σ h q) q
theorem lc_inv {ws ws0 : List W} {own : W → Option (List W)} {ix : List Nat} {tt : MT} {te : ME} {σ : Sw} {Q : WK} (I : Nat → List W → Gh → Prop)
  (step : ∀ (i : Nat) (w : W) (acc : List W) (h : Gh) (N : List W → Gh → Prop), (∀ acc' h', I (i + 1) acc' h' → N acc' h') → ws[i]? = some w → I i acc h →
   ∃ vs, own w = some vs ∧ tt (vs.map some ++ blkW ix σ) h fun c h1 => by2 c (te (vs.map some ++ blkW ix σ) h1 fun v h2 => N (acc ++ [v]) h2) (N acc h1))
  (fin : ∀ acc h, I ws.length acc h → Q (.lst acc) h) : ∀ {acc : List W} {h : Gh}, I 0 acc h → mLCL ⟨ws0, none⟩ own ix tt te σ Q ws acc h := by
 induction ws generalizing I with
 | nil => intro acc h h0; exact fin acc h h0
 | cons w ws ih =>
  intro acc h h0
  obtain ⟨vs, ev, q⟩ := step 0 w acc h _ (fun acc' h' q => ih (fun i => I (i + 1)) (fun i w acc h N hN e hi => step (i + 1) w acc h N hN (by simpa using e) hi) (fun acc h q => fin acc h q) q) rfl h0
  show (match own w with
   | some vs => _
   | none => False)
  rw [ev]
  exact q
theorem rngW_get {lo : Int} {n i : Nat} {w : W} (e : (rngW lo n)[i]? = some w) : i < n ∧ w = .int (lo + (i : Int)) := by
 have hi : i < n := by
  have := (List.getElem?_eq_some_iff.mp e).1
  simpa [rngW] using this
 unfold rngW at e
 rw [List.getElem?_map, List.getElem?_range hi] at e
 exact ⟨hi, (Option.some.inj e).symm⟩
theorem rngW_len {lo : Int} {n : Nat} : (rngW lo n).length = n := by simp [rngW]
theorem for_rng {ma : MA} {j : Int} {g : MG} {b : MS} {D : MEnds} {σ : Sw} {h : Gh} (hm : ∀ R, ma σ h R = R [.int j] h) (h1 : -(2 ^ 62) ≤ j) (h2 : j < 2 ^ 62) (I : Nat → Sw → Gh → Prop)
  (step : ∀ (i : Nat) (σ : Sw) (h : Gh) (N : Sw → Gh → Prop), (∀ σ' h', I (i + 1) σ' h' → N σ' h') → i < j.toNat → I i σ h → g (.int (i : Int)) σ h fun σ1 h1 => b { D with nx := N, ct := N, bk := D.nx } σ1 h1)
  (fin : ∀ σ h, I j.toNat σ h → D.nx σ h) (h0 : I 0 σ h) : mFor (nRng1 ma) g b D σ h := by
 unfold mFor nRng1
 rw [hm]
 refine rgOk.mk h1 h2 ?_
 refine for_inv I (fun i w σ h N hN e hi => ?_) (fun σ h q => fin σ h (by rw [rngW_len] at q; exact q)) h0
 obtain ⟨hlt, rfl⟩ := rngW_get e
 rw [Int.zero_add]
 exact step i σ h N hN hlt hi
theorem atI_ints {ns : List Int} {k : Int} (h0 : 0 ≤ k) (h1 : k < ((ns.map W.int).length : Int)) : atI (ns.map W.int) k = some (.int (ns.getD k.toNat 0)) := by
 have hk : k.toNat < ns.length := by rw [List.length_map] at h1; omega
 have e : (ns.map W.int)[k.toNat]? = some (.int (ns.getD k.toNat 0)) := by
  rw [List.getElem?_map, List.getElem?_eq_getElem hk, List.getD_eq_getElem?_getD, List.getElem?_eq_getElem hk]; rfl
 have := atI_nat e
 rwa [show ((k.toNat : Nat) : Int) = k by omega] at this
theorem ints_get {ns : List Int} {i : Nat} {w : W} (e : (ns.map W.int)[i]? = some w) : ∃ n, ns[i]? = some n ∧ w = .int n := by
 rw [List.getElem?_map] at e
 cases q : ns[i]? with
 | none => rw [q] at e; cases e
 | some n => rw [q] at e; exact ⟨n, rfl, (Option.some.inj e).symm⟩
theorem eqW_int (a b : Int) : eqW (.int a) (.int b) = (a == b) := by rw [eqW]
abbrev Tr := Int × Int × Int
def tl (t : Tr) : List Int := [t.1, t.2.1, t.2.2]
def tw (t : Tr) : W := .tup [.int t.1, .int t.2.1, .int t.2.2]
def sc (k : Int) (t : Tr) : Tr := (t.1 * k, t.2.1 * k, t.2.2 * k)
def crs (p q : Tr) : Tr := (p.2.1 * q.2.2 - p.2.2 * q.2.1, p.2.2 * q.1 - p.1 * q.2.2, p.1 * q.2.1 - p.2.1 * q.1)
def dt3 (p q : Tr) : Int := p.1 * q.1 + p.2.1 * q.2.1 + p.2.2 * q.2.2
theorem ray {p q : Tr} (hp : p ≠ (0, 0, 0)) (h : crs p q = (0, 0, 0)) : ∃ s t : Int, s ≠ 0 ∧ sc s q = sc t p := by
 obtain ⟨a, b, c⟩ := p
 obtain ⟨x, y, z⟩ := q
 have h1 : b * z - c * y = 0 := congrArg (·.1) h
 have h2 : c * x - a * z = 0 := congrArg (·.2.1) h
 have h3 : a * y - b * x = 0 := congrArg (·.2.2) h
 by_cases ha : a = 0
 ·by_cases hb : b = 0
  ·by_cases hc : c = 0
   ·exact absurd (by rw [ha, hb, hc]) hp
   ·refine ⟨c, z, hc, ?_⟩
    simp only [sc]
    refine Prod.ext ?_ (Prod.ext ?_ ?_) <;> simp only <;> grind
  ·refine ⟨b, y, hb, ?_⟩
   simp only [sc]
   refine Prod.ext ?_ (Prod.ext ?_ ?_) <;> simp only <;> grind
 ·refine ⟨a, x, ha, ?_⟩
  simp only [sc]
  refine Prod.ext ?_ (Prod.ext ?_ ?_) <;> simp only <;> grind
theorem flat {n p q r : Tr} (hn : n ≠ (0, 0, 0)) (hp : dt3 n p = 0) (hq : dt3 n q = 0) (hr : dt3 n r = 0) : dt3 (crs p q) r = 0 := by
 obtain ⟨n1, n2, n3⟩ := n
 obtain ⟨p1, p2, p3⟩ := p
 obtain ⟨q1, q2, q3⟩ := q
 obtain ⟨r1, r2, r3⟩ := r
 simp only [dt3, crs] at *
 generalize hd : (p2 * q3 - p3 * q2) * r1 + (p3 * q1 - p1 * q3) * r2 + (p1 * q2 - p2 * q1) * r3 = d
 have e1 : n1 * d = 0 := by grind
 have e2 : n2 * d = 0 := by grind
 have e3 : n3 * d = 0 := by grind
 by_cases h : d = 0
 ·exact h
 ·have f : ∀ x : Int, x * d = 0 → x = 0 := fun x e => by
   rcases Int.mul_eq_zero.mp e with e | e
   ·exact e
   ·exact absurd e h
  exact absurd (by rw [f _ e1, f _ e2, f _ e3]) hn
theorem eq_tw (p q : Tr) : eqW (tw p) (tw q) = decide (p = q) := by
 obtain ⟨a, b, c⟩ := p
 obtain ⟨x, y, z⟩ := q
 unfold tw
 rw [eqW, eqWs, eqWs, eqWs, eqWs, eqW_int, eqW_int, eqW_int]
 by_cases ha : a = x <;> by_cases hb : b = y <;> by_cases hc : c = z <;> simp [ha, hb, hc]
theorem viewL_loc {h : Gh} {n : Nat} {ws : List W} (e : h.c n = some (.lst ws)) : viewL h (.loc n) = some ws := by simp only [viewL, e]
theorem bls_map : ∀ bs : List Bool, blsW (bs.map W.bl) = some bs
 | [] => rfl
 | b :: bs => by rw [List.map_cons, blsW, bls_map bs]; rfl
theorem app_ok {h : Gh} {n : Nat} {us : List W} {w : W} {Q : WK} (e : h.c n = some (.lst us)) (hz : us.length < sizeLine) (k : Q .non (h.set n (.lst (us ++ [w])))) : kAppend (.loc n) [w] h Q := by
 show (match h.c n with
  | some (Cell.lst us) => _
  | _ => False)
 rw [e]
 exact ⟨hz, k⟩
theorem c32 : (10 : Int) ^ (32 : Int).toNat = 100000000000000000000000000000000 := by decide
theorem c30 : (10 : Int) ^ (30 : Int).toNat = 1000000000000000000000000000000 := by decide
theorem c9 : (10 : Int) ^ (9 : Int).toNat = 1000000000 := by decide
def CellOk2 (c : MSp) : Prop := ∀ {h : Gh} {ns : List Int} {k : Int} {Q : WK} {E : XWK}, 0 ≤ k → Q (.int (ns.getD k.toNat 0)) h → c [.kls (ns.map .int), .int k] h Q E
theorem w_cell : CellOk2 r_l_cell := by
 intro h ns k Q E h0 q
 show br (decide (k < ((ns.map W.int).length : Int))) _ _
 refine br_d (fun hk => ?_) (fun hk => ?_)
 ·conv => whnf
  rw [atI_ints h0 hk]
  exact q
 ·have e : ns.getD k.toNat 0 = 0 := by
   rw [List.getD_eq_getElem?_getD, List.getElem?_eq_none (by rw [List.length_map] at hk; omega)]; rfl
  rw [e] at q
  exact q
theorem emod_bd (a : Int) {b : Int} (h : 0 < b) : 0 ≤ a.fmod b ∧ a.fmod b < b := by
 rw [fmod_pos h]; exact ⟨Int.emod_nonneg _ (by omega), Int.emod_lt_of_pos _ h⟩
def DrawsOk (c : MSp) : Prop := ∀ {h : Gh} {ns : List Int} {k many : Int} {Q : WK} {E : XWK}, 0 ≤ k → k ≤ 1000 → 0 ≤ many → many ≤ 1000 →
 (∀ xs : List Int, (xs.length : Int) = many → Q (.lst (xs.map .int)) h) → c [.kls (ns.map .int), .int k, .int many] h Q E
theorem w_draws {cl : MSp} (hcl : CellOk2 cl) : DrawsOk (r_l_draws cl) := by
 intro h ns k many Q E k0 k1 m0 m1 q
 show cl [.kls (ns.map .int), .int k] h _ _
 refine hcl k0 ?_
 generalize ns.getD k.toNat 0 = left
 have p62 : (2 : Int) ^ 62 = 4611686018427387904 := by decide
 refine And.intro (.of (m := 64) (n := 10) (.lit rfl) (sm_of (by omega) (by omega)) (by decide) (by decide)) ?_
 refine And.intro (.of (m := 64) (n := 10) (.lit rfl) (sm_of (by omega) (by omega)) (by decide) (by decide)) ?_
 refine And.intro (show (4294967291 : Int) ≠ 0 by decide) ?_
 generalize decide (107 * many < (Builtin.Int.intBits left : Nat)) = free
 obtain ⟨s0, s1⟩ := emod_bd (left + 7919 * k + 11) (b := 4294967291) (by decide)
 generalize (left + 7919 * k + 11).fmod 4294967291 = seed at *
 dsimp only [nName, mSeq, mAsg, mLstM, mNil]
 refine szOk.mk (by decide) ?_
 have f32 : (10 : Int) ^ (32 : Int).toNat ≠ 0 := by rw [c32]; decide
 have s32 : Sm 8000 ((10 : Int) ^ (32 : Int).toNat) := by rw [c32]; unfold Sm; decide +kernel
 refine for_rng (j := many) (fun _ => rfl) (by omega) (by omega) (fun i σ h' => ∃ (xs : List Int) (left seed : Int) (o7 o8 : Option W), xs.length = i ∧ 0 ≤ seed ∧ seed < 4294967291 ∧ h'.c h.nx = some (.lst (xs.map .int)) ∧ (∀ n, n ≠ h.nx → h'.c n = h.c n) ∧
  σ = [some (.kls (ns.map .int)), some (.int k), some (.int many), some (.int left), some (.bl free), some (.int seed), some (.loc h.nx), o7, o8]) ?_ ?_ ⟨[], left, seed, none, none, rfl, s0, s1, new_c _ _, fun n hn => new_ne hn, rfl⟩
 ·rintro i σ h' N hN hi ⟨xs, left, seed, o7, o8, hl, s0, s1, hc, ho, rfl⟩
  have hi : (i : Int) < many := by omega
  have sz : (xs.map W.int).length < sizeLine := by rw [List.length_map, hl]; exact Nat.lt_of_lt_of_le (show i < 1000 by omega) (by decide)
  have app : ∀ (x : Int) (left' seed' : Int) (o7 o8 : Option W), 0 ≤ seed' → seed' < 4294967291 → N [some (.kls (ns.map .int)), some (.int k), some (.int many), some (.int left'), some (.bl free), some (.int seed'), some (.loc h.nx), o7, o8] (h'.set h.nx (.lst (xs.map .int ++ [.int x]))) := by
   intro x left' seed' o7 o8 h0 h1
   refine hN _ _ ⟨xs ++ [x], left', seed', o7, o8, by simp [hl], h0, h1, by rw [set_c]; simp, fun n hn => by rw [set_ne hn]; exact ho n hn, rfl⟩
  refine ⟨fun _ => ?_, fun _ => ?_⟩
  ·show (match h'.c h.nx with
    | some (Cell.lst us) => _
    | _ => False)
   rw [hc]
   refine And.intro ⟨by decide, by decide, by decide⟩ (And.intro f32 ?_)
   show (match h'.c h.nx with
    | some (Cell.lst us) => _
    | _ => False)
   rw [hc]
   refine And.intro sz ?_
   refine And.intro ⟨by decide, by decide, by decide⟩ (And.intro ⟨f32, 8000, by decide, s32⟩ ?_)
   exact app _ _ _ _ _ s0 s1
  ·refine And.intro (.of (m := 32) (n := 64) (sm_of (by omega) (by omega)) (.lit rfl) (by decide) (by decide)) ?_
   refine And.intro (.of (m := 10) (n := 10) (sm_of (by omega) (by omega)) (sm_of (by omega) (by omega)) (by decide) (by decide)) ?_
   refine And.intro (show (4294967291 : Int) ≠ 0 by decide) ?_
   obtain ⟨t0, t1⟩ := emod_bd (seed * 69069 + 362437 + (i : Int) * (i : Int)) (b := 4294967291) (by decide)
   generalize (seed * 69069 + 362437 + (i : Int) * (i : Int)).fmod 4294967291 = sd at *
   refine And.intro ⟨by decide, 64, by decide, .lit rfl⟩ ?_
   have d0 : 0 ≤ sd.fdiv 4096 := by rw [fdiv_pos (by decide)]; omega
   have d1 : sd.fdiv 4096 < 4294967291 := by rw [fdiv_pos (by decide)]; omega
   refine And.intro (.of (m := 32) (n := 40) (sm_of (by omega) (by omega)) (sm_of (by omega) (by omega)) (by decide) (by decide)) ?_
   refine And.intro (show (999999999989 : Int) ≠ 0 by decide) ?_
   obtain ⟨n0, n1⟩ := emod_bd (sd * (sd.fdiv 4096 + (i : Int) + 1)) (b := 999999999989) (by decide)
   generalize (sd * (sd.fdiv 4096 + (i : Int) + 1)).fmod 999999999989 = nr at *
   show (match h'.c h.nx with
    | some (Cell.lst us) => _
    | _ => False)
   rw [hc]
   have sn : Sm 41 nr := sm_of (by omega) (by omega)
   have sn7 : Sm 41 (nr + 7) := sm_of (by omega) (by omega)
   refine And.intro (.of sn sn7 (by decide) (by decide)) ?_
   refine And.intro (.of (n := 33) (sn.mul sn7) (sm_of (by omega) (by omega)) (by decide) (by decide)) ?_
   refine And.intro ⟨by decide, by decide, by decide⟩ (And.intro f32 ?_)
   show (match h'.c h.nx with
    | some (Cell.lst us) => _
    | _ => False)
   rw [hc]
   exact And.intro sz (app _ _ _ _ _ t0 t1)
 ·rintro σ h' ⟨xs, left, seed, o7, o8, hl, s0, s1, hc, ho, rfl⟩
  refine ⟨fun n c hn e => by rw [ho n (by omega)]; exact e, .inr ⟨h.nx, _, rfl, Nat.le_refl _, hc, ?_, q xs (by omega)⟩⟩
  have : ∀ ys : List Int, Los h.nx (ys.map W.int) := fun ys => by
   induction ys with
   | nil => exact trivial
   | cons y ys ih => exact ⟨trivial, ih⟩
  exact this xs
def tK (Q : Bool → Gh → Prop) : WK := fun w h => match w with
 | .bl c => Q c h
 | _ => False
def uK (Q : Bool → Gh → Prop) : WK := fun w h => match truW h w with
 | some b => Q b h
 | none => False
def aK (b : ME) (σ : Sw) (Q : WK) : WK := fun x h => match x with
 | .bl true => b σ h Q
 | .bl false => Q (.bl false) h
 | _ => False
def oK (b : ME) (σ : Sw) (Q : WK) : WK := fun x h => match x with
 | .bl false => b σ h Q
 | .bl true => Q (.bl true) h
 | _ => False
def nK (Q : WK) : WK := fun x h => match x with
 | .bl c => Q (.bl (!c)) h
 | _ => False
def iK (R : Src → Gh → Prop) : WK := fun w h => match srcA h w with
 | some s => R s h
 | none => False
def xK (f : Str → Bool) (Q : WK) : WK := fun w h => match w with
 | .exc n => Q (.bl (f n)) h
 | .exa n _ => Q (.bl (f n)) h
 | _ => False
def pK (Q : Option Int → Gh → Prop) : WK := fun w h => match w with
 | .int i => Q (some i) h
 | _ => False
def forK (g : MG) (b : MS) (D : MEnds) (σ : Sw) : Src → Gh → Prop := fun s h => mForL s g b D s.ws σ h
def lcK (own : W → Option (List W)) (ix : List Nat) (tt : MT) (te : ME) (σ : Sw) (Q : WK) : Src → Gh → Prop := fun s h => szOk s.ws.length (mLCL s own ix tt te σ Q s.ws [] h)
def rgK (R : Src → Gh → Prop) : List W → Gh → Prop := fun ws h => match ws with
 | [.int j] => rgOk j (R ⟨rngW 0 j.toNat, none⟩ h)
 | _ => False
def zpK (R : Src → Gh → Prop) : List W → Gh → Prop := fun ws h => match ws with
 | [x, y] => (match zipS h x y with
  | some s => R s h
  | none => False)
 | _ => False
theorem mSeq_s {m u : MS} {D : MEnds} {σ : Sw} {h : Gh} (x : m { D with nx := u D } σ h) : mSeq m u D σ h := x
theorem nx_s {N b c : Sw → Gh → Prop} {r : WK} {σ : Sw} {h : Gh} (x : N σ h) : MEnds.nx ⟨N, r, b, c⟩ σ h := x
theorem bk_s {N b c : Sw → Gh → Prop} {r : WK} {σ : Sw} {h : Gh} (x : b σ h) : MEnds.bk ⟨N, r, b, c⟩ σ h := x
theorem ct_s {N b c : Sw → Gh → Prop} {r : WK} {σ : Sw} {h : Gh} (x : c σ h) : MEnds.ct ⟨N, r, b, c⟩ σ h := x
theorem rt_s {N b c : Sw → Gh → Prop} {r : WK} {w : W} {h : Gh} (x : r w h) : MEnds.rt ⟨N, r, b, c⟩ w h := x
theorem lost_rt {D : MEnds} {w : W} {h : Gh} (x : D.rt w h) : MEnds.rt (MEnds.lost D) w h := x
theorem lost_nx {D : MEnds} {σ : Sw} {h : Gh} (x : D.nx (σ.map fun _ => none) h) : MEnds.nx (MEnds.lost D) σ h := x
theorem mNext_s {D : MEnds} {σ : Sw} {h : Gh} (x : D.nx σ h) : mNext D σ h := x
theorem mAsg_s {m : ME} {g : MG} {D : MEnds} {σ : Sw} {h : Gh} (x : m σ h fun w h1 => g w σ h1 D.nx) : mAsg m g D σ h := x
theorem mDrop_s {m : ME} {D : MEnds} {σ : Sw} {h : Gh} (x : m σ h fun _ h1 => D.nx σ h1) : mDrop m D σ h := x
theorem mRet_s {m : ME} {D : MEnds} {σ : Sw} {h : Gh} (x : m σ h D.rt) : mRet m D σ h := x
theorem mRaise_s {c : Str} {E : XWK} {D : MEnds} {σ : Sw} {h : Gh} (x : E ⟨c, []⟩ h) : mRaise c E D σ h := x
theorem mIfS_s {t : MT} {a b : MS} {D : MEnds} {σ : Sw} {h : Gh} (x : t σ h fun c h1 => br c (a D σ h1) (b D σ h1)) : mIfS t a b D σ h := x
theorem mIf_s {t : MT} {a b : ME} {Q : WK} {σ : Sw} {h : Gh} (x : t σ h fun c h1 => br c (a σ h1 Q) (b σ h1 Q)) : mIf t a b σ h Q := x
theorem mTry_s {i : Nat} {d : Str} {mb : XWK → MS} {mh : MS} {D : MEnds} {σ : Sw} {h : Gh} (x : mb (fun x h' => by2 (isX x.cls d) (mh D.lost (σ.set i (some (excW x))) h') False) D σ h) : mTry i d mb mh D σ h := x
theorem nTup2_s {n : Nat} {g : MGs} {w : W} {ws : List W} {σ : Sw} {h : Gh} {N : Sw → Gh → Prop} (e : w = .tup ws) (b : Nat.beq ws.length n = true) (x : g ws σ h N) : nTup2 n g w σ h N := by
 subst e
 unfold nTup2
 dsimp only
 rw [b]
 exact x
theorem nTup2_l {n : Nat} {g : MGs} {w : W} {ws : List W} {σ : Sw} {h : Gh} {N : Sw → Gh → Prop} (e : w = .lst ws) (b : Nat.beq ws.length n = true) (x : g ws σ h N) : nTup2 n g w σ h N := by
 subst e
 unfold nTup2
 dsimp only
 rw [b]
 exact x
theorem nTup_s {n : Nat} {g : MGs} {w : W} {ws : List W} {σ : Sw} {h : Gh} {N : Sw → Gh → Prop} (e : w = .tup ws) (b : Nat.beq ws.length n = true) (x : g ws σ h N) : nTup n g w σ h N := by
 subst e
 unfold nTup
 dsimp only
 rw [b]
 exact x
theorem nCons_s {g : MG} {r : MGs} {w : W} {ws : List W} {σ : Sw} {h : Gh} {N : Sw → Gh → Prop} (x : g w σ h fun σ1 h1 => r ws σ1 h1 N) : nCons g r (w :: ws) σ h N := x
theorem nNil_s {σ : Sw} {h : Gh} {N : Sw → Gh → Prop} (x : N σ h) : nNil [] σ h N := x
theorem mVar_s {i : Nat} {w : W} {σ : Sw} {h : Gh} {Q : WK} (e : σ[i]? = some (some w)) (x : Q w h) : mVar i σ h Q := by
 unfold mVar
 rw [e]
 exact x
theorem mC_s {w : W} {σ : Sw} {h : Gh} {Q : WK} (x : Q w h) : mC w σ h Q := x
theorem mOp_s {r : M2} {ma mb : ME} {σ : Sw} {h : Gh} {Q : WK} (x : ma σ h fun a h1 => mb σ h1 fun b h2 => r a b h2 Q) : mOp r ma mb σ h Q := x
theorem mUn_s {r : W → Gh → WK → Prop} {ma : ME} {σ : Sw} {h : Gh} {Q : WK} (x : ma σ h fun a h1 => r a h1 Q) : mUn r ma σ h Q := x
theorem mNeg_s {i : Int} {h : Gh} {Q : WK} (x : Q (.int (-i)) h) : mNeg (.int i) h Q := x
theorem mCons_s {a : ME} {r : MA} {σ : Sw} {h : Gh} {Q : List W → Gh → Prop} (x : a σ h fun w h1 => r σ h1 fun ws h2 => Q (w :: ws) h2) : mCons a r σ h Q := x
theorem mNil_s {σ : Sw} {h : Gh} {Q : List W → Gh → Prop} (x : Q [] h) : mNil σ h Q := x
theorem szOk_s {n : Nat} {P : Prop} (e : Nat.ble n 1000 = true) (x : P) : szOk n P := by
 unfold szOk
 rw [e]
 exact x
theorem mTup_s {t : MA} {σ : Sw} {h : Gh} {Q : WK} (x : t σ h fun ws h1 => szOk ws.length (Q (.tup ws) h1)) : mTup t σ h Q := x
theorem mLst_s {t : MA} {σ : Sw} {h : Gh} {Q : WK} (x : t σ h fun ws h1 => szOk ws.length (Q (.lst ws) h1)) : mLst t σ h Q := x
theorem mCall_s {c : MSp} {E : XWK} {ma : MA} {σ : Sw} {h : Gh} {Q : WK} (x : ma σ h fun ws h1 => c ws h1 Q E) : mCall c E ma σ h Q := x
theorem mCB_s {r : MC} {ma : MA} {σ : Sw} {h : Gh} {Q : WK} (x : ma σ h fun ws h1 => r ws h1 Q) : mCB r ma σ h Q := x
theorem mTest_s {m : ME} {σ : Sw} {h : Gh} {Q : Bool → Gh → Prop} (x : m σ h (tK Q)) : mTest m σ h Q := x
theorem tK_s {c : Bool} {h : Gh} {Q : Bool → Gh → Prop} (x : Q c h) : tK Q (.bl c) h := x
theorem mTru_s {m : ME} {σ : Sw} {h : Gh} {Q : Bool → Gh → Prop} (x : m σ h (uK Q)) : mTru m σ h Q := x
theorem uK_s {w : W} {b : Bool} {h : Gh} {Q : Bool → Gh → Prop} (e : truW h w = some b) (x : Q b h) : uK Q w h := by
 unfold uK
 rw [e]
 exact x
theorem mNot_s {t : MT} {σ : Sw} {h : Gh} {Q : Bool → Gh → Prop} (x : t σ h fun c h1 => Q (!c) h1) : mNot t σ h Q := x
theorem mAnd_s {t u : MT} {σ : Sw} {h : Gh} {Q : Bool → Gh → Prop} (x : t σ h fun c h1 => br c (u σ h1 Q) (Q false h1)) : mAnd t u σ h Q := x
theorem mOr_s {t u : MT} {σ : Sw} {h : Gh} {Q : Bool → Gh → Prop} (x : t σ h fun c h1 => br c (Q true h1) (u σ h1 Q)) : mOr t u σ h Q := x
theorem mYes_s {σ : Sw} {h : Gh} {Q : Bool → Gh → Prop} (x : Q true h) : mYes σ h Q := x
theorem mAndV_s {a b : ME} {σ : Sw} {h : Gh} {Q : WK} (x : a σ h (aK b σ Q)) : mAndV a b σ h Q := x
theorem mOrV_s {a b : ME} {σ : Sw} {h : Gh} {Q : WK} (x : a σ h (oK b σ Q)) : mOrV a b σ h Q := x
theorem mNotV_s {a : ME} {σ : Sw} {h : Gh} {Q : WK} (x : a σ h (nK Q)) : mNotV a σ h Q := x
theorem aK_s {b : ME} {σ : Sw} {h : Gh} {Q : WK} {c : Bool} (x : br c (b σ h Q) (Q (.bl false) h)) : aK b σ Q (.bl c) h := by
 cases c with
 | true => exact x.1 rfl
 | false => exact x.2 rfl
theorem oK_s {b : ME} {σ : Sw} {h : Gh} {Q : WK} {c : Bool} (x : br c (Q (.bl true) h) (b σ h Q)) : oK b σ Q (.bl c) h := by
 cases c with
 | true => exact x.1 rfl
 | false => exact x.2 rfl
theorem nK_s {h : Gh} {Q : WK} {c : Bool} (x : Q (.bl (!c)) h) : nK Q (.bl c) h := x
theorem mIsX_s {f : Str → Bool} {m : ME} {σ : Sw} {h : Gh} {Q : WK} (x : m σ h (xK f Q)) : mIsX f m σ h Q := x
theorem xK_s {f : Str → Bool} {n : Str} {h : Gh} {Q : WK} (x : Q (.bl (f n)) h) : xK f Q (.exc n) h := x
theorem br_ts {a b : Prop} (x : a) : br true a b := br_t rfl x
theorem br_fs {a b : Prop} (x : b) : br false a b := br_f rfl x
theorem br_nts {a b : Prop} (x : b) : br (!true) a b := br_fs x
theorem br_nfs {a b : Prop} (x : a) : br (!false) a b := br_ts x
theorem by2_ts {a b : Prop} (x : a) : by2 true a b := x
theorem by2_fs {a b : Prop} (x : b) : by2 false a b := x
theorem kSub_s {i j : Int} {h : Gh} {Q : WK} (x : Q (.int (i - j)) h) : kSub (.int i) (.int j) h Q := x
theorem kAddA_s {i j : Int} {h : Gh} {Q : WK} (x : Q (.int (i + j)) h) : kAddA (.int i) (.int j) h Q := x
theorem kMul_s {i j : Int} {h : Gh} {Q : WK} (c : CMulB i j) (x : Q (.int (i * j)) h) : kMul (.int i) (.int j) h Q := ⟨c, x⟩
theorem kDiv_s {i j : Int} {h : Gh} {Q : WK} (c : CDivBN i j) (x : Q (.int (i.fdiv j)) h) : kDiv (.int i) (.int j) h Q := ⟨c, x⟩
theorem kMod_s {i j : Int} {h : Gh} {Q : WK} (c : j ≠ 0) (x : Q (.int (i.fmod j)) h) : kMod (.int i) (.int j) h Q := ⟨c, x⟩
theorem kLt_s {i j : Int} {h : Gh} {Q : WK} (x : Q (.bl (decide (i < j))) h) : kLt (.int i) (.int j) h Q := x
theorem kGt_s {i j : Int} {h : Gh} {Q : WK} (x : Q (.bl (decide (i > j))) h) : kGt (.int i) (.int j) h Q := x
theorem kEq_i {i j : Int} {h : Gh} {Q : WK} (x : Q (.bl (decide (i = j))) h) : kEq (.int i) (.int j) h Q := by
 have e : eqW (.int i) (.int j) = decide (i = j) := eqW_int i j
 show Q (.bl (eqW (.int i) (.int j))) h
 rw [e]
 exact x
theorem kNe_i {i j : Int} {h : Gh} {Q : WK} (x : Q (.bl (decide (i ≠ j))) h) : kNe (.int i) (.int j) h Q := by
 have e : (!eqW (.int i) (.int j)) = decide (i ≠ j) := by rw [eqW_int]; by_cases z : i = j <;> simp [z]
 show Q (.bl (!eqW (.int i) (.int j))) h
 rw [e]
 exact x
theorem kEq_b {i j : Bool} {h : Gh} {Q : WK} (x : Q (.bl (decide (i = j))) h) : kEq (.bl i) (.bl j) h Q := by
 have e : eqW (.bl i) (.bl j) = decide (i = j) := by rw [eqW]; cases i <;> cases j <;> rfl
 show Q (.bl (eqW (.bl i) (.bl j))) h
 rw [e]
 exact x
theorem kNe_b {i j : Bool} {h : Gh} {Q : WK} (x : Q (.bl (decide (i ≠ j))) h) : kNe (.bl i) (.bl j) h Q := by
 have e : (!eqW (.bl i) (.bl j)) = decide (i ≠ j) := by rw [eqW]; cases i <;> cases j <;> rfl
 show Q (.bl (!eqW (.bl i) (.bl j))) h
 rw [e]
 exact x
theorem kEq_t {p q : Tr} {h : Gh} {Q : WK} (x : Q (.bl (decide (p = q))) h) : kEq (tw p) (tw q) h Q := by
 show Q (.bl (eqW (tw p) (tw q))) h
 rw [eq_tw]
 exact x
theorem kNe_t {p q : Tr} {h : Gh} {Q : WK} (x : Q (.bl (decide (p ≠ q))) h) : kNe (tw p) (tw q) h Q := by
 have e : (!eqW (tw p) (tw q)) = decide (p ≠ q) := by rw [eq_tw]; by_cases z : p = q <;> simp [z]
 show Q (.bl (!eqW (tw p) (tw q))) h
 rw [e]
 exact x
theorem kEq_0 {p : Tr} {a b c : Int} {h : Gh} {Q : WK} (x : Q (.bl (decide (p = (a, b, c)))) h) : kEq (tw p) (.tup [.int a, .int b, .int c]) h Q := kEq_t (q := (a, b, c)) x
theorem kNe_0 {p : Tr} {a b c : Int} {h : Gh} {Q : WK} (x : Q (.bl (decide (p ≠ (a, b, c)))) h) : kNe (tw p) (.tup [.int a, .int b, .int c]) h Q := kNe_t (q := (a, b, c)) x
theorem kIx_s {x w : W} {i : Int} {ws : List W} {h : Gh} {Q : WK} (e : view h x = some ws) (a : atI ws i = some w) (k : Q w h) : kIx x (.int i) h Q := by
 unfold kIx
 dsimp only
 rw [e]
 dsimp only
 rw [a]
 exact k
theorem kIsi_s {w : W} {T : String} {b : Bool} {h : Gh} {Q : WK} (e : isiW h w T = some b) (x : Q (.bl b) h) : kIsi [w, .ty T] h Q := by
 unfold kIsi
 dsimp only
 rw [e]
 exact x
theorem kLen_s {w : W} {xs : List W} {h : Gh} {Q : WK} (e : view h w = some xs) (x : Q (.int (xs.length : Int)) h) : kLen [w] h Q := by
 unfold kLen
 dsimp only
 rw [e]
 exact x
theorem kTuple_l {us : List W} {h : Gh} {Q : WK} (x : Q (.tup us) h) : kTuple [.lst us] h Q := x
theorem kAny_s {w : W} {us : List W} {bs : List Bool} {h : Gh} {Q : WK} (e : viewL h w = some us) (b : blsW us = some bs) (x : Q (.bl (bs.any id)) h) : kAny [w] h Q := by
 unfold kAny
 dsimp only
 rw [e]
 dsimp only
 rw [b]
 exact x
theorem kAll_s {w : W} {us : List W} {bs : List Bool} {h : Gh} {Q : WK} (e : viewL h w = some us) (b : blsW us = some bs) (x : Q (.bl (bs.all id)) h) : kAll [w] h Q := by
 unfold kAll
 dsimp only
 rw [e]
 dsimp only
 rw [b]
 exact x
theorem kSum_s {w : W} {us : List W} {ns : List Int} {h : Gh} {Q : WK} (e : viewL h w = some us) (b : intsW us = some ns) (x : Q (.int ns.sum) h) : kSum [w] h Q := by
 unfold kSum
 dsimp only
 rw [e]
 dsimp only
 rw [b]
 exact x
theorem kAbs_s {i : Int} {h : Gh} {Q : WK} (x : Q (.int (if i < 0 then -i else i)) h) : kAbs [.int i] h Q := x
theorem kInt_b {b : Bool} {h : Gh} {Q : WK} (x : Q (.int (if b then 1 else 0)) h) : kInt [.bl b] h Q := x
theorem mFor_s {mi : MI} {g : MG} {b : MS} {D : MEnds} {σ : Sw} {h : Gh} (x : mi σ h (forK g b D σ)) : mFor mi g b D σ h := x
theorem forK_s {ws : List W} {o : Option (Nat × List W)} {g : MG} {b : MS} {D : MEnds} {σ : Sw} {h : Gh} (x : mForL ⟨ws, o⟩ g b D ws σ h) : forK g b D σ ⟨ws, o⟩ h := x
theorem mForL_n {ws : List W} {g : MG} {b : MS} {D : MEnds} {σ : Sw} {h : Gh} (x : D.nx σ h) : mForL ⟨ws, none⟩ g b D [] σ h := x
theorem mForL_c {ws r : List W} {w : W} {g : MG} {b : MS} {D : MEnds} {σ : Sw} {h : Gh} (x : g w σ h fun σ1 h1 => b { D with nx := mForL ⟨ws, none⟩ g b D r, ct := mForL ⟨ws, none⟩ g b D r, bk := D.nx } σ1 h1) : mForL ⟨ws, none⟩ g b D (w :: r) σ h := x
theorem nIt_s {m : ME} {R : Src → Gh → Prop} {σ : Sw} {h : Gh} (x : m σ h (iK R)) : nIt m σ h R := x
theorem iK_s {w : W} {ws : List W} {o : Option (Nat × List W)} {h : Gh} {R : Src → Gh → Prop} (e : srcA h w = some ⟨ws, o⟩) (x : R ⟨ws, o⟩ h) : iK R w h := by
 unfold iK
 rw [e]
 exact x
theorem nRng1_s {ma : MA} {R : Src → Gh → Prop} {σ : Sw} {h : Gh} (x : ma σ h (rgK R)) : nRng1 ma σ h R := x
theorem rgK_3 {R : Src → Gh → Prop} {h : Gh} (x : R ⟨[.int 0, .int 1, .int 2], none⟩ h) : rgK R [.int 3] h := x
theorem rgK_2 {R : Src → Gh → Prop} {h : Gh} (x : R ⟨[.int 0, .int 1], none⟩ h) : rgK R [.int 2] h := x
theorem nZip_s {ma : MA} {R : Src → Gh → Prop} {σ : Sw} {h : Gh} (x : ma σ h (zpK R)) : nZip ma σ h R := x
theorem zpK_s {a b : W} {as bs : List W} {zs : List W} {R : Src → Gh → Prop} {h : Gh} (e : stayW a = some as) (e' : stayW b = some bs) (z : zipW as bs = zs) (x : R ⟨zs, none⟩ h) : zpK R [a, b] h := by
 subst z
 have es : zipS h a b = some ⟨zipW as bs, none⟩ := by unfold zipS; rw [e, e']
 unfold zpK
 dsimp only
 rw [es]
 exact x
theorem zpK_c {n : Nat} {b : W} {as bs : List W} {zs : List W} {R : Src → Gh → Prop} {h : Gh} (e : h.c n = some (.lst as)) (e' : stayW b = some bs) (z : zipW as bs = zs) (x : R ⟨zs, some (n, as)⟩ h) : zpK R [.loc n, b] h := by
 subst z
 have es : zipS h (.loc n) b = some ⟨zipW as bs, some (n, as)⟩ := by unfold zipS; rw [e']; dsimp only [stayW]; rw [e]
 unfold zpK
 dsimp only
 rw [es]
 exact x
theorem zip0 {bs : List W} : zipW [] bs = [] := by cases bs <;> rfl
theorem zip1 {a : W} {as : List W} : zipW (a :: as) [] = [] := rfl
theorem zipC {a b : W} {as bs l : List W} (e : zipW as bs = l) : zipW (a :: as) (b :: bs) = .tup [a, b] :: l := by rw [zipW, e]
theorem mLC_s {own : W → Option (List W)} {ix : List Nat} {mi : MI} {tt : MT} {te : ME} {σ : Sw} {h : Gh} {Q : WK} (x : mi σ h (lcK own ix tt te σ Q)) : mLC own ix mi tt te σ h Q := x
theorem lcK_s {ws : List W} {o : Option (Nat × List W)} {own : W → Option (List W)} {ix : List Nat} {tt : MT} {te : ME} {σ : Sw} {h : Gh} {Q : WK} (e : Nat.ble ws.length 1000 = true) (x : mLCL ⟨ws, o⟩ own ix tt te σ Q ws [] h) : lcK own ix tt te σ Q ⟨ws, o⟩ h := szOk_s e x
theorem mLCL_n {ws acc : List W} {own : W → Option (List W)} {ix : List Nat} {tt : MT} {te : ME} {σ : Sw} {h : Gh} {Q : WK} (x : Q (.lst acc) h) : mLCL ⟨ws, none⟩ own ix tt te σ Q [] acc h := x
theorem mLCL_c {ws r acc vs : List W} {w : W} {own : W → Option (List W)} {ix : List Nat} {tt : MT} {te : ME} {σ : Sw} {h : Gh} {Q : WK} (e : own w = some vs) (x : tt (vs.map some ++ blkW ix σ) h fun c h1 => by2 c (te (vs.map some ++ blkW ix σ) h1 fun v h2 => mLCL ⟨ws, none⟩ own ix tt te σ Q r (acc ++ [v]) h2) (mLCL ⟨ws, none⟩ own ix tt te σ Q r acc h1)) : mLCL ⟨ws, none⟩ own ix tt te σ Q (w :: r) acc h := by
 unfold mLCL
 show match own w with
  | some vs => tt (vs.map some ++ blkW ix σ) h fun c h1 => by2 c (te (vs.map some ++ blkW ix σ) h1 fun v h2 => mLCL ⟨ws, none⟩ own ix tt te σ Q r (acc ++ [v]) h2) (mLCL ⟨ws, none⟩ own ix tt te σ Q r acc h1)
  | none => False
 rw [e]
 exact x
theorem mFn_s {n N : Nat} {body : XWK → MS} {ws : List W} {h : Gh} {Q : WK} {E : XWK} (hl : Nat.beq ws.length n = true) (x : body E { nx := fun _ h' => Q .non h', rt := Q } (ws.map some ++ List.replicate (N - ws.length) none) h) : mFn n N false body ws h Q E := by
 unfold mFn
 rw [hl]
 exact x
theorem mSl_s {r : W → Option Int → Option Int → Gh → WK → Prop} {m : ME} {l u : MO} {σ : Sw} {h : Gh} {Q : WK} (x : m σ h fun a h1 => l σ h1 fun lo h2 => u σ h2 fun hi h3 => r a lo hi h3 Q) : mSl r m l u σ h Q := x
theorem mPart_s {m : ME} {σ : Sw} {h : Gh} {Q : Option Int → Gh → Prop} (x : m σ h (pK Q)) : mPart m σ h Q := x
theorem pK_s {i : Int} {h : Gh} {Q : Option Int → Gh → Prop} (x : Q (some i) h) : pK Q (.int i) h := x
def p3K (i j k : Nat) (D : MEnds) (σ : Sw) : List W → Gh → Prop := fun ws h => match ws with
 | [x, y, z] => D.nx (((σ.set i (some x)).set j (some y)).set k (some z)) h
 | _ => False
theorem mPar3_s {i j k : Nat} {ta : MA} {D : MEnds} {σ : Sw} {h : Gh} (x : ta σ h (p3K i j k D σ)) : mPar3 i j k ta D σ h := x
theorem br_len {xs : List W} {n : Int} {a b : Prop} (e : decide ((xs.length : Int) ≠ n) = false) (x : b) : br (decide ((xs.length : Int) ≠ n)) a b := br_f e x
theorem br_nall {bs : List Bool} {a b : Prop} (e : bs.all id = true) (x : b) : br (!(bs.all id)) a b := br_f (by rw [e]; rfl) x
theorem by2_x {n d : Str} {a b : Prop} (e : isX n d = true) (x : a) : by2 (isX n d) a b := by2_t e x
theorem br_xt {n d : Str} {a b : Prop} (e : isX n d = true) (x : a) : br (isX n d) a b := br_t e x
theorem br_xf {n d : Str} {a b : Prop} (e : isX n d = false) (x : b) : br (isX n d) a b := br_f e x
theorem setZ {α : Type} {a x : α} {l : List α} : (a :: l).set 0 x = x :: l := rfl
theorem setS {α : Type} {a x : α} {l l' : List α} {n : Nat} (e : l.set n x = l') : (a :: l).set (n + 1) x = a :: l' := by rw [List.set_cons_succ, e]
theorem nName_v {i : Nat} {w : W} {σ σ' : Sw} {h : Gh} {N : Sw → Gh → Prop} (e : σ.set i (some w) = σ') (x : N σ' h) : nName i w σ h N := by
 subst e
 exact x
theorem p3K_v {i j k : Nat} {D : MEnds} {σ σ1 σ2 σ3 : Sw} {h : Gh} {x y z : W} (e1 : σ.set i (some x) = σ1) (e2 : σ1.set j (some y) = σ2) (e3 : σ2.set k (some z) = σ3) (q : D.nx σ3 h) : p3K i j k D σ [x, y, z] h := by
 subst e1 e2 e3
 exact q
def ini (ws : List W) (n : Nat) : Sw := ws.map some ++ List.replicate (n - ws.length) none
theorem ini0 : ini [] 0 = [] := rfl
theorem iniN {n : Nat} {l : Sw} (e : ini [] n = l) : ini [] (n + 1) = none :: l := by
 subst e
 rfl
theorem iniW {n : Nat} {w : W} {ws : List W} {l : Sw} (e : ini ws n = l) : ini (w :: ws) (n + 1) = some w :: l := by
 subst e
 unfold ini
 rw [List.length_cons, Nat.add_sub_add_right]
 rfl
theorem mFn_v {n N : Nat} {body : XWK → MS} {ws : List W} {σ : Sw} {h : Gh} {Q : WK} {E : XWK} (hl : Nat.beq ws.length n = true) (e : ini ws N = σ) (x : body E { nx := fun _ h' => Q .non h', rt := Q } σ h) : mFn n N false body ws h Q E := by
 subst e
 exact mFn_s hl x
theorem by2_h {i : Nat} {n d : Str} {fs : List (Str × W)} {mh : MS} {D : MEnds} {σ σ' : Sw} {h : Gh} (e : isX n d = true) (s : σ.set i (some (excW ⟨n, fs⟩)) = σ') (x : mh D σ' h) : by2 (isX (Xw.mk n fs).cls d) (mh D (σ.set i (some (excW (Xw.mk n fs)))) h) False := by
 subst s
 exact by2_t e x
theorem mLCM_s {own : W → Option (List W)} {ix : List Nat} {mi : MI} {tt : MT} {te : ME} {σ : Sw} {h : Gh} {Q : WK} (x : mLC own ix mi tt te σ h (thaw Q)) : mLCM own ix mi tt te σ h Q := x
theorem nSub_s {mo mi : ME} {ms : MSet} {w : W} {σ : Sw} {h : Gh} {N : Sw → Gh → Prop} (x : mo σ h fun o h1 => mi σ h1 fun i h2 => ms o i w h2 fun h3 => N σ h3) : nSub mo mi ms w σ h N := x
theorem mForL_cc {ws r us : List W} {n : Nat} {w : W} {g : MG} {b : MS} {D : MEnds} {σ : Sw} {h : Gh} (e : h.c n = some (.lst us)) (x : g w σ h fun σ1 h1 => b { D with nx := mForL ⟨ws, some (n, us)⟩ g b D r, ct := mForL ⟨ws, some (n, us)⟩ g b D r, bk := D.nx } σ1 h1) : mForL ⟨ws, some (n, us)⟩ g b D (w :: r) σ h := ⟨e, x⟩
theorem mForL_cn {ws us : List W} {n : Nat} {g : MG} {b : MS} {D : MEnds} {σ : Sw} {h : Gh} (e : h.c n = some (.lst us)) (x : D.nx σ h) : mForL ⟨ws, some (n, us)⟩ g b D [] σ h := ⟨e, x⟩
theorem mLCL_cn {ws us acc : List W} {n : Nat} {own : W → Option (List W)} {ix : List Nat} {tt : MT} {te : ME} {σ : Sw} {h : Gh} {Q : WK} (e : h.c n = some (.lst us)) (x : Q (.lst acc) h) : mLCL ⟨ws, some (n, us)⟩ own ix tt te σ Q [] acc h := ⟨e, x⟩
theorem mLCL_cc {ws us r acc vs : List W} {n : Nat} {w : W} {own : W → Option (List W)} {ix : List Nat} {tt : MT} {te : ME} {σ : Sw} {h : Gh} {Q : WK} (ec : h.c n = some (.lst us)) (e : own w = some vs) (x : tt (vs.map some ++ blkW ix σ) h fun c h1 => by2 c (te (vs.map some ++ blkW ix σ) h1 fun v h2 => mLCL ⟨ws, some (n, us)⟩ own ix tt te σ Q r (acc ++ [v]) h2) (mLCL ⟨ws, some (n, us)⟩ own ix tt te σ Q r acc h1)) : mLCL ⟨ws, some (n, us)⟩ own ix tt te σ Q (w :: r) acc h := by
 unfold mLCL
 refine ⟨ec, ?_⟩
 show match own w with
  | some vs => tt (vs.map some ++ blkW ix σ) h fun c h1 => by2 c (te (vs.map some ++ blkW ix σ) h1 fun v h2 => mLCL ⟨ws, some (n, us)⟩ own ix tt te σ Q r (acc ++ [v]) h2) (mLCL ⟨ws, some (n, us)⟩ own ix tt te σ Q r acc h1)
  | none => False
 rw [e]
 exact x
theorem iK_c {n : Nat} {ws : List W} {h : Gh} {R : Src → Gh → Prop} (e : h.c n = some (.lst ws)) (x : R ⟨ws, some (n, ws)⟩ h) : iK R (.loc n) h := iK_s (by simp only [srcA, e]) x
theorem kIx_c {n : Nat} {w : W} {i : Int} {ws : List W} {h : Gh} {Q : WK} (e : h.c n = some (.lst ws)) (a : atI ws i = some w) (k : Q w h) : kIx (.loc n) (.int i) h Q := kIx_s (view_loc e) a k
theorem mFnT_v {n N : Nat} {body : XWK → MS} {ws : List W} {σ : Sw} {h : Gh} {Q : WK} {E : XWK} (hl : Nat.beq ws.length n = true) (e : ini ws N = σ) (x : body E { nx := fun _ h' => exitW true h .non h' Q, rt := fun w h' => exitW true h w h' Q } σ h) : mFn n N true body ws h Q E := by
 subst e
 unfold mFn
 rw [hl]
 exact x
theorem kAddA_l {a b : List W} {h : Gh} {Q : WK} (e : Nat.ble (a.length + b.length) 1000 = true) (x : Q (.lst (a ++ b)) h) : kAddA (.lst a) (.lst b) h Q := szOk_s e x
theorem kIs_b {a b : Bool} {h : Gh} {Q : WK} (x : Q (.bl (a == b)) h) : kIs (.bl a) (.bl b) h Q := x
theorem kIsnt_b {a b : Bool} {h : Gh} {Q : WK} (x : Q (.bl (!(a == b))) h) : kIsnt (.bl a) (.bl b) h Q := x
theorem kEq_s {a b : Str} {h : Gh} {Q : WK} (x : Q (.bl (decide (a = b))) h) : kEq (.str a) (.str b) h Q := by
 have e : eqW (.str a) (.str b) = decide (a = b) := by rw [eqW]; by_cases z : a = b <;> simp [z]
 show Q (.bl (eqW (.str a) (.str b))) h
 rw [e]
 exact x
theorem kNe_s {a b : Str} {h : Gh} {Q : WK} (x : Q (.bl (decide (a ≠ b))) h) : kNe (.str a) (.str b) h Q := by
 have e : (!eqW (.str a) (.str b)) = decide (a ≠ b) := by rw [eqW]; by_cases z : a = b <;> simp [z]
 show Q (.bl (!eqW (.str a) (.str b))) h
 rw [e]
 exact x
theorem br_any {bs : List Bool} {a b : Prop} (e : bs.any id = false) (x : b) : br (bs.any id) a b := br_f e x

local macro_rules | `(tactic| rfl') => `(tactic| repeat (first
 | with_reducible refine mSeq_s ?_ | with_reducible refine mAsg_s ?_ | with_reducible refine mCall_s ?_ | with_reducible refine mCons_s ?_ | with_reducible refine mNil_s ?_
 | ((with_reducible apply mVar_s); exact rfl) | with_reducible refine mC_s ?_ | with_reducible refine mOp_s ?_ | with_reducible refine nName_v (by repeat (first | with_reducible exact setZ | with_reducible apply setS)) ?_ | with_reducible refine lost_rt ?_ | with_reducible refine lost_nx ?_ | with_reducible refine nx_s ?_ | with_reducible refine rt_s ?_ | with_reducible refine bk_s ?_ | with_reducible refine ct_s ?_
 | with_reducible refine mIfS_s ?_ | with_reducible refine mIf_s ?_ | with_reducible refine mRet_s ?_ | with_reducible refine mDrop_s ?_ | with_reducible refine mNext_s ?_ | with_reducible refine mTry_s ?_ | with_reducible refine mRaise_s ?_
 | with_reducible refine mTest_s ?_ | with_reducible refine tK_s ?_ | with_reducible refine mTru_s ?_ | ((with_reducible apply uK_s); exact rfl) | with_reducible refine mNot_s ?_ | with_reducible refine mAnd_s ?_ | with_reducible refine mOr_s ?_ | with_reducible refine mYes_s ?_
 | with_reducible refine mAndV_s ?_ | with_reducible refine mOrV_s ?_ | with_reducible refine mNotV_s ?_ | with_reducible refine aK_s ?_ | with_reducible refine oK_s ?_ | with_reducible refine nK_s ?_ | with_reducible refine mIsX_s ?_ | with_reducible refine xK_s ?_
 | with_reducible refine br_ts ?_ | with_reducible refine br_fs ?_ | with_reducible refine br_nts ?_ | with_reducible refine br_nfs ?_ | with_reducible refine by2_ts ?_ | with_reducible refine by2_fs ?_
 | with_reducible refine mTup_s ?_ | with_reducible refine mLst_s ?_ | ((with_reducible apply szOk_s); exact rfl) | with_reducible refine mCB_s ?_ | with_reducible refine mUn_s ?_ | with_reducible refine mNeg_s ?_
 | ((with_reducible apply nTup2_s); exact rfl; exact rfl) | ((with_reducible apply nTup2_l); exact rfl; exact rfl) | ((with_reducible apply nTup_s); exact rfl; exact rfl) | with_reducible refine nCons_s ?_ | with_reducible refine nNil_s ?_
 | with_reducible refine kSub_s ?_ | with_reducible refine kAddA_s ?_ | ((with_reducible apply kMul_s); exact CMulB.of (by trivial) (by trivial) (by omega) (by omega)) | with_reducible refine kLt_s ?_ | with_reducible refine kGt_s ?_
 | with_reducible refine kEq_i ?_ | with_reducible refine kNe_i ?_ | with_reducible refine kEq_b ?_ | with_reducible refine kNe_b ?_ | with_reducible refine kEq_t ?_ | with_reducible refine kNe_t ?_ | with_reducible refine kEq_0 ?_ | with_reducible refine kNe_0 ?_
 | ((with_reducible apply kIx_s); exact rfl; exact rfl) | ((with_reducible apply kIsi_s); exact rfl) | ((with_reducible apply kLen_s); exact rfl) | with_reducible refine kTuple_l ?_ | ((with_reducible apply kAny_s); exact rfl; exact rfl) | ((with_reducible apply kAll_s); exact rfl; exact rfl) | ((with_reducible apply kSum_s); exact rfl; exact rfl) | with_reducible refine kInt_b ?_ | with_reducible refine kAbs_s ?_
 | with_reducible refine mFor_s ?_ | with_reducible refine forK_s ?_ | with_reducible refine mForL_n ?_ | with_reducible refine mForL_c ?_ | with_reducible refine nIt_s ?_ | ((with_reducible apply iK_s); exact rfl) | with_reducible refine nRng1_s ?_ | with_reducible refine rgK_3 ?_ | with_reducible refine rgK_2 ?_ | with_reducible refine nZip_s ?_ | ((with_reducible apply zpK_s); exact rfl; exact rfl; (repeat (first | with_reducible exact zip0 | with_reducible exact zip1 | with_reducible apply zipC)))
 | with_reducible refine mLC_s ?_ | ((with_reducible apply lcK_s); exact rfl) | with_reducible refine mLCL_n ?_ | ((with_reducible apply mLCL_c); exact rfl) | ((with_reducible apply mFn_v); exact rfl; repeat (first | with_reducible exact ini0 | with_reducible apply iniW | with_reducible apply iniN)) | with_reducible refine mSl_s ?_ | with_reducible refine mPart_s ?_ | with_reducible refine pK_s ?_ | with_reducible refine mPar3_s ?_ | with_reducible refine p3K_v (by repeat (first | with_reducible exact setZ | with_reducible apply setS)) (by repeat (first | with_reducible exact setZ | with_reducible apply setS)) (by repeat (first | with_reducible exact setZ | with_reducible apply setS)) ?_ | ((with_reducible apply br_len); exact rfl) | ((with_reducible apply br_nall); exact rfl) | ((with_reducible apply by2_h); decide +kernel; (repeat (first | with_reducible exact setZ | with_reducible apply setS))) | ((with_reducible apply by2_x); decide +kernel) | ((with_reducible apply br_xt); decide +kernel) | ((with_reducible apply br_xf); decide +kernel) | with_reducible refine mLCM_s ?_ | with_reducible refine nSub_s ?_ | ((with_reducible apply iK_c); (with_reducible assumption)) | ((with_reducible apply mForL_cc); (with_reducible assumption)) | ((with_reducible apply mForL_cn); (with_reducible assumption)) | ((with_reducible apply mLCL_cn); (with_reducible assumption)) | ((with_reducible apply mLCL_cc); (with_reducible assumption); exact rfl) | ((with_reducible apply kIx_c); (with_reducible assumption); exact rfl) | ((with_reducible apply zpK_c); (with_reducible assumption); exact rfl; (repeat (first | with_reducible exact zip0 | with_reducible exact zip1 | with_reducible apply zipC))) | ((with_reducible apply mFnT_v); exact rfl; (repeat (first | with_reducible exact ini0 | with_reducible apply iniW | with_reducible apply iniN))) | ((with_reducible apply kAddA_l); exact rfl) | with_reducible refine kIs_b ?_ | with_reducible refine kIsnt_b ?_ | with_reducible refine kEq_s ?_ | with_reducible refine kNe_s ?_ | ((with_reducible apply br_any); decide +kernel)))

theorem mBMr_s {r : MM} {mo : ME} {ma : MA} {σ : Sw} {h : Gh} {Q : WK} (x : mo σ h fun x h1 => isLst h1 x (ma σ h1 fun xs h2 => r x xs h2 Q)) : mBMr r mo ma σ h Q := x
theorem isLst_c {n : Nat} {us : List W} {h : Gh} {P : Prop} (e : h.c n = some (.lst us)) (p : P) : isLst h (.loc n) P := by
 simp only [isLst, e]
 exact p
theorem mLstM_g {ma : MA} {ws : List W} {σ : Sw} {h : Gh} {Q : WK} (hm : ∀ R, ma σ h R = R ws h) (hz : Nat.ble ws.length 1000 = true) (x : ∀ g : Gh, g.c h.nx = some (.lst ws) → (∀ n, n ≠ h.nx → g.c n = h.c n) → g.nx = h.nx + 1 → Q (.loc h.nx) g) : mLstM ma σ h Q := by
 unfold mLstM
 rw [hm]
 exact szOk_s hz (x _ (new_c _ _) (fun _ e => new_ne e) rfl)
theorem app_g {h : Gh} {n : Nat} {us : List W} {w : W} {Q : WK} (e : h.c n = some (.lst us)) (hz : us.length ≤ 1000) (k : ∀ g : Gh, g.c n = some (.lst (us ++ [w])) → (∀ m, m ≠ n → g.c m = h.c m) → g.nx = h.nx → Q .non g) : kAppend (.loc n) [w] h Q :=
 app_ok e (Nat.lt_of_le_of_lt hz (by decide)) (k _ (set_c _ _ _) (fun _ e => set_ne e) rfl)
def rng (a m : Nat) : List Nat := List.range' a (m - a)
theorem mem_rng {a m x : Nat} : x ∈ rng a m ↔ a ≤ x ∧ x < m := by
 unfold rng
 rw [List.mem_range'_1]
 omega
theorem rngW_rng (a m : Nat) : rngW (a : Int) ((m : Int) - (a : Int)).toNat = (rng a m).map fun x : Nat => W.int (x : Int) := by
 unfold rngW rng
 rw [List.range'_eq_map_range, List.map_map, show ((m : Int) - (a : Int)).toNat = m - a by omega]
 refine List.map_congr_left fun x _ => ?_
 simp
theorem rngW_rng0 (m : Nat) : rngW 0 ((m : Nat) : Int).toNat = (rng 0 m).map fun x : Nat => W.int (x : Int) := by
 have := rngW_rng 0 m
 rw [show ((m : Int) - ((0 : Nat) : Int)).toNat = ((m : Nat) : Int).toNat by omega] at this
 exact this
theorem rgK_s {R : Src → Gh → Prop} {h : Gh} {m : Nat} (h2 : m ≤ 1000) (x : R ⟨(rng 0 m).map fun x : Nat => W.int (x : Int), none⟩ h) : rgK R [.int (m : Int)] h := by
 rw [← rngW_rng0] at x
 exact rgOk.mk (by omega) (by omega) x
def nxt (l : List Nat) : Nat := match l.getLast? with
 | none => 0
 | some x => x + 1
def grow (m : Nat) (l : List Nat) : List (List Nat) := (rng (nxt l) m).map fun p => l ++ [p]
theorem rng_get {a m i x : Nat} (e : (rng a m)[i]? = some x) : x = a + i ∧ x < m := by
 have hx := mem_rng.mp (List.mem_of_getElem? e)
 unfold rng at e
 have hl := (List.getElem?_eq_some_iff.mp e).1
 rw [List.length_range'] at hl
 rw [List.getElem?_eq_getElem (by rw [List.length_range']; exact hl), List.getElem_range'] at e
 have := Option.some.inj e
 omega

abbrev Tm := List Int × Int
def tmW (t : Tm) : W := .tup [.tup (t.1.map .int), .int t.2]
def smW (ts : List Tm) : W := .tup (ts.map tmW)
def Ge (h h' : Gh) : Prop := h.nx ≤ h'.nx ∧ ∀ n, n < h.nx → h'.c n = h.c n
theorem Ge.trans {a b c : Gh} (x : Ge a b) (y : Ge b c) : Ge a c := ⟨Nat.le_trans x.1 y.1, fun n hn => (y.2 n (Nat.lt_of_lt_of_le hn x.1)).trans (x.2 n hn)⟩
def Pw (ps : List Int) : Prop := ∀ p ∈ ps, 0 ≤ p ∧ p ≤ 60
def WF (L m : Nat) (ts : List Tm) : Prop := ∀ t ∈ ts, t.1.length = L ∧ t.2 ≠ 0 ∧ Sm m t.2 ∧ Pw t.1
theorem kPow_s {i j : Int} {h : Gh} {Q : WK} (c : CPow i j) (x : Q (.int (i ^ j.toNat)) h) : kPow (.int i) (.int j) h Q := ⟨c, x⟩
def PowX (c0 : MSp) : Prop := ∀ {h : Gh} {x : Int} {L mo : Nat} {Q : WK} {E : XWK}, L ≤ 8 → mo ≤ 60 → (∀ ps : List Int, ps.length = L → Pw ps → (∀ p ∈ ps, p ≤ (mo : Int)) → Q (.tup (ps.map .int)) h) → c0 [.int x, .int (L : Int), .int (mo : Int)] h Q E
theorem lo_ints (n : Nat) : ∀ l : List Int, Los n (l.map .int)
 | [] => by simp [Los]
 | x :: l => by rw [List.map_cons, Los]; exact ⟨by simp [Lo], lo_ints n l⟩
theorem w_powers : PowX r_l_powers := by
 intro h x L mo Q E hL hmo q
 unfold r_l_powers
 refine mFnT_v rfl (σ := [some (.int x), some (.int (L : Int)), some (.int (mo : Int)), none, none]) rfl ?_
 refine mSeq_s (mAsg_s (mLstM_g (ws := []) (fun R => rfl) rfl fun g eg og xg => ?_))
 refine nName_v (σ' := [some (.int x), some (.int (L : Int)), some (.int (mo : Int)), some (.loc h.nx), none]) rfl (nx_s (mSeq_s ?_))
 refine for_rng (j := (L : Int)) (fun _ => rfl) (by omega) (by omega) (fun i σ h' => ∃ (y : Int) (ps : List Int) (s4 : Option W), σ = [some (.int y), some (.int (L : Int)), some (.int (mo : Int)), some (.loc h.nx), s4] ∧ ps.length = i ∧ (∀ p ∈ ps, 0 ≤ p ∧ p ≤ (mo : Int)) ∧ h'.c h.nx = some (.lst (ps.map .int)) ∧ ∀ n, n ≠ h.nx → h'.c n = h.c n) ?_ ?_ ⟨x, [], none, rfl, rfl, fun _ h => (nomatch h), eg, og⟩
 ·rintro i σ h' N hN hi ⟨y, ps, s4, rfl, e1, e0, e2, e3⟩
  refine nName_v (σ' := [some (.int y), some (.int (L : Int)), some (.int (mo : Int)), some (.loc h.nx), some (.int (i : Int))]) rfl ?_
  refine mSeq_s (mDrop_s (mBMr_s (mVar_s rfl (isLst_c e2 ?_))))
  rfl'
  refine kMod_s (by omega) ?_
  rfl'
  refine app_g e2 (by rw [List.length_map]; omega) fun g2 a1 a2 a3 => ?_
  rfl'
  refine kDiv_s ⟨by omega, 64, by decide, (sm_of (n := 20) (by omega) (by omega)).mono (by decide)⟩ ?_
  rfl'
  obtain ⟨b0, b1⟩ := emod_bd y (b := (mo : Int) + 1) (by omega)
  exact hN _ _ ⟨_, ps ++ [y.fmod ((mo : Int) + 1)], _, rfl, by simp [e1], fun p hp => by
   rcases List.mem_append.mp hp with hp | hp
   ·exact e0 p hp
   ·rw [List.mem_singleton.mp hp]; omega, by rw [a1]; simp, fun n hn => by rw [a2 n hn]; exact e3 n hn⟩
 ·rintro σ h' ⟨y, ps, s4, rfl, e1, e0, e2, e3⟩
  unfold t_l_powers_2
  refine nx_s (mRet_s (mCB_s (mCons_s (mVar_s rfl (mNil_s ?_)))))
  show (match viewL h' (.loc h.nx) with
   | some us => _
   | none => False)
  rw [viewL_loc e2]
  exact ⟨fun n c hn ec => by rw [e3 n (by omega)]; exact ec, .inl ⟨by rw [Lo]; exact lo_ints _ _, q ps (by omega) (fun p hp => ⟨(e0 p hp).1, Int.le_trans (e0 p hp).2 (by omega)⟩) fun p hp => (e0 p hp).2⟩⟩
def LNumX (c0 : MSp) : Prop := ∀ {h : Gh} {x : Int} {Q : WK} {E : XWK}, (∀ n : Int, Sm 101 n → Q (.int n) h) → c0 [.int x] h Q E
theorem w_lnumber : LNumX r_l_number := by
 intro h x Q E q
 have b1 := emod_bd (x.fdiv 3) (b := 7) (by decide)
 have b2 := emod_bd (x.fdiv 3) (b := 201) (by decide)
 have b3 := emod_bd (x.fdiv 3) (b := 2 * (10 : Int) ^ (30 : Int).toNat) (by decide)
 have c3 := emod_bd x (b := 3) (by decide)
 have q1 := q ((x.fdiv 3).fmod 7 - 3) (sm_of (by omega) (by omega))
 have q2 := q ((x.fdiv 3).fmod 201 - 100) (sm_of (by omega) (by omega))
 have q3 := q ((x.fdiv 3).fmod (2 * (10 : Int) ^ (30 : Int).toNat) - (10 : Int) ^ (30 : Int).toNat) (by
  rw [c30] at b3 ⊢
  exact Sm.le (i := 1000000000000000000000000000000) (by unfold Sm; decide +kernel) (by omega))
 have dv : CDivBN x 3 := ⟨by decide, 64, by decide, .lit rfl⟩
 unfold r_l_number
 rfl'
 refine kDiv_s dv ?_
 rfl'
 refine kMod_s (by decide) ?_
 rfl'
 refine kDiv_s dv ?_
 rfl'
 refine kMod_s (by decide) ?_
 rfl'
 refine kDiv_s dv ?_
 rfl'
 refine kPow_s ⟨by decide, by decide, by decide⟩ ?_
 have t0 : (10 : Int) ^ (30 : Int).toNat ≠ 0 := by rw [c30]; decide
 have t1 : Sm 8000 ((10 : Int) ^ (30 : Int).toNat) := by rw [c30]; unfold Sm; decide +kernel
 generalize hT : (10 : Int) ^ (30 : Int).toNat = T at *
 refine kMul_s (.of (m := 64) (n := 8000) (.lit rfl) t1 (by decide) (by decide)) ?_
 refine kMod_s (fun e => t0 (by omega)) ?_
 refine mOp_s (mC_s (mC_s (kPow_s ⟨by decide, by decide, by decide⟩ ?_)))
 rw [hT]
 refine kSub_s ?_
 rfl'
 refine kMod_s (by decide) ?_
 have : x.fmod 3 = 0 ∨ x.fmod 3 = 1 ∨ x.fmod 3 = 2 := by omega
 rcases this with e | e | e <;> rw [e]
 ·exact kIx_s rfl rfl q1
 ·exact kIx_s rfl rfl q2
 ·exact kIx_s rfl rfl q3
def kvW (ts : List Tm) : List (List Int × W) := ts.map fun t => (t.1, .int t.2)
def putM (ts : List Tm) (k : List Int) (n : Int) : List Tm := if ts.any (fun t => decide (t.1 = k)) then ts.map (fun t => if t.1 = k then (t.1, n) else t) else ts ++ [(k, n)]
theorem val_kv : ∀ (ts : List Tm) (k : List Int), valT (kvW ts) k = ((ts.find? fun t => decide (t.1 = k)).map fun t => W.int t.2)
 | [], k => rfl
 | t :: ts, k => by
  show valT ((t.1, .int t.2) :: kvW ts) k = _
  rw [val_cons, List.find?_cons, val_kv ts k]
  by_cases e : t.1 = k
  ·simp [e]
  ·simp [e]
theorem put_kv (ts : List Tm) (k : List Int) (n : Int) : putT (kvW ts) k (.int n) = kvW (putM ts k n) := by
 have e : (valT (kvW ts) k).isSome = ts.any fun t => decide (t.1 = k) := by
  rw [val_kv, Option.isSome_map, Bool.eq_iff_iff, List.find?_isSome, List.any_eq_true]
 unfold putT putM
 rw [e]
 by_cases c : (ts.any fun t => decide (t.1 = k)) = true
 ·rw [if_pos c, if_pos c]
  unfold kvW
  rw [List.map_map, List.map_map]
  refine List.map_congr_left fun t _ => ?_
  simp only [Function.comp]
  by_cases e : t.1 = k
  ·rw [if_pos e, if_pos e]
  ·rw [if_neg e, if_neg e]
 ·rw [if_neg c, if_neg c]
  simp [kvW]
theorem put_in {ts : List Tm} {k : List Int} {n : Int} {t : Tm} (h : t ∈ putM ts k n) : t ∈ ts ∨ t = (k, n) := by
 unfold putM at h
 split at h
 ·obtain ⟨u, hu, rfl⟩ := List.mem_map.mp h
  by_cases e : u.1 = k
  ·rw [if_pos e, e]; exact .inr rfl
  ·rw [if_neg e]; exact .inl hu
 ·rcases List.mem_append.mp h with h | h
  ·exact .inl h
  ·exact .inr (List.mem_singleton.mp h)
theorem put_len (ts : List Tm) (k : List Int) (n : Int) : (putM ts k n).length ≤ ts.length + 1 := by
 unfold putM
 split
 ·rw [List.length_map]; omega
 ·simp
theorem tKey_i (k : List Int) : tKey (.tup (k.map .int)) = some k := by
 show intsW (k.map .int) = some k
 induction k with
 | nil => rfl
 | cons a k ih => rw [List.map_cons]; simp [intsW, ih]
theorem setT_g {h : Gh} {n : Nat} {ts : List Tm} {k : List Int} {x : Int} {N : Gh → Prop} (e : h.c n = some (.dtt (kvW ts))) (hz : ts.length ≤ 990) (q : ∀ g : Gh, g.c n = some (.dtt (kvW (putM ts k x))) → (∀ m, m ≠ n → g.c m = h.c m) → g.nx = h.nx → N g) : sSetT (.loc n) (.tup (k.map .int)) (.int x) h N := by
 unfold sSetT
 rw [tKey_i]
 dsimp only
 rw [e]
 dsimp only
 refine szOk.mk (Nat.le_trans (m := 1000) (by unfold kvW; rw [List.length_map]; omega) (by decide)) ?_
 rw [put_kv]
 exact q _ (set_c _ _ _) (fun _ e => set_ne e) rfl
theorem tix_g {h : Gh} {n : Nat} {ts : List Tm} {t : Tm} {k : List Int} {Q : WK} (e : h.c n = some (.dtt (kvW ts))) (f : (ts.find? fun t => decide (t.1 = k)) = some t) (q : Q (.int t.2) h) : kTIx (.loc n) (.tup (k.map .int)) h Q := by
 unfold kTIx
 rw [tKey_i]
 dsimp only
 rw [e]
 dsimp only
 rw [val_kv, f]
 exact q

theorem mNewT_g {σ : Sw} {h : Gh} {Q : WK} (x : ∀ g : Gh, g.c h.nx = some (.dtt (kvW [])) → (∀ n, n ≠ h.nx → g.c n = h.c n) → g.nx = h.nx + 1 → Q (.loc h.nx) g) : mNewT σ h Q := x _ (new_c _ _) (fun _ e => new_ne e) rfl
theorem put_keys (ts : List Tm) (k : List Int) (n : Int) (nd : (ts.map (·.1)).Nodup) : ((putM ts k n).map (·.1)).Nodup := by
 unfold putM
 split
 ·rw [List.map_map]
  have e : (((·.1) : Tm → List Int) ∘ fun t : Tm => if t.1 = k then (t.1, n) else t) = (·.1) := by
   funext t
   simp only [Function.comp]
   split <;> rfl
  rw [e]
  exact nd
 ·rename_i c
  rw [List.map_append, List.nodup_append]
  refine ⟨nd, by simp, fun a ha b hb e => c ?_⟩
  simp only [List.map_cons, List.map_nil, List.mem_singleton] at hb
  obtain ⟨t, ht, e2⟩ := List.mem_map.mp ha
  rw [List.any_eq_true]
  exact ⟨t, ht, by simp [e2, e, hb]⟩
def getM (ts : List Tm) (k : List Int) : Int := ((ts.find? fun t => decide (t.1 = k)).map (·.2)).getD 0
def addM (ts : List Tm) (k : List Int) (v : Int) : List Tm := putM ts k (getM ts k + v)
def ordT (ts : List Tm) (ks : List (List Int)) : List Tm := (ks.map fun k => (k, getM ts k)).filter fun t => decide (t.2 ≠ 0)
def lin (f : List Int → Int) (ts : List Tm) : Int := (ts.map fun t => f t.1 * t.2).sum
theorem getM_cons (t : Tm) (ts : List Tm) (k : List Int) : getM (t :: ts) k = if t.1 = k then t.2 else getM ts k := by
 unfold getM
 rw [List.find?_cons]
 by_cases e : t.1 = k
 ·rw [if_pos e, decide_eq_true e]; rfl
 ·rw [if_neg e, decide_eq_false e]
theorem getM_app (ts us : List Tm) (k : List Int) : getM (ts ++ us) k = if k ∈ ts.map (·.1) then getM ts k else getM us k := by
 induction ts with
 | nil => simp
 | cons t ts ih =>
  rw [List.cons_append, getM_cons, getM_cons, ih, List.map_cons]
  by_cases e : t.1 = k
  ·rw [if_pos e, if_pos e, if_pos (by simp [e])]
  ·rw [if_neg e, if_neg e]
   by_cases m : k ∈ ts.map (·.1)
   ·rw [if_pos m, if_pos (List.mem_cons_of_mem _ m)]
   ·rw [if_neg m, if_neg (fun q => by rcases List.mem_cons.mp q with q | q; exact e q.symm; exact m q)]
theorem getM_none {ts : List Tm} {k : List Int} (h : k ∉ ts.map (·.1)) : getM ts k = 0 := by
 induction ts with
 | nil => rfl
 | cons t ts ih =>
  rw [List.map_cons] at h
  rw [getM_cons, if_neg (fun e => h (by simp [e])), ih fun m => h (List.mem_cons_of_mem _ m)]
theorem getM_mem {ts : List Tm} {t : Tm} (nd : (ts.map (·.1)).Nodup) (h : t ∈ ts) : getM ts t.1 = t.2 := by
 induction ts with
 | nil => cases h
 | cons u ts ih =>
  rw [List.map_cons, List.nodup_cons] at nd
  rw [getM_cons]
  rcases List.mem_cons.mp h with rfl | h
  ·rw [if_pos rfl]
  ·rw [if_neg (fun e => nd.1 (by rw [e]; exact List.mem_map.mpr ⟨t, h, rfl⟩)), ih nd.2 h]
theorem any_key (ts : List Tm) (k : List Int) : (ts.any fun t => decide (t.1 = k)) = decide (k ∈ ts.map (·.1)) := by
 rw [Bool.eq_iff_iff, List.any_eq_true, decide_eq_true_iff, List.mem_map]
 constructor
 ·rintro ⟨t, ht, e⟩; exact ⟨t, ht, by simpa using e⟩
 ·rintro ⟨t, ht, e⟩; exact ⟨t, ht, by simpa using e⟩
theorem get_map (ts : List Tm) (k r : List Int) (n : Int) : getM (ts.map fun t => if t.1 = k then (t.1, n) else t) r = if r = k ∧ k ∈ ts.map (·.1) then n else getM ts r := by
 induction ts with
 | nil => simp [getM]
 | cons t ts ih =>
  rw [List.map_cons, getM_cons, ih, getM_cons, List.map_cons]
  by_cases e : t.1 = k
  ·rw [if_pos e]
   dsimp only
   by_cases q : t.1 = r
   ·rw [if_pos q, if_pos ⟨by rw [← q, e], by simp [e]⟩]
   ·rw [if_neg q, if_neg q, if_neg (fun z => q (by rw [e, z.1])), if_neg (fun z => q (by rw [e, z.1]))]
  ·rw [if_neg e]
   by_cases q : t.1 = r
   ·rw [if_pos q, if_pos q, if_neg (fun z => e (by rw [q, z.1]))]
   ·rw [if_neg q, if_neg q]
    by_cases m : r = k ∧ k ∈ ts.map (·.1)
    ·rw [if_pos m, if_pos ⟨m.1, List.mem_cons_of_mem _ m.2⟩]
    ·rw [if_neg m, if_neg (fun z => m ⟨z.1, by rcases List.mem_cons.mp z.2 with y | y; exact absurd y.symm e; exact y⟩)]
theorem putM_in {ts : List Tm} {k : List Int} (n : Int) (h : k ∈ ts.map (·.1)) : putM ts k n = ts.map fun t => if t.1 = k then (t.1, n) else t := by
 unfold putM
 rw [any_key, if_pos (by simpa using h)]
theorem putM_out {ts : List Tm} {k : List Int} (n : Int) (h : k ∉ ts.map (·.1)) : putM ts k n = ts ++ [(k, n)] := by
 unfold putM
 rw [any_key, if_neg (by simpa using h)]
theorem put_get (ts : List Tm) (k r : List Int) (n : Int) : getM (putM ts k n) r = if r = k then n else getM ts r := by
 by_cases h : k ∈ ts.map (·.1)
 ·rw [putM_in n h, get_map]
  by_cases q : r = k
  ·rw [if_pos q, if_pos ⟨q, h⟩]
  ·rw [if_neg q, if_neg (fun z => q z.1)]
 ·rw [putM_out n h, getM_app]
  by_cases q : r = k
  ·rw [if_pos q, q, if_neg h, getM_cons, if_pos rfl]
  ·rw [if_neg q]
   by_cases m : r ∈ ts.map (·.1)
   ·rw [if_pos m]
   ·rw [if_neg m, getM_cons, if_neg (Ne.symm q), getM_none m]
    rfl
theorem getM_add (ts : List Tm) (k r : List Int) (v : Int) : getM (addM ts k v) r = getM ts r + if r = k then v else 0 := by
 unfold addM
 rw [put_get]
 by_cases q : r = k
 ·rw [if_pos q, if_pos q, q]
 ·rw [if_neg q, if_neg q, Int.add_zero]
theorem keys_map (ts : List Tm) (k : List Int) (n : Int) : (ts.map fun t => if t.1 = k then (t.1, n) else t).map (·.1) = ts.map (·.1) := by
 rw [List.map_map]
 refine List.map_congr_left fun t _ => ?_
 simp only [Function.comp]
 split <;> rfl
theorem keys_add (ts : List Tm) (k : List Int) (v : Int) : (addM ts k v).map (·.1) = if k ∈ ts.map (·.1) then ts.map (·.1) else ts.map (·.1) ++ [k] := by
 unfold addM
 by_cases h : k ∈ ts.map (·.1)
 ·rw [putM_in _ h, keys_map, if_pos h]
 ·rw [putM_out _ h, if_neg h, List.map_append]
  rfl
theorem nodup_add {ts : List Tm} {k : List Int} {v : Int} (nd : (ts.map (·.1)).Nodup) : ((addM ts k v).map (·.1)).Nodup := put_keys ts k _ nd
theorem lin_cons (f : List Int → Int) (t : Tm) (ts : List Tm) : lin f (t :: ts) = f t.1 * t.2 + lin f ts := by unfold lin; simp
theorem lin_app (f : List Int → Int) (ts us : List Tm) : lin f (ts ++ us) = lin f ts + lin f us := by unfold lin; simp
theorem srt_uniq : ∀ {ks js : List (List Int)}, ks.Perm js → ks.Pairwise (· < ·) → js.Pairwise (· < ·) → ks = js
 | [], js, p, _, _ => p.symm.eq_nil.symm
 | a :: ks, [], p, _, _ => p.eq_nil
 | a :: ks, b :: js, p, h1, h2 => by
  have e : a = b := by
   have ma : a ∈ b :: js := p.mem_iff.mp (List.mem_cons_self ..)
   have mb : b ∈ a :: ks := p.mem_iff.mpr (List.mem_cons_self ..)
   rcases List.mem_cons.mp ma with e | ma
   ·exact e
   ·rcases List.mem_cons.mp mb with e | mb
    ·exact e.symm
    ·exact absurd (List.lt_trans ((List.pairwise_cons.mp h1).1 b mb) ((List.pairwise_cons.mp h2).1 a ma)) (List.lt_irrefl _)
  subst e
  rw [srt_uniq (List.Perm.cons_inv p) (List.pairwise_cons.mp h1).2 (List.pairwise_cons.mp h2).2]
theorem ord_in {D : List Tm} {ks : List (List Int)} {u : Tm} (nd : (D.map (·.1)).Nodup) (p : ∀ k ∈ ks, k ∈ D.map (·.1)) (h : u ∈ ordT D ks) : u ∈ D ∧ u.2 ≠ 0 := by
 unfold ordT at h
 obtain ⟨h1, h2⟩ := List.mem_filter.mp h
 obtain ⟨k, hk, rfl⟩ := List.mem_map.mp h1
 obtain ⟨t, ht, rfl⟩ := List.mem_map.mp (p k hk)
 rw [getM_mem nd ht] at h2 ⊢
 exact ⟨ht, by simpa using h2⟩
theorem ord_len (D : List Tm) (ks : List (List Int)) : (ordT D ks).length ≤ ks.length := by
 unfold ordT
 exact Nat.le_trans (List.length_filter_le _ _) (by rw [List.length_map]; exact Nat.le_refl _)
theorem ord_srt {D : List Tm} {ks : List (List Int)} (h : ks.Pairwise (· < ·)) : ((ordT D ks).map (·.1)).Pairwise (· < ·) := by
 unfold ordT
 rw [List.pairwise_map]
 refine List.Pairwise.filter _ ?_
 rw [List.pairwise_map]
 exact h
theorem srt_nodup {ks : List (List Int)} (h : ks.Pairwise (· < ·)) : ks.Nodup := by
 unfold List.Nodup
 refine h.imp fun {a b} h e => ?_
 rw [e] at h
 exact List.lt_irrefl _ h
theorem ord_self {D : List Tm} (nd : (D.map (·.1)).Nodup) (nz : ∀ t ∈ D, t.2 ≠ 0) : ordT D (D.map (·.1)) = D := by
 unfold ordT
 rw [List.map_map]
 have e : D.map ((fun k => (k, getM D k)) ∘ (·.1)) = D := (List.map_congr_left fun t ht => by simp only [Function.comp]; rw [getM_mem nd ht]; rfl).trans (List.map_id _)
 rw [e]
 exact List.filter_eq_self.mpr fun t ht => by simpa using nz t ht
theorem snoc_ind {α : Type} {P : List α → Prop} (h0 : P []) (h1 : ∀ ts t, P ts → P (ts ++ [t])) (ts : List α) : P ts := by
 have : ∀ us : List α, P us.reverse := fun us => by
  induction us with
  | nil => exact h0
  | cons a us ih => rw [List.reverse_cons]; exact h1 _ _ ih
 have := this ts.reverse
 rwa [List.reverse_reverse] at this
theorem ord_nil {D : List Tm} {ks : List (List Int)} (h : ∀ r, getM D r = 0) : ordT D ks = [] := by
 unfold ordT
 rw [List.filter_eq_nil_iff]
 intro t ht
 obtain ⟨k, _, rfl⟩ := List.mem_map.mp ht
 rw [h k]
 simp
theorem gm_tix {h : Gh} {n : Nat} {ts : List Tm} {k : List Int} {Q : WK} (e : h.c n = some (.dtt (kvW ts))) (m : k ∈ ts.map (·.1)) (q : Q (.int (getM ts k)) h) : kTIx (.loc n) (.tup (k.map .int)) h Q := by
 cases f : ts.find? fun t => decide (t.1 = k) with
 | none =>
  obtain ⟨t, ht, e⟩ := List.mem_map.mp m
  exact absurd (List.find?_eq_none.mp f t ht) (by simp [e])
 | some t =>
  have eg : getM ts k = t.2 := by unfold getM; rw [f]; rfl
  rw [eg] at q
  exact tix_g e f q
theorem lc_ord {h : Gh} {n : Nat} {ts : List Tm} {σ : Sw} {Q : WK} (hv : σ[0]? = some (some (.loc n))) (ec : h.c n = some (.dtt (kvW ts))) (hz : ts.length ≤ 1000) (hs : SortG (ts.map (·.1)))
  (q : ∀ ks : List (List Int), ks.Perm (ts.map (·.1)) → ks.Pairwise (· < ·) → Q (.lst ((ordT ts ks).map tmW)) h) :
  mLC ow1 [0] (nIt (mCB kSortG (mCons (mVar 0) mNil))) (mTest (mOp kNe (mOp kTIx (mVar 1) (mVar 0)) (mC (.int 0)))) (mTup (mCons (mVar 0) (mCons (mOp kTIx (mVar 1) (mVar 0)) mNil))) σ h Q := by
 have eb : blkW [0] σ = [some (.loc n)] := by unfold blkW; rw [List.map_cons, hv]; rfl
 refine mLC_s (nIt_s (mCB_s (mCons_s (mVar_s hv (mNil_s ?_)))))
 show (match h.c n with
  | some (.dtt kvs) => SortG (kvs.map (·.1)) ∧ ∀ ks : List (List Int), ks.Perm (kvs.map (·.1)) → ks.Pairwise (· < ·) → _
  | _ => False)
 rw [ec]
 have ek : (kvW ts).map (·.1) = ts.map (·.1) := by unfold kvW; rw [List.map_map]; rfl
 refine ⟨by rw [ek]; exact hs, fun ks pk sk => ?_⟩
 rw [ek] at pk
 have q := q ks pk sk
 have lk : ks.length = ts.length := by rw [pk.length_eq, List.length_map]
 refine iK_s (ws := ks.map fun k => .tup (k.map .int)) (o := none) rfl (szOk.mk (Nat.le_trans (m := 1000) (by rw [List.length_map]; omega) (by decide)) ?_)
 refine lc_inv (fun i acc h' => h' = h ∧ acc = (ordT ts (ks.take i)).map tmW) ?_ ?_ ⟨rfl, rfl⟩
 ·rintro i w acc h' N hN e ⟨rfl, rfl⟩
  rw [List.getElem?_map] at e
  cases qe : ks[i]? with
  | none => rw [qe] at e; cases e
  | some k =>
   rw [qe] at e
   cases e
   have mk := pk.mem_iff.mp (List.mem_of_getElem? qe)
   refine ⟨[.tup (k.map .int)], rfl, ?_⟩
   rw [eb]
   have eo : ordT ts (ks.take (i + 1)) = ordT ts (ks.take i) ++ ([(k, getM ts k)].filter fun t : Tm => decide (t.2 ≠ 0)) := by
    unfold ordT
    rw [List.take_succ, qe, List.map_append, List.filter_append]
    rfl
   refine mTest_s (mOp_s (mOp_s (mVar_s rfl (mVar_s rfl (gm_tix ec mk (mC_s (kNe_i (tK_s ?_))))))))
   refine by2_d (fun ne => ?_) fun ne => ?_
   ·refine mTup_s (mCons_s (mVar_s rfl (mCons_s (mOp_s (mVar_s rfl (mVar_s rfl (gm_tix ec mk (mNil_s (szOk_s rfl ?_)))))))))
    refine hN _ _ ⟨rfl, ?_⟩
    rw [eo, List.filter_cons, if_pos (by simpa using ne), List.map_append]
    rfl
   ·refine hN _ _ ⟨rfl, ?_⟩
    rw [eo, List.filter_cons, if_neg (by simpa using ne)]
    simp
 ·rintro acc h' ⟨rfl, rfl⟩
  rw [List.length_map, List.take_length]
  exact q
def OrdX (c0 : MSp) : Prop := ∀ {h : Gh} {n : Nat} {ts : List Tm} {Q : WK} {E : XWK}, h.c n = some (.dtt (kvW ts)) → ts.length ≤ 600 → SortG (ts.map (·.1)) → (∀ ks : List (List Int), ks.Perm (ts.map (·.1)) → ks.Pairwise (· < ·) → Q (smW (ordT ts ks)) h) → c0 [.loc n] h Q E
theorem len_sort {L : Nat} {ts : List Tm} (nd : (ts.map (·.1)).Nodup) (hL : ∀ t ∈ ts, t.1.length = L) : SortG (ts.map (·.1)) := by
 intro h2 k hk e
 obtain ⟨t, ht, e1⟩ := List.mem_map.mp hk
 have L0 : L = 0 := by rw [← hL t ht, e1, e]; rfl
 have all : ∀ k ∈ ts.map (·.1), k = [] := fun k hk => by
  obtain ⟨u, hu, e2⟩ := List.mem_map.mp hk
  rw [← e2]
  exact List.eq_nil_of_length_eq_zero (by rw [hL u hu, L0])
 generalize ts.map (·.1) = ks at nd h2 all
 match ks, nd, h2, all with
 | a :: b :: r, nd, _, all =>
  have ea := all a (by simp)
  have eb := all b (by simp)
  rw [ea, eb] at nd
  simp at nd
 | [_], _, h2, _ => simp at h2
 | [], _, h2, _ => simp at h2
def SumX (c0 : MSp) : Prop := ∀ {h : Gh} {ns : List Int} {k : Int} {L m mo : Nat} {Q : WK} {E : XWK}, 0 ≤ k → k ≤ 900 → L ≤ 8 → m ≤ 60 → mo ≤ 60 → (∀ (us : List Tm) (h' : Gh), WF L 101 us → us.length ≤ m → (us.map (·.1)).Pairwise (· < ·) → (∀ t ∈ us, ∀ p ∈ t.1, p ≤ (mo : Int)) → Ge h h' → Q (smW us) h') → c0 [.kls (ns.map .int), .int k, .int (L : Int), .int (m : Int), .int (mo : Int)] h Q E
theorem w_sum {dr nu pw od : MSp} (hdr : DrawsOk dr) (hnu : LNumX nu) (hpw : PowX pw) (hod : OrdX od) : SumX (r_l_sum dr nu pw od) := by
 intro h ns k L m mo Q E k0 k1 hL hm hmo q
 unfold r_l_sum
 refine mFn_v rfl (σ := [some (.kls (ns.map .int)), some (.int k), some (.int (L : Int)), some (.int (m : Int)), some (.int (mo : Int)), none, none, none]) rfl ?_
 refine mSeq_s (mAsg_s (mNewT_g fun g eg og xg => ?_))
 refine nName_v (σ' := [some (.kls (ns.map .int)), some (.int k), some (.int (L : Int)), some (.int (m : Int)), some (.int (mo : Int)), some (.loc h.nx), none, none]) rfl (nx_s (mSeq_s ?_))
 refine for_rng (j := (m : Int)) (fun _ => rfl) (by omega) (by omega) (fun i σ h' => ∃ (ts : List Tm) (s6 s7 : Option W), σ = [some (.kls (ns.map .int)), some (.int k), some (.int (L : Int)), some (.int (m : Int)), some (.int (mo : Int)), some (.loc h.nx), s6, s7] ∧ h'.c h.nx = some (.dtt (kvW ts)) ∧ ts.length ≤ i ∧ (ts.map (·.1)).Nodup ∧ (∀ t ∈ ts, t.1.length = L ∧ Sm 101 t.2 ∧ Pw t.1 ∧ ∀ p ∈ t.1, p ≤ (mo : Int)) ∧ h'.nx = h.nx + 1 ∧ ∀ n, n ≠ h.nx → h'.c n = h.c n) ?_ ?_ ⟨[], none, none, rfl, eg, Nat.le_refl _, List.nodup_nil, fun _ h => (nomatch h), xg, og⟩
 ·rintro i σ h' N hN hi ⟨ts, s6, s7, rfl, a1, a2, a3, a4, a5, a6⟩
  refine nName_v (σ' := [some (.kls (ns.map .int)), some (.int k), some (.int (L : Int)), some (.int (m : Int)), some (.int (mo : Int)), some (.loc h.nx), some (.int (i : Int)), s7]) rfl ?_
  rfl'
  refine hdr (ns := ns) (k := k + (i : Int)) (many := 2) (by omega) (by omega) (by decide) (by decide) fun xs hx => ?_
  match xs, hx with
  | [a, b], _ =>
   rfl'
   refine hnu fun n sn => ?_
   rfl'
   refine hpw hL hmo fun ps lp pw pm => ?_
   refine setT_g a1 (by omega) fun g2 b1 b2 b3 => ?_
   refine nx_s (hN _ _ ⟨putM ts ps n, _, _, rfl, b1, by have := put_len ts ps n; omega, put_keys ts ps n a3, fun t ht => ?_, by rw [b3]; exact a5, fun n hn => by rw [b2 n hn]; exact a6 n hn⟩)
   rcases put_in ht with ht | ht
   ·exact a4 t ht
   ·rw [ht]; exact ⟨lp, sn, pw, pm⟩
 ·rintro σ h' ⟨ts, s6, s7, rfl, a1, a2, a3, a4, a5, a6⟩
  unfold t_l_sum_2
  rfl'
  refine hod a1 (by omega) (len_sort (L := L) a3 fun t ht => (a4 t ht).1) fun ks pk sk => ?_
  have hu := fun u hm => ord_in (u := u) a3 (fun k hk => pk.mem_iff.mp hk) hm
  have lu := ord_len ts ks
  rw [pk.length_eq, List.length_map] at lu
  exact q _ h' (fun u hm => ⟨(a4 u (hu u hm).1).1, (hu u hm).2, (a4 u (hu u hm).1).2.1, (a4 u (hu u hm).1).2.2.1⟩) (by omega) (ord_srt sk) (fun u hm => (a4 u (hu u hm).1).2.2.2) ⟨by omega, fun n hn => a6 n (by omega)⟩

def Pv (ps : List Int) : Prop := ∀ p ∈ ps, 0 ≤ p ∧ p ≤ 61
theorem cut_take (us : List W) (k : Nat) : cutW us none (some (k : Int)) = us.take k := by
 unfold cutW
 rw [HT.sIx_nat, HT.sIx_none, List.drop_zero, Nat.sub_zero]
 by_cases h : k ≤ us.length
 ·rw [Nat.min_eq_left h]
 ·rw [Nat.min_eq_right (by omega), List.take_length, List.take_of_length_le (by omega)]
theorem cut_drop (us : List W) (k : Nat) : cutW us (some (k : Int)) none = us.drop k := by
 unfold cutW
 rw [HT.sIx_nat, HT.sIx_none]
 by_cases h : k ≤ us.length
 ·rw [Nat.min_eq_left h, List.take_of_length_le (by rw [List.length_drop]; exact Nat.le_refl _)]
 ·rw [Nat.min_eq_right (by omega), List.drop_length, List.drop_of_length_le (by omega)]
  simp
theorem add_tt {a b : List W} {h : Gh} {Q : WK} (hz : a.length + b.length ≤ 1000) (q : Q (.tup (a ++ b)) h) : kAddA (.tup a) (.tup b) h Q := by
 cases a with
 | nil => exact q
 | cons w a =>
  refine szOk.mk (Nat.le_trans (m := 1000) (by simp at hz; omega) (by decide)) ?_
  exact q
theorem mNoPart_s {σ : Sw} {h : Gh} {Q : Option Int → Gh → Prop} (x : Q none h) : mNoPart σ h Q := x
theorem kSl2_t {ws : List W} {lo hi : Option Int} {h : Gh} {Q : WK} (x : Q (.tup (cutW ws lo hi)) h) : kSl2 (.tup ws) lo hi h Q := x
theorem get_g {h : Gh} {n : Nat} {ts : List Tm} {k : List Int} {Q : WK} (e : h.c n = some (.dtt (kvW ts))) (q : Q (.int (getM ts k)) h) : kGetT (.loc n) [.tup (k.map .int), .int 0] h Q := by
 unfold kGetT
 dsimp only
 rw [e, tKey_i]
 dsimp only
 rw [val_kv]
 have : (((ts.find? fun t => decide (t.1 = k)).map fun t => W.int t.2).getD (.int 0)) = .int (getM ts k) := by
  unfold getM
  cases ts.find? fun t => decide (t.1 = k) <;> rfl
 rw [this]
 exact q
theorem isDtt_c {n : Nat} {kvs : List (List Int × W)} {h : Gh} {P : Prop} (e : h.c n = some (.dtt kvs)) (p : P) : isDtt h (.loc n) P := by
 unfold isDtt
 dsimp only
 rw [e]
 exact p
theorem mBMd_s {r : MM} {mo : ME} {ma : MA} {σ : Sw} {h : Gh} {Q : WK} (x : mo σ h fun x h1 => isDtt h1 x (ma σ h1 fun xs h2 => r x xs h2 Q)) : mBMd r mo ma σ h Q := x

theorem lo_tm (n : Nat) (t : Tm) : Lo n (tmW t) := by
 unfold tmW
 simp only [Lo, Los]
 exact ⟨lo_ints _ _, trivial, trivial⟩
theorem lo_tms (n : Nat) : ∀ ts : List Tm, Los n (ts.map tmW)
 | [] => by simp [Los]
 | t :: ts => by rw [List.map_cons, Los]; exact ⟨lo_tm n t, lo_tms n ts⟩
theorem lo_sm (n : Nat) (ts : List Tm) : Lo n (smW ts) := by unfold smW; rw [Lo]; exact lo_tms n ts
theorem eq_ints : ∀ l : List Int, eqWs (l.map .int) (l.map .int) = true
 | [] => rfl
 | a :: l => by rw [List.map_cons, eqWs, eq_ints l, eqW]; simp
theorem eq_tm (t : Tm) : eqW (tmW t) (tmW t) = true := by
 unfold tmW
 simp only [eqW, eqWs, eq_ints, beq_self_eq_true, Bool.and_self]
theorem eq_tms : ∀ s : List Tm, eqWs (s.map tmW) (s.map tmW) = true
 | [] => rfl
 | t :: s => by rw [List.map_cons, eqWs, eq_tms s, eq_tm]; rfl
theorem pl_tm (n : Nat) (t : Tm) : plW (n + 3) (tmW t) = true := by simp [tmW, plW]
theorem ne_tm {t : Tm} {h : Gh} {Q : WK} (k : Q (.bl false) h) : kNe (tmW t) (tmW t) h Q := by
 show by2 (plW 30 (tmW t) && plW 30 (tmW t)) (Q (.bl (!eqW (tmW t) (tmW t))) h) False
 rw [pl_tm 27, eq_tm]
 exact k
theorem pl_sm (n : Nat) (s : List Tm) : plW (n + 4) (smW s) = true := by
 unfold smW
 rw [plW, List.all_eq_true]
 intro w hw
 obtain ⟨t, _, rfl⟩ := List.mem_map.mp hw
 exact pl_tm n t
theorem eq_sm (s : List Tm) : eqW (smW s) (smW s) = true := by
 unfold smW
 rw [eqW, eq_tms]
theorem eq_same {s : List Tm} {h : Gh} {Q : WK} (k : Q (.bl true) h) : kEq (smW s) (smW s) h Q := by
 show by2 (plW 30 (smW s) && plW 30 (smW s)) (Q (.bl (eqW (smW s) (smW s))) h) False
 rw [pl_sm 26, eq_sm]
 exact k
theorem add_pn {p : List Int} {n : Int} {h : Gh} {Q : WK} (q : Q (.tup ((p ++ [n]).map .int)) h) (hz : p.length ≤ 900 := by omega) : kAddA (.tup (p.map .int)) (.tup [.int n]) h Q := by
 cases p with
 | nil => exact q
 | cons a p =>
  refine szOk.mk (Nat.le_trans (m := 1000) (by simp at hz ⊢; omega) (by decide)) ?_
  rw [List.map_append] at q
  exact q
def LIsX (c0 : MSp) : Prop := ∀ {h : Gh} {s : List Tm} {L : Nat} {Q : WK} {E : XWK}, s.length ≤ 1000 → L ≤ 8 → (∀ t ∈ s, t.1.length = L) → Q (.bl true) h → c0 [smW s, smW s] h Q E
theorem w_lis : LIsX r_l_is_sum := by
 intro h s L Q E hz hL hl q
 unfold r_l_is_sum
 refine mFn_v rfl (σ := [some (smW s), some (smW s), none, none]) rfl ?_
 have len : ∀ (R : WK) (g : Gh), R (.int (s.length : Int)) g → kLen [smW s] g R := fun R g hR => kLen_s (xs := s.map tmW) rfl (by rw [List.length_map]; exact hR)
 refine mSeq_s (mIfS_s (mOr_s (mNot_s (mTru_s (mCB_s (mCons_s (mVar_s rfl (mCons_s (mC_s (mNil_s (kIsi_s (b := true) rfl (uK_s rfl (br_f rfl ?_)))))))))))))
 refine mTest_s (mOp_s (mCB_s (mCons_s (mVar_s rfl (mNil_s (len _ _ ?_))))))
 refine mCB_s (mCons_s (mVar_s rfl (mNil_s (len _ _ (kNe_i (tK_s (br_f (by simp) ?_)))))))
 refine mNext_s (nx_s ?_)
 unfold t_l_is_sum_1
 refine mSeq_s (mFor_s (nRng1_s (mCons_s (mCB_s (mCons_s (mVar_s rfl (mNil_s (len _ _ ?_))))))))
 refine mNil_s (rgK_s hz (forK_s ?_))
 refine for_inv (fun i σ h' => h' = h ∧ ∃ s2 s3 : Option W, σ = [some (smW s), some (smW s), s2, s3]) ?_ ?_ ⟨rfl, none, none, rfl⟩
 ·rintro i w σ h' N hN e ⟨rfl, s2, s3, rfl⟩
  rw [List.getElem?_map] at e
  cases qe : (rng 0 s.length)[i]? with
  | none => rw [qe] at e; cases e
  | some i' =>
   rw [qe] at e
   cases e
   obtain ⟨ei, hi⟩ := rng_get qe
   rw [Nat.zero_add] at ei
   subst ei
   have et : s[i']? = some s[i'] := List.getElem?_eq_getElem hi
   have hlt := hl s[i'] (List.getElem_mem hi)
   generalize s[i'] = t at et hlt
   have ix : ∀ (R : WK), R (tmW t) h' → kIx (smW s) (.int (i' : Int)) h' R := fun R hR => kIx_s (ws := s.map tmW) rfl (atI_nat (by rw [List.getElem?_map, et]; rfl)) hR
   refine nName_v (σ' := [some (smW s), some (smW s), some (.int (i' : Int)), s3]) rfl (mSeq_s (mAsg_s (mOp_s (mVar_s rfl (mVar_s rfl (ix _ ?_))))))
   refine nName_v (σ' := [some (smW s), some (smW s), some (.int (i' : Int)), some (tmW t)]) rfl (nx_s (mSeq_s (mIfS_s ?_)))
   refine mOr_s (mNot_s (mTru_s (mCB_s (mCons_s (mVar_s rfl (mCons_s (mC_s (mNil_s (kIsi_s (b := true) rfl (uK_s rfl (br_f rfl ?_)))))))))))
   refine mOr_s (mTest_s (mOp_s (mCB_s (mCons_s (mVar_s rfl (mNil_s (kLen_s (xs := [.tup (t.1.map .int), .int t.2]) rfl (mC_s (kNe_i (tK_s (br_f rfl ?_)))))))))))
   refine mOr_s (mNot_s (mTru_s (mCB_s (mCons_s (mOp_s (mVar_s rfl (mC_s (kIx_s (ws := [.tup (t.1.map .int), .int t.2]) (w := .tup (t.1.map .int)) rfl rfl ?_))))))))
   refine mCons_s (mC_s (mNil_s (kIsi_s (b := true) rfl (uK_s rfl (br_f rfl ?_)))))
   refine mTest_s (mOp_s (mVar_s rfl (mOp_s (mVar_s rfl (mVar_s rfl (ix _ (ne_tm (tK_s (br_f rfl ?_)))))))))
   refine mNext_s (nx_s (mIfS_s (mNot_s (mTru_s (mCB_s (mCons_s ?_))))))
   refine mLC_s (nIt_s (mOp_s (mOp_s (mVar_s rfl (mC_s (kIx_s (ws := [.tup (t.1.map .int), .int t.2]) (w := .tup (t.1.map .int)) rfl rfl ?_))))))
   refine mSl_s (mVar_s rfl (mPart_s (mC_s (pK_s (mNoPart_s ?_)))))
   show kAddA (.tup (t.1.map .int)) (.tup [.int t.2]) h' _
   refine add_pn ?_
   refine iK_s (ws := (t.1 ++ [t.2]).map .int) (o := none) rfl (szOk.mk (Nat.le_trans (m := 1000) (by simp; omega) (by decide)) ?_)
   refine lc_inv (fun j acc g => g = h' ∧ acc = (List.replicate j true).map .bl) ?_ ?_ ⟨rfl, rfl⟩
   ·rintro j w acc g N' hN' e' ⟨rfl, rfl⟩
    obtain ⟨n, en, rfl⟩ := ints_get e'
    refine ⟨[.int n], rfl, mYes_s (by2_ts ?_)⟩
    rfl'
    refine hN' _ _ ⟨rfl, ?_⟩
    rw [List.replicate_succ', List.map_append]
    rfl
   ·rintro acc g ⟨rfl, rfl⟩
    refine mNil_s (kAll_s (us := (List.replicate ((t.1 ++ [t.2]).map W.int).length true).map .bl) (bs := List.replicate ((t.1 ++ [t.2]).map W.int).length true) rfl (bls_map _) ?_)
    have ea : (List.replicate ((t.1 ++ [t.2]).map W.int).length true).all id = true := by simp
    rw [ea]
    refine uK_s rfl (br_f rfl (mNext_s ?_))
    exact hN _ _ ⟨rfl, _, _, rfl⟩
 ·rintro σ h' ⟨rfl, s2, s3, rfl⟩
  unfold t_l_is_sum_2
  exact nx_s (mRet_s (mC_s (rt_s q)))

theorem pairs_sm : ∀ us : List Tm, pairsT (us.map tmW) = some (kvW us)
 | [] => rfl
 | t :: us => by
  show (match tKey (.tup (t.1.map W.int)) with
   | some ks => (pairsT (us.map tmW)).map ((ks, W.int t.2) :: ·)
   | none => none) = _
  rw [tKey_i, pairs_sm us]
  rfl
theorem dict_s {us : List Tm} {h : Gh} {Q : WK} (nd : (us.map (·.1)).Nodup) (x : ∀ g : Gh, g.c h.nx = some (.dtt (kvW us)) → (∀ n, n ≠ h.nx → g.c n = h.c n) → g.nx = h.nx + 1 → Q (.loc h.nx) g) : kDictT [smW us] h Q := by
 show (match pairsT (us.map tmW) with
  | some ps => (ps.map (·.1)).Nodup ∧ Q (.loc h.nx) (h.new (.dtt ps))
  | none => False)
 rw [pairs_sm]
 refine ⟨?_, x _ (new_c _ _) (fun _ e => new_ne e) rfl⟩
 have : (kvW us).map (·.1) = us.map (·.1) := by unfold kvW; rw [List.map_map]; rfl
 rw [this]
 exact nd
theorem exit_t {h h' : Gh} {us : List Tm} {Q : WK} (keep : ∀ n, n < h.nx → h'.c n = h.c n) (q : Q (smW us) h) : exitW true h (smW us) h' Q :=
 ⟨fun n c hn ec => by rw [keep n hn]; exact ec, .inl ⟨lo_sm _ _, q⟩⟩
def addD (f : Int) (us vs : List Tm) : List Tm := vs.foldl (fun D t => addM D t.1 (f * t.2)) us
theorem addD_snoc (f : Int) (us vs : List Tm) (t : Tm) : addD f us (vs ++ [t]) = addM (addD f us vs) t.1 (f * t.2) := by unfold addD; rw [List.foldl_append]; rfl
theorem addD_nd {f : Int} {us vs : List Tm} (h : (us.map (·.1)).Nodup) : ((addD f us vs).map (·.1)).Nodup := by
 refine snoc_ind (P := fun vs => ((addD f us vs).map (·.1)).Nodup) h (fun vs t ih => ?_) vs
 rw [addD_snoc]
 exact nodup_add ih
theorem addD_len (f : Int) (us vs : List Tm) : (addD f us vs).length ≤ us.length + vs.length := by
 refine snoc_ind (P := fun vs => (addD f us vs).length ≤ us.length + vs.length) (Nat.le_refl _) (fun vs t ih => ?_) vs
 rw [addD_snoc, List.length_append, List.length_singleton]
 exact Nat.le_trans (put_len ..) (by omega)
theorem addD_get (f : Int) (us : List Tm) (r : List Int) (vs : List Tm) : getM (addD f us vs) r = getM us r + f * lin (fun k => if k = r then 1 else 0) vs := by
 refine snoc_ind (P := fun vs => getM (addD f us vs) r = getM us r + f * lin (fun k => if k = r then 1 else 0) vs) (by show getM us r = getM us r + f * 0; omega) (fun vs t ih => ?_) vs
 rw [addD_snoc, getM_add, lin_app, ih]
 unfold lin
 simp only [List.map_cons, List.map_nil, List.sum_cons, List.sum_nil, Int.add_zero]
 by_cases c : t.1 = r
 ·rw [if_pos c.symm, if_pos c]
  grind
 ·rw [if_neg (Ne.symm c), if_neg c]
  grind
theorem lin_get {r : List Int} : ∀ {vs : List Tm}, (vs.map (·.1)).Nodup → lin (fun k => if k = r then 1 else 0) vs = getM vs r
 | [], _ => rfl
 | t :: vs, nd => by
  rw [List.map_cons, List.nodup_cons] at nd
  rw [lin_cons, getM_cons, lin_get nd.2]
  by_cases c : t.1 = r
  ·rw [if_pos c, if_pos c, getM_none (c ▸ nd.1)]
   omega
  ·rw [if_neg c, if_neg c]
   omega
theorem addD_keys {f : Int} {us vs : List Tm} : ∀ k ∈ (addD f us vs).map (·.1), k ∈ us.map (·.1) ∨ k ∈ vs.map (·.1) := by
 refine snoc_ind (P := fun vs => ∀ k ∈ (addD f us vs).map (·.1), k ∈ us.map (·.1) ∨ k ∈ vs.map (·.1)) (fun k h => .inl h) (fun vs t ih k hk => ?_) vs
 rw [addD_snoc, keys_add] at hk
 rw [List.map_append, List.mem_append]
 have hk : k ∈ (addD f us vs).map (·.1) ∨ k = t.1 := by
  split at hk
  ·exact .inl hk
  ·rcases List.mem_append.mp hk with hk | hk
   ·exact .inl hk
   ·exact .inr (List.mem_singleton.mp hk)
 rcases hk with hk | hk
 ·rcases ih k hk with h | h
  ·exact .inl h
  ·exact .inr (.inl h)
 ·exact .inr (.inr (by simp [hk]))
def Ls (L : Nat) (us : List Tm) : Prop := us.length ≤ 400 ∧ (us.map (·.1)).Pairwise (· < ·) ∧ ∀ t ∈ us, t.1.length = L ∧ t.2 ≠ 0 ∧ Sm 101 t.2
theorem Ls.nil (L : Nat) : Ls L [] := ⟨by simp, .nil, fun _ h => (nomatch h)⟩
theorem addD_L {L : Nat} {f : Int} {us vs : List Tm} (hu : Ls L us) (hv : Ls L vs) : ∀ t ∈ addD f us vs, t.1.length = L := fun t ht => by
 rcases addD_keys t.1 (List.mem_map.mpr ⟨t, ht, rfl⟩) with h | h
 ·obtain ⟨u, h1, h2⟩ := List.mem_map.mp h; rw [← h2]; exact (hu.2.2 u h1).1
 ·obtain ⟨u, h1, h2⟩ := List.mem_map.mp h; rw [← h2]; exact (hv.2.2 u h1).1
def OrdY (c0 : MSp) : Prop := ∀ {h : Gh} {n : Nat} {ts : List Tm} {Q : WK} {E : XWK}, h.c n = some (.dtt (kvW ts)) → ts.length ≤ 1000 → SortG (ts.map (·.1)) → (∀ ks : List (List Int), ks.Perm (ts.map (·.1)) → ks.Pairwise (· < ·) → Q (smW (ordT ts ks)) h) → c0 [.loc n] h Q E
theorem w_orderedY : OrdY r_l_ordered := by
 intro h n ts Q E ec hz hs q
 unfold r_l_ordered
 refine mFn_v rfl (σ := [some (.loc n)]) rfl (mRet_s (mCB_s (mCons_s (lc_ord rfl ec hz hs fun ks pk sk => mNil_s (rt_s (q ks pk sk))))))
theorem OrdY.x {c0 : MSp} (h : OrdY c0) : OrdX c0 := fun e z s q => h e (by omega) s q
def SotX (c0 : MSp) : Prop := ∀ {h : Gh} {n : Nat} {ts : List Tm} {Q : WK} {E : XWK}, h.c n = some (.dtt (kvW ts)) → ts.length ≤ 1000 → SortG (ts.map (·.1)) → (∀ ks : List (List Int), ks.Perm (ts.map (·.1)) → ks.Pairwise (· < ·) → ((ordT ts ks).length ≤ 600 → Q (smW (ordT ts ks)) h) ∧ (600 < (ordT ts ks).length → E ⟨"TooMuch", []⟩ h)) → c0 [.loc n] h Q E
theorem w_sotX : SotX r_sum_of_totals := by
 intro h n ts Q E ec hz hs q
 unfold r_sum_of_totals
 refine mFn_v rfl (σ := [some (.loc n), none]) rfl (mSeq_s (mAsg_s (mCB_s (mCons_s (lc_ord rfl ec hz hs fun ks pk sk => mNil_s (kTuple_l ?_))))))
 obtain ⟨q1, q2⟩ := q ks pk sk
 refine nName_v (σ' := [some (.loc n), some (smW (ordT ts ks))]) rfl (nx_s (mSeq_s (mIfS_s (mTest_s (mOp_s (mCB_s (mCons_s (mVar_s rfl (mNil_s (kLen_s (xs := (ordT ts ks).map tmW) rfl ?_))))))))))
 rw [List.length_map]
 refine mC_s (kGt_s (tK_s (br_d (fun c => mRaise_s (q2 (by omega))) fun c => mNext_s (nx_s ?_))))
 unfold t_sum_of_totals_2
 exact mRet_s (mVar_s rfl (rt_s (q1 (by omega))))
def AddS (f : Int) (us vs rs : List Tm) : Prop := ∃ ks : List (List Int), ks.Perm ((addD f us vs).map (·.1)) ∧ ks.Pairwise (· < ·) ∧ rs = ordT (addD f us vs) ks
theorem AddS.uniq {f : Int} {us vs rs qs : List Tm} : AddS f us vs rs → AddS f us vs qs → rs = qs := fun ⟨ks, p, s, e⟩ ⟨js, p', s', e'⟩ => by rw [e, e', srt_uniq (p.trans p'.symm) s s']
theorem AddS.keys {L : Nat} {f : Int} {us vs rs : List Tm} (hu : Ls L us) (hv : Ls L vs) (a : AddS f us vs rs) : (∀ t ∈ rs, t.1.length = L) ∧ rs.length ≤ us.length + vs.length := by
 obtain ⟨ks, pk, sk, rfl⟩ := a
 refine ⟨fun t ht => addD_L hu hv t (ord_in (addD_nd (srt_nodup hu.2.1)) (fun k hk => pk.mem_iff.mp hk) ht).1, ?_⟩
 have lo := ord_len (addD f us vs) ks
 rw [pk.length_eq, List.length_map] at lo
 exact Nat.le_trans lo (addD_len f us vs)
def WtX (c0 : MSp) : Prop := ∀ {h : Gh} {us vs : List Tm} {f : Int} {L : Nat} {Q : WK} {E : XWK}, Ls L us → Ls L vs → Sm 64 f → (∀ rs, AddS f us vs rs → (rs.length ≤ 600 → Q (smW rs) h) ∧ (600 < rs.length → ∀ h' : Gh, E ⟨"TooMuch", []⟩ h')) → c0 [smW us, smW vs, .int f] h Q E
theorem for_tup {ws : List W} {i : Nat} {g : MG} {b : MS} {D : MEnds} {σ : Sw} {h : Gh} (hv : σ[i]? = some (some (.tup ws))) (x : mForL ⟨ws, none⟩ g b D ws σ h) : mFor (nIt (mVar i)) g b D σ h := mFor_s (nIt_s (mVar_s hv (iK_s rfl (forK_s x))))
theorem take_addD {f : Int} {us vs : List Tm} {i : Nat} {t : Tm} (e : vs[i]? = some t) : addD f us (vs.take (i + 1)) = addM (addD f us (vs.take i)) t.1 (f * t.2) := by
 rw [List.take_succ, e]
 exact addD_snoc ..
set_option maxHeartbeats 1000000 in
theorem w_wt {so : MSp} (hso : SotX so) : WtX (r_with_times so) := by
 intro h us vs f L Q E hu hv sf q
 have lu := hu.1
 have lv := hv.1
 unfold r_with_times
 refine mFnT_v rfl (σ := [some (smW us), some (smW vs), some (.int f), none, none, none]) rfl (mSeq_s (mAsg_s (mCB_s (mCons_s (mVar_s rfl (mNil_s (dict_s (srt_nodup hu.2.1) fun g eg og xg => ?_)))))))
 refine nName_v (σ' := [some (smW us), some (smW vs), some (.int f), some (.loc h.nx), none, none]) rfl (nx_s (mSeq_s ?_))
 refine for_tup (ws := vs.map tmW) rfl ?_
 refine for_inv (fun i σ h' => ∃ s4 s5 : Option W, σ = [some (smW us), some (smW vs), some (.int f), some (.loc h.nx), s4, s5] ∧ h'.c h.nx = some (.dtt (kvW (addD f us (vs.take i)))) ∧ ∀ n, n ≠ h.nx → h'.c n = h.c n) ?_ ?_ ⟨none, none, rfl, eg, og⟩
 ·rintro i w σ h' N hN e ⟨s4, s5, rfl, e2, o2⟩
  rw [List.getElem?_map] at e
  cases qe : vs[i]? with
  | none => rw [qe] at e; cases e
  | some t =>
   rw [qe] at e
   cases e
   have ld := addD_len f us (vs.take i)
   rw [List.length_take] at ld
   refine nTup2_s rfl rfl (nCons_s (nName_v (σ' := [some (smW us), some (smW vs), some (.int f), some (.loc h.nx), some (.tup (t.1.map .int)), s5]) rfl (nCons_s (nName_v (σ' := [some (smW us), some (smW vs), some (.int f), some (.loc h.nx), some (.tup (t.1.map .int)), some (.int t.2)]) rfl (nNil_s ?_)))))
   refine mAsg_s (mOp_s (mBMd_s (mVar_s rfl (isDtt_c e2 (mCons_s (mVar_s rfl (mCons_s (mC_s (mNil_s (get_g e2 ?_))))))))))
   refine mOp_s (mVar_s rfl (mVar_s rfl (kMul_s (.of sf (hv.2.2 t (List.mem_of_getElem? qe)).2.2 (by decide) (by decide)) (kAddA_s (nSub_s (mVar_s rfl (mVar_s rfl ?_)))))))
   refine setT_g e2 (by omega) fun g2 a1 a2 a3 => nx_s (hN _ _ ⟨_, _, rfl, ?_, fun n hn => by rw [a2 n hn]; exact o2 n hn⟩)
   rw [take_addD qe]
   exact a1
 ·rintro σ h' ⟨s4, s5, rfl, e2, o2⟩
  rw [List.length_map, List.take_length] at e2
  unfold t_with_times_2
  refine nx_s (mRet_s (mCall_s (mCons_s (mVar_s rfl (mNil_s ?_)))))
  refine hso e2 (Nat.le_trans (addD_len f us vs) (by omega)) (len_sort (L := L) (addD_nd (srt_nodup hu.2.1)) (addD_L hu hv)) fun ks pk sk => ?_
  obtain ⟨q1, q2⟩ := q _ ⟨ks, pk, sk, rfl⟩
  exact ⟨fun l => exit_t (fun n hn => o2 n (by omega)) (q1 l), fun l => q2 l h'⟩
def PlX (f : Int) (c0 : MSp) : Prop := ∀ {h : Gh} {us vs : List Tm} {L : Nat} {Q : WK} {E : XWK}, Ls L us → Ls L vs → (∀ rs, AddS f us vs rs → (rs.length ≤ 600 → Q (smW rs) h) ∧ (600 < rs.length → ∀ h' : Gh, E ⟨"TooMuch", []⟩ h')) → c0 [smW us, smW vs] h Q E
theorem w_plus {wt : MSp} (hwt : WtX wt) : PlX 1 (r_plus wt) := by
 intro h us vs L Q E hu hv q
 unfold r_plus
 exact mFn_v rfl (σ := [some (smW us), some (smW vs)]) rfl (mRet_s (mCall_s (mCons_s (mVar_s rfl (mCons_s (mVar_s rfl (mCons_s (mC_s (mNil_s (hwt hu hv (.lit rfl) q)))))))))) 
theorem w_minus {wt : MSp} (hwt : WtX wt) : PlX (-1) (r_minus wt) := by
 intro h us vs L Q E hu hv q
 unfold r_minus
 exact mFn_v rfl (σ := [some (smW us), some (smW vs)]) rfl (mRet_s (mCall_s (mCons_s (mVar_s rfl (mCons_s (mVar_s rfl (mCons_s (mUn_s (mC_s (mNeg_s (mNil_s (hwt hu hv (.lit rfl) q)))))))))))) 
def AdX (c0 : MSp) : Prop := ∀ {h : Gh} {us vs : List Tm} {f : Int} {L : Nat} {Q : WK} {E : XWK}, Ls L us → Ls L vs → Sm 64 f → (∀ rs, AddS f us vs rs → Q (smW rs) h) → c0 [smW us, smW vs, .int f] h Q E
set_option maxHeartbeats 1000000 in
theorem w_added {od : MSp} (hod : OrdY od) : AdX (r_l_added od) := by
 intro h us vs f L Q E hu hv sf q
 have lu := hu.1
 have lv := hv.1
 unfold r_l_added
 refine mFnT_v rfl (σ := [some (smW us), some (smW vs), some (.int f), none, none, none]) rfl (mSeq_s (mAsg_s (mCB_s (mCons_s (mVar_s rfl (mNil_s (dict_s (srt_nodup hu.2.1) fun g eg og xg => ?_)))))))
 refine nName_v (σ' := [some (smW us), some (smW vs), some (.int f), some (.loc h.nx), none, none]) rfl (nx_s (mSeq_s ?_))
 refine for_tup (ws := vs.map tmW) rfl ?_
 refine for_inv (fun i σ h' => ∃ s4 s5 : Option W, σ = [some (smW us), some (smW vs), some (.int f), some (.loc h.nx), s4, s5] ∧ h'.c h.nx = some (.dtt (kvW (addD f us (vs.take i)))) ∧ ∀ n, n ≠ h.nx → h'.c n = h.c n) ?_ ?_ ⟨none, none, rfl, eg, og⟩
 ·rintro i w σ h' N hN e ⟨s4, s5, rfl, e2, o2⟩
  rw [List.getElem?_map] at e
  cases qe : vs[i]? with
  | none => rw [qe] at e; cases e
  | some t =>
   rw [qe] at e
   cases e
   have ld := addD_len f us (vs.take i)
   rw [List.length_take] at ld
   refine nTup2_s rfl rfl (nCons_s (nName_v (σ' := [some (smW us), some (smW vs), some (.int f), some (.loc h.nx), some (.tup (t.1.map .int)), s5]) rfl (nCons_s (nName_v (σ' := [some (smW us), some (smW vs), some (.int f), some (.loc h.nx), some (.tup (t.1.map .int)), some (.int t.2)]) rfl (nNil_s ?_)))))
   refine mAsg_s (mOp_s (mBMd_s (mVar_s rfl (isDtt_c e2 (mCons_s (mVar_s rfl (mCons_s (mC_s (mNil_s (get_g e2 ?_))))))))))
   refine mOp_s (mVar_s rfl (mVar_s rfl (kMul_s (.of sf (hv.2.2 t (List.mem_of_getElem? qe)).2.2 (by decide) (by decide)) (kAddA_s (nSub_s (mVar_s rfl (mVar_s rfl ?_)))))))
   refine setT_g e2 (by omega) fun g2 a1 a2 a3 => nx_s (hN _ _ ⟨_, _, rfl, ?_, fun n hn => by rw [a2 n hn]; exact o2 n hn⟩)
   rw [take_addD qe]
   exact a1
 ·rintro σ h' ⟨s4, s5, rfl, e2, o2⟩
  rw [List.length_map, List.take_length] at e2
  unfold t_l_added_2
  refine nx_s (mRet_s (mCall_s (mCons_s (mVar_s rfl (mNil_s ?_)))))
  exact hod e2 (Nat.le_trans (addD_len f us vs) (by omega)) (len_sort (L := L) (addD_nd (srt_nodup hu.2.1)) (addD_L hu hv)) fun ks pk sk => exit_t (fun n hn => o2 n (by omega)) (q _ ⟨ks, pk, sk, rfl⟩)
def RfX (c0 : MSp) : Prop := ∀ {h : Gh} {us vs rs : List Tm} {way : Nat} {L : Nat} {Q : WK} {E : XWK}, Ls L us → Ls L vs → way < 2 → AddS (1 - 2 * (way : Int)) us vs rs → 600 < rs.length → (∀ h', Q (.bl true) h') → c0 [smW us, smW vs, .int (way : Int)] h Q E
theorem w_refused {pl mi : MSp} (hpl : PlX 1 pl) (hmi : PlX (-1) mi) : RfX (r_l_refused pl mi) := by
 intro h us vs rs way L Q E hu hv hw a hl q
 unfold r_l_refused
 refine mFn_v rfl (σ := [some (smW us), some (smW vs), some (.int (way : Int)), none, none]) rfl (mSeq_s (mTry_s ?_))
 match way, hw with
 | 0, _ =>
  refine mIfS_s (mTest_s (mOp_s (mVar_s rfl (mC_s (kEq_i (tK_s (br_t rfl ?_)))))))
  refine mDrop_s (mCall_s (mCons_s (mVar_s rfl (mCons_s (mVar_s rfl (mNil_s ?_))))))
  refine hpl hu hv fun qs b => ?_
  rw [show (1 : Int) - 2 * ((0 : Nat) : Int) = 1 from rfl] at a
  rw [b.uniq a]
  exact ⟨fun l => absurd l (by omega), fun _ h' => by
   rfl'
   exact q h'⟩
 | 1, _ =>
  refine mIfS_s (mTest_s (mOp_s (mVar_s rfl (mC_s (kEq_i (tK_s (br_f rfl ?_)))))))
  refine mDrop_s (mCall_s (mCons_s (mVar_s rfl (mCons_s (mVar_s rfl (mNil_s ?_))))))
  refine hmi hu hv fun qs b => ?_
  rw [show (1 : Int) - 2 * ((1 : Nat) : Int) = -1 from rfl] at a
  rw [b.uniq a]
  exact ⟨fun l => absurd l (by omega), fun _ h' => by
   rfl'
   exact q h'⟩

def lk (F L k : Nat) : List Int := [(F : Int) + ((k / 50 : Nat) : Int), ((k % 50 : Nat) : Int)] ++ List.replicate (L - 2) 7
def lT (F L i : Nat) : List Tm := (List.range i).map fun k => (lk F L k, 1 + (k : Int).fmod 9)
theorem lk_inj {F L j k : Nat} (h : lk F L j = lk F L k) : j = k := by
 unfold lk at h
 simp only [List.cons_append, List.nil_append, List.cons.injEq] at h
 omega
theorem lT_put (F L i : Nat) : putM (lT F L i) (lk F L i) (1 + (i : Int).fmod 9) = lT F L (i + 1) := by
 rw [putM_out]
 ·unfold lT
  rw [List.range_succ, List.map_append]
  rfl
 ·intro h
  obtain ⟨t, ht, e⟩ := List.mem_map.mp h
  obtain ⟨k, hk, rfl⟩ := List.mem_map.mp ht
  have := lk_inj e
  have := List.mem_range.mp hk
  omega
theorem flat_rep (c : Int) : ∀ k : Nat, (List.replicate k [W.int c]).flatten = (List.replicate k c).map .int
 | 0 => rfl
 | k + 1 => by rw [List.replicate_succ, List.replicate_succ, List.flatten_cons, flat_rep c k]; rfl
theorem rep_s {c : Int} {L : Nat} {h : Gh} {Q : WK} (hL : L ≤ 8) (q : Q (.tup ((List.replicate L c).map .int)) h) : kMulA (.tup [.int c]) (.int (L : Int)) h Q := by
 have eL : (L : Int).toNat = L := by omega
 refine ⟨⟨by omega, by omega, by rw [eL]; simp; omega⟩, ?_⟩
 rw [eL, flat_rep]
 exact q
def LonX (c0 : MSp) : Prop := ∀ {h : Gh} {us : List Tm} {L m F : Nat} {Q : WK} {E : XWK}, Ls L us → us.length ≤ 60 → 2 ≤ L → L ≤ 8 → m ≤ 330 → F ≤ 10 → (∀ rs, Ls L rs → rs.length ≤ us.length + m → (us = [] → rs.length = m ∧ ∀ t ∈ rs, ∃ k, k < m ∧ t.1 = lk F L k) → Q (smW rs) h) → c0 [smW us, .int (L : Int), .int (m : Int), .int (F : Int)] h Q E
theorem w_longer {od : MSp} (hod : OrdY od) : LonX (r_l_longer od) := by
 intro h us L m F Q E hu lu hL2 hL hm hF q
 unfold r_l_longer
 refine mFnT_v rfl (σ := [some (smW us), some (.int (L : Int)), some (.int (m : Int)), some (.int (F : Int)), none, none]) rfl (mSeq_s (mAsg_s (mCB_s (mCons_s (mVar_s rfl (mNil_s (dict_s (srt_nodup hu.2.1) fun g eg og xg => ?_)))))))
 refine nName_v (σ' := [some (smW us), some (.int (L : Int)), some (.int (m : Int)), some (.int (F : Int)), some (.loc h.nx), none]) rfl (nx_s (mSeq_s ?_))
 refine for_rng (j := (m : Int)) (fun _ => rfl) (by omega) (by omega) (fun i σ h' => ∃ (ts : List Tm) (s5 : Option W), σ = [some (smW us), some (.int (L : Int)), some (.int (m : Int)), some (.int (F : Int)), some (.loc h.nx), s5] ∧ h'.c h.nx = some (.dtt (kvW ts)) ∧ ts.length ≤ us.length + i ∧ (ts.map (·.1)).Nodup ∧ (∀ t ∈ ts, t.1.length = L ∧ t.2 ≠ 0 ∧ Sm 101 t.2) ∧ (us = [] → ts = lT F L i) ∧ i ≤ m ∧ ∀ n, n ≠ h.nx → h'.c n = h.c n) ?_ ?_ ⟨us, none, rfl, eg, Nat.le_refl _, srt_nodup hu.2.1, hu.2.2, fun e => by rw [e]; rfl, Nat.zero_le _, og⟩
 ·rintro i σ h' N hN hi ⟨ts, s5, rfl, a1, a2, a3, a4, a5, a7, a6⟩
  have hi : i < m := by omega
  refine nName_v (σ' := [some (smW us), some (.int (L : Int)), some (.int (m : Int)), some (.int (F : Int)), some (.loc h.nx), some (.int (i : Int))]) rfl ?_
  refine mAsg_s (mOp_s (mC_s (mOp_s (mVar_s rfl (mC_s (kMod_s (by decide) (kAddA_s (nSub_s (mVar_s rfl (mOp_s ?_))))))))))
  refine mTup_s (mCons_s (mOp_s (mVar_s rfl (mOp_s (mVar_s rfl (mC_s (kDiv_s ⟨by decide, 64, by decide, .lit rfl⟩ (kAddA_s ?_))))))))
  refine mCons_s (mOp_s (mVar_s rfl (mC_s (kMod_s (by decide) (mNil_s (szOk_s rfl ?_))))))
  refine mOp_s (mTup_s (mCons_s (mC_s (mNil_s (szOk_s rfl (mOp_s (mVar_s rfl (mC_s (kSub_s ?_)))))))))
  have eL : (L : Int) - 2 = ((L - 2 : Nat) : Int) := by omega
  rw [eL]
  refine rep_s (by omega) (add_tt (by simp; omega) ?_)
  obtain ⟨v0, v1⟩ := emod_bd (i : Int) (b := 9) (by decide)
  have f1 : (i : Int).fdiv 50 = ((i / 50 : Nat) : Int) := by rw [Int.fdiv_eq_ediv_of_nonneg _ (by decide)]; omega
  have f2 : (i : Int).fmod 50 = ((i % 50 : Nat) : Int) := by rw [fmod_pos (by decide)]; omega
  have ek : ([W.int ((F : Int) + (i : Int).fdiv 50), W.int ((i : Int).fmod 50)] : List W) ++ (List.replicate (L - 2) (7 : Int)).map .int = (lk F L i).map .int := by
   rw [f1, f2]
   rfl
  rw [ek]
  refine setT_g a1 (by omega) fun g2 b1 b2 b3 => nx_s (hN _ _ ⟨putM ts (lk F L i) (1 + (i : Int).fmod 9), _, rfl, b1, Nat.le_trans (put_len ..) (by omega), put_keys _ _ _ a3, fun t ht => ?_, fun e => by rw [a5 e]; exact lT_put F L i, by omega, fun n hn => by rw [b2 n hn]; exact a6 n hn⟩)
  rcases put_in ht with ht | ht
  ·exact a4 t ht
  ·rw [ht]
   exact ⟨by unfold lk; simp; omega, by dsimp only; omega, (sm_of (n := 20) (by dsimp only; omega) (by dsimp only; omega)).mono (by decide)⟩
 ·rintro σ h' ⟨ts, s5, rfl, a1, a2, a3, a4, a5, a7, a6⟩
  have e : (m : Int).toNat = m := by omega
  rw [e] at a2 a5
  unfold t_l_longer_2
  refine nx_s (mRet_s (mCall_s (mCons_s (mVar_s rfl (mNil_s ?_)))))
  refine hod a1 (by omega) (len_sort (L := L) a3 fun t ht => (a4 t ht).1) fun ks pk sk => exit_t (fun n hn => a6 n (by omega)) ?_
  have hin := fun u hu => ord_in (u := u) a3 (fun k hk => pk.mem_iff.mp hk) hu
  have lo := ord_len ts ks
  rw [pk.length_eq, List.length_map] at lo
  refine q _ ⟨by omega, ord_srt sk, fun t ht => a4 t (hin t ht).1⟩ (by omega) fun e0 => ?_
  have all : ordT ts ks = ks.map fun k => (k, getM ts k) := by
   unfold ordT
   refine List.filter_eq_self.mpr fun t ht => ?_
   obtain ⟨k, hk, rfl⟩ := List.mem_map.mp ht
   obtain ⟨u, hu2, e3⟩ := List.mem_map.mp (pk.mem_iff.mp hk)
   have := (a4 u hu2).2.1
   rw [← getM_mem a3 hu2, e3] at this
   simpa using this
  refine ⟨by rw [all, List.length_map, pk.length_eq, List.length_map, a5 e0]; unfold lT; simp, fun t ht => ?_⟩
  have h1 := (hin t ht).1
  rw [a5 e0] at h1
  obtain ⟨k, hk, rfl⟩ := List.mem_map.mp h1
  exact ⟨k, List.mem_range.mp hk, rfl⟩
def TwX (c0 : MSp) : Prop := ∀ {h : Gh} {ns : List Int} {L : Nat} {Q : WK} {E : XWK}, L ≤ 8 → (∀ us vs h', Ls L us → Ls L vs → us.length ≤ 390 → vs.length ≤ 390 → Q (.tup [smW us, smW vs]) h') → c0 [.kls (ns.map .int), .int (L : Int)] h Q E
theorem kIx260 {x : Int} {h : Gh} {Q : WK} (q : ∀ m : Nat, m ≤ 60 → Q (.int (m : Int)) h) : kIx (.lst [.int 2, .int 60]) (.int (x.fmod 2)) h Q := by
 have c3 := emod_bd x (b := 2) (by decide)
 have : x.fmod 2 = 0 ∨ x.fmod 2 = 1 := by omega
 rcases this with e | e <;> rw [e]
 ·exact kIx_s rfl rfl (q 2 (by decide))
 ·exact kIx_s rfl rfl (q 60 (by decide))
theorem kIxS {n w : Int} {h : Gh} {Q : WK} (h0 : 2 ≤ w) (h1 : w < 4) (q : ∀ z : Int, z = n ∨ z = 0 - n → Q (.int z) h) : kIx (.lst [.int n, .int (0 - n)]) (.int (w - 2)) h Q := by
 have : w - 2 = 0 ∨ w - 2 = 1 := by omega
 rcases this with e | e <;> rw [e]
 ·exact kIx_s rfl rfl (q _ (.inl rfl))
 ·exact kIx_s rfl rfl (q _ (.inr rfl))
theorem sm_neg {m : Nat} {n : Int} (h : Sm m n) : Sm m (0 - n) := by
 unfold Sm at *
 rw [Int.zero_sub, Int.natAbs_neg]
 exact h
theorem w_tw52 {ce od su lo : MSp} (hce : CellOk2 ce) (hod : OrdY od) (hsu : SumX su) (hlo : LonX lo) : TwX (r_l_two ce od su lo) := by
 intro h ns L Q E hL q
 unfold r_l_two
 refine mFnT_v rfl (σ := [some (.kls (ns.map .int)), some (.int (L : Int)), none, none, none, none, none, none, none]) rfl ?_
 refine mSeq_s (mAsg_s (mOp_s (mLst_s (mCons_s (mC_s (mCons_s (mC_s (mNil_s (szOk_s rfl ?_)))))))))
 refine mOp_s (mOp_s (mCall_s (mCons_s (mVar_s rfl (mCons_s (mC_s (mNil_s (hce (by decide) ?_))))))))
 refine mC_s (kDiv_s ⟨by decide, 64, by decide, .lit rfl⟩ (mC_s (kMod_s (by decide) (kIx260 fun mo hmo => ?_))))
 refine nName_v (σ' := [some (.kls (ns.map .int)), some (.int (L : Int)), some (.int (mo : Int)), none, none, none, none, none, none]) rfl (nx_s (mSeq_s (mAsg_s (mCall_s (mCons_s (mVar_s rfl (mCons_s (mC_s (mCons_s (mVar_s rfl (mCons_s (mOp_s ?_))))))))))))
 refine mCall_s (mCons_s (mVar_s rfl (mCons_s (mC_s (mNil_s (hce (by decide) (mC_s (kMod_s (by decide) (mCons_s (mVar_s rfl (mNil_s ?_)))))))))))
 obtain ⟨d0, d1⟩ := emod_bd (ns.getD (1 : Int).toNat 0) (b := 13) (by decide)
 obtain ⟨m, em⟩ := Int.eq_ofNat_of_zero_le d0
 rw [em] at d1 ⊢
 refine hsu (by decide) (by decide) hL (by omega) hmo fun us h1 wf lu su1 _ g1 => ?_
 have Lu : Ls L us := ⟨by omega, su1, fun t ht => ⟨(wf t ht).1, (wf t ht).2.1, (wf t ht).2.2.1⟩⟩
 refine nName_v (σ' := [some (.kls (ns.map .int)), some (.int (L : Int)), some (.int (mo : Int)), some (smW us), none, none, none, none, none]) rfl (nx_s (mSeq_s (mAsg_s (mCall_s (mCons_s (mVar_s rfl (mCons_s (mC_s (mCons_s (mVar_s rfl (mCons_s (mOp_s ?_))))))))))))
 refine mCall_s (mCons_s (mVar_s rfl (mCons_s (mC_s (mNil_s (hce (by decide) (mC_s (kMod_s (by decide) (mCons_s (mVar_s rfl (mNil_s ?_)))))))))))
 obtain ⟨e0, e1⟩ := emod_bd (ns.getD (2 : Int).toNat 0) (b := 13) (by decide)
 obtain ⟨m2, em2⟩ := Int.eq_ofNat_of_zero_le e0
 rw [em2] at e1 ⊢
 refine hsu (by decide) (by decide) hL (by omega) hmo fun vs h2 wf2 lv su2 _ g2 => ?_
 have Lv : Ls L vs := ⟨by omega, su2, fun t ht => ⟨(wf2 t ht).1, (wf2 t ht).2.1, (wf2 t ht).2.2.1⟩⟩
 refine nName_v (σ' := [some (.kls (ns.map .int)), some (.int (L : Int)), some (.int (mo : Int)), some (smW us), some (smW vs), none, none, none, none]) rfl (nx_s (mSeq_s (mAsg_s (mOp_s (mOp_s ?_)))))
 refine mCall_s (mCons_s (mVar_s rfl (mCons_s (mC_s (mNil_s (hce (by decide) ?_))))))
 refine mC_s (kDiv_s ⟨by decide, 64, by decide, .lit rfl⟩ (mC_s (kMod_s (by decide) ?_)))
 obtain ⟨w0, w1⟩ := emod_bd ((ns.getD (2 : Int).toNat 0).fdiv 13) (b := 4) (by decide)
 generalize ((ns.getD (2 : Int).toNat 0).fdiv 13).fmod 4 = way at w0 w1
 refine nName_v (σ' := [some (.kls (ns.map .int)), some (.int (L : Int)), some (.int (mo : Int)), some (smW us), some (smW vs), some (.int way), none, none, none]) rfl (nx_s ?_)
 have g12 := g1.trans g2
 have t5 : ∀ {vs : List Tm} {s6 s7 s8 : Option W} {h' : Gh}, Ls L vs → vs.length ≤ 30 → Ge h h' → t_l_two_5 ce od su lo E { nx := fun _ h' => exitW true h .non h' Q, rt := fun w h' => exitW true h w h' Q } [some (.kls (ns.map .int)), some (.int (L : Int)), some (.int (mo : Int)), some (smW us), some (smW vs), some (.int way), s6, s7, s8] h' := fun {vs s6 s7 s8 h'} Lv lv g => by
  have fin : ∀ (as bs : List Tm) (h3 : Gh), Ls L as → Ls L bs → as.length ≤ 390 → bs.length ≤ 390 → Ge h h3 → t_l_two_6 ce od su lo E { nx := fun _ h' => exitW true h .non h' Q, rt := fun w h' => exitW true h w h' Q } [some (.kls (ns.map .int)), some (.int (L : Int)), some (.int (mo : Int)), some (smW as), some (smW bs), some (.int way), s6, s7, s8] h3 := fun as bs h3 La Lb la lb g3 => by
   unfold t_l_two_6
   refine mRet_s (mTup_s (mCons_s (mVar_s rfl (mCons_s (mVar_s rfl (mNil_s (szOk_s rfl ?_)))))))
   refine ⟨fun n c hn ec => by rw [g3.2 n hn]; exact ec, .inl ⟨?_, q as bs h La Lb la lb⟩⟩
   simp only [Lo, Los]
   exact ⟨lo_sm _ _, lo_sm _ _, trivial⟩
  unfold t_l_two_5
  refine mSeq_s (mIfS_s (mAnd_s (mTest_s (mOp_s (mVar_s rfl (mC_s (kGt_s (tK_s ?_))))))))
  refine br_d (fun c => ?_) fun _ => br_fs (mNext_s (nx_s (fin us vs h' Lu Lv (by omega) (by omega) g)))
  refine mTest_s (mOp_s (mOp_s (mCall_s (mCons_s (mVar_s rfl (mCons_s (mC_s (mNil_s (hce (by decide) ?_)))))))))
  refine mC_s (kMod_s (by decide) (mC_s (kEq_i (tK_s ?_))))
  refine br_d (fun _ => ?_) fun _ => mNext_s (nx_s (fin us vs h' Lu Lv (by omega) (by omega) g))
  refine mSeq_s (mAsg_s (mCall_s (mCons_s (mVar_s rfl (mCons_s (mVar_s rfl (mCons_s (mOp_s (mC_s (mOp_s (mOp_s ?_))))))))))) 
  refine mCall_s (mCons_s (mVar_s rfl (mCons_s (mC_s (mNil_s (hce (by decide) ?_))))))
  refine mC_s (kDiv_s ⟨by decide, 64, by decide, .lit rfl⟩ (mC_s (kMod_s (by decide) (kAddA_s (mCons_s (mC_s (mNil_s ?_)))))))
  obtain ⟨x0, x1⟩ := emod_bd ((ns.getD (3 : Int).toNat 0).fdiv 6) (b := 41) (by decide)
  obtain ⟨y, ey⟩ := Int.eq_ofNat_of_zero_le x0
  rw [ey] at x1 ⊢
  have e280 : (280 : Int) + (y : Int) = ((280 + y : Nat) : Int) := by omega
  rw [e280]
  refine hlo (F := 0) Lu (by omega) (by omega) hL (by omega) (by decide) fun as La la _ => ?_
  refine nName_v (σ' := [some (.kls (ns.map .int)), some (.int (L : Int)), some (.int (mo : Int)), some (smW as), some (smW vs), some (.int way), s6, s7, s8]) rfl (nx_s (mAsg_s (mCall_s (mCons_s (mVar_s rfl (mCons_s (mVar_s rfl (mCons_s (mOp_s (mC_s (mOp_s (mOp_s ?_)))))))))))) 
  refine mCall_s (mCons_s (mVar_s rfl (mCons_s (mC_s (mNil_s (hce (by decide) ?_))))))
  refine mC_s (kDiv_s ⟨by decide, 64, by decide, .lit rfl⟩ (mC_s (kMod_s (by decide) (kAddA_s (mCons_s (mC_s (mNil_s ?_)))))))
  obtain ⟨x2, x3⟩ := emod_bd ((ns.getD (3 : Int).toNat 0).fdiv 246) (b := 41) (by decide)
  obtain ⟨z, ez⟩ := Int.eq_ofNat_of_zero_le x2
  rw [ez] at x3 ⊢
  have e281 : (280 : Int) + (z : Int) = ((280 + z : Nat) : Int) := by omega
  rw [e281]
  refine hlo (F := 10) Lv (by omega) (by omega) hL (by omega) (by decide) fun bs Lb lb _ => ?_
  exact nName_v (σ' := [some (.kls (ns.map .int)), some (.int (L : Int)), some (.int (mo : Int)), some (smW as), some (smW bs), some (.int way), s6, s7, s8]) rfl (nx_s (fin as bs h' La Lb (by omega) (by omega) g))
 refine mSeq_s (mIfS_s (mTest_s (mOp_s (mVar_s rfl (mC_s (kGt_s (tK_s ?_)))))))
 refine br_d (fun c => ?_) fun _ => mNext_s (nx_s (t5 Lv (by omega) g12))
 refine mSeq_s (mAsg_s (mCB_s (mCons_s (mVar_s rfl (mNil_s (dict_s (srt_nodup Lv.2.1) fun g eg og xg => ?_))))))
 refine nName_v (σ' := [some (.kls (ns.map .int)), some (.int (L : Int)), some (.int (mo : Int)), some (smW us), some (smW vs), some (.int way), some (.loc h2.nx), none, none]) rfl (nx_s (mSeq_s ?_))
 refine mFor_s (nIt_s (mSl_s (mVar_s rfl (mNoPart_s (mPart_s (mOp_s (mC_s (mOp_s (mOp_s ?_)))))))))
 refine mCall_s (mCons_s (mVar_s rfl (mCons_s (mC_s (mNil_s (hce (by decide) ?_))))))
 refine mC_s (kDiv_s ⟨by decide, 64, by decide, .lit rfl⟩ (mC_s (kMod_s (by decide) (kAddA_s (pK_s (kSl2_t ?_))))))
 obtain ⟨x0, x1⟩ := emod_bd ((ns.getD (2 : Int).toNat 0).fdiv 52) (b := 12) (by decide)
 obtain ⟨y, ey⟩ := Int.eq_ofNat_of_zero_le x0
 rw [ey] at x1 ⊢
 have e1' : (1 : Int) + (y : Int) = ((1 + y : Nat) : Int) := by omega
 rw [e1', cut_take, ← List.map_take]
 refine iK_s (ws := (us.take (1 + y)).map tmW) (o := none) rfl (forK_s ?_)
 refine for_inv (fun i σ h' => i ≤ 13 ∧ ∃ (ts : List Tm) (s7 s8 : Option W), σ = [some (.kls (ns.map .int)), some (.int (L : Int)), some (.int (mo : Int)), some (smW us), some (smW vs), some (.int way), some (.loc h2.nx), s7, s8] ∧ h'.c h2.nx = some (.dtt (kvW ts)) ∧ ts.length ≤ vs.length + i ∧ (ts.map (·.1)).Nodup ∧ (∀ t ∈ ts, t.1.length = L ∧ t.2 ≠ 0 ∧ Sm 101 t.2) ∧ Ge h h') ?_ ?_ ⟨by decide, vs, none, none, rfl, eg, Nat.le_refl _, srt_nodup Lv.2.1, Lv.2.2, ⟨by have := g12.1; omega, fun n hn => by have := g12.1; rw [og n (by omega)]; exact g12.2 n hn⟩⟩
 ·rintro i w σ h' N hN e ⟨_, ts, s7, s8, rfl, a1, a2, a3, a4, a5⟩
  rw [List.getElem?_map] at e
  cases qe : (us.take (1 + y))[i]? with
  | none => rw [qe] at e; cases e
  | some t =>
   rw [qe] at e
   cases e
   have hi := (List.getElem?_eq_some_iff.mp qe).1
   rw [List.length_take] at hi
   have mt := Lu.2.2 t (List.mem_of_mem_take (List.mem_of_getElem? qe))
   refine nTup2_s rfl rfl (nCons_s (nName_v (σ' := [some (.kls (ns.map .int)), some (.int (L : Int)), some (.int (mo : Int)), some (smW us), some (smW vs), some (.int way), some (.loc h2.nx), some (.tup (t.1.map .int)), s8]) rfl (nCons_s (nName_v (σ' := [some (.kls (ns.map .int)), some (.int (L : Int)), some (.int (mo : Int)), some (smW us), some (smW vs), some (.int way), some (.loc h2.nx), some (.tup (t.1.map .int)), some (.int t.2)]) rfl (nNil_s ?_)))))
   refine mAsg_s (mOp_s (mLst_s (mCons_s (mVar_s rfl (mCons_s (mOp_s (mC_s (mVar_s rfl (kSub_s (mNil_s (szOk_s rfl ?_)))))))))))
   refine mOp_s (mVar_s rfl (mC_s (kSub_s (kIxS (by omega) w1 fun z hz => ?_))))
   refine nSub_s (mVar_s rfl (mVar_s rfl ?_))
   refine setT_g a1 (by omega) fun g2 b1 b2 b3 => nx_s (hN _ _ ⟨by omega, putM ts t.1 z, _, _, rfl, b1, Nat.le_trans (put_len ..) (by omega), put_keys _ _ _ a3, fun u hu => ?_, ⟨by rw [b3]; exact a5.1, fun n hn => by have := g12.1; rw [b2 n (by omega)]; exact a5.2 n hn⟩⟩)
   rcases put_in hu with hu | hu
   ·exact a4 u hu
   ·rw [hu]
    rcases hz with rfl | rfl
    ·exact mt
    ·exact ⟨mt.1, by have := mt.2.1; dsimp only; omega, sm_neg mt.2.2⟩
 ·rintro σ h' ⟨hi, ts, s7, s8, rfl, a1, a2, a3, a4, a5⟩
  rw [List.length_map, List.length_take] at a2
  refine nx_s (mAsg_s (mCall_s (mCons_s (mVar_s rfl (mNil_s ?_)))))
  refine hod a1 (by omega) (len_sort (L := L) a3 fun t ht => (a4 t ht).1) fun ks pk sk => ?_
  have hin := fun u hu => ord_in (u := u) a3 (fun k hk => pk.mem_iff.mp hk) hu
  have lo' := ord_len ts ks
  rw [pk.length_eq, List.length_map] at lo'
  exact nName_v (σ' := [some (.kls (ns.map .int)), some (.int (L : Int)), some (.int (mo : Int)), some (smW us), some (smW (ordT ts ks)), some (.int way), some (.loc h2.nx), s7, s8]) rfl (nx_s (t5 ⟨by omega, ord_srt sk, fun t ht => a4 t (hin t ht).1⟩ (by omega) a5))
def insK (a : List Int) : List (List Int) → List (List Int)
 | [] => [a]
 | b :: l => if a < b then a :: b :: l else b :: insK a l
theorem insK_perm (a : List Int) : ∀ l, (insK a l).Perm (a :: l)
 | [] => .refl _
 | b :: l => by
  unfold insK
  split
  ·exact .refl _
  ·exact (List.Perm.cons b (insK_perm a l)).trans (List.Perm.swap a b l)
theorem insK_srt {a : List Int} : ∀ {l : List (List Int)}, l.Pairwise (· < ·) → a ∉ l → (insK a l).Pairwise (· < ·)
 | [], _, _ => by simp [insK]
 | b :: l, h, n => by
  rw [List.pairwise_cons] at h
  unfold insK
  split
  ·rename_i c
   rw [List.pairwise_cons]
   refine ⟨fun x hx => ?_, List.pairwise_cons.mpr h⟩
   rcases List.mem_cons.mp hx with rfl | hx
   ·exact c
   ·exact List.lt_trans c (h.1 x hx)
  ·rename_i c
   rw [List.pairwise_cons]
   refine ⟨fun x hx => ?_, insK_srt h.2 fun m => n (List.mem_cons_of_mem _ m)⟩
   rcases List.mem_cons.mp ((insK_perm a l).mem_iff.mp hx) with rfl | hx
   ·rcases List.le_iff_lt_or_eq.mp (List.not_lt.mp c) with h | h
    ·exact h
    ·exact absurd (by rw [h]; exact List.mem_cons_self ..) n
   ·exact h.1 x hx
theorem sortK : ∀ (l : List (List Int)), l.Nodup → ∃ ks : List (List Int), ks.Perm l ∧ ks.Pairwise (· < ·)
 | [], _ => ⟨[], .refl _, .nil⟩
 | a :: l, nd => by
  rw [List.nodup_cons] at nd
  obtain ⟨ks, p, s⟩ := sortK l nd.2
  exact ⟨insK a ks, (insK_perm a ks).trans (p.cons a), insK_srt s fun m => nd.1 (p.mem_iff.mp m)⟩
def RgX (c0 : MSp) : Prop := ∀ {h : Gh} {us vs : List Tm} {L : Nat} {Q : WK} {E : XWK}, Ls L us → Ls L vs → L ≤ 8 → (∀ h', Q (.bl true) h') → c0 [smW us, smW vs] h Q E
theorem w_right {pl mi is ad rf : MSp} (hpl : PlX 1 pl) (hmi : PlX (-1) mi) (his : LIsX is) (had : AdX ad) (hrf : RfX rf) : RgX (r_l_right pl mi is ad rf) := by
 intro h us vs L Q E hu hv hL q
 have lu := hu.1
 have lv := hv.1
 unfold r_l_right
 refine mFn_v rfl (σ := [some (smW us), some (smW vs), none, none, none]) rfl (mSeq_s ?_)
 refine for_rng (j := 2) (fun _ => rfl) (by decide) (by decide) (fun i σ h' => ∃ s2 s3 s4 : Option W, σ = [some (smW us), some (smW vs), s2, s3, s4]) ?_ ?_ ⟨none, none, none, rfl⟩
 ·rintro i σ h' N hN hi ⟨s2, s3, s4, rfl⟩
  have hi : i < 2 := hi
  refine nName_v (σ' := [some (smW us), some (smW vs), some (.int (i : Int)), s3, s4]) rfl (mSeq_s (mAsg_s (mCall_s (mCons_s (mVar_s rfl (mCons_s (mVar_s rfl (mCons_s (mOp_s (mC_s (mOp_s (mC_s (mVar_s rfl ?_)))))))))))))
  have s1 : Sm 60 (i : Int) := (sm_of (n := 20) (by omega) (by omega)).mono (by decide)
  have sf : Sm 64 (1 - 2 * (i : Int)) := (sm_of (n := 20) (by omega) (by omega)).mono (by decide)
  refine kMul_s (.of (m := 64) (.lit rfl) s1 (by decide) (by decide)) (kSub_s (mNil_s ?_))
  refine had hu hv sf fun rs a => ?_
  obtain ⟨k1, k2⟩ := a.keys hu hv
  refine nName_v (σ' := [some (smW us), some (smW vs), some (.int (i : Int)), some (smW rs), s4]) rfl (nx_s (mIfS_s (mTest_s (mOp_s (mCB_s (mCons_s (mVar_s rfl (mNil_s (kLen_s (xs := rs.map tmW) rfl ?_)))))))))
  rw [List.length_map]
  refine mC_s (kGt_s (tK_s (br_d (fun c => ?_) fun c => ?_)))
  ·refine mIfS_s (mNot_s (mTru_s (mCall_s (mCons_s (mVar_s rfl (mCons_s (mVar_s rfl (mCons_s (mVar_s rfl (mNil_s ?_))))))))))
   exact hrf hu hv hi a (by omega) fun h2 => uK_s rfl (br_f rfl (mNext_s (hN _ _ ⟨_, _, _, rfl⟩)))
  ·have fin : ∀ h2 : Gh, mIfS (mNot (mTru (mCall is E (mCons (mVar 4) (mCons (mVar 3) mNil))))) (mRet (mC (.bl false))) mNext { nx := N, rt := Q, ct := N, bk := t_l_right_1 pl mi is ad rf E { nx := fun _ h' => Q W.non h', rt := Q } } [some (smW us), some (smW vs), some (.int (i : Int)), some (smW rs), some (smW rs)] h2 := fun h2 => by
    refine mIfS_s (mNot_s (mTru_s (mCall_s (mCons_s (mVar_s rfl (mCons_s (mVar_s rfl (mNil_s ?_))))))))
    exact his (L := L) (by omega) hL k1 (uK_s rfl (br_f rfl (mNext_s (hN _ _ ⟨_, _, _, rfl⟩))))
   refine mSeq_s (mIfS_s (mTest_s (mOp_s (mVar_s rfl (mC_s (kEq_i (tK_s ?_)))))))
   match i, hi with
   | 0, _ =>
    refine br_t rfl (mAsg_s (mCall_s (mCons_s (mVar_s rfl (mCons_s (mVar_s rfl (mNil_s ?_)))))))
    refine hpl hu hv fun qs b => ?_
    rw [show (1 : Int) - 2 * ((0 : Nat) : Int) = 1 from rfl] at a
    rw [b.uniq a]
    exact ⟨fun _ => nName_v (σ' := [some (smW us), some (smW vs), some (.int ((0 : Nat) : Int)), some (smW rs), some (smW rs)]) rfl (nx_s (fin _)), fun l => absurd l (by omega)⟩
   | 1, _ =>
    refine br_f rfl (mAsg_s (mCall_s (mCons_s (mVar_s rfl (mCons_s (mVar_s rfl (mNil_s ?_)))))))
    refine hmi hu hv fun qs b => ?_
    rw [show (1 : Int) - 2 * ((1 : Nat) : Int) = -1 from rfl] at a
    rw [b.uniq a]
    exact ⟨fun _ => nName_v (σ' := [some (smW us), some (smW vs), some (.int ((1 : Nat) : Int)), some (smW rs), some (smW rs)]) rfl (nx_s (fin _)), fun l => absurd l (by omega)⟩
 ·rintro σ h' ⟨s2, s3, s4, rfl⟩
  unfold t_l_right_1
  exact nx_s (mRet_s (mC_s (rt_s (q h'))))
theorem add_apart {f : Int} {us vs rs : List Tm} (f0 : f ≠ 0) (nu : (us.map (·.1)).Nodup) (nv : (vs.map (·.1)).Nodup) (zu : ∀ t ∈ us, t.2 ≠ 0) (zv : ∀ t ∈ vs, t.2 ≠ 0) (ap : ∀ t ∈ us, ∀ s ∈ vs, t.1 ≠ s.1) (a : AddS f us vs rs) : rs.length = us.length + vs.length := by
 have e : addD f us vs = us ++ vs.map fun t => (t.1, f * t.2) := by
  revert nv ap
  refine snoc_ind (P := fun vs => (vs.map (·.1)).Nodup → (∀ t ∈ us, ∀ s ∈ vs, t.1 ≠ s.1) → addD f us vs = us ++ vs.map fun t => (t.1, f * t.2)) (fun _ _ => by simp [addD]) (fun vs t ih nv ap => ?_) vs
  rw [List.map_append, List.nodup_append] at nv
  have no : t.1 ∉ (us ++ vs.map fun t => (t.1, f * t.2)).map (·.1) := fun h => by
   rw [List.map_append, List.mem_append, List.map_map] at h
   rcases h with h | h
   ·obtain ⟨u, hu, e⟩ := List.mem_map.mp h
    exact ap u hu t (by simp) e
   ·obtain ⟨u, hu, e⟩ := List.mem_map.mp h
    exact nv.2.2 _ (List.mem_map.mpr ⟨u, hu, rfl⟩) t.1 (by simp) e
  rw [addD_snoc, ih nv.1 fun u hu s hs => ap u hu s (List.mem_append_left _ hs)]
  unfold addM
  rw [putM_out _ no, getM_none no]
  simp
 obtain ⟨ks, pk, sk, rfl⟩ := a
 have nz : ∀ t ∈ addD f us vs, t.2 ≠ 0 := fun t ht => by
  rw [e] at ht
  rcases List.mem_append.mp ht with ht | ht
  ·exact zu t ht
  ·obtain ⟨s, hs, rfl⟩ := List.mem_map.mp ht
   exact Int.mul_ne_zero f0 (zv s hs)
 have all : ordT (addD f us vs) ks = ks.map fun k => (k, getM (addD f us vs) k) := by
  unfold ordT
  refine List.filter_eq_self.mpr fun t ht => ?_
  obtain ⟨k, hk, rfl⟩ := List.mem_map.mp ht
  obtain ⟨u, hu2, e3⟩ := List.mem_map.mp (pk.mem_iff.mp hk)
  have := nz u hu2
  rw [← getM_mem (addD_nd nu) hu2, e3] at this
  simpa using this
 rw [all, List.length_map, pk.length_eq, List.length_map, e, List.length_append, List.length_map]
def AbX (c0 : MSp) : Prop := ∀ {h : Gh} {L : Nat} {Q : WK} {E : XWK}, L ≤ 8 → (∀ h', Q (.bl true) h') → c0 [.int (L : Int)] h Q E
theorem w_bound {pl is lo ad rf : MSp} (hpl : PlX 1 pl) (his : LIsX is) (hlo : LonX lo) (had : AdX ad) (hrf : RfX rf) : AbX (r_l_at_bound pl is lo ad rf) := by
 intro h L Q E hL q
 unfold r_l_at_bound
 refine mFn_v rfl (σ := [some (.int (L : Int)), none, none]) rfl (mSeq_s (mIfS_s (mTest_s (mOp_s (mVar_s rfl (mC_s (kLt_s (tK_s ?_))))))))
 refine br_d (fun _ => mRet_s (mC_s (rt_s (q h)))) fun c => mNext_s (nx_s ?_)
 unfold t_l_at_bound_1
 refine mSeq_s (mAsg_s (mCall_s (mCons_s (mTup_s (mNil_s (szOk_s rfl (mCons_s (mVar_s rfl (mCons_s (mC_s (mCons_s (mC_s (mNil_s ?_)))))))))))))
 refine hlo (us := []) (m := 300) (F := 0) (.nil L) (by simp) (by omega) hL (by decide) (by decide) fun as La _ xa => ?_
 obtain ⟨la, ka⟩ := xa rfl
 refine nName_v (σ' := [some (.int (L : Int)), some (smW as), none]) rfl (nx_s (mSeq_s (mAsg_s (mCall_s (mCons_s (mTup_s (mNil_s (szOk_s rfl (mCons_s (mVar_s rfl (mCons_s (mC_s (mCons_s (mC_s (mNil_s ?_)))))))))))))))
 refine hlo (us := []) (m := 301) (F := 10) (.nil L) (by simp) (by omega) hL (by decide) (by decide) fun bs Lb _ xb => ?_
 obtain ⟨lb, kb⟩ := xb rfl
 have ap : ∀ t ∈ as, ∀ s ∈ bs, t.1 ≠ s.1 := fun t ht s hs e => by
  obtain ⟨k, hk, e1⟩ := ka t ht
  obtain ⟨j, hj, e2⟩ := kb s hs
  rw [e1, e2] at e
  unfold lk at e
  simp only [List.cons_append, List.nil_append, List.cons.injEq] at e
  omega
 have zz : ∀ {us : List Tm}, Ls L us → ∀ t ∈ us, t.2 ≠ 0 := fun h t ht => (h.2.2 t ht).2.1
 refine nName_v (σ' := [some (.int (L : Int)), some (smW as), some (smW bs)]) rfl (nx_s (mSeq_s (mIfS_s ?_)))
 refine mOr_s (mNot_s (mTru_s (mCall_s (mCons_s (mVar_s rfl (mCons_s (mVar_s rfl (mCons_s (mC_s (mNil_s ?_))))))))))
 have mk : ∀ (f : Int) (us vs : List Tm), Ls L us → Ls L vs → ∃ rs, AddS f us vs rs := fun f us vs hu hv => by
  have := sortK ((addD f us vs).map (·.1)) (addD_nd (srt_nodup hu.2.1))
  obtain ⟨ks, pk, sk⟩ := this
  exact ⟨_, ks, pk, sk, rfl⟩
 obtain ⟨r1, a1⟩ := mk (1 - 2 * ((0 : Nat) : Int)) as bs La Lb
 have l1 := add_apart (by decide) (srt_nodup La.2.1) (srt_nodup Lb.2.1) (zz La) (zz Lb) ap a1
 refine hrf (way := 0) La Lb (by decide) a1 (by omega) fun h1 => uK_s rfl (br_f rfl ?_)
 refine mNot_s (mTru_s (mCall_s (mCons_s (mVar_s rfl (mCons_s (mVar_s rfl (mCons_s (mC_s (mNil_s ?_)))))))))
 obtain ⟨r2, a2⟩ := mk (1 - 2 * ((1 : Nat) : Int)) bs as Lb La
 have l2 := add_apart (by decide) (srt_nodup Lb.2.1) (srt_nodup La.2.1) (zz Lb) (zz La) (fun t ht s hs e => ap s hs t ht e.symm) a2
 refine hrf (way := 1) Lb La (by decide) a2 (by omega) fun h2 => uK_s rfl (br_f rfl (mNext_s (nx_s ?_)))
 unfold t_l_at_bound_4
 have cs : cutW (bs.map tmW) (some 1) none = (bs.drop 1).map tmW := by
  have := cut_drop (bs.map tmW) 1
  rw [← List.map_drop] at this
  exact this
 have Ld : Ls L (bs.drop 1) := ⟨by rw [List.length_drop]; omega, by rw [List.map_drop]; exact Lb.2.1.sublist (List.drop_sublist 1 _), fun t ht => Lb.2.2 t (List.mem_of_mem_drop ht)⟩
 refine mRet_s (mCall_s (mCons_s (mCall_s (mCons_s (mVar_s rfl (mCons_s (mSl_s (mVar_s rfl (mPart_s (mC_s (pK_s (mNoPart_s (kSl2_t ?_)))))))))))) )
 rw [cs]
 refine mNil_s (hpl La Ld fun rs a => ?_)
 have l3 := add_apart (by decide) (srt_nodup La.2.1) (srt_nodup Ld.2.1) (zz La) (zz Ld) (fun t ht s hs => ap t ht s (List.mem_of_mem_drop hs)) a
 rw [List.length_drop] at l3
 obtain ⟨k1, k2⟩ := a.keys La Ld
 refine ⟨fun _ => ?_, fun l => absurd l (by omega)⟩
 refine mCons_s (mCall_s (mCons_s (mVar_s rfl (mCons_s (mSl_s (mVar_s rfl (mPart_s (mC_s (pK_s (mNoPart_s (kSl2_t ?_))))))))))) 
 rw [cs]
 refine mCons_s (mC_s (mNil_s (had La Ld (.lit rfl) fun qs b => ?_)))
 rw [b.uniq a]
 exact mNil_s (his (L := L) (by omega) hL k1 (rt_s (q _)))
theorem add_self {L : Nat} {us rs : List Tm} (hu : Ls L us) (a : AddS (-1) us us rs) : rs = [] := by
 obtain ⟨ks, pk, sk, rfl⟩ := a
 refine ord_nil fun r => ?_
 rw [addD_get, lin_get (srt_nodup hu.2.1)]
 omega
theorem add_none {L : Nat} {f : Int} {us rs : List Tm} (hu : Ls L us) (a : AddS f us [] rs) : rs = us := by
 obtain ⟨ks, pk, sk, rfl⟩ := a
 have e : addD f us [] = us := rfl
 rw [e] at pk ⊢
 rw [srt_uniq pk sk hu.2.1]
 exact ord_self (srt_nodup hu.2.1) fun t ht => (hu.2.2 t ht).2.1
section
variable {pl mi ce tw rg ab : MSp} (hpl : PlX 1 pl) (hmi : PlX (-1) mi) (hce : CellOk2 ce) (htw : TwX tw) (hrg : RgX rg) (hab : AbX ab)
include hpl hmi hce htw hrg hab
theorem w_law (ns : List Int) {h : Gh} : r_law pl mi ce tw rg ab [.kls (ns.map .int)] h (fun w _ => w = .bl true) EF := by
 unfold r_law
 refine mFn_v rfl (σ := [some (.kls (ns.map .int)), none, none, none, none, none]) rfl (mSeq_s (mAsg_s (mOp_s (mCall_s (mCons_s (mVar_s rfl (mCons_s (mC_s (mNil_s ?_)))))))))
 refine hce (by decide) (mC_s (kMod_s (by decide) ?_))
 obtain ⟨c0, c1⟩ := emod_bd (ns.getD (0 : Int).toNat 0) (b := 9) (by decide)
 obtain ⟨L, eL⟩ := Int.eq_ofNat_of_zero_le c0
 rw [eL] at c1 ⊢
 have hL : L ≤ 8 := by omega
 refine nName_v (σ' := [some (.kls (ns.map .int)), some (.int (L : Int)), none, none, none, none]) rfl (nx_s (mSeq_s (mAsg_s (mCall_s (mCons_s (mVar_s rfl (mCons_s (mVar_s rfl (mNil_s ?_)))))))))
 refine htw hL fun us vs h1 Lu Lv lu lv => ?_
 refine nTup2_s rfl rfl (nCons_s (nName_v (σ' := [some (.kls (ns.map .int)), some (.int (L : Int)), some (smW us), none, none, none]) rfl (nCons_s (nName_v (σ' := [some (.kls (ns.map .int)), some (.int (L : Int)), some (smW us), some (smW vs), none, none]) rfl (nNil_s (nx_s ?_))))))
 refine mSeq_s (mIfS_s (mNot_s (mTru_s (mCall_s (mCons_s (mVar_s rfl (mNil_s ?_)))))))
 refine hab hL fun h2 => uK_s rfl (br_f rfl (mNext_s (nx_s ?_)))
 unfold t_law_3
 refine mSeq_s (mFor_s (nIt_s (mLst_s ?_)))
 refine mCons_s (mTup_s (mCons_s (mVar_s rfl (mCons_s (mVar_s rfl (mNil_s (szOk_s rfl ?_)))))))
 refine mCons_s (mTup_s (mCons_s (mVar_s rfl (mCons_s (mVar_s rfl (mNil_s (szOk_s rfl ?_)))))))
 refine mCons_s (mTup_s (mCons_s (mVar_s rfl (mCons_s (mTup_s (mNil_s (szOk_s rfl (mNil_s (szOk_s rfl ?_)))))))))
 refine mCons_s (mTup_s (mCons_s (mTup_s (mNil_s (szOk_s rfl (mCons_s (mVar_s rfl (mNil_s (szOk_s rfl ?_)))))))))
 refine mCons_s (mTup_s (mCons_s (mVar_s rfl (mCons_s (mVar_s rfl (mNil_s (szOk_s rfl ?_)))))))
 refine mCons_s (mTup_s (mCons_s (mVar_s rfl (mCons_s (mVar_s rfl (mNil_s (szOk_s rfl ?_)))))))
 refine mNil_s (szOk_s rfl ?_)
 have pr : ∀ (i : Nat) (w : W), ([.tup [smW us, smW vs], .tup [smW vs, smW us], .tup [smW us, smW []], .tup [smW [], smW vs], .tup [smW us, smW us], .tup [smW us, smW vs]] : List W)[i]? = some w → ∃ as bs, w = .tup [smW as, smW bs] ∧ Ls L as ∧ Ls L bs := fun i w e => by
  have hi := (List.getElem?_eq_some_iff.mp e).1
  simp only [List.length_cons, List.length_nil] at hi
  match i, hi with
  | 0, _ => cases e; exact ⟨us, vs, rfl, Lu, Lv⟩
  | 1, _ => cases e; exact ⟨vs, us, rfl, Lv, Lu⟩
  | 2, _ => cases e; exact ⟨us, [], rfl, Lu, .nil L⟩
  | 3, _ => cases e; exact ⟨[], vs, rfl, .nil L, Lv⟩
  | 4, _ => cases e; exact ⟨us, us, rfl, Lu, Lu⟩
  | 5, _ => cases e; exact ⟨us, vs, rfl, Lu, Lv⟩
 refine iK_s (ws := [.tup [smW us, smW vs], .tup [smW vs, smW us], .tup [smW us, smW []], .tup [smW [], smW vs], .tup [smW us, smW us], .tup [smW us, smW vs]]) (o := none) rfl (forK_s ?_)
 refine for_inv (fun i σ h' => ∃ s4 s5 : Option W, σ = [some (.kls (ns.map .int)), some (.int (L : Int)), some (smW us), some (smW vs), s4, s5]) ?_ ?_ ⟨none, none, rfl⟩
 ·rintro i w σ h' N hN e ⟨s4, s5, rfl⟩
  obtain ⟨as, bs, rfl, La, Lb⟩ := pr i w e
  refine nTup2_s rfl rfl (nCons_s (nName_v (σ' := [some (.kls (ns.map .int)), some (.int (L : Int)), some (smW us), some (smW vs), some (smW as), s5]) rfl (nCons_s (nName_v (σ' := [some (.kls (ns.map .int)), some (.int (L : Int)), some (smW us), some (smW vs), some (smW as), some (smW bs)]) rfl (nNil_s ?_)))))
  refine mIfS_s (mNot_s (mTru_s (mCall_s (mCons_s (mVar_s rfl (mCons_s (mVar_s rfl (mNil_s ?_))))))))
  exact hrg La Lb hL fun h3 => uK_s rfl (br_f rfl (mNext_s (hN _ _ ⟨_, _, rfl⟩)))
 ·rintro σ h' ⟨s4, s5, rfl⟩
  unfold t_law_4
  refine nx_s (mRet_s (mAndV_s (mOp_s (mCall_s (mCons_s (mVar_s rfl (mCons_s (mVar_s rfl (mNil_s ?_)))))))))
  refine hmi Lu Lu fun rs a => ?_
  rw [add_self Lu a]
  refine ⟨fun _ => ?_, fun l => absurd l (by simp)⟩
  refine mTup_s (mNil_s (szOk_s rfl (eq_same (s := []) (aK_s (br_ts ?_)))))
  refine mAndV_s (mOp_s (mCall_s (mCons_s (mVar_s rfl (mCons_s (mTup_s (mNil_s (szOk_s rfl (mNil_s ?_)))))))))
  refine hpl (vs := []) Lu (.nil L) fun rs a => ?_
  rw [add_none Lu a]
  refine ⟨fun _ => ?_, fun l => absurd l (by omega)⟩
  refine mVar_s rfl (eq_same (aK_s (br_ts ?_)))
  refine mOp_s (mCall_s (mCons_s (mVar_s rfl (mCons_s (mTup_s (mNil_s (szOk_s rfl (mNil_s ?_))))))))
  refine hmi (vs := []) Lv (.nil L) fun rs a => ?_
  rw [add_none Lv a]
  refine ⟨fun _ => ?_, fun l => absurd l (by omega)⟩
  exact mVar_s rfl (eq_same (rt_s rfl))
end
theorem law_ok (ns : List Int) (_ : ns.length ≤ 63) : m_law [.kls (ns.map W.int)] g0 (fun w _ => w = .bl true) EF := by
 have od : OrdY m_l_ordered := w_orderedY
 have dr : DrawsOk m_l_draws := w_draws w_cell
 have wt : WtX m_with_times := w_wt w_sotX
 have ad : AdX m_l_added := w_added od
 have lo : LonX m_l_longer := w_longer od
 have rf : RfX m_l_refused := w_refused (w_plus wt) (w_minus wt)
 exact w_law (w_plus wt) (w_minus wt) w_cell (w_tw52 w_cell od (w_sum dr w_lnumber w_powers od.x) lo) (w_right (w_plus wt) (w_minus wt) w_lis ad rf) (w_bound (w_plus wt) w_lis lo ad rf) ns
end My
def PySem.W.Fast.tw1901881441489104786 : Unit := ()
def PySem.W.Fast.tw4130788754910194485 : Unit := ()
def PySem.W.Fast.tw1528533160426614199 : Unit := ()
def PySem.W.Fast.tw15004837346315770577 : Unit := ()
def PySem.W.Fast.tw2557881991116414288 : Unit := ()
def PySem.W.Fast.tw10488322692773289020 : Unit := ()
def PySem.W.Fast.tw12640440679000029543 : Unit := ()
def PySem.W.Fast.tw12143684228386912690 : Unit := ()
def PySem.W.Fast.tw5878413023224513452 : Unit := ()
def PySem.W.Fast.tw3691924891375252049 : Unit := ()
def PySem.W.Fast.tw10282303613932724598 : Unit := ()
def PySem.W.Fast.tw14094294548541953628 : Unit := ()
def PySem.W.Fast.tw1592974801747379951 : Unit := ()
open PySem PySem.W PyProof.Rows
set_option maxRecDepth 100000 in
set_option maxHeartbeats 0 in
theorem PySem.Challenge.cw_easelroom_k52_sums_and_differences_holds : PySem.Challenge.rw_easelroom_k52_sums_and_differences.Holds := by
 w_on; o_law; k_head; (case hw => w_witness2)
 k_fill
 refine My.walk (l := PySem.Challenge.rw_easelroom_k52_sums_and_differences) rfl rfl (fun w h Y => PySem.W.kIn_of Y) ?F
 case F =>
  intro w mg fa h KX G hmg
  refine' My.all_mk My.law_ok KX G hmg ?a0 ?l0 ?c0 ?k0 ?a1 ?l1 ?c1 ?k1 ?a2 ?l2 ?c2 ?k2 ?a3 ?l3 ?c3 ?k3 ?a4 ?l4 ?c4 ?k4 ?a5 ?l5 ?c5 ?k5 ?a6 ?l6 ?c6 ?k6 ?a7 ?l7 ?c7 ?k7 ?a8 ?l8 ?c8 ?k8 ?a9 ?l9 ?c9 ?k9 ?a10 ?l10 ?c10 ?k10 ?a11 ?l11 ?c11 ?k11 ?a12 ?l12 ?c12 ?k12 ?a13 ?l13 ?c13 ?k13 ?a14 ?l14 ?c14 ?k14 ?a15 ?l15 ?c15 ?k15 ?a16 ?l16 ?c16 ?k16 ?a17 ?l17 ?c17 ?k17 ?z_ValueError ?z_all ?z_any ?z_bool ?z_dict ?z_int ?z_isinstance ?z_len ?z_range ?z_sorted ?z_tuple ?gk_MOST_TERMS ?gx_EaselError ?xd_EaselError ?gx_Nothing ?xd_Nothing ?gx_Stuck ?xd_Stuck ?gx_NoPart ?xd_NoPart ?gx_TooMuch ?xd_TooMuch ?xc_TooMuch ?xq_TooMuch
  (case a0 | l0 | c0 | k0 | a1 | l1 | c1 | k1 | a2 | l2 | c2 | k2 | a3 | l3 | c3 | k3 | a4 | l4 | c4 | k4 | a5 | l5 | c5 | k5 | a6 | l6 | c6 | k6 | a7 | l7 | c7 | k7 | a8 | l8 | c8 | k8 | a9 | l9 | c9 | k9 => k_is)
  (case a10 | l10 | c10 | k10 | a11 | l11 | c11 | k11 | a12 | l12 | c12 | k12 | a13 | l13 | c13 | k13 | a14 | l14 | c14 | k14 | a15 | l15 | c15 | k15 | a16 | l16 | c16 | k16 | a17 | l17 | c17 | k17 | z_ValueError | z_all | z_any | z_bool | z_dict | z_int | z_isinstance | z_len => k_is)
  (case z_range | z_sorted | z_tuple | gk_MOST_TERMS | gx_EaselError => k_is)
  (case xd_EaselError => kernel_rfl)
  (case gx_Nothing => k_is)
  (case xd_Nothing => kernel_rfl)
  (case gx_Stuck => k_is)
  (case xd_Stuck => kernel_rfl)
  (case gx_NoPart => k_is)
  (case xd_NoPart => kernel_rfl)
  (case gx_TooMuch => k_is)
  (case xd_TooMuch | xc_TooMuch => kernel_rfl)
  (case xq_TooMuch => k_exc)
