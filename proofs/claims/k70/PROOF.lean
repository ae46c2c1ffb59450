import PyProof.Rows.All
import Wide.All
import OpenK.AllK
import Wide.FinOn
import Lean
import PyProof.EqAt
import PyProof.EqKinds
import PyProof.TupleCall
import PySem.Challenge.RW_easelroom_k70_letter_things
set_option Elab.async false
set_option linter.all false
set_option maxRecDepth 100000
namespace L2
open PySem PySem.Spec PyProof.Rows

abbrev Key := Sum Int Str
def keyIs : Key → Value → Bool
  | .inl k, v => Value.isInt k v
  | .inr x, v => Value.isStrOf x v
def keyH (w : World) : Key → Int
  | .inl k => hashInt k
  | .inr x => hashStr w x
theorem keyIs_shape : ∀ {k : Key} {v : Value}, keyIs k v = true → (∃ i t, k = Sum.inl i ∧ v = Value.int i t) ∨ (∃ x t, k = Sum.inr x ∧ v = Value.str x t)
  | .inl i, v, h => by
    obtain ⟨t, e⟩ := Value.isInt_shape (k := i) (v := v) h
    exact .inl ⟨i, t, rfl, e⟩
  | .inr x, v, h => by
    obtain ⟨t, e⟩ := Value.isStrOf_shape (x := x) (v := v) h
    exact .inr ⟨x, t, rfl, e⟩
theorem key_ll (a b : Int) : decide ((Sum.inl a : Key) = Sum.inl b) = (a == b) := by
  by_cases e : a = b
  · subst e; simp
  · have h : ¬ (Sum.inl a : Key) = Sum.inl b := fun q => e (Sum.inl.inj q)
    rw [decide_eq_false h]
    exact (beq_eq_false_iff_ne.mpr e).symm
theorem key_rr (a b : Str) : decide ((Sum.inr a : Key) = Sum.inr b) = decide (a = b) := by
  by_cases e : a = b
  · subst e; simp
  · have h : ¬ (Sum.inr a : Key) = Sum.inr b := fun q => e (Sum.inr.inj q)
    rw [decide_eq_false h, decide_eq_false e]
theorem key_lr (a : Int) (b : Str) : decide ((Sum.inl a : Key) = Sum.inr b) = false := decide_eq_false (fun q => nomatch q)
theorem key_rl (a : Str) (b : Int) : decide ((Sum.inr a : Key) = Sum.inl b) = false := decide_eq_false (fun q => nomatch q)

def mixKind (prog : Program) (w : World) : PySem.KeyKind prog w Key where
  is := keyIs
  hash := keyH w
  inj := fun v a b ha hb => by
    rcases keyIs_shape ha with ⟨i, t, rfl, rfl⟩ | ⟨x, t, rfl, rfl⟩
    · rcases keyIs_shape hb with ⟨j, u, rfl, e⟩ | ⟨y, u, rfl, e⟩
      · injection e with e1 _; rw [e1]
      · exact nomatch e
    · rcases keyIs_shape hb with ⟨j, u, rfl, e⟩ | ⟨y, u, rfl, e⟩
      · exact nomatch e
      · injection e with e1 _; rw [e1]
  byValue := fun k v h => by
    rcases keyIs_shape h with ⟨i, t, rfl, rfl⟩ | ⟨x, t, rfl, rfl⟩ <;> rfl
  pyHash := fun hv h => by
    rcases keyIs_shape hv with ⟨i, t, rfl, rfl⟩ | ⟨x, t, rfl, rfl⟩
    · exact wpAny_pyHash_int h
    · exact wpAny_pyHash_str h
  eqBool := fun hu hv h => by
    rcases keyIs_shape hu with ⟨i, t, rfl, rfl⟩ | ⟨x, t, rfl, rfl⟩
    · rcases keyIs_shape hv with ⟨j, u, rfl, rfl⟩ | ⟨y, u, rfl, rfl⟩
      · rw [key_ll] at h; exact wpAny_eqBool_int h
      · rw [key_lr] at h; exact SeqAt.EqAt.int_str i t y u _ _ _ _ h
    · rcases keyIs_shape hv with ⟨j, u, rfl, rfl⟩ | ⟨y, u, rfl, rfl⟩
      · rw [key_rl] at h; exact SeqAt.EqAt.str_int x t j u _ _ _ _ h
      · rw [key_rr] at h; exact wpAny_eqBool_str h
  «strs» := fun k x t v h => by
    rcases keyIs_shape h with ⟨i, u, rfl, e⟩ | ⟨y, u, rfl, e⟩
    · exact nomatch e
    · injection e with e1 _
      subst e1
      cases v <;> rfl

end L2

namespace L2
open PySem PySem.Spec PyProof.Rows

inductive V where
  | non | bl (b : Bool) | int (i : Int) | str (x : Str) | byt (b : Array UInt8) | flt (b : UInt64) | ref (a : Addr) | ty (n : String)
  deriving DecidableEq

def RelV : V → Value → Prop
  | .non, u => u = Value.none
  | .bl b, u => u = Value.bool b
  | .int i, u => ∃ t, u = Value.int i t
  | .str x, u => ∃ t, u = Value.str x t
  | .byt b, u => ∃ t, u = Value.bytes b t
  | .flt b, u => ∃ t, u = Value.float b t
  | .ref a, u => u = Value.ref a
  | .ty n, u => u = Value.type n

abbrev Vals : List V → List Value → Prop := Paired RelV
theorem Vals.length {xs : List V} {us : List Value} (r : Vals xs us) : xs.length = us.length := Paired.length r
theorem Vals.get : ∀ {xs : List V} {us : List Value} {i : Nat} {x : V}, Vals xs us → xs[i]? = some x → ∃ u, us[i]? = some u ∧ RelV x u
  | _, _, _, _, .nil, e => by simp at e
  | _, _, 0, _, .cons r _, e => by simp at e; subst e; exact ⟨_, rfl, r⟩
  | _, _, i + 1, x, .cons _ t, e => by
    obtain ⟨u, h1, h2⟩ := Vals.get (i := i) (x := x) t (by simpa using e)
    exact ⟨u, by simpa using h1, h2⟩
theorem Vals.set {x : V} {u : Value} (r : RelV x u) : ∀ {xs : List V} {us : List Value} (i : Nat), Vals xs us → Vals (xs.set i x) (us.set i u)
  | _, _, _, .nil => .nil
  | _, _, 0, .cons _ t => .cons r t
  | _, _, i + 1, .cons q t => .cons q (Vals.set r i t)
theorem Vals.append : ∀ {xs ys : List V} {us ws : List Value}, Vals xs us → Vals ys ws → Vals (xs ++ ys) (us ++ ws)
  | _, _, _, _, .nil, s => s
  | _, _, _, _, .cons r t, s => .cons r (Vals.append t s)
def RelO : Option V → Option Value → Prop
  | some v, some u => RelV v u
  | none, none => True
  | _, _ => False
def KV {κ : Type} : List (κ × V) → List (κ × Value) → Prop := Paired fun (p : κ × V) (q : κ × Value) => p.1 = q.1 ∧ RelV p.2 q.2

def kV : Key → V
  | .inl i => .int i
  | .inr x => .str x

inductive HO where
  /-- a list -/
  | lst (xs : List V)
  /-- a tuple (never changes) -/
  | tup (xs : List V)
  /-- a dict whose keys are ints and texts; one whose keys are tuples of ints and texts (the empty one is both) -/
  | dK (kvs : List (Key × V)) | dT (kvs : List (List Key × V))
  /-- a set of ints: its members, its size -/
  | set (S : Int → Bool) (n : Nat)
  /-- an instance of the class at C, its dict at dx, its attributes -/
  | ins (C dx : Addr) (fs : List (Str × V))
  /-- the dict of the instance at x -/
  | own (x : Addr)
  /-- the dict of an exception -/
  | xd (fs : List (Str × V))
  /-- a bound method, f of x -/
  | met (f x : Addr)
  /-- a range object lo, lo + 1, .. below hi -/
  | rng (lo hi : Int)
  /-- a thing that is known to the object (the script; a dict while a loop walks it): read, never written while it is so -/
  | frz (o : Obj) (u : HO)
  /-- a code object's table -/
  | tbl (ps : Array Value)
  /-- any other thing, by what is true of its one object (a def of one's own: SetO a S n := HO.ext fun h => ..) -/
  | ext (φ : Heap → Prop)

abbrev Hp := Addr → Option HO
def upd (H : Hp) (a : Addr) (o : HO) : Hp := fun b => if b = a then some o else H b
theorem upd_same {H : Hp} {a : Addr} {o : HO} : upd H a o a = some o := by unfold upd; rw [if_pos rfl]
theorem upd_ne {H : Hp} {a b : Addr} {o : HO} (h : b ≠ a) : upd H a o b = H b := by unfold upd; rw [if_neg h]
theorem ne_of_none {H : Hp} {a b : Addr} {o : HO} (h : H a = some o) (h' : H b = none) : a ≠ b := by
  intro e; subst e; rw [h] at h'; cases h'

section
variable (P : Program) (w : World)
def ObjOk (H : Hp) (h : Heap) (a : Addr) : HO → Prop
  | .lst xs => xs.length ≤ sizeLine ∧ ∃ (its : List Value) (n : Nat), Vals xs its ∧ h.get? a = some { cls := .type "list", data := .seq its.toArray n }
  | .tup xs => xs.length ≤ sizeLine ∧ ∃ its : List Value, Vals xs its ∧ IsTup h a its.toArray
  | .dK kvs => kvs.length ≤ sizeLine ∧ (a == sysModules) = false ∧ ∃ vs, KV kvs vs ∧ h.DictOf (mixKind P w) a vs
  | .dT kvs => kvs.length ≤ sizeLine ∧ (a == sysModules) = false ∧ ∃ xs : List (List Key × Addr × Value),
      Paired (fun (p : List Key × V) (q : List Key × Addr × Value) => p.1 = q.1 ∧ H q.2.1 = some (.tup (p.1.map kV)) ∧ RelV p.2 q.2.2) kvs xs ∧
      ∃ o es ep, h.get? a = some o ∧ o.ExactDict ∧ o.data = .dict es ep ∧ es.toList = xs.map (entryOfKey (tupleKind (mixKind P w))) ∧ (xs.map (·.1)).Nodup
  | .set S n => h.SetOf (intKind P w) a S n
  | .ins C dx fs => H dx = some (.own a) ∧ fs.length ≤ 1000 ∧ dx ≠ a ∧ h.get? a = some (PySem.W.instObj C dx) ∧
      ∃ mA, h.Ns1 dx mA ∧ (∀ f, RelO (fs.lookup f) (mA f)) ∧ PySem.Within mA (fs.map (·.1))
  | .own _ => ∃ o, h.get? a = some o
  | .xd fs => ∃ mA, h.Ns1 a mA ∧ ∀ f, RelO (fs.lookup f) (mA f)
  | .rng lo hi => ∃ t u v, h.get? a = some { cls := .type "range", data := .fields #[.int lo t, .int hi u, .int 1 v] }
  | .frz o u => h.get? a = some o ∧ ObjOk H h a u
  | .tbl ps => h.get? a = some { cls := .none, data := .fields ps }
  | .met f x => h.get? a = some (PySem.W.methodObj (.ref f) (.ref x))
  | .ext φ => φ h ∧ (∃ o, h.get? a = some o) ∧ ∀ h1 h2 : Heap, φ h1 → (∀ o, h1.get? a = some o → h2.get? a = some o) → φ h2
def HOk (H : Hp) (h : Heap) : Prop := ∀ a o, H a = some o → ObjOk P w H h a o
end

section
variable {P : Program} {w : World} {H H' : Hp} {h h' : Heap} {a : Addr} {o : HO}
theorem ObjOk.lt (x : ObjOk P w H h a o) : a < h.objs.size := by
  cases o with
  | lst xs => obtain ⟨_, _, _, _, e⟩ := x; exact Heap.lt_size e
  | tup xs => obtain ⟨_, _, _, p⟩ := x; exact p.lt
  | dK kvs => obtain ⟨_, _, _, _, o, _, _, e, _⟩ := x; exact Heap.lt_size e
  | dT kvs => obtain ⟨_, _, _, _, o, _, _, e, _⟩ := x; exact Heap.lt_size e
  | set S n => obtain ⟨o, _, _, _, e, _⟩ := x; exact Heap.lt_size e
  | ins C dx fs => obtain ⟨_, _, _, e, _⟩ := x; exact Heap.lt_size e
  | own y => obtain ⟨_, e⟩ := x; exact Heap.lt_size e
  | xd fs => obtain ⟨_, ⟨_, _, _, e, _⟩, _⟩ := x; exact Heap.lt_size e
  | rng lo hi => obtain ⟨_, _, _, e⟩ := x; exact Heap.lt_size e
  | frz ob u => obtain ⟨e, _⟩ := x; exact Heap.lt_size e
  | tbl ps => exact Heap.lt_size (show h.get? a = some _ from x)
  | met f y => exact Heap.lt_size (show h.get? a = some _ from x)
  | ext φ => obtain ⟨_, ⟨_, e⟩, _⟩ := x; exact Heap.lt_size e
theorem Paired.mapP {α β : Type} {F G : α → β → Prop} : ∀ {l₁ : List α} {l₂ : List β}, Paired F l₁ l₂ → (∀ a b, F a b → G a b) → Paired G l₁ l₂
  | _, _, .nil, _ => .nil
  | _, _, .cons r t, f => .cons (f _ _ r) (Paired.mapP t f)
theorem ObjOk.stay (x : ObjOk P w H h a o) (k : ∀ b u, (b = a ∨ H b = some (.own a)) → h.get? b = some u → h'.get? b = some u)
    (ho : ∀ b, H b = some (.own a) → H' b = some (.own a)) (ht : ∀ b xs, H b = some (.tup xs) → H' b = some (.tup xs)) : ObjOk P w H' h' a o := by
  induction o with
  | lst xs => obtain ⟨z, its, n, r, e⟩ := x; exact ⟨z, its, n, r, k _ _ (.inl rfl) e⟩
  | tup xs => obtain ⟨z, its, r, ob, e, c⟩ := x; exact ⟨z, its, r, ob, k _ _ (.inl rfl) e, c⟩
  | dK kvs => obtain ⟨z, y, vs, r, ob, es, ep, e, c⟩ := x; exact ⟨z, y, vs, r, ob, es, ep, k _ _ (.inl rfl) e, c⟩
  | dT kvs =>
    obtain ⟨z, y, xs, r, ob, es, ep, e, c⟩ := x
    exact ⟨z, y, xs, Paired.mapP r fun p q z => ⟨z.1, ht _ _ z.2.1, z.2.2⟩, ob, es, ep, k _ _ (.inl rfl) e, c⟩
  | set S n => obtain ⟨ob, es, ep, t, e, c⟩ := x; exact ⟨ob, es, ep, t, k _ _ (.inl rfl) e, c⟩
  | ins C dx fs =>
    obtain ⟨d, z, ne, e, mA, ⟨od, es, ep, e2, c⟩, r⟩ := x
    exact ⟨ho _ d, z, ne, k _ _ (.inl rfl) e, mA, ⟨od, es, ep, k _ _ (.inr d) e2, c⟩, r⟩
  | own y => obtain ⟨ob, e⟩ := x; exact ⟨ob, k _ _ (.inl rfl) e⟩
  | xd fs => obtain ⟨mA, ⟨od, es, ep, e, c⟩, r⟩ := x; exact ⟨mA, ⟨od, es, ep, k _ _ (.inl rfl) e, c⟩, r⟩
  | rng lo hi => obtain ⟨t, u, v, e⟩ := x; exact ⟨t, u, v, k _ _ (.inl rfl) e⟩
  | frz ob u ih => obtain ⟨e, q⟩ := x; exact ⟨k _ _ (.inl rfl) e, ih q⟩
  | tbl ps =>
    have e : h.get? a = some { cls := .none, data := .fields ps } := x
    show h'.get? a = some { cls := .none, data := .fields ps }
    exact k a _ (.inl rfl) e
  | met f y =>
    have e : h.get? a = some (PySem.W.methodObj (.ref f) (.ref y)) := x
    show h'.get? a = some (PySem.W.methodObj (.ref f) (.ref y))
    exact k a _ (.inl rfl) e
  | ext φ => obtain ⟨p, ⟨o, e⟩, st⟩ := x; exact ⟨st _ _ p fun o q => k _ _ (.inl rfl) q, ⟨o, k _ _ (.inl rfl) e⟩, st⟩
theorem HOk.lt (x : HOk P w H h) (e : H a = some o) : a < h.objs.size := (x a o e).lt
theorem HOk.fresh (x : HOk P w H h) (e : h.objs.size ≤ a) : H a = none := by
  cases q : H a with
  | none => rfl
  | some u => exact absurd (Nat.lt_of_lt_of_le (x.lt q) e) (Nat.lt_irrefl _)
theorem HOk.kept (x : HOk P w H h) (k : ∀ b u, h.get? b = some u → h'.get? b = some u) : HOk P w H h' := fun a o e =>
  (x a o e).stay (fun b u _ q => k b u q) (fun _ q => q) fun _ _ q => q
theorem HOk.laid (x : HOk P w H h) (k : ∀ b u, h.get? b = some u → h'.get? b = some u) (hp : h.objs.size ≤ a) (new : ObjOk P w (upd H a o) h' a o) : HOk P w (upd H a o) h' := fun b u e => by
  have hn := x.fresh hp
  by_cases hb : b = a
  · subst hb; rw [upd_same] at e; cases e; exact new
  · rw [upd_ne hb] at e
    exact (x b u e).stay (fun c v _ q => k c v q) (fun c q => by rw [upd_ne (ne_of_none q hn)]; exact q) fun c xs q => by rw [upd_ne (ne_of_none q hn)]; exact q
end

def Rd (H : Hp) (a : Addr) (u : HO) : Prop := H a = some u ∨ ∃ o, H a = some (.frz o u)
theorem Rd.ok {P : Program} {w : World} {H : Hp} {h : Heap} {a : Addr} {u : HO} (r : Rd H a u) (x : HOk P w H h) : ObjOk P w H h a u := by
  rcases r with r | ⟨o, r⟩
  · exact x a u r
  · obtain ⟨_, q⟩ := x a _ r
    exact q
def Mut : Option HO → Prop
  | some (.lst _) => True
  | some (.dK _) => True
  | some (.dT _) => True
  | some (.set _ _) => True
  | some (.ins _ _ _) => True
  | some (.ext _) => True
  | _ => False
section
variable {P : Program} {w : World} {H : Hp} {h h' : Heap} {x e : Addr} {o' : HO}
theorem HOk.write (ok : HOk P w H h) (mu : Mut (H x)) (he : e = x ∨ H e = some (.own x)) (k : ∀ b u, b ≠ e → h.get? b = some u → h'.get? b = some u) (heo : ∃ u, h'.get? e = some u)
    (new : ObjOk P w (upd H x o') h' x o') : HOk P w (upd H x o') h' := fun b u q => by
  have nown : ∀ c y, H c = some (.own y) → c ≠ x := fun c y r z => by subst z; rw [r] at mu; exact mu
  have ntup : ∀ c xs, H c = some (.tup xs) → c ≠ x := fun c xs r z => by subst z; rw [r] at mu; exact mu
  by_cases hb : b = x
  · subst hb; rw [upd_same] at q; cases q; exact new
  · rw [upd_ne hb] at q
    by_cases hbe : b = e
    · have q' : H b = some (.own x) := by
        rcases he with z | z
        · exact absurd (hbe.trans z) hb
        · rw [hbe]; exact z
      rw [q] at q'; cases q'
      obtain ⟨v, hv⟩ := heo
      exact ⟨v, by rw [hbe]; exact hv⟩
    · refine (ok b u q).stay (fun c v hc r => k c v ?_ r) (fun c r => by rw [upd_ne (nown c b r)]; exact r) fun c xs r => by rw [upd_ne (ntup c xs r)]; exact r
      rcases hc with rfl | hc
      · exact hbe
      · rintro rfl
        rcases he with z | z
        · exact nown c b hc z
        · rw [hc] at z; cases z; exact hb rfl
end

structure Un (fs ex : List Addr) (H H' : Hp) (h h' : Heap) : Prop where
  keep : ∀ b o, h.get? b = some o → H b = none → b ∉ fs → b ∉ ex → h'.get? b = some o
  slot : ∀ b o, h.get? b = some o → H b = none → b ∈ fs → b ∉ ex → ∃ sl, h'.get? b = some { o with slots := sl }
  free : ∀ b o, h.get? b = some o → H b = none → b ∉ ex → H' b = none
  there : ∀ b o, h.get? b = some o → b ∉ ex → ∃ o', h'.get? b = some o'
  tups : ∀ b xs, H b = some (.tup xs) → H' b = some (.tup xs)
  frzs : ∀ b o u, H b = some (.frz o u) → H' b = some (.frz o u)
  tbls : ∀ b ps, H b = some (.tbl ps) → ∃ more, H' b = some (.tbl (ps ++ more))
section
variable {fs fs' ex ex' : List Addr} {H H1 H2 : Hp} {h h1 h2 h' : Heap} {a x e : Addr} {o : HO}
theorem Un.any (u : Un fs ex H H1 h h1) {b : Addr} {ob : Obj} (q : h.get? b = some ob) (n : H b = none) (hx : b ∉ ex) : ∃ sl, h1.get? b = some { ob with slots := sl } := by
  by_cases hb : b ∈ fs
  · exact u.slot b ob q n hb hx
  · exact ⟨ob.slots, u.keep b ob q n hb hx⟩
theorem Un.kept (k : ∀ b u, h.get? b = some u → h'.get? b = some u) : Un fs ex H H h h' :=
  ⟨fun b ob q _ _ _ => k b ob q, fun b ob q _ _ _ => ⟨ob.slots, k b ob q⟩, fun _ _ _ n _ => n, fun b ob q _ => ⟨ob, k b ob q⟩, fun _ _ q => q, fun _ _ _ q => q, fun _ ps q => ⟨#[], by rw [q]; simp⟩⟩
theorem Un.refl : Un fs ex H H h h := Un.kept fun _ _ q => q
theorem Un.laid (k : ∀ b u, h.get? b = some u → h'.get? b = some u) (hp : h.objs.size ≤ a) (hn : H a = none) : Un fs ex H (upd H a o) h h' where
  keep := fun b u q _ _ _ => k b u q
  slot := fun b u q _ _ _ => ⟨u.slots, k b u q⟩
  free := fun b u q n _ => by rw [upd_ne (Nat.ne_of_lt (Nat.lt_of_lt_of_le (Heap.lt_size q) hp))]; exact n
  there := fun b u q _ => ⟨u, k b u q⟩
  tups := fun b xs q => by rw [upd_ne (ne_of_none q hn)]; exact q
  frzs := fun b u xs q => by rw [upd_ne (ne_of_none q hn)]; exact q
  tbls := fun b ps q => ⟨#[], by rw [upd_ne (ne_of_none q hn), q]; simp⟩
theorem Un.write (mu : Mut (H x)) (he : e = x ∨ H e = some (.own x)) (k : ∀ b u, b ≠ e → h.get? b = some u → h'.get? b = some u) (heo : ∃ u, h'.get? e = some u) : Un fs ex H (upd H x o) h h' := by
  have hx : ∀ b, H b = none → b ≠ x := fun b n z => by subst z; rw [n] at mu; exact mu
  have hb : ∀ b, H b = none → b ≠ e := fun b n z => by
    subst z
    rcases he with r | r
    · exact hx b n r
    · rw [n] at r; cases r
  have hm : ∀ b u, H b = some u → ¬ Mut (some u) → b ≠ x := fun b u q nm z => by subst z; rw [q] at mu; exact nm mu
  refine ⟨fun b u q n _ _ => k b u (hb b n) q, fun b u q n _ _ => ⟨u.slots, k b u (hb b n) q⟩, fun b u q n _ => by rw [upd_ne (hx b n)]; exact n, fun b u q _ => ?_,
    fun b xs q => by rw [upd_ne (hm b _ q fun z => z)]; exact q, fun b u xs q => by rw [upd_ne (hm b _ q fun z => z)]; exact q, fun b ps q => ⟨#[], by rw [upd_ne (hm b _ q fun z => z), q]; simp⟩⟩
  by_cases hbe : b = e
  · subst hbe; exact heo
  · exact ⟨u, k b u hbe q⟩
end

def trk (h : Heap) (H : Hp) : List Addr := (List.range h.objs.size).filter fun a => (H a).isSome
def hidT (h : Heap) (H : Hp) : Heap := PySem.W.hideAll h (trk h H)
theorem hidT_size (h : Heap) (H : Hp) : (hidT h H).objs.size = h.objs.size := PySem.W.hideAll_size _ _
theorem hidT_get {h : Heap} {H : Hp} {b : Addr} {o : Obj} (e : h.get? b = some o) (n : H b = none) : (hidT h H).get? b = some o :=
  PySem.W.hideAll_get _ e fun hm => by
    have q : (H b).isSome = true := (List.mem_filter.mp hm).2
    rw [n] at q; simp at q
theorem of_hidT {h : Heap} {H : Hp} {b : Addr} {o : Obj} (e : (hidT h H).get? b = some o) : h.get? b = some o ∧ H b = none := by
  have e' : h.get? b = some o := PySem.W.of_hideAll (trk h H) e
  refine ⟨e', ?_⟩
  cases q : H b with
  | none => rfl
  | some x =>
    have hm : b ∈ trk h H := List.mem_filter.mpr ⟨List.mem_range.mpr (Heap.lt_size e'), by simp [q]⟩
    have z : (hidT h H).get? b = none := PySem.W.hideAll_none (trk h H) hm
    rw [z] at e; cases e

def allNews (g h : Heap) (L : Addr) : List (Addr × Obj) := (List.range h.objs.size).filterMap fun a => if a = L ∨ (g.get? a).isSome = true then none else (h.get? a).map fun o => (a, o)
def rest (g h : Heap) (L d : Addr) : List (Addr × Obj) := (allNews g h L).filter fun p => decide (p.1 ≠ d)
end L2

namespace L2
open PySem PySem.Spec PyProof.Rows

structure Mod (K : PySem.W.Frag) (mg : Str → Option Value) (base : Heap) : Prop where
  kin : K.In base
  glob : base.Ns mainGlobals mg
  blt : ∃ mb, base.Ns builtinsNs mb ∧ ∀ x : Str, x ≠ "__name__" → mb x = bootBuiltins x
  nolimit : base.NoLimit

structure Cx where
  prog : Program
  w : World
  K : PySem.W.Frag
  mg : Str → Option Value
  base : Heap
  A : Around
  N : List Str
  s₀ : Shared
  H₀ : Hp
  env : Env
  outer : List Env
  stack : List Env
  ex : List Addr
  fn : Str → Bool
  calm : Bool
  pn : List (Addr × Obj)
  xe : Value → Shared → Prop
def frs (l : List Env) : List Addr := l.filterMap (·.frame)
abbrev Cx.fs (X : Cx) : List Addr := frs X.outer

def Vis (sc : Scope) (x : Str) : Prop := sc.names.lookup x = some .local ∨ sc.names.lookup x = some .cell ∨ sc.names.lookup x = some .free
def Loc (sc : Scope) (x : Str) : Prop := sc.names.lookup x = some .local ∨ sc.names.lookup x = some .cell
def Look (env : Env) (h : Heap) (m : Str → Option Value) (x : Str) (u : Value) : Prop :=
  (env.kindOf x = some .local ∧ m x = some u) ∨ ((env.kindOf x = some .cell ∨ env.kindOf x = some .free) ∧ ∃ c, env.cells.lookup x = some c ∧ h.IsCell c (some u))

structure Cx.Ok (X : Cx) : Prop where
  mod : Mod X.K X.mg X.base
  kind : X.env.scope.kind = .function
  glob : X.env.globals = mainGlobals
  blt : X.env.builtins = builtinsNs
  above : X.s₀.heap.objs.size ≤ X.env.locals
  inj : ∀ x y c, X.env.cells.lookup x = some c → X.env.cells.lookup y = some c → x = y
  has : ∀ x, (X.env.kindOf x = some .cell ∨ X.env.kindOf x = some .free) → ∃ c, X.env.cells.lookup x = some c
  cab : ∀ x c, X.fn x = true → X.env.cells.lookup x = some c → X.s₀.heap.objs.size ≤ c
  hd : X.calm = true → X.A.handled = none
  frames : X.A.frames = some X.stack
  stk : X.stack = X.outer ∨ (X.stack = X.env :: X.outer ∧ X.env.frame = some X.env.locals)
  exf : ∀ b ∈ X.ex, b ≠ X.env.locals ∧ ∀ x c, X.env.cells.lookup x = some c → c ≠ b
  bs : ∀ b o, X.base.get? b = some o → X.s₀.heap.get? b = some o ∧ X.H₀ b = none
  bsz : X.base.objs.size ≤ X.s₀.heap.objs.size
  noex : ∀ b o, X.base.get? b = some o → b ∉ X.ex
  exfs : ∀ b ∈ X.ex, b ∉ X.fs
  funs : X.s₀.heap.FunFrames X.base X.outer
  frf : ∀ b ∈ X.fs, X.H₀ b = none

structure Inv (X : Cx) (pins : List (Addr × Obj)) (σ : List (Option V)) (H : Hp) (s : Shared) : Prop where
  ok : X.Ok
  os : s.os = X.s₀.os
  bare : AllBare s.gens
  base : Un X.fs X.ex X.H₀ H X.s₀.heap s.heap
  loc : ∃ m, s.heap.Ns X.env.locals m ∧ ∀ (i : Nat) (x : Str) (v : V), X.N[i]? = some x → σ[i]? = some (some v) → Vis X.env.scope x → ∃ u, RelV v u ∧ Look X.env s.heap m x u
  cell : ∀ x c, X.env.cells.lookup x = some c → ∃ v, s.heap.IsCell c v
  free : H X.env.locals = none
  freeC : ∀ x c, X.env.cells.lookup x = some c → H c = none
  pin : ∀ p ∈ X.pn ++ pins, s.heap.get? p.1 = some p.2 ∧ H p.1 = none ∧ p.1 ≠ X.env.locals ∧ p.1 ∉ X.fs ∧ ∀ v, p.2.data ≠ .cell v
  hok : HOk X.prog X.w H s.heap
  len : σ.length = X.N.length

section
variable {X : Cx} {pins : List (Addr × Obj)} {σ : List (Option V)} {H H' : Hp} {s : Shared} {h' : Heap}

theorem Cx.Ok.nofr (ok : X.Ok) {b : Addr} {o : Obj} (e : X.base.get? b = some o) : b ∉ X.fs := fun hb => by
  have := (ok.funs.mem hb).1
  rw [e] at this; cases this
theorem Inv.bs (I : Inv X pins σ H s) : ∀ b o, X.base.get? b = some o → s.heap.get? b = some o ∧ H b = none := fun b o e =>
  ⟨I.base.keep b o (I.ok.bs b o e).1 (I.ok.bs b o e).2 (I.ok.nofr e) (I.ok.noex b o e), I.base.free b o (I.ok.bs b o e).1 (I.ok.bs b o e).2 (I.ok.noex b o e)⟩
theorem Inv.bk (I : Inv X pins σ H s) : ∀ b o, X.base.get? b = some o → s.heap.get? b = some o := fun b o e => (I.bs b o e).1
theorem Inv.mod (I : Inv X pins σ H s) : Mod X.K X.mg X.base := I.ok.mod
theorem Inv.kIn (I : Inv X pins σ H s) : X.K.In s.heap := I.ok.mod.kin.keeps I.bk
theorem Inv.lt (I : Inv X pins σ H s) : X.env.locals < s.heap.objs.size := let ⟨_, hn, _⟩ := I.loc; hn.lt
theorem Inv.sz (I : Inv X pins σ H s) : X.s₀.heap.objs.size ≤ s.heap.objs.size := Nat.le_trans I.ok.above (Nat.le_of_lt I.lt)
theorem Inv.nofs (I : Inv X pins σ H s) {a : Addr} (h : s.heap.objs.size ≤ a) : a ∉ X.fs := fun hb => by
  obtain ⟨_, o, ho, _⟩ := I.ok.funs.mem hb
  exact absurd (Nat.lt_of_lt_of_le (Heap.lt_size ho) (Nat.le_trans I.sz h)) (Nat.lt_irrefl _)
theorem Inv.cne (I : Inv X pins σ H s) : ∀ x c, X.env.cells.lookup x = some c → c ≠ X.env.locals := fun x c e z => by
  obtain ⟨v, o, ho, hd⟩ := I.cell x c e
  obtain ⟨m, ⟨o', es, ep, ho', hd', _⟩, _⟩ := I.loc
  rw [z, ho'] at ho; cases ho; rw [hd'] at hd; cases hd
theorem Inv.funs (I : Inv X pins σ H s) : s.heap.FunFrames X.base X.outer := by
  have all : ∀ (l : List Env), (∀ b ∈ frs l, b ∈ X.fs) → X.s₀.heap.FunFrames X.base l → s.heap.FunFrames X.base l := by
    intro l
    induction l with
    | nil => intro _ _; trivial
    | cons env r ih =>
      intro hs hl
      obtain ⟨hk, ⟨L, o, hf, hn, ho, hd⟩, hr⟩ := hl
      have hL : L ∈ X.fs := hs L (by unfold frs; rw [List.filterMap_cons, hf]; exact List.mem_cons_self)
      obtain ⟨sl, e⟩ := I.base.slot L o ho (I.ok.frf L hL) hL fun z => I.ok.exfs L z hL
      exact ⟨hk, ⟨L, _, hf, hn, e, hd⟩, ih (fun b hb => hs b (by unfold frs; rw [List.filterMap_cons, hf]; exact List.mem_cons_of_mem _ hb)) hr⟩
  exact all X.outer (fun _ hb => hb) I.ok.funs

theorem Inv.stack (I : Inv X pins σ H s) : s.heap.FunFrames X.base X.stack := by
  rcases I.ok.stk with e | ⟨e, hf⟩
  · rw [e]; exact I.funs
  · rw [e]
    obtain ⟨m, hn, _⟩ := I.loc
    refine .cons (by rw [I.ok.kind]; decide) hf hn ?_ I.funs
    exact Heap.get?_none_of_le (Nat.le_trans I.ok.bsz I.ok.above)
theorem Inv.stkSub (I : Inv X pins σ H s) : ∀ b ∈ frs X.stack, b ∈ X.env.locals :: X.fs := fun b hb => by
  rcases I.ok.stk with e | ⟨e, hf⟩
  · rw [e] at hb; exact List.mem_cons_of_mem _ hb
  · rw [e] at hb
    unfold frs at hb
    rw [List.filterMap_cons, hf] at hb
    exact hb
theorem Inv.stkFree (I : Inv X pins σ H s) : ∀ b ∈ frs X.stack, H b = none := fun b hb => by
  rcases List.mem_cons.mp (I.stkSub b hb) with e | hb
  · rw [e]; exact I.free
  · obtain ⟨_, o, ho, _⟩ := I.ok.funs.mem hb
    exact I.base.free b o ho (I.ok.frf b hb) fun z => I.ok.exfs b z hb

theorem Inv.step {g' : Array GenState} {t' : Nat} {d' : Drawn} {ch : List Addr} (I : Inv X pins σ H s)
    (hch : ∀ b ∈ ch, (b ∈ X.ex ∨ X.s₀.heap.objs.size ≤ b) ∧ b ≠ X.env.locals ∧ (∀ x c, X.env.cells.lookup x = some c → c ≠ b) ∧ ∀ p ∈ X.pn ++ pins, p.1 ≠ b)
    (keep : ∀ b o, b ≠ X.env.locals → b ∉ X.fs → b ∉ ch → s.heap.get? b = some o → H b = none → h'.get? b = some o)
    (slot : ∀ b o, b ≠ X.env.locals → b ∈ X.fs → b ∉ ch → s.heap.get? b = some o → H b = none → ∃ sl, h'.get? b = some { o with slots := sl }) (free : ∀ b o, b ∉ ch → s.heap.get? b = some o → H b = none → H' b = none)
    (there : ∀ b o, b ∉ ch → s.heap.get? b = some o → ∃ o', h'.get? b = some o')
    (tups : ∀ b xs, H b = some (.tup xs) → H' b = some (.tup xs)) (frzs : ∀ b o u, H b = some (.frz o u) → H' b = some (.frz o u)) (tbls : ∀ b ps, H b = some (.tbl ps) → ∃ more, H' b = some (.tbl (ps ++ more)))
    (ns : ∀ m, s.heap.Ns X.env.locals m → h'.Ns X.env.locals m) (hok : HOk X.prog X.w H' h') (hg : AllBare g') :
    Inv X pins σ H' { s with heap := h', gens := g', drawn := d', toks := t' } := by
  have neL : ∀ b o, X.s₀.heap.get? b = some o → b ≠ X.env.locals := fun b o e => Nat.ne_of_lt (Nat.lt_of_lt_of_le (Heap.lt_size e) I.ok.above)
  have neC : ∀ b o, X.s₀.heap.get? b = some o → b ∉ X.ex → b ∉ ch := fun b o e hx hb => by
    rcases (hch b hb).1 with z | z
    · exact hx z
    · exact absurd (Nat.lt_of_lt_of_le (Heap.lt_size e) z) (Nat.lt_irrefl _)
  have cellK : ∀ x c, X.env.cells.lookup x = some c → ∀ v, s.heap.IsCell c v → h'.IsCell c v := fun x c e v ⟨o, ho, hd⟩ => by
    have nch : c ∉ ch := fun z => (hch c z).2.2.1 x c e rfl
    by_cases hc : c ∈ X.fs
    · obtain ⟨sl, q⟩ := slot c o (I.cne x c e) hc nch ho (I.freeC x c e)
      exact ⟨_, q, hd⟩
    · exact ⟨o, keep c o (I.cne x c e) hc nch ho (I.freeC x c e), hd⟩
  refine ⟨I.ok, I.os, hg, ⟨fun b o e n hb hx => ?_, fun b o e n hb hx => ?_, fun b o e n hx => ?_, fun b o e hx => ?_, fun b xs e => tups b xs (I.base.tups b xs e), fun b o xs e => frzs b o xs (I.base.frzs b o xs e), fun b ps e => ?_⟩, ?_, fun x c e => ?_, ?_, fun x c e => ?_, fun p hp => ?_, hok, I.len⟩
  · exact keep b o (neL b o e) hb (neC b o e hx) (I.base.keep b o e n hb hx) (I.base.free b o e n hx)
  · obtain ⟨sl, e1⟩ := I.base.slot b o e n hb hx
    obtain ⟨sl', e2⟩ := slot b _ (neL b o e) hb (neC b o e hx) e1 (I.base.free b o e n hx)
    exact ⟨sl', e2⟩
  · obtain ⟨o', e1⟩ := I.base.there b o e hx
    exact free b o' (neC b o e hx) e1 (I.base.free b o e n hx)
  · obtain ⟨o', e1⟩ := I.base.there b o e hx
    exact there b o' (neC b o e hx) e1
  · obtain ⟨m1, e1⟩ := I.base.tbls b ps e
    obtain ⟨m2, e2⟩ := tbls b _ e1
    exact ⟨m1 ++ m2, by rw [e2, Array.append_assoc]⟩
  · obtain ⟨m, hn, hl⟩ := I.loc
    refine ⟨m, ns m hn, fun i x v e1 e2 e3 => ?_⟩
    obtain ⟨u, r, l⟩ := hl i x v e1 e2 e3
    refine ⟨u, r, ?_⟩
    rcases l with l | ⟨k, c, e, z⟩
    · exact .inl l
    · exact .inr ⟨k, c, e, cellK x c e _ z⟩
  · obtain ⟨v, z⟩ := I.cell x c e
    exact ⟨v, cellK x c e v z⟩
  · obtain ⟨m, ⟨o, _, _, ho, _⟩, _⟩ := I.loc
    exact free _ o (fun z => (hch _ z).2.1 rfl) ho I.free
  · obtain ⟨v, o, ho, hd⟩ := I.cell x c e
    exact free c o (fun z => (hch c z).2.2.1 x c e rfl) ho (I.freeC x c e)
  · obtain ⟨e, n, ne, nf, d⟩ := I.pin p hp
    have nch : p.1 ∉ ch := fun z => (hch p.1 z).2.2.2 p hp rfl
    exact ⟨keep p.1 p.2 ne nf nch e n, free p.1 p.2 nch e n, ne, nf, d⟩
theorem Inv.un {t' : Nat} (I : Inv X pins σ H s) (u : Un X.fs [] H H' s.heap h') (hok : HOk X.prog X.w H' h') : Inv X pins σ H' { s with heap := h', toks := t' } := by
  obtain ⟨m, ⟨o, es, ep, ho, r⟩, _⟩ := id I.loc
  obtain ⟨sl, hL⟩ := u.any ho I.free (by simp)
  exact I.step (g' := s.gens) (d' := s.drawn) (ch := []) (fun _ z => nomatch z) (fun b o _ hb _ e n => u.keep b o e n hb (by simp)) (fun b o _ hb _ e n => u.slot b o e n hb (by simp)) (fun b o _ e n => u.free b o e n (by simp)) (fun b o _ e => u.there b o e (by simp)) u.tups u.frzs u.tbls (fun m' hm => by
    obtain ⟨o', es', ep', ho', r'⟩ := hm
    rw [ho] at ho'; cases ho'
    exact ⟨_, es', ep', hL, r'⟩) hok I.bare
theorem Inv.call {g' : Array GenState} {t' : Nat} {d' : Drawn} {ch : List Addr} (I : Inv X pins σ H s) (u : Un (frs X.stack) ch H H' s.heap h') (hok : HOk X.prog X.w H' h') (hg : AllBare g')
    (hch : ∀ b ∈ ch, (b ∈ X.ex ∨ X.s₀.heap.objs.size ≤ b) ∧ b ≠ X.env.locals ∧ (∀ x c, X.env.cells.lookup x = some c → c ≠ b) ∧ ∀ p ∈ X.pn ++ pins, p.1 ≠ b) :
    Inv X pins σ H' { s with heap := h', gens := g', drawn := d', toks := t' } := by
  obtain ⟨m, ⟨o, es, ep, ho, r⟩, _⟩ := id I.loc
  obtain ⟨sl, hL⟩ := u.any ho I.free fun z => (hch _ z).2.1 rfl
  exact I.step (ch := ch) hch (fun b o hL hb hc e n => u.keep b o e n (fun z => (List.mem_cons.mp (I.stkSub b z)).elim hL hb) hc) (fun b o _ _ hc e n => u.any e n hc) (fun b o hc e n => u.free b o e n hc) (fun b o hc e => u.there b o e hc) u.tups u.frzs u.tbls (fun m' hm => by
    obtain ⟨o', es', ep', ho', r'⟩ := hm
    rw [ho] at ho'; cases ho'
    exact ⟨_, es', ep', hL, r'⟩) hok hg
theorem Inv.turned {t' : Nat} {it : Addr} (I : Inv X pins σ H s) (k : ∀ b o, b ≠ it → s.heap.get? b = some o → h'.get? b = some o) (hn : H it = none) (hL : it ≠ X.env.locals)
    (h1 : it ∈ X.ex ∨ X.s₀.heap.objs.size ≤ it) (h2 : ∀ x c, X.env.cells.lookup x = some c → c ≠ it) (h3 : ∀ p ∈ X.pn ++ pins, p.1 ≠ it) : Inv X pins σ H { s with heap := h', toks := t' } := by
  have nit : ∀ b u, H b = some u → b ≠ it := fun b u e z => by rw [z, hn] at e; cases e
  refine I.step (g' := s.gens) (d' := s.drawn) (ch := [it]) (fun b hb => ?_) (fun b o _ _ hc e _ => k b o (fun z => hc (by simp [z])) e) (fun b o _ _ hc e _ => ⟨o.slots, k b o (fun z => hc (by simp [z])) e⟩) (fun _ _ _ _ n => n)
    (fun b o hc e => ⟨o, k b o (fun z => hc (by simp [z])) e⟩) (fun _ _ e => e) (fun _ _ _ e => e) (fun b ps e => ⟨#[], by rw [e]; simp⟩) (fun m hm => ?_) (fun b u e => ?_) I.bare
  · have e : b = it := by simpa using hb
    subst e
    exact ⟨h1, hL, h2, h3⟩
  · obtain ⟨o, es, ep, ho, r⟩ := hm
    exact ⟨o, es, ep, k _ o (Ne.symm hL) ho, r⟩
  · refine (I.hok b u e).stay (fun c v hc q => k c v ?_ q) (fun _ q => q) fun _ _ q => q
    rcases hc with z | z
    · rw [z]; exact nit b u e
    · exact nit c _ z
theorem Inv.tok (I : Inv X pins σ H s) (t : Nat) : Inv X pins σ H { s with toks := t } := I.un (h' := s.heap) (t' := t) Un.refl I.hok
theorem Inv.kept {t' : Nat} (I : Inv X pins σ H s) (k : ∀ b u, s.heap.get? b = some u → h'.get? b = some u) : Inv X pins σ H { s with heap := h', toks := t' } := I.un (Un.kept k) (I.hok.kept k)
theorem Inv.laid {a : Addr} {o : HO} {t' : Nat} (I : Inv X pins σ H s) (k : ∀ b u, s.heap.get? b = some u → h'.get? b = some u) (hp : s.heap.objs.size ≤ a) (new : ObjOk X.prog X.w (upd H a o) h' a o) :
    Inv X pins σ (upd H a o) { s with heap := h', toks := t' } := I.un (Un.laid k hp (I.hok.fresh hp)) (I.hok.laid k hp new)
theorem Inv.write {x e : Addr} {o : HO} {t' : Nat} (I : Inv X pins σ H s) (mu : Mut (H x)) (he : e = x ∨ H e = some (.own x)) (k : ∀ b u, b ≠ e → s.heap.get? b = some u → h'.get? b = some u) (heo : ∃ u, h'.get? e = some u)
    (new : ObjOk X.prog X.w (upd H x o) h' x o) : Inv X pins σ (upd H x o) { s with heap := h', toks := t' } := I.un (Un.write mu he k heo) (I.hok.write mu he k heo new)
theorem Inv.weak {σ' : List (Option V)} (I : Inv X pins σ H s) (hl : σ'.length = σ.length) (w : ∀ (i : Nat) v, σ'[i]? = some (some v) → σ[i]? = some (some v)) : Inv X pins σ' H s :=
  ⟨I.ok, I.os, I.bare, I.base, let ⟨m, hn, hl'⟩ := I.loc; ⟨m, hn, fun i x v e1 e2 e3 => hl' i x v e1 (w i v e2) e3⟩, I.cell, I.free, I.freeC, I.pin, I.hok, hl.trans I.len⟩
theorem Inv.pins_of {pins' : List (Addr × Obj)} (I : Inv X pins σ H s) (h : ∀ p ∈ pins', s.heap.get? p.1 = some p.2 ∧ H p.1 = none ∧ p.1 ≠ X.env.locals ∧ p.1 ∉ X.fs ∧ ∀ v, p.2.data ≠ .cell v) : Inv X pins' σ H s :=
  ⟨I.ok, I.os, I.bare, I.base, I.loc, I.cell, I.free, I.freeC, fun p hp => (List.mem_append.mp hp).elim (fun z => I.pin p (List.mem_append_left _ z)) (h p), I.hok, I.len⟩

theorem nodup_ix {N : List Str} (hN : N.Nodup) {i j : Nat} {x : Str} (a : N[i]? = some x) (b : N[j]? = some x) : i = j := by
  obtain ⟨h1, e1⟩ := List.getElem?_eq_some_iff.mp a
  obtain ⟨h2, e2⟩ := List.getElem?_eq_some_iff.mp b
  exact (List.getElem_inj hN).mp (e1.trans e2.symm)

theorem store_ok2 {M : Model} {A : Around} {E : Value → Shared → Prop} {i : Nat} {x : Str} {v : V} {u : Value} {Q : Unit → Shared → Prop} (I : Inv X pins σ H s) (hN : X.N.Nodup) (hi : X.N[i]? = some x) (hx : Loc X.env.scope x) (r : RelV v u)
    (h : ∀ s', Inv X pins (σ.set i (some v)) H s' → (∃ a, Heap.SameBut a s.heap s'.heap ∧ (a = X.env.locals ∨ X.env.cells.lookup x = some a)) → Q () s') (hf : X.fn x = true ∨ X.env.scope.names.lookup x = some .local := by first | exact .inl rfl | exact .inr rfl | assumption) : wpAny M A (storeName X.env x u) Q E s := by
  obtain ⟨m, hn, hl⟩ := id I.loc
  have hcls : (X.env.scope.kind == .class || (X.env.scope.kind == .module && X.env.locals != X.env.globals)) = false := by rw [I.ok.kind]; rfl
  have hiσ : i < σ.length := by rw [I.len]; exact (List.getElem?_eq_some_iff.mp hi).1
  have cne := I.cne
  have tracked : ∀ {a : Addr} {h' : Heap}, (∃ o, s.heap.get? a = some o ∧ H a = none) → Heap.SameBut a s.heap h' → HOk X.prog X.w H h' := fun {a h'} ha hs b ob e => by
    obtain ⟨_, _, hfree⟩ := ha
    refine (I.hok b ob e).stay (fun c w' hc q => (hs.2 c ?_).trans q) (fun _ q => q) fun _ _ q => q
    rintro rfl
    rcases hc with rfl | hc
    · rw [hfree] at e; cases e
    · rw [hfree] at hc; cases hc
  rcases hx with hk | hk
  · refine wpAny_storeName_local hk hn (fun h' hn' hs => ?_) hcls
    obtain ⟨oL, _, _, hoL, _⟩ := id hn
    refine h _ ⟨I.ok, I.os, I.bare, ⟨fun b o e n hb hx => ?_, fun b o e n hb hx => ?_, I.base.free, fun b o e hx => ?_, I.base.tups, I.base.frzs, I.base.tbls⟩, ⟨_, hn', fun j y v' e1 e2 e3 => ?_⟩, fun y c e => ?_, I.free, I.freeC, fun p hp => ?_, tracked ⟨oL, hoL, I.free⟩ hs, by simpa using I.len⟩ ⟨_, hs, .inl rfl⟩
    · exact (hs.2 b (Nat.ne_of_lt (Nat.lt_of_lt_of_le (Heap.lt_size e) I.ok.above))).trans (I.base.keep b o e n hb hx)
    · obtain ⟨sl, e1⟩ := I.base.slot b o e n hb hx
      exact ⟨sl, (hs.2 b (Nat.ne_of_lt (Nat.lt_of_lt_of_le (Heap.lt_size e) I.ok.above))).trans e1⟩
    · obtain ⟨o', e1⟩ := I.base.there b o e hx
      exact ⟨o', (hs.2 b (Nat.ne_of_lt (Nat.lt_of_lt_of_le (Heap.lt_size e) I.ok.above))).trans e1⟩
    · by_cases hj : j = i
      · subst hj
        rw [hi] at e1; cases e1
        rw [List.getElem?_set_self hiσ] at e2
        cases e2
        exact ⟨u, r, .inl ⟨hk, by simp⟩⟩
      · rw [List.getElem?_set_ne (Ne.symm hj)] at e2
        obtain ⟨u', r', q⟩ := hl j y v' e1 e2 e3
        refine ⟨u', r', ?_⟩
        rcases q with ⟨k, e⟩ | ⟨k, c, e, z⟩
        · refine .inl ⟨k, ?_⟩
          have : y ≠ x := fun e => hj (nodup_ix hN e1 (e ▸ hi))
          simp [this, e]
        · exact .inr ⟨k, c, e, z.sameBut hs (cne y c e)⟩
    · obtain ⟨w', z⟩ := I.cell y c e
      exact ⟨w', z.sameBut hs (cne y c e)⟩
    · obtain ⟨e, n, ne, nf, d⟩ := I.pin p hp
      exact ⟨(hs.2 p.1 ne).trans e, n, ne, nf, d⟩
  · have hfn : X.fn x = true := by
      rcases hf with z | z
      · exact z
      · rw [z] at hk; cases hk
    obtain ⟨c, hc⟩ := I.ok.has x (.inl hk)
    obtain ⟨w', z⟩ := I.cell x c hc
    refine wpAny_storeName_cell I.ok.kind hk hc z (fun h' hc' hs => ?_)
    obtain ⟨oc, hoc, hocd⟩ := id z
    refine h { s with heap := h' } ⟨I.ok, I.os, I.bare, ⟨fun b o e n hb hx => ?_, fun b o e n hb hx => ?_, I.base.free, fun b o e hx => ?_, I.base.tups, I.base.frzs, I.base.tbls⟩, ⟨m, hn.sameBut hs (Ne.symm (cne x c hc)), fun j y v' e1 e2 e3 => ?_⟩, fun y c' e => ?_, I.free, I.freeC, fun p hp => ?_, tracked ⟨oc, hoc, I.freeC x c hc⟩ hs, by simpa using I.len⟩ ⟨c, hs, .inr hc⟩
    · exact (hs.2 b (Nat.ne_of_lt (Nat.lt_of_lt_of_le (Heap.lt_size e) (I.ok.cab x c hfn hc)))).trans (I.base.keep b o e n hb hx)
    · obtain ⟨sl, e1⟩ := I.base.slot b o e n hb hx
      exact ⟨sl, (hs.2 b (Nat.ne_of_lt (Nat.lt_of_lt_of_le (Heap.lt_size e) (I.ok.cab x c hfn hc)))).trans e1⟩
    · obtain ⟨o', e1⟩ := I.base.there b o e hx
      exact ⟨o', (hs.2 b (Nat.ne_of_lt (Nat.lt_of_lt_of_le (Heap.lt_size e) (I.ok.cab x c hfn hc)))).trans e1⟩
    · by_cases hj : j = i
      · subst hj
        rw [hi] at e1; cases e1
        rw [List.getElem?_set_self hiσ] at e2
        cases e2
        exact ⟨u, r, .inr ⟨.inl hk, c, hc, hc'⟩⟩
      · rw [List.getElem?_set_ne (Ne.symm hj)] at e2
        obtain ⟨u', r', q⟩ := hl j y v' e1 e2 e3
        refine ⟨u', r', ?_⟩
        rcases q with q | ⟨k, c', e, z'⟩
        · exact .inl q
        · refine .inr ⟨k, c', e, z'.sameBut hs ?_⟩
          rintro rfl
          exact hj (nodup_ix hN e1 (I.ok.inj _ _ _ e hc ▸ hi))
    · by_cases hcc : c' = c
      · subst hcc; exact ⟨_, hc'⟩
      · obtain ⟨w2, z2⟩ := I.cell y c' e
        exact ⟨w2, z2.sameBut hs hcc⟩
    · obtain ⟨e, n, ne, nf, d⟩ := I.pin p hp
      refine ⟨(hs.2 p.1 ?_).trans e, n, ne, nf, d⟩
      intro q
      rw [q, hoc] at e
      have q' : oc = p.2 := Option.some.inj e
      exact d w' (by rw [← q']; exact hocd)
theorem store_ok {M : Model} {A : Around} {E : Value → Shared → Prop} {i : Nat} {x : Str} {v : V} {u : Value} {Q : Unit → Shared → Prop} (I : Inv X pins σ H s) (hN : X.N.Nodup) (hi : X.N[i]? = some x) (hx : Loc X.env.scope x) (r : RelV v u)
    (h : ∀ s', Inv X pins (σ.set i (some v)) H s' → Q () s') (hf : X.fn x = true ∨ X.env.scope.names.lookup x = some .local := by first | exact .inl rfl | exact .inr rfl | assumption) : wpAny M A (storeName X.env x u) Q E s :=
  store_ok2 I hN hi hx r (fun s' I' _ => h s' I') hf
theorem Inv.call' {s' : Shared} {ch : List Addr} (I : Inv X pins σ H s) (ho : s'.os = s.os) (u : Un (frs X.stack) ch H H' s.heap s'.heap) (hok : HOk X.prog X.w H' s'.heap) (hg : AllBare s'.gens)
    (hch : ∀ b ∈ ch, (b ∈ X.ex ∨ X.s₀.heap.objs.size ≤ b) ∧ b ≠ X.env.locals ∧ (∀ x c, X.env.cells.lookup x = some c → c ≠ b) ∧ ∀ p ∈ X.pn ++ pins, p.1 ≠ b) : Inv X pins σ H' s' := by
  obtain ⟨h', g', d', t', o'⟩ := s'
  have e : o' = s.os := ho
  subst e
  exact I.call (g' := g') (t' := t') (d' := d') u hok hg hch
end

abbrev XK := Value → Option Addr → Hp → Prop
abbrev St := List (Option V)
abbrev VK := V → Hp → Prop
abbrev TE := St → Hp → VK → Prop
abbrev TT := St → Hp → (Bool → Hp → Prop) → Prop
abbrev TA := St → Hp → (List V → Hp → Prop) → Prop
structure Ends where
  nx : St → Hp → Prop
  rt : VK
  bk : St → Hp → Prop := fun _ _ => False
  ct : St → Hp → Prop := fun _ _ => False
abbrev TS := Ends → St → Hp → Prop

def EP (X : Cx) (pins : List (Addr × Obj)) (σ : St) (Q : VK) (u : Value) (s' : Shared) : Prop := ∃ v H', Inv X pins σ H' s' ∧ RelV v u ∧ Q v H'
def TP (X : Cx) (pins : List (Addr × Obj)) (σ : St) (Q : Bool → Hp → Prop) (b : Bool) (s' : Shared) : Prop := ∃ H', Inv X pins σ H' s' ∧ Q b H'
def AP (X : Cx) (pins : List (Addr × Obj)) (σ : St) (Q : List V → Hp → Prop) (us : List Value) (s' : Shared) : Prop := ∃ vs H', Inv X pins σ H' s' ∧ Vals vs us ∧ Q vs H'
def SP (X : Cx) (pins : List (Addr × Obj)) (D : Ends) (f : Flow) (s' : Shared) : Prop :=
  match f with
  | .next => ∃ σ' H', Inv X pins σ' H' s' ∧ D.nx σ' H'
  | .brk => ∃ σ' H', Inv X pins σ' H' s' ∧ D.bk σ' H'
  | .cont => ∃ σ' H', Inv X pins σ' H' s' ∧ D.ct σ' H'
  | .ret u => ∃ v σ' H', Inv X pins σ' H' s' ∧ RelV v u ∧ D.rt v H'

def PE (X : Cx) (e : Expr) (t : TE) : Prop :=
  ∀ (pins : List (Addr × Obj)) (s : Shared) (σ : St) (H : Hp) (Q : VK), Inv X pins σ H s → t σ H Q → wpAny (model X.prog X.w) X.A (eval e X.env) (EP X pins σ Q) X.xe s
def PT (X : Cx) (e : Expr) (t : TT) : Prop :=
  ∀ (pins : List (Addr × Obj)) (s : Shared) (σ : St) (H : Hp) (Q : Bool → Hp → Prop), Inv X pins σ H s → t σ H Q → wpAny (model X.prog X.w) X.A (isTrue e X.env (eval e X.env)) (TP X pins σ Q) X.xe s
def PW (X : Cx) (e : Expr) (t : TT) : Prop :=
  ∀ (whole : Sem Value) (pins : List (Addr × Obj)) (s : Shared) (σ : St) (H : Hp) (Q : Bool → Hp → Prop), Inv X pins σ H s → t σ H Q → wpAny (model X.prog X.w) X.A (isTrue e X.env whole) (TP X pins σ Q) X.xe s
theorem PW.pt {X : Cx} {e : Expr} {t : TT} (h : PW X e t) : PT X e t := h _
def PA (X : Cx) (es : List Expr) (t : TA) : Prop :=
  ∀ (pos : Pos) (pins : List (Addr × Obj)) (s : Shared) (σ : St) (H : Hp) (Q : List V → Hp → Prop), Inv X pins σ H s → t σ H Q → wpAny (model X.prog X.w) X.A (spliced (backTo pos (starEach es X.env))) (AP X pins σ Q) X.xe s
def PS (X : Cx) (st : Stmt) (t : TS) : Prop :=
  ∀ (pins : List (Addr × Obj)) (s : Shared) (σ : St) (H : Hp) (D : Ends), Inv X pins σ H s → t D σ H → wpAny (model X.prog X.w) X.A (exec st X.env) (SP X pins D) X.xe s
def PSs (X : Cx) (st : List Stmt) (t : TS) : Prop :=
  ∀ (pins : List (Addr × Obj)) (s : Shared) (σ : St) (H : Hp) (D : Ends), Inv X pins σ H s → t D σ H → wpAny (model X.prog X.w) X.A (execs st X.env) (SP X pins D) X.xe s
theorem thn {α : Type} {t : Sem α} {Q Q' : α → Shared → Prop} {M : Model} {A : Around} {E : Value → Shared → Prop} {s : Shared} (h : wpAny M A t Q E s) (hQ : ∀ a s, Q a s → Q' a s) : wpAny M A t Q' E s := wpAny_mono h hQ fun _ _ x => x
end L2

namespace L2
open PySem PySem.Spec PyProof.Rows
section
variable {X : Cx}

def tVar (i : Nat) : TE := fun σ H Q => ∃ v, σ[i]? = some (some v) ∧ Q v H
def tC (v : V) : TE := fun _ H Q => Q v H
theorem pe_var {i : Nat} {x : Str} {pos : Pos} (hN : X.N[i]? = some x) (hv : Vis X.env.scope x) (hd : (x == ("__debug__" : Str)) = false := by decide) (hcd : (x == ("__classdict__" : Str)) = false := by decide) : PE X (.Name x pos) (tVar i) := by
  intro pins s σ H Q I h
  obtain ⟨v, e, h⟩ := h
  obtain ⟨m, hn, hl⟩ := I.loc
  obtain ⟨u, r, l⟩ := hl i x v hN e hv
  have fin : EP X pins σ Q u s := ⟨v, H, I, r, h⟩
  rcases l with ⟨hk, hm⟩ | ⟨hk, c, hc, hcell⟩
  · exact wpAny_Name (wpAny_loadName_local I.ok.kind hk hn hm fin) hd
  · rcases hk with hk | hk
    · exact wpAny_Name (wpAny_loadName_cell I.ok.kind hk hc hcell fin) hd
    · exact wpAny_Name (wpAny_loadName_free I.ok.kind hk hc hcell fin hcd) hd
theorem pe_int {i j pos} : PE X (.Constant (.int i) j pos) (tC (.int i)) := fun _ _ _ H _ I h => wpAny_Constant_int ⟨.int i, H, I.tok _, ⟨_, rfl⟩, h⟩
theorem pe_bl {b j pos} : PE X (.Constant (.bool b) j pos) (tC (.bl b)) := fun _ _ _ H _ I h => Constant_bool ⟨.bl b, H, I, rfl, h⟩
theorem pe_str {x j pos} : PE X (.Constant (.str x) j pos) (tC (.str x)) := fun _ _ _ H _ I h => Calls.Constant_str ⟨.str x, H, I.tok _, ⟨_, rfl⟩, h⟩

def Gl (X : Cx) (x : Str) : Prop := X.env.kindOf x = some .globalImplicit
theorem ld_glob {E : Value → Shared → Prop} {pins : List (Addr × Obj)} {s : Shared} {σ : St} {H : Hp} {x : Str} {u : Value} {pos : Pos} {Q : Value → Shared → Prop} (I : Inv X pins σ H s) (hg : Gl X x) (hm : X.mg x = some u) (h : Q u s)
    (hd : (x == ("__debug__" : Str)) = false := by decide) : wpAny (model X.prog X.w) X.A (eval (.Name x pos) X.env) Q E s :=
  Calls.Name_function_global I.ok.kind hg (Calls.loadGlobal_global (by rw [I.ok.glob]; exact I.mod.glob.keeps I.bk) hm h) hd
theorem ld_blt {E : Value → Shared → Prop} {pins : List (Addr × Obj)} {s : Shared} {σ : St} {H : Hp} {x : Str} {u : Value} {pos : Pos} {Q : Value → Shared → Prop} (I : Inv X pins σ H s) (hg : Gl X x) (hm : X.mg x = none) (hv : bootBuiltins x = some u) (h : Q u s)
    (hn : x ≠ "__name__" := by decide) (hd : (x == ("__debug__" : Str)) = false := by decide) : wpAny (model X.prog X.w) X.A (eval (.Name x pos) X.env) Q E s := by
  obtain ⟨mb, h1, h2⟩ := I.mod.blt
  exact Calls.Name_function_global I.ok.kind hg (Calls.loadGlobal_builtin (by rw [I.ok.glob]; exact I.mod.glob.keeps I.bk) hm (by rw [I.ok.blt]; exact h1.keeps I.bk) ((h2 x hn).trans hv) h) hd
theorem pe_glob {x : Str} {v : V} {u : Value} {pos : Pos} (hg : Gl X x) (hm : X.mg x = some u) (r : RelV v u) (hd : (x == ("__debug__" : Str)) = false := by decide) : PE X (.Name x pos) (tC v) :=
  fun _ _ _ H _ I h => ld_glob I hg hm ⟨v, H, I, r, h⟩ hd
theorem pe_bltn {x : Str} {v : V} {u : Value} {pos : Pos} (hg : Gl X x) (hm : X.mg x = none) (hv : bootBuiltins x = some u) (r : RelV v u) (hn : x ≠ "__name__" := by decide) (hd : (x == ("__debug__" : Str)) = false := by decide) : PE X (.Name x pos) (tC v) :=
  fun _ _ _ H _ I h => ld_blt I hg hm hv ⟨v, H, I, r, h⟩ hn hd

variable {a b : Expr} {ta tb : TE} {pos : Pos}
variable {tA tB' : TT} {rest : List Expr}
def tAnd (t u : TT) : TT := fun σ H Q => t σ H fun c H1 => if c = true then u σ H1 Q else Q false H1
def tOr (t u : TT) : TT := fun σ H Q => t σ H fun c H1 => if c = true then Q true H1 else u σ H1 Q
def tNot (t : TT) : TT := fun σ H Q => t σ H fun c H1 => Q (!c) H1
theorem pw_and1 (ha : PT X a tA) : PW X (.BoolOp .And [a] pos) tA := by
  intro wh pins s σ H Q I h
  refine isTrue_and (thn (ha pins s σ H Q I h) fun c s1 e => ?_)
  cases c with
  | true => exact isTrue_and_nil e
  | false => exact e
theorem pw_or1 (ha : PT X a tA) : PW X (.BoolOp .Or [a] pos) tA := by
  intro wh pins s σ H Q I h
  refine isTrue_or (thn (ha pins s σ H Q I h) fun c s1 e => ?_)
  cases c with
  | false => exact isTrue_or_nil e
  | true => exact e
theorem pw_and (ha : PT X a tA) (hb : PW X (.BoolOp .And (b :: rest) pos) tB') : PW X (.BoolOp .And (a :: b :: rest) pos) (tAnd tA tB') := by
  intro wh pins s σ H Q I h
  refine isTrue_and (thn (ha pins s σ H _ I h) fun c s1 ⟨H1, I1, q1⟩ => ?_)
  cases c with
  | true => exact hb wh pins s1 σ H1 Q I1 q1
  | false => exact ⟨H1, I1, q1⟩
theorem pw_or (ha : PT X a tA) (hb : PW X (.BoolOp .Or (b :: rest) pos) tB') : PW X (.BoolOp .Or (a :: b :: rest) pos) (tOr tA tB') := by
  intro wh pins s σ H Q I h
  refine isTrue_or (thn (ha pins s σ H _ I h) fun c s1 ⟨H1, I1, q1⟩ => ?_)
  cases c with
  | true => exact ⟨H1, I1, q1⟩
  | false => exact hb wh pins s1 σ H1 Q I1 q1
theorem pt_not (ha : PT X a tA) : PT X (.UnaryOp .Not a pos) (tNot tA) := by
  intro pins s σ H Q I h
  exact isTrue_not (ha pins s σ H (fun c H1 => Q (!c) H1) I h)
def tIf (t : TT) (ta tb : TE) : TE := fun σ H Q => t σ H fun c H1 => if c = true then ta σ H1 Q else tb σ H1 Q
theorem pe_ifExp {c : Expr} (hc : PT X c tA) (ha : PE X a ta) (hb : PE X b tb) : PE X (.IfExp c a b pos) (tIf tA ta tb) := by
  intro pins s σ H Q I h
  refine wpAny_IfExp (thn (hc pins s σ H _ I h) fun d s1 ⟨H1, I1, q1⟩ => ?_)
  cases d with
  | true => exact ha pins s1 σ H1 Q I1 q1
  | false => exact hb pins s1 σ H1 Q I1 q1
end
end L2

namespace L2
open PySem PySem.Spec PyProof.Rows

def SqL (K : PySem.W.Frag) (H : Hp) (a : Addr) (xs : List V) : Prop :=
  Rd H a (.lst xs) ∨
    ∃ (o : Obj) (its : Array Value) (n : Nat), K.lookup a = some o ∧ o.cls = .type "list" ∧ o.dict = none ∧ o.data = .seq its n ∧ its.size ≤ sizeLine ∧ Vals xs its.toList
def SqT (K : PySem.W.Frag) (H : Hp) (a : Addr) (xs : List V) : Prop :=
  Rd H a (.tup xs) ∨
    ∃ (o : Obj) (its : Array Value) (n : Nat), K.lookup a = some o ∧ o.cls = .type "tuple" ∧ o.data = .seq its n ∧ its.size ≤ sizeLine ∧ Vals xs its.toList
def absV : Value → Option V
  | .none => some .non
  | .bool b => some (.bl b)
  | .int i _ => some (.int i)
  | .str x _ => some (.str x)
  | .bytes b _ => some (.byt b)
  | .float b _ => some (.flt b)
  | .ref a => some (.ref a)
  | .type n => some (.ty n)
  | _ => none
theorem RelV.abs {x : V} {u : Value} (r : RelV x u) : absV u = some x := by
  cases x with
  | non => cases r; rfl
  | bl _ => cases r; rfl
  | int _ => obtain ⟨t, rfl⟩ := r; rfl
  | str _ => obtain ⟨t, rfl⟩ := r; rfl
  | byt _ => obtain ⟨t, rfl⟩ := r; rfl
  | flt _ => obtain ⟨t, rfl⟩ := r; rfl
  | ref _ => cases r; rfl
  | ty _ => cases r; rfl
theorem RelV.inj {x y : V} {u : Value} (r : RelV x u) (q : RelV y u) : x = y := Option.some.inj (r.abs.symm.trans q.abs)
theorem Vals.inj : ∀ {xs ys : List V} {us : List Value}, Vals xs us → Vals ys us → xs = ys
  | _, _, _, .nil, .nil => rfl
  | _, _, _, .cons r t, .cons r' t' => by rw [r.inj r', Vals.inj t t']
section
variable {X : Cx} {pins : List (Addr × Obj)} {σ : St} {H : Hp} {s : Shared} {a : Addr} {xs ys : List V}
theorem SqL.of {K : PySem.W.Frag} (h : H a = some (.lst xs)) : SqL K H a xs := .inl (.inl h)
theorem SqT.of {K : PySem.W.Frag} (h : H a = some (.tup xs)) : SqT K H a xs := .inl (.inl h)
theorem Inv.list (I : Inv X pins σ H s) (h : SqL X.K H a xs) : ∃ its : List Value, Vals xs its ∧ PlainL s.heap a its.toArray ∧ xs.length ≤ sizeLine := by
  rcases h with h | ⟨o, its, n, hk, hc, hd, hs, hz, r⟩
  · obtain ⟨z, its, n, r, e⟩ := h.ok I.hok
    exact ⟨its, r, ⟨_, n, e, rfl, rfl, rfl⟩, z⟩
  · refine ⟨its.toList, r, ⟨o, n, I.kIn a o hk, hc, hd, by simpa using hs⟩, ?_⟩
    have e := r.length
    simp only [Array.length_toList] at e
    omega
theorem Inv.tuple (I : Inv X pins σ H s) (h : SqT X.K H a xs) : ∃ its : List Value, Vals xs its ∧ IsTup s.heap a its.toArray ∧ xs.length ≤ sizeLine := by
  rcases h with h | ⟨o, its, n, hk, hc, hs, hz, r⟩
  · obtain ⟨z, its, r, p⟩ := h.ok I.hok
    exact ⟨its, r, p, z⟩
  · refine ⟨its.toList, r, ⟨o, I.kIn a o hk, hc, n, by simpa using hs⟩, ?_⟩
    have e := r.length
    simp only [Array.length_toList] at e
    omega
theorem Inv.list_inj (I : Inv X pins σ H s) (h : SqL X.K H a xs) (h' : SqL X.K H a ys) : xs = ys := by
  obtain ⟨its, r, ⟨o, n, e, _, _, d⟩, _⟩ := I.list h
  obtain ⟨its', r', ⟨o', n', e', _, _, d'⟩, _⟩ := I.list h'
  rw [e] at e'; cases e'
  rw [d] at d'
  injection d' with d1 _
  have : its = its' := by simpa using congrArg Array.toList d1
  subst this
  exact r.inj r'
theorem Inv.tuple_inj (I : Inv X pins σ H s) (h : SqT X.K H a xs) (h' : SqT X.K H a ys) : xs = ys := by
  obtain ⟨its, r, ⟨o, e, _, n, d⟩, _⟩ := I.tuple h
  obtain ⟨its', r', ⟨o', e', _, n', d'⟩, _⟩ := I.tuple h'
  rw [e] at e'; cases e'
  rw [d] at d'
  injection d' with d1 _
  have : its = its' := by simpa using congrArg Array.toList d1
  subst this
  exact r.inj r'
end

abbrev Cx.wish (X : Cx) (E : Value → Shared → Prop) : Cx := { X with xe := E }
abbrev Cx.nox (X : Cx) : Cx := X.wish fun _ _ => False
theorem Cx.Ok.wish {X : Cx} (ok : X.Ok) (E : Value → Shared → Prop) : (X.wish E).Ok :=
  ⟨ok.mod, ok.kind, ok.glob, ok.blt, ok.above, ok.inj, ok.has, ok.cab, ok.hd, ok.frames, ok.stk, ok.exf, ok.bs, ok.bsz, ok.noex, ok.exfs, ok.funs, ok.frf⟩
theorem Cx.Ok.unwish {X : Cx} {E : Value → Shared → Prop} (ok : (X.wish E).Ok) : X.Ok :=
  ⟨ok.mod, ok.kind, ok.glob, ok.blt, ok.above, ok.inj, ok.has, ok.cab, ok.hd, ok.frames, ok.stk, ok.exf, ok.bs, ok.bsz, ok.noex, ok.exfs, ok.funs, ok.frf⟩
section
variable {X : Cx} {pins : List (Addr × Obj)} {σ : St} {H : Hp} {s : Shared} {E : Value → Shared → Prop}
theorem Inv.wish (I : Inv X pins σ H s) (E : Value → Shared → Prop) : Inv (X.wish E) pins σ H s := ⟨I.ok.wish E, I.os, I.bare, I.base, I.loc, I.cell, I.free, I.freeC, I.pin, I.hok, I.len⟩
theorem Inv.unwish (I : Inv (X.wish E) pins σ H s) : Inv X pins σ H s := ⟨I.ok.unwish, I.os, I.bare, I.base, I.loc, I.cell, I.free, I.freeC, I.pin, I.hok, I.len⟩
theorem SP.unwish {D : Ends} {f : Flow} {s' : Shared} (h : SP (X.wish E) pins D f s') : SP X pins D f s' := by
  cases f with
  | next => obtain ⟨σ', H', I, q⟩ := h; exact ⟨σ', H', I.unwish, q⟩
  | brk => obtain ⟨σ', H', I, q⟩ := h; exact ⟨σ', H', I.unwish, q⟩
  | cont => obtain ⟨σ', H', I, q⟩ := h; exact ⟨σ', H', I.unwish, q⟩
  | ret u => obtain ⟨v, σ', H', I, r, q⟩ := h; exact ⟨v, σ', H', I.unwish, r, q⟩
theorem PSs.nox {st : List Stmt} {t : TS} (h : PSs X.nox st t) : PSs X st t := fun pins s σ H D I hw =>
  wpAny_mono (h pins s σ H D (I.wish _) hw) (fun _ _ q => q.unwish) fun _ _ z => False.elim z
end

section
variable {X : Cx} {st : Stmt} {rest : List Stmt} {t u : TS} {e : Expr} {te : TE} {pos : Pos}
def tNext : TS := fun D σ H => D.nx σ H
def tSeq (t u : TS) : TS := fun D σ H => t { D with nx := u D } σ H
theorem pss_nil : PSs X [] tNext := fun _ _ σ H _ I h => wpAny_execs_nil ⟨σ, H, I, h⟩
theorem pss_cons (h1 : PS X st t) (h2 : PSs X rest u) : PSs X (st :: rest) (tSeq t u) := by
  intro pins s σ H D I h
  refine wpAny_execs_cons (thn (h1 pins s σ H { D with nx := u D } I h) fun f s1 q => ?_)
  cases f with
  | next =>
    obtain ⟨σ', H', I', q⟩ := q
    exact h2 pins s1 σ' H' D I' q
  | ret v => exact q
  | brk => exact q
  | cont => exact q
theorem pss_one (h1 : PS X st t) : PSs X [st] t := by
  intro pins s σ H D I h
  refine wpAny_execs_cons (thn (h1 pins s σ H D I h) fun f s1 q => ?_)
  cases f with
  | next => exact wpAny_execs_nil q
  | ret v => exact q
  | brk => exact q
  | cont => exact q
theorem Inv.quiet {pins : List (Addr × Obj)} {σ : St} {H : Hp} {s : Shared} (I : Inv X pins σ H s) : interactive X.env = false := by simp [interactive, I.ok.kind]
def tDrop (te : TE) : TS := fun D σ H => te σ H fun _ H1 => D.nx σ H1
theorem ps_expr (he : PE X e te) (hs : swapsWith e none pos.line X.env = pure false := by rfl) : PS X (.Expr e pos) (tDrop te) := by
  intro pins s σ H D I h
  exact wpAny_Expr_any (thn (he pins s σ H _ I h) fun v s1 ⟨x, H1, I1, r1, q1⟩ => ⟨σ, H1, I1, q1⟩) I.quiet hs
def tRet (te : TE) : TS := fun D σ H => te σ H D.rt
theorem ps_ret (he : PE X e te) : PS X (.Return (some e) pos) (tRet te) := by
  intro pins s σ H D I h
  exact wpAny_Return_some (thn (he pins s σ H _ I h) fun v s1 ⟨x, H1, I1, r1, q1⟩ => ⟨x, σ, H1, I1, r1, q1⟩)
def tIfS (c : TT) (t u : TS) : TS := fun D σ H => c σ H fun b H1 => if b = true then t D σ H1 else u D σ H1
theorem ps_if {c : Expr} {a b : List Stmt} {tc : TT} (hc : PT X c tc) (ha : PSs X a t) (hb : PSs X b u) : PS X (.If c a b pos) (tIfS tc t u) := by
  intro pins s σ H D I h
  refine wpAny_If (thn (hc pins s σ H _ I h) fun d s1 ⟨H1, I1, q1⟩ => ?_)
  cases d with
  | true => exact ha pins s1 σ H1 D I1 q1
  | false => exact hb pins s1 σ H1 D I1 q1
end

abbrev TG := V → St → Hp → (St → Hp → Prop) → Prop
def PG (X : Cx) (target : Expr) (t : TG) : Prop :=
  ∀ (pins : List (Addr × Obj)) (s : Shared) (σ : St) (H : Hp) (v : V) (u : Value) (Q : St → Hp → Prop), Inv X pins σ H s → RelV v u → t v σ H Q →
    wpAny (model X.prog X.w) X.A (assign target X.env u) (fun _ s' => ∃ σ' H', Inv X pins σ' H' s' ∧ Q σ' H') X.xe s
abbrev TSet := V → V → V → Hp → (Hp → Prop) → Prop
def PSet (X : Cx) (t : TSet) : Prop :=
  ∀ (pins : List (Addr × Obj)) (s : Shared) (σ : St) (H : Hp) (o i v : V) (ov iv u : Value) (Q : Hp → Prop), Inv X pins σ H s → RelV o ov → RelV i iv → RelV v u → t o i v H Q →
    wpAny (model X.prog X.w) X.A (setItem ov iv u) (fun _ s' => ∃ H', Inv X pins σ H' s' ∧ Q H') X.xe s
section
variable {X : Cx} {pos : Pos}
def gName (i : Nat) : TG := fun v σ H Q => Q (σ.set i (some v)) H
theorem pg_name {i : Nat} {x : Str} (hN : X.N.Nodup) (hi : X.N[i]? = some x) (hx : Loc X.env.scope x) (hf : X.fn x = true ∨ X.env.scope.names.lookup x = some .local := by first | exact .inl rfl | exact .inr rfl | assumption) : PG X (.Name x pos) (gName i) := by
  intro pins s σ H v u Q I r h
  exact wpAny_assign_Name (store_ok I hN hi hx r (fun s' I' => ⟨_, H, I', h⟩) hf)
def gSub (to ti : TE) (t : TSet) : TG := fun v σ H Q => to σ H fun o H1 => ti σ H1 fun i H2 => t o i v H2 fun H3 => Q σ H3
theorem pg_sub {o i : Expr} {to ti : TE} {t : TSet} (ho : PE X o to) (hi : PE X i ti) (hs : PSet X t)
    (ha : ∀ v, assign (.Subscript o i pos) X.env v = (do
      let ov ← holding [v] (eval o X.env)
      let iv ← holding [v, ov] (eval i X.env)
      standAt pos
      holding [v, ov, iv] (setItem ov iv v)
      release [v, ov, iv] []) := by intro _; rfl) : PG X (.Subscript o i pos) (gSub to ti t) := by
  intro pins s σ H v u Q I r h
  rw [ha]
  refine wpAny_bind (wpAny_holding (thn (ho pins s σ H _ I h) fun ov s1 ⟨x, H1, I1, r1, q1⟩ => ?_))
  refine wpAny_bind (wpAny_holding (thn (hi pins s1 σ H1 _ I1 q1) fun iv s2 ⟨y, H2, I2, r2, q2⟩ => ?_))
  refine wpAny_bind (wpAny_standAt (wpAny_bind (wpAny_holding (thn (hs pins s2 σ H2 x y v ov iv u _ I2 r1 r2 r q2) fun _ s3 ⟨H3, I3, q3⟩ => ?_))))
  exact wpAny_release ⟨σ, H3, I3, q3⟩
def tAsg (te : TE) (g : TG) : TS := fun D σ H => te σ H fun x H1 => g x σ H1 D.nx
theorem ps_asg {tg e : Expr} {te : TE} {g : TG} (he : PE X e te) (hg : PG X tg g) (hs : swapsWithSole [tg] e pos.line X.env = pure false := by rfl) (hw : swappedStores [tg] e X.env = pure none := by rfl)
    (h1 : (assignEach [tg] X.env).map (·.2) = [assign tg X.env] := by rfl) : PS X (.Assign [tg] e pos) (tAsg te g) := by
  intro pins s σ H D I h
  refine wpAny_Assign_stores (thn (he pins s σ H _ I h) fun v s1 ⟨x, H1, I1, r1, q1⟩ => ?_) hs hw
  rw [h1]
  exact thn (hg pins s1 σ H1 x v _ I1 r1 q1) fun _ s2 q => q
theorem ps_set {i : Nat} {x : Str} {e : Expr} {te : TE} {pos' : Pos} (hN : X.N.Nodup) (hi : X.N[i]? = some x) (hx : Loc X.env.scope x) (he : PE X e te) (hs : swapsWith e (some (.Name x pos')) pos.line X.env = pure false := by rfl) (hf : X.fn x = true ∨ X.env.scope.names.lookup x = some .local := by first | exact .inl rfl | exact .inr rfl | assumption) :
    PS X (.Assign [.Name x pos'] e pos) (tAsg te (gName i)) := by
  intro pins s σ H D I h
  refine wpAny_Assign_Name (thn (he pins s σ H _ I h) fun v s1 ⟨y, H1, I1, r1, q1⟩ => ?_) hs
  exact store_ok I1 hN hi hx r1 (fun s2 I2 => ⟨_, H1, I2, q1⟩) hf
end

section
variable {X : Cx} {pos : Pos}
end

structure It where
  go : Nat → Hp → Prop
  yld : Nat → Hp → V → Hp → Prop
  stop : Nat → Hp → Prop
def FpOk (X : Cx) (pins : List (Addr × Obj)) (H : Hp) (b : Addr) : Prop :=
  H b = none ∧ b ≠ X.env.locals ∧ b ∉ X.fs ∧ (b ∈ X.ex ∨ X.s₀.heap.objs.size ≤ b) ∧ (∀ x c, X.env.cells.lookup x = some c → c ≠ b) ∧ ∀ p ∈ X.pn ++ pins, p.1 ≠ b
theorem Inv.fpOk {X : Cx} {pins : List (Addr × Obj)} {σ : St} {H H' : Hp} {s : Shared} {b : Addr} (I : Inv X pins σ H s) (hb : s.heap.objs.size ≤ b) (hn : H' b = none) : FpOk X pins H' b := by
  refine ⟨hn, Nat.ne_of_gt (Nat.lt_of_lt_of_le I.lt hb), I.nofs hb, .inr (Nat.le_trans I.sz hb), fun x c e z => ?_, fun p hp z => ?_⟩
  · obtain ⟨v, q⟩ := I.cell x c e
    exact absurd (Nat.lt_of_lt_of_le q.lt (by rw [z]; exact hb)) (Nat.lt_irrefl _)
  · exact absurd (Nat.lt_of_lt_of_le (Heap.lt_size (I.pin p hp).1) (by rw [z]; exact hb)) (Nat.lt_irrefl _)
structure Turn (P : Program) (w : World) (K : PySem.W.Frag) (tg : Expr) (J : It) (fp : List Addr) (it : Addr) (tn : Nat → Heap → Prop) : Prop where
  mem : it ∈ fp
  obj : ∀ i h, tn i h → ∀ b ∈ fp, ∃ o, h.get? b = some o ∧ ∀ v, o.data ≠ .cell v
  keep : ∀ i h h', tn i h → (∀ b ∈ fp, ∀ o, h.get? b = some o → h'.get? b = some o) → tn i h'
  item : ∀ (X : Cx), X.prog = P → X.w = w → X.K = K → X.calm = true → ∀ (i : Nat) (pins : List (Addr × Obj)) (s : Shared) (σ : St) (H : Hp) (E : Value → Shared → Prop), Inv X pins σ H s → (∀ b ∈ fp, FpOk X pins H b) → tn i s.heap → J.go i H →
    wpAny (model P w) X.A (pyNext (.ref it)) (fun r s1 => ∃ u, r = some u ∧
      wpAny (model P w) X.A (letOwnedTupleGo tg (.ref it) u) (fun _ s2 => ∃ x H', Inv X pins σ H' s2 ∧ RelV x u ∧ J.yld i H x H' ∧ tn (i + 1) s2.heap ∧ ∀ b ∈ fp, H' b = none) E s1) E s
  done : ∀ (X : Cx), X.prog = P → X.w = w → X.K = K → X.calm = true → ∀ (i : Nat) (pins : List (Addr × Obj)) (s : Shared) (σ : St) (H : Hp) (E : Value → Shared → Prop), Inv X pins σ H s → (∀ b ∈ fp, FpOk X pins H b) → tn i s.heap → J.stop i H →
    wpAny (model P w) X.A (pyNext (.ref it)) (fun r s1 => r = none ∧ Inv X pins σ H s1) E s
  self : ∀ (A : Around) (i : Nat) (s : Shared) (Q : Value → Shared → Prop) (E : Value → Shared → Prop), tn i s.heap → Q (.ref it) s → wpAny (model P w) A (pyIter (.ref it)) Q E s
abbrev TI := St → Hp → (It → Hp → Prop) → Prop
def PIE (X : Cx) (pins : List (Addr × Obj)) (σ : St) (tg : Expr) (R : It → Hp → Prop) (itv : Value) (s2 : Shared) : Prop :=
  ∃ (it : Addr) (fp : List Addr) (tn : Nat → Heap → Prop) (J : It) (H' : Hp), itv = .ref it ∧ Inv X pins σ H' s2 ∧ Turn X.prog X.w X.K tg J fp it tn ∧ tn 0 s2.heap ∧ (∀ b ∈ fp, FpOk X pins H' b) ∧ R J H'
def PI (X : Cx) (tg iter : Expr) (wi : TI) : Prop :=
  ∀ (pins : List (Addr × Obj)) (s : Shared) (σ : St) (H : Hp) (R : It → Hp → Prop), Inv X pins σ H s → wi σ H R →
    wpAny (model X.prog X.w) X.A (eval iter X.env) (fun v s1 => wpAny (model X.prog X.w) X.A (pyIter v) (PIE X pins σ tg R) X.xe s1) X.xe s

theorem go_of {M : Model} {A : Around} {E : Value → Shared → Prop} {s : Shared} {tg : Expr} {it : Addr} {u : Value} {o : Obj} {n : String} {vs : Array Value} {Q : Unit → Shared → Prop} (ho : s.heap.get? it = some o) (hc : o.cls = .type n) (hd : o.data = .fields vs)
    (hn : ["enumerate", "zip", "dict_itemiterator", "dict_reverseitemiterator", "odict_iterator", "itertools.zip_longest", "itertools.pairwise"].contains n = false) (hQ : Q () s) : wpAny M A (letOwnedTupleGo tg (.ref it) u) Q E s := by
  unfold letOwnedTupleGo
  cases tg <;> first
    | exact wpAny_pure hQ
    | (cases u <;> first
        | exact wpAny_pure hQ
        | (refine wpAny_bind (wpAny_load ho ?_)
           rw [hc, hd]
           show wpAny M A (if (["enumerate", "zip", "dict_itemiterator", "dict_reverseitemiterator", "odict_iterator", "itertools.zip_longest", "itertools.pairwise"].contains n && vs[0]? == some (rawInt _)) = true then _ else _) Q E s
           rw [if_neg (by intro h; rw [hn, Bool.false_and] at h; cases h)]
           exact wpAny_pure hQ))

def Itl (K : PySem.W.Frag) (a : Addr) : It :=
  ⟨fun i H => ∃ xs x, SqL K H a xs ∧ xs[i]? = some x, fun i H x H' => H' = H ∧ ∀ xs, SqL K H a xs → xs[i]? = some x, fun i H => ∃ xs, SqL K H a xs ∧ xs.length ≤ i⟩
def Itt (K : PySem.W.Frag) (a : Addr) : It :=
  ⟨fun i H => ∃ xs x, SqT K H a xs ∧ xs[i]? = some x, fun i H x H' => H' = H ∧ ∀ xs, SqT K H a xs → xs[i]? = some x, fun i H => ∃ xs, SqT K H a xs ∧ xs.length ≤ i⟩
def Itr (lo : Int) (n : Nat) : It := ⟨fun i _ => i < n, fun i H x H' => H' = H ∧ x = .int (lo + i), fun i _ => n ≤ i⟩
theorem turn_list {P : Program} {w : World} {K : PySem.W.Frag} {tg : Expr} (a it : Addr) : Turn P w K tg (Itl K a) [it] it (fun i h => h.IsListIter it a i) where
  mem := by simp
  obj := fun i h st b hb => by
    have e : b = it := by simpa using hb
    subst e
    obtain ⟨o, e, c, d⟩ := st
    exact ⟨o, e, fun v z => by rw [d] at z; cases z⟩
  keep := fun i h h' st k => st.at fun o e => k it (by simp) o e
  item := by
    intro X hP hw hK hc i pins s σ H E I hf st hg
    subst hP hw hK
    obtain ⟨xs, x, hq, hx⟩ := hg
    obtain ⟨its, rv, p, hz⟩ := I.list hq
    obtain ⟨u, hu, ru⟩ := rv.get hx
    obtain ⟨f0, f1, f2, f3, f4, f5⟩ := hf it (by simp)
    refine wpAny_pyNext_list_item st p.isList (x := u) (by simpa using hu) fun h' st' sb => ?_
    have I1 : Inv X pins σ H { s with heap := h' } := I.turned (t' := s.toks) (fun b o hb e => (sb.2 b hb).trans e) f0 f1 f3 f4 f5
    obtain ⟨o, e, c, d⟩ := id st'
    exact ⟨u, rfl, go_of (s := { s with heap := h' }) e c d (by decide) ⟨x, H, I1, ru, ⟨rfl, fun ys hy => by rw [I.list_inj hy hq]; exact hx⟩, st', fun b hb => (hf b hb).1⟩⟩
  done := by
    intro X hP hw hK hc i pins s σ H E I hf st hg
    subst hP hw hK
    obtain ⟨xs, hq, hx⟩ := hg
    obtain ⟨its, rv, p, hz⟩ := I.list hq
    obtain ⟨f0, f1, f2, f3, f4, f5⟩ := hf it (by simp)
    have hl := rv.length
    exact wpAny_pyNext_list_end (I.ok.hd hc) st p.isList (by simp; omega) fun h' eb => ⟨rfl, I.turned (t' := s.toks) (fun b o hb e => eb b o hb e) f0 f1 f3 f4 f5⟩
  self := fun _ _ _ _ _ st h => wpAny_pyIter_listiter st h
theorem turn_tuple {P : Program} {w : World} {K : PySem.W.Frag} {tg : Expr} (a it : Addr) : Turn P w K tg (Itt K a) [it] it (fun i h => h.IsTupleIter it a i) where
  mem := by simp
  obj := fun i h st b hb => by
    have e : b = it := by simpa using hb
    subst e
    obtain ⟨o, e, c, d⟩ := st
    exact ⟨o, e, fun v z => by rw [d] at z; cases z⟩
  keep := fun i h h' st k => st.at fun o e => k it (by simp) o e
  item := by
    intro X hP hw hK hc i pins s σ H E I hf st hg
    subst hP hw hK
    obtain ⟨xs, x, hq, hx⟩ := hg
    obtain ⟨its, rv, p, hz⟩ := I.tuple hq
    obtain ⟨u, hu, ru⟩ := rv.get hx
    obtain ⟨f0, f1, f2, f3, f4, f5⟩ := hf it (by simp)
    refine wpAny_pyNext_tuple_item st (show s.heap.IsTuple a its.toArray from p) (x := u) (by simpa using hu) fun h' st' sb => ?_
    have I1 : Inv X pins σ H { s with heap := h' } := I.turned (t' := s.toks) (fun b o hb e => (sb.2 b hb).trans e) f0 f1 f3 f4 f5
    obtain ⟨o, e, c, d⟩ := id st'
    exact ⟨u, rfl, go_of (s := { s with heap := h' }) e c d (by decide) ⟨x, H, I1, ru, ⟨rfl, fun ys hy => by rw [I.tuple_inj hy hq]; exact hx⟩, st', fun b hb => (hf b hb).1⟩⟩
  done := by
    intro X hP hw hK hc i pins s σ H E I hf st hg
    subst hP hw hK
    obtain ⟨xs, hq, hx⟩ := hg
    obtain ⟨its, rv, p, hz⟩ := I.tuple hq
    obtain ⟨f0, f1, f2, f3, f4, f5⟩ := hf it (by simp)
    have hl := rv.length
    exact wpAny_pyNext_tuple_end (I.ok.hd hc) st (show s.heap.IsTuple a its.toArray from p) (by simp; omega) fun h' eb => ⟨rfl, I.turned (t' := s.toks) (fun b o hb e => eb b o hb e) f0 f1 f3 f4 f5⟩
  self := fun _ _ _ _ _ st h => wpAny_pyIter_tupleiter st h
theorem turn_range {P : Program} {w : World} {K : PySem.W.Frag} {tg : Expr} (it : Addr) (lo : Int) (n : Nat) : Turn P w K tg (Itr lo n) [it] it (fun i h => IsRangeIter h it (lo + (i : Nat) * 1) ((n : Int) - (i : Nat)) 1) where
  mem := by simp
  obj := fun i h st b hb => by
    have e : b = it := by simpa using hb
    subst e
    exact ⟨_, st, fun v z => by
      have z' : Data.fields _ = Data.cell v := z
      cases z'⟩
  keep := fun i h h' st k => k it (by simp) _ st
  item := by
    intro X hP hw hK hc i pins s σ H E I hf st hg
    subst hP hw hK
    obtain ⟨f0, f1, f2, f3, f4, f5⟩ := hf it (by simp)
    have W := Walks.range (prog := X.prog) (w := X.w) (I.ok.hd hc) it lo 1 n
    refine W.item i s _ _ hg st fun v h' tk hv st' kk => ?_
    obtain ⟨t, rfl⟩ := hv
    have I1 : Inv X pins σ H { s with heap := h', toks := tk } := I.turned (fun b o hb e => kk b o (by simpa using hb) e) f0 f1 f3 f4 f5
    refine ⟨_, rfl, go_of (s := { s with heap := h', toks := tk }) (n := "range_iterator") st' rfl rfl (by decide) ⟨.int (lo + i), H, I1, ⟨t, ?_⟩, ⟨rfl, rfl⟩, st', fun b hb => (hf b hb).1⟩⟩
    rw [Int.mul_one]
  done := by
    intro X hP hw hK hc i pins s σ H E I hf st hg
    subst hP hw hK
    obtain ⟨f0, f1, f2, f3, f4, f5⟩ := hf it (by simp)
    exact wpAny_pyNext_range_end (I.ok.hd hc) st (by have : n ≤ i := hg; omega) fun h' eb => ⟨rfl, I.turned (t' := s.toks) (fun b o hb e => eb b o hb e) f0 f1 f3 f4 f5⟩
  self := fun _ _ _ _ _ st h => wpAny_pyIter_rangeiter st h
end L2

namespace L2
open PySem PySem.Spec PyProof.Rows
section
variable {X : Cx} {tg : Expr}
theorem range_it {pins : List (Addr × Obj)} {σ : St} {H : Hp} {s : Shared} {R : It → Hp → Prop} {E : Value → Shared → Prop} {lo hi : Int} {t u v : Tok} {tk : Nat} (I : Inv X pins σ H s) (h1 : -(2 ^ 62) ≤ lo) (h2 : lo < 2 ^ 62) (h3 : -(2 ^ 62) ≤ hi) (h4 : hi < 2 ^ 62)
    (q : R (Itr lo (hi - lo).toNat) H) : wpAny (model X.prog X.w) X.A (pyIter (.ref s.heap.objs.size)) (PIE X pins σ tg R) E { s with heap := s.heap.push { cls := .type "range", data := .fields #[.int lo t, .int hi u, .int 1 v] }, toks := tk } := by
  refine wpAny_pyIter_range (IsRange.new ..) (small_one h1 h2 h3 h4) ?_
  have I1 : Inv X pins σ H { s with heap := s.heap.push { cls := .type "range", data := .fields #[.int lo t, .int hi u, .int 1 v] }, toks := tk } := I.kept fun b o e => Heap.get?_push_of_some _ e
  refine ⟨(s.heap.push { cls := .type "range", data := .fields #[.int lo t, .int hi u, .int 1 v] }).objs.size, [(s.heap.push { cls := .type "range", data := .fields #[.int lo t, .int hi u, .int 1 v] }).objs.size], _, _, H, rfl,
    I1.kept (t' := tk) fun b o e => Heap.get?_push_of_some _ e, turn_range _ lo (hi - lo).toNat, ?_, fun b hb => ?_, q⟩
  · have e1 : lo + ((0 : Nat) : Int) * 1 = lo := by simp
    have e2 : (((hi - lo).toNat : Nat) : Int) - ((0 : Nat) : Int) = Builtin.Range.rangeSize lo hi 1 := by rw [rangeSize_one]; split <;> omega
    show IsRangeIter _ _ (lo + ((0 : Nat) : Int) * 1) ((((hi - lo).toNat : Nat) : Int) - ((0 : Nat) : Int)) 1
    rw [e1, e2]
    exact Heap.get?_push_size _ rfl
  · have e : b = (s.heap.push { cls := .type "range", data := .fields #[.int lo t, .int hi u, .int 1 v] }).objs.size := by simpa using hb
    subst e
    exact I1.fpOk (Nat.le_refl _) (I1.hok.fresh (Nat.le_refl _))
def iRng1 (ta : TA) : TI := fun σ H R => ta σ H fun vs H1 => ∃ j : Int, vs = [.int j] ∧ -(2 ^ 62) ≤ j ∧ j < 2 ^ 62 ∧ R (Itr 0 j.toNat) H1
def iRng2 (ta : TA) : TI := fun σ H R => ta σ H fun vs H1 => ∃ i j : Int, vs = [.int i, .int j] ∧ (-(2 ^ 62) ≤ i ∧ i < 2 ^ 62 ∧ -(2 ^ 62) ≤ j ∧ j < 2 ^ 62) ∧ R (Itr i (j - i).toNat) H1
theorem pi_range1 {a : Expr} {ta : TA} {p pos : Pos} (hg : Gl X "range") (hm : X.mg "range" = none) (ha : PA X [a] ta) (hs : starEach [a] X.env = [(false, eval a X.env)] := by rfl) : PI X tg (.Call (.Name "range" p) [a] [] pos) (iRng1 ta) := by
  intro pins s σ H R I h
  refine Call_ (ld_blt I hg hm boot_range (PyProof.Rows.callWith_type1 (thn (ha pos pins s σ H _ I h) fun us s1 ⟨vs, H1, I1, r1, q1⟩ => ?_) hs rfl))
  obtain ⟨j, e, q1, q2, q⟩ := q1
  subst e
  cases r1 with
  | cons r rr =>
    cases rr
    obtain ⟨t, rfl⟩ := r
    exact call_range_1 (range_it I1 (by omega) (by omega) q1 q2 (by simpa using q))
theorem pi_range2 {a b : Expr} {ta : TA} {p pos : Pos} (hg : Gl X "range") (hm : X.mg "range" = none) (ha : PA X [a, b] ta) (hs : starEach [a, b] X.env = [(false, eval a X.env), (false, eval b X.env)] := by rfl) (hs2 : starEach [b] X.env = [(false, eval b X.env)] := by rfl) :
    PI X tg (.Call (.Name "range" p) [a, b] [] pos) (iRng2 ta) := by
  intro pins s σ H R I h
  refine Call_ (ld_blt I hg hm boot_range (PyProof.Rows.callWith_type1 (thn (ha pos pins s σ H _ I h) fun us s1 ⟨vs, H1, I1, r1, q1⟩ => ?_) (by rw [hs, hs2]) (by rw [hs2]; rfl)))
  obtain ⟨i, j, e, ⟨q1, q2, q3, q4⟩, q⟩ := q1
  subst e
  cases r1 with
  | cons r rr =>
    cases rr with
    | cons r' rr =>
      cases rr
      obtain ⟨t, rfl⟩ := r
      obtain ⟨t', rfl⟩ := r'
      exact call_range_2 (range_it I1 q1 q2 q3 q4 q)

def tFor (wi : TI) (g : TG) (tb : TS) : TS := fun D σ H => wi σ H fun J H1 => ∃ W : Nat → Nat → St → Hp → Prop, (∃ m, W 0 m σ H1) ∧ ∀ i m σ H, W i m σ H →
  (J.stop i H ∧ D.nx σ H) ∨ (J.go i H ∧ ∃ N : St → Hp → Prop, (∀ σ' H', N σ' H' → ∃ m', m' < m ∧ W (i + 1) m' σ' H') ∧ ∀ x H', J.yld i H x H' → g x σ H' fun σ2 H2 => tb { D with nx := N, ct := N, bk := D.nx } σ2 H2)
def pinsAt (fp : List Addr) (h : Heap) : List (Addr × Obj) := fp.filterMap fun b => (h.get? b).map fun o => (b, o)
theorem mem_pinsAt {fp : List Addr} {h : Heap} {b : Addr} {o : Obj} (hb : b ∈ fp) (e : h.get? b = some o) : (b, o) ∈ pinsAt fp h := List.mem_filterMap.mpr ⟨b, hb, by rw [e]; rfl⟩
theorem of_pinsAt {fp : List Addr} {h : Heap} {p : Addr × Obj} (hp : p ∈ pinsAt fp h) : p.1 ∈ fp ∧ h.get? p.1 = some p.2 := by
  obtain ⟨b, hb, e⟩ := List.mem_filterMap.mp hp
  cases q : h.get? b with
  | none => rw [q] at e; cases e
  | some o =>
    rw [q] at e
    have e' : (b, o) = p := Option.some.inj e
    subst e'
    exact ⟨hb, q⟩
theorem Inv.pinned {pins : List (Addr × Obj)} {σ : St} {H : Hp} {s : Shared} {fp : List Addr} (I : Inv X pins σ H s) (hf : ∀ b ∈ fp, FpOk X pins H b) (ho : ∀ b ∈ fp, ∃ o, s.heap.get? b = some o ∧ ∀ v, o.data ≠ .cell v) : Inv X (pins ++ pinsAt fp s.heap) σ H s :=
  I.pins_of fun p hp => (List.mem_append.mp hp).elim (fun z => I.pin p (List.mem_append_right _ z)) fun z => by
    obtain ⟨hb, e⟩ := of_pinsAt z
    obtain ⟨f0, f1, f2, _⟩ := hf p.1 hb
    obtain ⟨o, e', d⟩ := ho p.1 hb
    rw [e] at e'; cases e'
    exact ⟨e, f0, f1, f2, d⟩
theorem Inv.unpinned {pins pl : List (Addr × Obj)} {σ : St} {H : Hp} {s : Shared} (I : Inv X (pins ++ pl) σ H s) : Inv X pins σ H s := I.pins_of fun p hp => I.pin p (List.mem_append_right _ (List.mem_append_left _ hp))
theorem ps_for {iter : Expr} {body : List Stmt} {wi : TI} {g : TG} {tb : TS} {pos : Pos} (hp : PassesOwn (model X.prog X.w) X.A X.env X.xe) (hc : X.calm = true) (hi : PI X tg iter wi) (hg : PG X tg g) (hb : PSs X body tb)
    (hs : ∀ x, foldedSetIterable iter X.env x = pure x := by intro _; rfl) : PS X (.For tg iter body [] pos) (tFor wi g tb) := by
  intro pins s σ H D I h
  refine wpAny_For (thn (hi pins s σ H _ I h) fun v s1 h1 => thn h1 fun itv s2 h2 => ?_) hs
  obtain ⟨it, fp, tn, J, H2, e, I2, T, st2, f2, W, ⟨m0, w0⟩, turn⟩ := h2
  subst e
  -- what stays true of the iterator's objects through the loop
  have stat : ∀ {H' : Hp}, (∀ b ∈ fp, H' b = none) → ∀ b ∈ fp, FpOk X pins H' b := fun hn b hb => ⟨hn b hb, (f2 b hb).2⟩
  refine codeAny_forLoop_any (fun n s' => ∃ i σ' H', Inv X pins σ' H' s' ∧ tn i s'.heap ∧ (∀ b ∈ fp, H' b = none) ∧ W i n σ' H') ?_ m0 ⟨0, σ, H2, I2, st2, fun b hb => (f2 b hb).1, w0⟩
  rintro n s3 ⟨i, σ3, H3, I3, st3, fr3, w3⟩
  rcases turn i n σ3 H3 w3 with ⟨stop, qn⟩ | ⟨go, N, hN, step⟩
  · refine wpAny_passesOwn hp (thn (T.done X rfl rfl rfl hc i pins s3 σ3 H3 X.xe I3 (stat fr3) st3 stop) fun r s4 ⟨hr, I4⟩ => ?_)
    subst hr
    exact wpAny_execs_nil ⟨σ3, H3, I4, qn⟩
  · refine wpAny_passesOwn hp (thn (T.item X rfl rfl rfl hc i pins s3 σ3 H3 X.xe I3 (stat fr3) st3 go) fun r s4 ⟨u, hr, h4⟩ => ?_)
    subst hr
    refine wpAny_passesOwn hp (thn h4 fun _ s5 ⟨x, H5, I5, r5, y5, st5, fr5⟩ => ?_)
    have I5' := I5.pinned (stat fr5) (T.obj _ _ st5)
    refine wpAny_passesOwn hp (thn (hg _ s5 σ3 H5 x u _ I5' r5 (step x H5 y5)) fun _ s6 ⟨σ6, H6, I6, q6⟩ => ?_)
    refine wpAny_passesOwn hp (thn (hb _ s6 σ6 H6 _ I6 q6) fun f s7 q7 => ?_)
    have again : ∀ {σ7 : St} {H7 : Hp}, Inv X (pins ++ pinsAt fp s5.heap) σ7 H7 s7 → N σ7 H7 → ∃ m, m < n ∧ ∃ i σ' H', Inv X pins σ' H' s7 ∧ tn i s7.heap ∧ (∀ b ∈ fp, H' b = none) ∧ W i m σ' H' := fun {σ7 H7} I7 n7 => by
      obtain ⟨m', hm, w7⟩ := hN σ7 H7 n7
      refine ⟨m', hm, i + 1, σ7, H7, I7.unpinned, T.keep _ _ _ st5 fun b hb o e => (I7.pin (b, o) (List.mem_append_right _ (List.mem_append_right _ (mem_pinsAt hb e)))).1, fun b hb => ?_, w7⟩
      obtain ⟨o, e, d⟩ := T.obj _ _ st5 b hb
      exact (I7.pin (b, o) (List.mem_append_right _ (List.mem_append_right _ (mem_pinsAt hb e)))).2.1
    cases f with
    | next => obtain ⟨σ7, H7, I7, n7⟩ := q7; exact again I7 n7
    | cont => obtain ⟨σ7, H7, I7, n7⟩ := q7; exact again I7 n7
    | brk => obtain ⟨σ7, H7, I7, q7⟩ := q7; exact ⟨σ7, H7, I7.unpinned, q7⟩
    | ret v => obtain ⟨x7, σ7, H7, I7, r7, q7⟩ := q7; exact ⟨x7, σ7, H7, I7.unpinned, r7, q7⟩
end

end L2

namespace L2
open PySem PySem.Spec PyProof.Rows

abbrev R2 := V → V → Hp → VK → Prop
def OpR (X : Cx) (f : Value → Value → Sem Value) (r : R2) : Prop :=
  ∀ (pins : List (Addr × Obj)) (s : Shared) (σ : St) (H : Hp) (x y : V) (v u : Value) (Q : VK), Inv X pins σ H s → RelV x v → RelV y u → r x y H Q →
    wpAny (model X.prog X.w) X.A (f v u) (EP X pins σ Q) X.xe s
def CallR (X : Cx) (f : Value) (r : List V → Hp → VK → Prop) : Prop :=
  ∀ (pins : List (Addr × Obj)) (s : Shared) (σ : St) (H : Hp) (xs : List V) (us : List Value) (Q : VK), Inv X pins σ H s → Vals xs us → r xs H Q →
    wpAny (model X.prog X.w) X.A (call f us) (EP X pins σ Q) X.xe s
def TruR (X : Cx) (r : V → Hp → (Bool → Hp → Prop) → Prop) : Prop :=
  ∀ (pins : List (Addr × Obj)) (s : Shared) (σ : St) (H : Hp) (x : V) (v : Value) (Q : Bool → Hp → Prop), Inv X pins σ H s → RelV x v → r x H Q →
    wpAny (model X.prog X.w) X.A (truthy v) (TP X pins σ Q) X.xe s

def tOp (r : R2) (ta tb : TE) : TE := fun σ H Q => ta σ H fun x H1 => tb σ H1 fun y H2 => r x y H2 Q
def rI (C : Int → Int → Prop) (g : Int → Int → V) : R2 := fun x y H Q => ∃ i j, x = .int i ∧ y = .int j ∧ C i j ∧ Q (g i j) H
def rI0 (g : Int → Int → V) : R2 := fun x y H Q => ∃ i j, x = .int i ∧ y = .int j ∧ Q (g i j) H
section
variable {X : Cx} {a b c : Expr} {ta tb tc : TE} {pos : Pos}

theorem binT (ha : PE X a ta) (hb : PE X b tb) {pins : List (Addr × Obj)} {s : Shared} {σ : St} {H : Hp} {R : V → V → Hp → Prop} (I : Inv X pins σ H s)
    (h : ta σ H fun x H1 => tb σ H1 fun y H2 => R x y H2) {Q : Value → Shared → Prop} {f : Value → Value → Sem Value}
    (hf : ∀ v u s2 x y H2, Inv X pins σ H2 s2 → RelV x v → RelV y u → R x y H2 → wpAny (model X.prog X.w) X.A (f v u) Q X.xe s2) :
    wpAny (model X.prog X.w) X.A (eval a X.env) (fun v s₁ => wpAny (model X.prog X.w) X.A (eval b X.env) (fun u s₂ => wpAny (model X.prog X.w) X.A (f v u) Q X.xe s₂) X.xe s₁) X.xe s := by
  refine thn (ha pins s σ H _ I h) fun v s1 ⟨x, H1, I1, r1, q1⟩ => ?_
  refine thn (hb pins s1 σ H1 _ I1 q1) fun u s2 ⟨y, H2, I2, r2, q2⟩ => ?_
  exact hf v u s2 x y H2 I2 r1 r2 q2

theorem pe_op {op : Operator} {r : R2} (ho : OpR X (binaryOp op) r) (ha : PE X a ta) (hb : PE X b tb) : PE X (.BinOp a op b pos) (tOp r ta tb) := by
  intro pins s σ H Q I h
  exact wpAny_BinOp (binT ha hb I h fun v u s2 x y H2 I2 rx ry q => ho pins s2 σ H2 x y v u Q I2 rx ry q)
theorem opI {f : Value → Value → Sem Value} {C : Int → Int → Prop} {g : Int → Int → Int}
    (rule : ∀ (i j : Int) (t u : Tok) (s : Shared) (Q : Value → Shared → Prop) (E : Value → Shared → Prop), C i j → Q (.int (g i j) s.toks) { s with toks := s.toks + 1 } → wpAny (model X.prog X.w) X.A (f (.int i t) (.int j u)) Q E s) :
    OpR X f (rI C fun i j => .int (g i j)) := by
  intro pins s σ H x y v u Q I rx ry h
  obtain ⟨i, j, rfl, rfl, hc, q⟩ := h
  obtain ⟨t, rfl⟩ := rx
  obtain ⟨t', rfl⟩ := ry
  exact rule i j t t' s _ _ hc ⟨.int (g i j), H, I.tok _, ⟨_, rfl⟩, q⟩
theorem opI0 {f : Value → Value → Sem Value} {g : Int → Int → Int}
    (rule : ∀ (i j : Int) (t u : Tok) (s : Shared) (Q : Value → Shared → Prop) (E : Value → Shared → Prop), Q (.int (g i j) s.toks) { s with toks := s.toks + 1 } → wpAny (model X.prog X.w) X.A (f (.int i t) (.int j u)) Q E s) :
    OpR X f (rI0 fun i j => .int (g i j)) := by
  intro pins s σ H x y v u Q I rx ry h
  obtain ⟨i, j, rfl, rfl, q⟩ := h
  obtain ⟨t, rfl⟩ := rx
  obtain ⟨t', rfl⟩ := ry
  exact rule i j t t' s _ _ ⟨.int (g i j), H, I.tok _, ⟨_, rfl⟩, q⟩
theorem opB0 {f : Value → Value → Sem Value} {g : Int → Int → Bool}
    (rule : ∀ (i j : Int) (t u : Tok) (s : Shared) (Q : Value → Shared → Prop) (E : Value → Shared → Prop), Q (.bool (g i j)) s → wpAny (model X.prog X.w) X.A (f (.int i t) (.int j u)) Q E s) :
    OpR X f (rI0 fun i j => .bl (g i j)) := by
  intro pins s σ H x y v u Q I rx ry h
  obtain ⟨i, j, rfl, rfl, q⟩ := h
  obtain ⟨t, rfl⟩ := rx
  obtain ⟨t', rfl⟩ := ry
  exact rule i j t t' s _ _ ⟨.bl (g i j), H, I, rfl, q⟩

def CPow (i j : Int) : Prop := 0 ≤ j ∧ j ≤ 1000000 ∧ i.natAbs < 2 ^ 64
theorem op_add : OpR X (binaryOp .Add) (rI0 fun i j => .int (i + j)) := opI0 fun _ _ _ _ _ _ _ q => add_int q
theorem op_sub : OpR X (binaryOp .Sub) (rI0 fun i j => .int (i - j)) := opI0 fun _ _ _ _ _ _ _ q => sub_int q
theorem op_modN : OpR X (binaryOp .Mod) (rI (fun _ j => j ≠ 0) fun i j => .int (i.fmod j)) := opI fun _ _ _ _ _ _ _ hc q => mod_int' hc q
theorem op_pow : OpR X (binaryOp .Pow) (rI CPow fun i j => .int (i ^ j.toNat)) := opI fun _ _ _ _ _ _ _ hc q => pow_int_small hc.1 hc.2.1 hc.2.2 q
end

section
variable {X : Cx} {a b c : Expr} {ta tb tc : TE} {pos : Pos}
theorem fin_bl {pins : List (Addr × Obj)} {σ : St} {H : Hp} {s : Shared} {Q : VK} {k k' : Bool} (I : Inv X pins σ H s) (q : Q (.bl k) H) (e : k = k') : EP X pins σ Q (.bool k') s := by
  subst e
  exact ⟨.bl k, H, I, rfl, q⟩
theorem op_lt : OpR X (compareOp .Lt) (rI0 fun i j => .bl (decide (i < j))) := opB0 fun _ _ _ _ _ _ _ q => lt_int q
theorem op_gt : OpR X (compareOp .Gt) (rI0 fun i j => .bl (decide (j < i))) := opB0 fun _ _ _ _ _ _ _ q => gt_int q
theorem op_ge : OpR X (compareOp .GtE) (rI0 fun i j => .bl (decide (j ≤ i))) := opB0 fun _ _ _ _ _ _ _ q => ge_int q
theorem OpR.or {f : Value → Value → Sem Value} {r r' : R2} (h : OpR X f r) (h' : OpR X f r') : OpR X f (fun x y H Q => r x y H Q ∨ r' x y H Q) := by
  intro pins s σ H x y v u Q I rx ry q
  rcases q with q | q
  · exact h pins s σ H x y v u Q I rx ry q
  · exact h' pins s σ H x y v u Q I rx ry q

theorem nomark (b : Expr) {op : CmpOp} (h : op ≠ .In := by decide) (h2 : op ≠ .NotIn := by decide) : behindInMarks op b = false := by
  have e1 : (op == CmpOp.In) = false := by cases op <;> first | rfl | exact absurd rfl h
  have e2 : (op == CmpOp.NotIn) = false := by cases op <;> first | rfl | exact absurd rfl h2
  cases b <;> simp [behindInMarks, e1, e2]
theorem pe_cmpR {op : CmpOp} {r : R2} (ho : OpR X (compareOp op) r) (ha : PE X a ta) (hb : PE X b tb) (hm : behindInMarks op b = false) : PE X (.Compare a [op] [b] pos) (tOp r ta tb) := by
  intro pins s σ H Q I h
  exact wpAny_Compare1 (binT ha hb I h fun v u s2 x y H2 I2 rx ry q => ho pins s2 σ H2 x y v u Q I2 rx ry q) hm
def tTest (t : TE) : TT := fun σ H Q => t σ H fun x H' => ∃ k, x = .bl k ∧ Q k H'
theorem pt_cmpR {op : CmpOp} {r : R2} (ho : OpR X (compareOp op) r) (ha : PE X a ta) (hb : PE X b tb) (hm : behindInMarks op b = false) : PT X (.Compare a [op] [b] pos) (tTest (tOp r ta tb)) := by
  intro pins s σ H Q I h
  refine wpAny_isTrue_Compare1 (thn (ha pins s σ H _ I h) fun v s1 ⟨x, H1, I1, r1, q1⟩ => thn (hb pins s1 σ H1 _ I1 q1) fun u s2 ⟨y, H2, I2, r2, q2⟩ =>
    thn (ho pins s2 σ H2 x y v u _ I2 r1 r2 q2) fun c s3 ⟨z, H3, I3, r3, k, e, q3⟩ => ?_) hm
  subst e
  cases r3
  exact wpAny_truthy_bool ⟨H3, I3, q3⟩
def TruV (K : PySem.W.Frag) (x : V) (H : Hp) (k : Bool) : Prop :=
  match x with
  | .non => k = false
  | .bl b => k = b
  | .int i => k = (i != 0)
  | .str y => y.length ≤ sizeLine ∧ k = ((y.length : Int) != 0)
  | .byt y => y.size ≤ sizeLine ∧ k = ((y.size : Int) != 0)
  | .ref p => (∃ xs, SqL K H p xs ∧ k = !xs.isEmpty) ∨ (∃ xs, SqT K H p xs ∧ k = !xs.isEmpty) ∨ ∃ kvs, H p = some (.dK kvs) ∧ k = !kvs.isEmpty
  | _ => False
theorem isEmpty_kv {κ : Type} {kvs : List (κ × V)} {vs : List (κ × Value)} (r : KV kvs vs) : (!vs.isEmpty) = !kvs.isEmpty := by
  cases r <;> rfl
theorem isEmpty_of {xs : List V} {its : List Value} (r : Vals xs its) : (!its.toArray.isEmpty) = !xs.isEmpty := by
  cases r <;> simp
theorem line63 : (sizeLine : Nat) < 2 ^ 63 := by rw [sizeLine_eq]; decide
theorem tru_ok : TruR X (fun x H Q => ∃ k, TruV X.K x H k ∧ Q k H) := by
  intro pins s σ H x v Q I rx h
  obtain ⟨k, e, q⟩ := h
  have hl := line63
  have hs : sizeLine = 16777216 := sizeLine_eq
  cases x with
  | non =>
    cases rx
    have e' : k = false := e
    subst e'
    exact truthy_none ⟨H, I, q⟩
  | bl b =>
    cases rx
    have e' : k = b := e
    subst e'
    exact wpAny_truthy_bool ⟨H, I, q⟩
  | int i =>
    obtain ⟨t, rfl⟩ := rx
    have e' : k = (i != 0) := e
    subst e'
    exact PySem.P.truthy_int ⟨H, I, q⟩
  | str y =>
    obtain ⟨t, rfl⟩ := rx
    obtain ⟨hy, e'⟩ : y.length ≤ sizeLine ∧ k = ((y.length : Int) != 0) := e
    subst e'
    exact PySem.P.truthy_str (by omega) ⟨H, I.tok _, q⟩
  | byt y =>
    obtain ⟨t, rfl⟩ := rx
    obtain ⟨hy, e'⟩ : y.size ≤ sizeLine ∧ k = ((y.size : Int) != 0) := e
    subst e'
    exact PySem.W.truthy_bytes (by omega) ⟨H, I.tok _, q⟩
  | ref p =>
    cases rx
    have e' : (∃ xs, SqL X.K H p xs ∧ k = !xs.isEmpty) ∨ (∃ xs, SqT X.K H p xs ∧ k = !xs.isEmpty) ∨ ∃ kvs, H p = some (.dK kvs) ∧ k = !kvs.isEmpty := e
    rcases e' with ⟨xs, hx, e'⟩ | ⟨xs, hx, e'⟩ | ⟨kvs, hx, e'⟩
    · subst e'
      obtain ⟨its, r, pl, hz⟩ := I.list hx
      have hlen := r.length
      exact wpAny_truthy_list pl.isList (by simp only [List.size_toArray]; omega) ⟨H, I.tok _, by rw [isEmpty_of r]; exact q⟩
    · subst e'
      obtain ⟨its, r, pl, hz⟩ := I.tuple hx
      have hlen := r.length
      exact truthy_tuple pl (by simp only [List.size_toArray]; omega) ⟨H, I.tok _, by rw [isEmpty_of r]; exact q⟩
    · subst e'
      obtain ⟨hz, hS, vs, r, m⟩ : kvs.length ≤ sizeLine ∧ (p == sysModules) = false ∧ ∃ vs, KV kvs vs ∧ s.heap.DictOf (mixKind X.prog X.w) p vs := I.hok p _ hx
      have hlen : kvs.length = vs.length := Paired.length r
      exact wpAny_truthy_dict hS m (by omega) ⟨H, I.tok _, by rw [isEmpty_kv r]; exact q⟩
  | _ => exact (show False from e).elim
theorem pt_truth (ha : PE X a ta) (he : ∀ whole, isTrue a X.env whole = (do let v ← whole; standAt a.pos; holding [v] (truthy v))) :
    PT X a (fun σ H Q => ta σ H fun x H' => ∃ k, TruV X.K x H' k ∧ Q k H') := by
  intro pins s σ H Q I h
  exact isTrue_plain (thn (ha pins s σ H _ I h) fun v s1 ⟨x, H1, I1, r1, q1⟩ => tru_ok pins s1 σ H1 x v Q I1 r1 q1) (he _)

theorem vals1 {x : V} {us : List Value} (r : Vals [x] us) : ∃ u, us = [u] ∧ RelV x u := by
  cases r with
  | cons r1 r2 => cases r2; exact ⟨_, rfl, r1⟩
theorem vals2 {x y : V} {us : List Value} (r : Vals [x, y] us) : ∃ u w', us = [u, w'] ∧ RelV x u ∧ RelV y w' := by
  cases r with
  | cons r1 r2 =>
    cases r2 with
    | cons r3 r4 => cases r4; exact ⟨_, _, rfl, r1, r3⟩
theorem call_abs : CallR X (.builtin "abs") (fun xs H Q => ∃ i, xs = [.int i] ∧ Q (.int (if i < 0 then -i else i)) H) := by
  intro pins s σ H xs us Q I r h
  obtain ⟨i, rfl, q⟩ := h
  obtain ⟨u, rfl, t, rfl⟩ := vals1 r
  exact call_abs_int fun u tk => ⟨.int (if i < 0 then -i else i), H, I.tok _, ⟨_, rfl⟩, q⟩
theorem call_max2 (hc : X.calm = true) : CallR X (.builtin "max") (fun xs H Q => ∃ i j, xs = [.int i, .int j] ∧ Q (.int (if j > i then j else i)) H) := by
  intro pins s σ H xs us Q I r h
  obtain ⟨i, j, rfl, q⟩ := h
  obtain ⟨u, w', rfl, ⟨t, rfl⟩, ⟨t', rfl⟩⟩ := vals2 r
  refine max_two_ints (I.ok.hd hc) fun h' tk k => ⟨_, H, I.kept k, ?_, q⟩
  by_cases hj : j > i
  · rw [if_pos hj, if_pos hj]; exact ⟨_, rfl⟩
  · rw [if_neg hj, if_neg hj]; exact ⟨_, rfl⟩
theorem call_int1 : CallR X (.type "int") (fun xs H Q => (∃ i, xs = [.int i] ∧ Q (.int i) H) ∨ ∃ k, xs = [.bl k] ∧ Q (.int (if k then 1 else 0)) H) := by
  intro pins s σ H xs us Q I r h
  rcases h with ⟨i, rfl, q⟩ | ⟨k, rfl, q⟩
  · obtain ⟨u, rfl, t, rfl⟩ := vals1 r
    exact call_int_int ⟨.int i, H, I, ⟨_, rfl⟩, q⟩
  · obtain ⟨u, rfl, r1⟩ := vals1 r
    cases r1
    exact call_int_bool ⟨.int (if k then 1 else 0), H, I.tok _, ⟨_, rfl⟩, q⟩
end
end L2

namespace L2
open PySem PySem.Spec PyProof.Rows

structure ObjM (h : Heap) (x dx C : Addr) (mA : Str → Option Value) : Prop where
  obj : h.get? x = some (PySem.W.instObj C dx)
  ns : h.Ns1 dx mA
  ne : dx ≠ x

section
variable {prog : Program} {w : World} {A : Around} {E : Value → Shared → Prop} {s : Shared} {K : PySem.W.Frag} {x dx C f : Addr} {mA : Str → Option Value} {name : Str} {v : Value}

end

section
variable {P : Program} {w : World} {H H' : Hp} {h h' : Heap} {a C dx : Addr} {fs fs' : List (Str × V)}
end

structure Cls (K : PySem.W.Frag) (C : Addr) : Prop where
  pg : PySem.W.plainGet K C Str.empty = true
  hd : PySem.W.hasDictIn K C = true
  po : PySem.W.plainOver K C = true
  sa : PySem.W.findIn K (.ref C) "__setattr__" = some (some (.builtin "object.__setattr__"))
structure Con (K : PySem.W.Frag) (C : Addr) (f : Str) (v : V) (u : Value) : Prop where
  at_ : PySem.W.findIn K (.ref C) f = some (some u)
  rel : RelV v u
  get : PySem.W.specialIn K u "__get__" = some none
  cp : PySem.W.copiedNames.contains f = false
structure Meth (K : PySem.W.Frag) (C : Addr) (m : Str) (f : Addr) : Prop where
  at_ : PySem.W.findIn K (.ref C) m = some (some (.ref f))
  fn : PySem.W.isFn K (.ref f) = true
  kp : PySem.W.keepIn K (.ref f) = true

section
variable {X : Cx} {pins : List (Addr × Obj)} {σ : St} {H : Hp} {s : Shared} {a C dx : Addr} {fs : List (Str × V)} {f : Str} {v : V} {A : Around} {E : Value → Shared → Prop}

end

section
variable {X : Cx} {o e value : Expr} {f : Str} {pos pos' tpos : Pos} {ta tv : TE}
end

section
variable {X : Cx} {pins : List (Addr × Obj)} {σ : St} {H : Hp} {s : Shared} {A : Around} {E : Value → Shared → Prop} {Q : Value → Shared → Prop} {c : Value} {b : Bool}
inductive TyOf (K : PySem.W.Frag) (H : Hp) : V → Value → Prop where
  | non : TyOf K H .non (.type "NoneType")
  | bl (x : Bool) : TyOf K H (.bl x) (.type "bool")
  | int (i : Int) : TyOf K H (.int i) (.type "int")
  | str (x : Str) : TyOf K H (.str x) (.type "str")
  | flt (x : UInt64) : TyOf K H (.flt x) (.type "float")
  | lst {a : Addr} {xs : List V} (e : H a = some (.lst xs)) : TyOf K H (.ref a) (.type "list")
  | frz {a : Addr} {o : Obj} {xs : List V} (e : H a = some (.frz o (.lst xs))) : TyOf K H (.ref a) (.type "list")
  | tup {a : Addr} {xs : List V} (e : H a = some (.tup xs)) : TyOf K H (.ref a) (.type "tuple")
  | dK {a : Addr} {kvs : List (Key × V)} (e : H a = some (.dK kvs)) : TyOf K H (.ref a) (.type "dict")
  | dT {a : Addr} {kvs : List (List Key × V)} (e : H a = some (.dT kvs)) : TyOf K H (.ref a) (.type "dict")
  | ins {a C dx : Addr} {fs : List (Str × V)} (e : H a = some (.ins C dx fs)) (cl : Cls K C) (ha : PySem.W.findIn K (.ref C) "__class__" = some (some (.builtin "object.__class__")))
      (hn : PySem.W.specialIn K (.builtin "object.__class__") "__get__" = some (some (.builtin "getset_descriptor.__get__"))) (htk : PySem.W.takesIn K (.builtin "object.__class__") = some true)
      (hm : PySem.W.mroIn K C (.type "object") = some true) : TyOf K H (.ref a) (.ref C)
end
end L2

namespace L2
open PySem PySem.Spec PyProof.Rows

structure Room (k : Nat) (A : Around) : Prop where
  hd : A.handled = none
  dp : A.depth + 3 * k + 5 < recursionLimit
  un : A.units + 16 * k + 200 < cLine
theorem Room.mono {j k : Nat} {A : Around} (r : Room k A) (h : j ≤ k) : Room j A := ⟨r.hd, by have := r.dp; omega, by have := r.un; omega⟩
theorem Room.deeper {k : Nat} {A : Around} (r : Room (k + 1) A) (env : Env) : Room k (A.deeper env) :=
  ⟨r.hd, by have := r.dp; show A.depth + 1 + 3 * k + 5 < _; omega, by have := r.un; show A.units + 3 + 16 * k + 200 < _; omega⟩
theorem Room.depth {k : Nat} {A : Around} (r : Room k A) : A.depth < recursionLimit := by have := r.dp; omega
theorem Room.units {k : Nat} {A : Around} (r : Room k A) : A.units + 64 < cLine := by have := r.un; omega
def tNil : TA := fun _ H Q => Q [] H
def tCons (ta : TE) (tr : TA) : TA := fun σ H Q => ta σ H fun x H1 => tr σ H1 fun xs H2 => Q (x :: xs) H2
section
variable {X : Cx} {e : Expr} {es : List Expr} {te : TE} {t : TA} {pos : Pos}
theorem pa_nil : PA X [] tNil := fun _ _ _ _ H Q I h => Calls.spliced_nil ⟨[], H, I, .nil, h⟩
theorem pa_cons (ha : PE X e te) (hr : PA X es t) (hs : starEach (e :: es) X.env = (false, eval e X.env) :: starEach es X.env := by rfl) : PA X (e :: es) (tCons te t) := by
  intro pos pins s σ H Q I h
  rw [hs]
  show wpAny _ _ (spliced ((false, eval e X.env) :: backTo pos (starEach es X.env))) _ _ s
  refine Calls.spliced_cons (thn (ha pins s σ H _ I h) fun u s1 ⟨x, H1, I1, r1, q1⟩ => ?_)
  exact thn (hr pos pins s1 σ H1 _ I1 q1) fun us s2 ⟨xs, H2, I2, r2, q2⟩ => ⟨x :: xs, H2, I2, .cons r1 r2, q2⟩

def tTup (t : TA) : TE := fun σ H Q => t σ H fun xs H1 => xs.length ≤ sizeLine ∧ ∀ p, H1 p = none → Q (.ref p) (upd H1 p (.tup xs))
def tLst (t : TA) : TE := fun σ H Q => t σ H fun xs H1 => xs.length ≤ sizeLine ∧ ∀ p, H1 p = none → Q (.ref p) (upd H1 p (.lst xs))
theorem pe_tup {x1} (h : PA X es t) : PE X (.Tuple es x1 pos) (tTup t) := by
  intro pins s σ H Q I hq
  refine wpAny_Tuple_spliced (thn (h pos pins s σ H _ I hq) fun us s1 ⟨xs, H1, I1, r, z, q⟩ => ⟨by rw [← r.length]; exact z, ?_⟩)
  have hf : H1 s1.heap.objs.size = none := I1.hok.fresh (Nat.le_refl _)
  refine ⟨.ref s1.heap.objs.size, upd H1 s1.heap.objs.size (.tup xs), I1.laid (t' := s1.toks) (fun b u e => Heap.get?_push_of_some _ e) (Nat.le_refl _) ?_, rfl, q _ hf⟩
  exact ⟨z, us, r, ⟨_, Heap.get?_push_size _ rfl, rfl, _, rfl⟩⟩
theorem pe_lst (h : PA X es t) : PE X (.List es pos) (tLst t) := by
  intro pins s σ H Q I hq
  refine wpAny_List_spliced (thn (h pos pins s σ H _ I hq) fun us s1 ⟨xs, H1, I1, r, z, q⟩ => ⟨by rw [← r.length]; exact z, ?_⟩)
  have hf : H1 s1.heap.objs.size = none := I1.hok.fresh (Nat.le_refl _)
  refine ⟨.ref s1.heap.objs.size, upd H1 s1.heap.objs.size (.lst xs), I1.laid (t' := s1.toks) (fun b u e => Heap.get?_push_of_some _ e) (Nat.le_refl _) ?_, rfl, q _ hf⟩
  exact ⟨z, us, 0, r, Heap.get?_push_size _ rfl⟩
end

abbrev Sp := List V → Hp → VK → XK → Prop
abbrev CXT := List Env → Hp → Shared → XK → Value → Shared → Prop

structure Env0 (P : Program) (w : World) (K : PySem.W.Frag) (mg : Str → Option Value) (base : Heap) (A : Around) (outer : List Env) (s : Shared) (H : Hp) : Prop where
  frames : A.frames = some outer
  mod : Mod K mg base
  bs : ∀ b o, base.get? b = some o → s.heap.get? b = some o ∧ H b = none
  bsz : base.objs.size ≤ s.heap.objs.size
  funs : s.heap.FunFrames base outer
  frf : ∀ b ∈ frs outer, H b = none
  hok : HOk P w H s.heap
  bare : AllBare s.gens
def CE (outer : List Env) (P : Program) (w : World) (H : Hp) (s : Shared) (Q : VK) (u : Value) (s' : Shared) : Prop :=
  ∃ v H', s'.os = s.os ∧ AllBare s'.gens ∧ Un (frs outer) [] H H' s.heap s'.heap ∧ HOk P w H' s'.heap ∧ RelV v u ∧ Q v H'
def CR (CX : CXT) (outer : List Env) (P : Program) (w : World) (H : Hp) (s : Shared) (Q : VK) (E : XK) (r : Result) (s' : Shared) : Prop :=
  match r with
  | .ok (.ret u) => CE outer P w H s Q u s'
  | .ok _ => False
  | .error e => CX outer H s E e s'
structure FnOk (P : Program) (w : World) (K : PySem.W.Frag) (mg : Str → Option Value) (base : Heap) (CX : CXT) (k : Nat) (f : Addr) (fd : FuncData) (ps : List Str) (sp : Sp) : Prop where
  len : ∀ vs H Q E, sp vs H Q E → vs.length = ps.length
  run : ∀ (A : Around) (outer : List Env) (s : Shared) (H : Hp) (args : Args) (us : List Value) (vs : List V) (Q : VK) (E : XK), Room k A → Env0 P w K mg base A outer s H → BindsTo s fd args (ps.zip us) → Vals vs us → sp vs H Q E →
    codeAny (model P w) A (.call (.ref f) args) (CR CX outer P w H s Q E) s
theorem FnOk.mono {P : Program} {w : World} {K : PySem.W.Frag} {mg : Str → Option Value} {base : Heap} {CX : CXT} {j k : Nat} {f : Addr} {fd : FuncData} {ps : List Str} {sp : Sp} (F : FnOk P w K mg base CX j f fd ps sp) (h : j ≤ k) :
    FnOk P w K mg base CX k f fd ps sp := ⟨F.len, fun A outer s H args us vs Q E hr => F.run A outer s H args us vs Q E (hr.mono h)⟩
theorem FnOk.imp {P : Program} {w : World} {K : PySem.W.Frag} {mg : Str → Option Value} {base : Heap} {CX : CXT} {k : Nat} {f : Addr} {fd : FuncData} {ps : List Str} {sp sp' : Sp} (F : FnOk P w K mg base CX k f fd ps sp)
    (h : ∀ vs H Q E, sp' vs H Q E → sp vs H Q E) : FnOk P w K mg base CX k f fd ps sp' :=
  ⟨fun vs H Q E q => F.len vs H Q E (h _ _ _ _ q), fun A outer s H args us vs Q E hr he hb hv hs => F.run A outer s H args us vs Q E hr he hb hv (h _ _ _ _ hs)⟩

section
variable {X : Cx} {pins : List (Addr × Obj)} {σ : St} {H : Hp} {s s' : Shared}
theorem Inv.env0 (I : Inv X pins σ H s) : Env0 X.prog X.w X.K X.mg X.base X.A X.stack s H :=
  ⟨I.ok.frames, I.ok.mod, I.bs, Nat.le_trans I.ok.bsz I.sz, I.stack, I.stkFree, I.hok, I.bare⟩
theorem Inv.after {Q : VK} {u : Value} (I : Inv X pins σ H s) (h : CE X.stack X.prog X.w H s Q u s') : EP X pins σ Q u s' := by
  obtain ⟨v, H', os, bare, un, hok, r, q⟩ := h
  obtain ⟨hh, g, d, t, os'⟩ := s'
  obtain rfl : os' = s.os := os
  exact ⟨v, H', I.call (h' := hh) (g' := g) (d' := d) (t' := t) (ch := []) un hok bare (fun b z => absurd z (by simp)), r, q⟩
end

def tCall (sp : Sp) (dvs : List V) (E : XK) (t : TA) : TE := fun σ H Q => t σ H fun vs H1 => sp (vs ++ dvs) H1 Q E
def Binds (K : PySem.W.Frag) (fd : FuncData) (ps : List Str) (ds : List Value) : Prop :=
  ∀ (s : Shared) (us : List Value), K.In s.heap → (us ++ ds).length = ps.length → BindsTo s fd ⟨us, []⟩ (ps.zip (us ++ ds))
theorem Binds.all {K : PySem.W.Frag} {fd : FuncData} {ps : List Str} (h : ∀ us : List Value, us.length = ps.length → bindArgs fd ⟨us, []⟩ = pure (ps.zip us)) : Binds K fd ps [] := fun s us _ hl => by
  rw [List.append_nil] at hl ⊢
  exact .of_eq (h us hl)

def Passes (CX : CXT) (X : Cx) (E : XK) : Prop := ∀ (pins : List (Addr × Obj)) (σ : St) (H : Hp) (s : Shared) (e : Value) (s' : Shared), Inv X pins σ H s → CX X.stack H s E e s' → X.xe e s'

section
variable {X : Cx} {CX : CXT} {k : Nat} {f C : Addr} {fd : FuncData} {ps : List Str} {sp : Sp} {dvs : List V} {ds : List Value} {E : XK} {x m : Str} {p pos apos : Pos} {e o : Expr} {es : List Expr} {ta : TE} {t : TA}

theorem run_fn {pins : List (Addr × Obj)} {σ : St} {H : Hp} {s : Shared} {Q : VK} {us : List Value} {vs : List V} (F : FnOk X.prog X.w X.K X.mg X.base CX k f fd ps sp) (hr : Room k X.A) (hb : Binds X.K fd ps ds) (hd : Vals dvs ds) (hx : Passes CX X E)
    (I : Inv X pins σ H s) (r : Vals vs us) (h : sp (vs ++ dvs) H Q E) : wpAny (model X.prog X.w) X.A (call (.ref f) us) (EP X pins σ Q) X.xe s := by
  have r2 : Vals (vs ++ dvs) (us ++ ds) := r.append hd
  have hl : (us ++ ds).length = ps.length := by rw [← r2.length]; exact F.len _ _ _ _ h
  refine wpAny_call (codeAny_mono (F.run X.A X.stack s H ⟨us, []⟩ (us ++ ds) (vs ++ dvs) Q E hr I.env0 (hb s us I.kIn hl) r2 h) fun r s' hq => ?_)
  cases r with
  | error e => exact hx pins σ H s e s' I hq
  | ok fl =>
    cases fl with
    | ret u => exact I.after hq
    | next => exact False.elim hq
    | brk => exact False.elim hq
    | cont => exact False.elim hq

theorem pe_call (F : FnOk X.prog X.w X.K X.mg X.base CX k f fd ps sp) (hr : Room k X.A) (hg : Gl X x) (hm : X.mg x = some (.ref f)) (hk : PySem.W.keepIn X.K (.ref f) = true) (hb : Binds X.K fd ps ds) (hd : Vals dvs ds) (hx : Passes CX X E)
    (ha : PA X (e :: es) t) (hdb : (x == ("__debug__" : Str)) = false := by decide) (he : starEach (e :: es) X.env = (false, eval e X.env) :: starEach es X.env := by rfl) (hpl : (backTo pos (starEach es X.env)).any (·.1) = false := by rfl) :
    PE X (.Call (.Name x p) (e :: es) [] pos) (tCall sp dvs E t) := by
  intro pins s σ H Q I h
  refine wpAny_Call_Name_kw (ld_glob I hg hm ?_ hdb)
  refine PySem.W.callWith_K (h₀ := X.base) I.ok.mod.kin hk (thn (ha pos pins s σ H _ I h) fun us s1 ⟨vs, H1, I1, r, q⟩ => ⟨I1.kIn, ?_⟩) he hpl
  exact run_fn F hr hb hd hx I1 r q
structure Mk (K : PySem.W.Frag) (C f : Addr) : Prop where
  makes : PySem.W.makesIn K C = true
  init : PySem.W.findIn K (.ref C) "__init__" = some (some (.ref f))
  fn : PySem.W.isFn K (.ref f) = true
  kp : PySem.W.keepIn K (.ref C) = true

end

section
variable {X : Cx} {CX : CXT} {k : Nat} {f C : Addr} {fd : FuncData} {ps ks : List Str} {sp : Sp} {E : XK} {x m : Str} {p pos apos kpos : Pos} {e o : Expr} {es : List Expr} {kws : List Keyword} {te ta : TE} {t tk : TA} {nm : Option Str}
structure KBinds (K : PySem.W.Frag) (fd : FuncData) (ps ks : List Str) (g : List Value → List Value → List Value) (gV : List V → List V → List V) : Prop where
  to : ∀ (s : Shared) (us ws : List Value), K.In s.heap → (g us ws).length = ps.length → BindsTo s fd ⟨us, ks.zip ws⟩ (ps.zip (g us ws))
  rel : ∀ {vs : List V} {us : List Value} {zs : List V} {ws : List Value}, Vals vs us → Vals zs ws → Vals (gV vs zs) (g us ws)
variable {g : List Value → List Value → List Value} {gV : List V → List V → List V}
end

structure FnScope (N P : List Str) (sc : Scope) : Prop where
  kind : sc.kind = .function
  co : sc.isCoroutine = false
  gen : sc.isGenerator = false
  nd : N.Nodup
  pre : N.take P.length = P
  par : ∀ x ∈ P, sc.names.lookup x = some .local ∨ sc.names.lookup x = some .cell
  nofree : ∀ y ∈ sc.names, y.2 ≠ .free

theorem bindL_out {kindOf : Str → Option NameKind} {x : Str} : ∀ {binds : List (Str × Value)} {m : Str → Option Value}, (∀ v, (x, v) ∉ binds) → bindL kindOf binds m x = m x
  | [], _, _ => rfl
  | (n, v) :: r, m, h => by
    unfold bindL
    rw [bindL_out fun w hw => h w (List.mem_cons_of_mem _ hw)]
    split
    · have : x ≠ n := by rintro rfl; exact h v List.mem_cons_self
      simp [this]
    · rfl
theorem bindC_out {kindOf : Str → Option NameKind} {x : Str} : ∀ {binds : List (Str × Value)} {m : Str → Option Value}, (∀ v, (x, v) ∉ binds) → bindC kindOf binds m x = m x
  | [], _, _ => rfl
  | (n, v) :: r, m, h => by
    unfold bindC
    rw [bindC_out fun w hw => h w (List.mem_cons_of_mem _ hw)]
    split
    · rfl
    · have : x ≠ n := by rintro rfl; exact h v List.mem_cons_self
      simp [this]
theorem bindL_get {kindOf : Str → Option NameKind} {x : Str} {v : Value} : ∀ {P : List Str} {vs : List Value} {i : Nat} {m : Str → Option Value}, P.Nodup → P[i]? = some x → vs[i]? = some v → kindOf x = some .local →
    bindL kindOf (P.zip vs) m x = some v
  | [], _, _, _, _, h, _, _ => by simp at h
  | _ :: _, [], _, _, _, _, h, _ => by simp at h
  | p :: P, w :: vs, 0, m, nd, h1, h2, hk => by
    simp at h1 h2; subst h1; subst h2
    show bindL kindOf ((p, w) :: P.zip vs) m p = _
    unfold bindL
    rw [bindL_out fun v hv => (List.nodup_cons.mp nd).1 (List.of_mem_zip hv).1, if_pos hk]
    simp
  | p :: P, w :: vs, i + 1, m, nd, h1, h2, hk => by
    show bindL kindOf ((p, w) :: P.zip vs) m x = _
    unfold bindL
    exact bindL_get (i := i) (List.nodup_cons.mp nd).2 (by simpa using h1) (by simpa using h2) hk
theorem bindC_get {kindOf : Str → Option NameKind} {x : Str} {v : Value} : ∀ {P : List Str} {vs : List Value} {i : Nat} {m : Str → Option Value}, P.Nodup → P[i]? = some x → vs[i]? = some v → kindOf x ≠ some .local →
    bindC kindOf (P.zip vs) m x = some v
  | [], _, _, _, _, h, _, _ => by simp at h
  | _ :: _, [], _, _, _, _, h, _ => by simp at h
  | p :: P, w :: vs, 0, m, nd, h1, h2, hk => by
    simp at h1 h2; subst h1; subst h2
    show bindC kindOf ((p, w) :: P.zip vs) m p = _
    unfold bindC
    rw [bindC_out fun v hv => (List.nodup_cons.mp nd).1 (List.of_mem_zip hv).1, if_neg hk]
    simp
  | p :: P, w :: vs, i + 1, m, nd, h1, h2, hk => by
    show bindC kindOf ((p, w) :: P.zip vs) m x = _
    unfold bindC
    exact bindC_get (i := i) (List.nodup_cons.mp nd).2 (by simpa using h1) (by simpa using h2) hk

def start (N : List Str) (vs : List V) : St := vs.map some ++ List.replicate (N.length - vs.length) none

def cxOf (CX : CXT) (P : Program) (w : World) (K : PySem.W.Frag) (mg : Str → Option Value) (base : Heap) (N : List Str) (qual : Str) (scope : Scope) (f : Addr) (cd : Value) (A : Around) (outer : List Env) (s : Shared) (H : Hp) (E : XK) : Cx where
  prog := P
  w := w
  K := K
  mg := mg
  base := base
  A := A.deeper (envOfC qual scope s.heap.objs.size f cd)
  N := N
  s₀ := s
  H₀ := H
  env := envOfC qual scope s.heap.objs.size f cd
  outer := outer
  stack := envOfC qual scope s.heap.objs.size f cd :: outer
  ex := []
  calm := true
  fn := fun _ => true
  pn := []
  xe := fun e s' => wpAny (model P w) (A.deeper (envOfC qual scope s.heap.objs.size f cd)) (leaving (envOfC qual scope s.heap.objs.size f cd) e) (fun _ s'' => CX outer H s E e s'') (fun e' s'' => CX outer H s E e' s'') s'

theorem cell_has {sc : Scope} {n : Nat} {x : Str} (h : sc.names.lookup x = some .cell) : ∃ c, (cellsFrom n sc.names []).lookup x = some c := by
  have q := PySem.W.cellsFrom_some sc.names n [] (.inl h)
  exact Option.isSome_iff_exists.mp q

theorem inv_start {CX : CXT} {P : Program} {w : World} {K : PySem.W.Frag} {mg : Str → Option Value} {base : Heap} {N ps : List Str} {qual : Str} {scope : Scope} {f : Addr} {cd : Value} {A : Around} {outer : List Env} {s s1 : Shared} {H : Hp} {E : XK} {us : List Value} {vs : List V}
    (S : FnScope N ps scope) (hd : A.handled = none) (e0 : Env0 P w K mg base A outer s H) (hl : vs.length = ps.length) (r : Vals vs us)
    (x : InCallC s s.heap.objs.size (bindL (envOfC qual scope s.heap.objs.size f cd).kindOf (ps.zip us) fun _ => none) (cellsFrom (s.heap.objs.size + 1) scope.names []) (bindC (envOfC qual scope s.heap.objs.size f cd).kindOf (ps.zip us) fun _ => none) s1) :
    Inv (cxOf CX P w K mg base N qual scope f cd A outer s H E) [] (start N vs) H s1 := by
  have hpl : ps.length ≤ N.length := by have := congrArg List.length S.pre; rw [List.length_take] at this; omega
  obtain ⟨h1, tk, rfl, hk⟩ := x.done
  have noA : ∀ b : Addr, b ∉ (cxOf CX P w K mg base N qual scope f cd A outer s H E).ex := fun b z => absurd (show b ∈ ([] : List Addr) from z) (by simp)
  refine ⟨⟨e0.mod, S.kind, rfl, rfl, Nat.le_refl _, fun y z c h1 h2 => ?_, fun y hy => ?_, fun y c _ h => ?_, fun _ => hd, Around.frames_deeper e0.frames, .inr ⟨rfl, rfl⟩, fun b z => absurd z (noA b), e0.bs, e0.bsz, fun b _ _ => noA b, fun b z => absurd z (noA b), e0.funs, e0.frf⟩,
    rfl, e0.bare, Un.kept hk, ⟨_, x.toInCall.ns, fun i y v h1 h2 h3 => ?_⟩, fun y c h => ⟨_, x.cell y c h⟩, e0.hok.fresh (Nat.le_refl _), fun y c h => ?_, fun p hp => absurd (show p ∈ ([] : List (Addr × Obj)) from hp) (by simp), e0.hok.kept hk, ?_⟩
  · exact name_of_addr x.apart (PySem.mem_of_lookup h1) (PySem.mem_of_lookup h2)
  · have hy : scope.names.lookup y = some .cell ∨ scope.names.lookup y = some .free := hy
    rcases hy with hy | hy
    · exact cell_has hy
    · exact absurd rfl (S.nofree _ (PySem.mem_of_lookup hy))
  · exact Nat.le_of_lt (x.above y c (PySem.mem_of_lookup h))
  · have hi : i < vs.length := by
      unfold start at h2
      by_cases hi : i < vs.length
      · exact hi
      · rw [List.getElem?_append_right (by simpa using hi)] at h2
        rw [List.getElem?_replicate] at h2
        split at h2 <;> cases h2
    have ha : vs[i]? = some v := by
      unfold start at h2
      rw [List.getElem?_append_left (by simpa using hi), List.getElem?_map] at h2
      cases e : vs[i]? with
      | none => rw [e] at h2; cases h2
      | some a => rw [e] at h2; cases h2; rfl
    obtain ⟨u, hu, rv⟩ := r.get ha
    have hp : ps[i]? = some y := by
      rw [← S.pre, List.getElem?_take_of_lt (by omega)]; exact h1
    have ndP : ps.Nodup := by rw [← S.pre]; exact S.nd.sublist (List.take_sublist _ _)
    refine ⟨u, rv, ?_⟩
    rcases S.par y (List.mem_of_getElem? hp) with k | k
    · exact .inl ⟨k, bindL_get ndP hp hu k⟩
    · obtain ⟨c, e⟩ := cell_has (n := s.heap.objs.size + 1) k
      refine .inr ⟨.inl k, c, e, ?_⟩
      have q := x.cell y c e
      rw [bindC_get ndP hp hu (by show scope.names.lookup y ≠ _; rw [k]; decide)] at q
      exact q
  · exact e0.hok.fresh (Nat.le_of_lt (x.above y c (PySem.mem_of_lookup h)))
  · unfold start
    show _ = N.length
    rw [List.length_append, List.length_map, List.length_replicate]
    omega

theorem fn_of {CX : CXT} {P : Program} {w : World} {K : PySem.W.Frag} {mg : Str → Option Value} {base : Heap} {k : Nat} {f : Addr} {name qual : Str} {params : Arguments} {body : List Stmt} {scope : Scope} {dV kV doc pm cdv ct oc : Value} {an od : Option Addr}
    {osl : Array (Option Value)} {N ps : List Str} {sp : Sp} (lk : K.lookup f = some ⟨oc, od, .func (PySem.W.fnOf name qual params body scope dV kV doc pm an cdv ct), osl⟩) (hcd : PySem.W.codeIn K cdv qual = true) (S : FnScope N ps scope)
    (len : ∀ vs H Q E, sp vs H Q E → vs.length = ps.length)
    (hbody : ∀ (A : Around) (outer : List Env) (s : Shared) (H : Hp) (vs : List V) (Q : VK) (E : XK), Room k (A.deeper (envOfC qual scope s.heap.objs.size f cdv)) → sp vs H Q E →
      ∃ t, PSs (cxOf CX P w K mg base N qual scope f cdv A outer s H E) body t ∧ t { nx := fun _ H' => Q .non H', rt := Q } (start N vs) H) :
    FnOk P w K mg base CX (k + 1) f (PySem.W.fnOf name qual params body scope dV kV doc pm an cdv ct) ps sp := by
  refine ⟨len, fun A outer s H args us vs Q E hr e0 hb r hsp => ?_⟩
  have hl := len _ _ _ _ hsp
  have KX : K.In s.heap := e0.mod.kin.keeps fun b o e => (e0.bs b o e).1
  have lim : s.heap.NoLimit := e0.mod.nolimit.keeps fun b o e => (e0.bs b o e).1
  have hkind : ∀ y ∈ ps.zip us, scope.names.lookup y.1 = some .local ∨ (scope.names.lookup y.1 = some .cell ∧ ((cellsFrom (s.heap.objs.size + 1) scope.names []).lookup y.1).isSome = true) := fun ⟨n, v⟩ hy => by
    rcases S.par n (List.of_mem_zip hy).1 with q | q
    · exact .inl q
    · exact .inr ⟨q, PySem.W.cellsFrom_some _ _ _ (.inl q)⟩
  refine codeAny_call_function hr.depth (KX _ _ lk) rfl S.co S.gen rfl (PySem.W.codeRec_of KX hcd) (hb _ _ _ _ ?_)
  refine wpAny_newFunctionEnv_cells S.kind hkind fun env he s1 x => ?_
  subst he
  refine ⟨lim.keeps x.toInCall.keep, codeAny_func ?_⟩
  obtain ⟨t, ht, hq⟩ := hbody A outer s H vs Q E (hr.deeper _) hsp
  have I : Inv (cxOf CX P w K mg base N qual scope f cdv A outer s H E) [] (start N vs) H s1 := inv_start S hr.hd e0 hl r x
  refine wpAny_mono (ht [] s1 (start N vs) H _ I hq) (fun fl s' hs => ?_) fun e s' hs => hs
  have fin : ∀ {σ' : St} {H' : Hp} {v : V} {u : Value}, Inv (cxOf CX P w K mg base N qual scope f cdv A outer s H E) [] σ' H' s' → RelV v u → Q v H' → CE outer P w H s Q u s' :=
    fun {σ' H' v u} J rv q => ⟨v, H', J.os, J.bare, J.base, J.hok, rv, q⟩
  cases fl with
  | ret u =>
    obtain ⟨v, σ', H', J, rv, q⟩ := hs
    exact fin J rv q
  | next =>
    obtain ⟨σ', H', J, q⟩ := hs
    exact fin (v := V.non) (u := Value.none) J rfl q
  | brk =>
    obtain ⟨_, _, _, q⟩ := hs
    exact False.elim q
  | cont =>
    obtain ⟨_, _, _, q⟩ := hs
    exact False.elim q
end L2

namespace L2
open PySem PySem.Spec PyProof.Rows
section
variable {X : Cx} {x : Str} {p pos : Pos} {e : Expr} {es : List Expr} {t : TA} {id T : String} {r : List V → Hp → VK → Prop}

def tCB (r : List V → Hp → VK → Prop) (t : TA) : TE := fun σ H Q => t σ H fun vs H1 => r vs H1 Q
theorem pe_callB (hc : CallR X (.builtin id) r) (hg : Gl X x) (hm : X.mg x = none) (hv : bootBuiltins x = some (.builtin id)) (ha : PA X (e :: es) t) (hn : x ≠ "__name__" := by decide) (hdb : (x == ("__debug__" : Str)) = false := by decide)
    (he : starEach (e :: es) X.env = (false, eval e X.env) :: starEach es X.env := by rfl) (hpl : (backTo pos (starEach es X.env)).any (·.1) = false := by rfl) : PE X (.Call (.Name x p) (e :: es) [] pos) (tCB r t) := by
  intro pins s σ H Q I h
  refine wpAny_Call_Name_kw (ld_blt I hg hm hv ?_ hn hdb)
  exact PyProof.Rows.callWith_builtin1 (thn (ha pos pins s σ H _ I h) fun us s1 ⟨vs, H1, I1, r1, q1⟩ => hc pins s1 σ H1 vs us Q I1 r1 q1) he hpl
theorem pe_callTy (hc : CallR X (.type T) r) (hg : Gl X x) (hm : X.mg x = none) (hv : bootBuiltins x = some (.type T)) (ha : PA X (e :: es) t) (hn : x ≠ "__name__" := by decide) (hdb : (x == ("__debug__" : Str)) = false := by decide)
    (he : starEach (e :: es) X.env = (false, eval e X.env) :: starEach es X.env := by rfl) (hpl : (backTo pos (starEach es X.env)).any (·.1) = false := by rfl) : PE X (.Call (.Name x p) (e :: es) [] pos) (tCB r t) := by
  intro pins s σ H Q I h
  refine wpAny_Call_Name_kw (ld_blt I hg hm hv ?_ hn hdb)
  exact PyProof.Rows.callWith_type1 (thn (ha pos pins s σ H _ I h) fun us s1 ⟨vs, H1, I1, r1, q1⟩ => hc pins s1 σ H1 vs us Q I1 r1 q1) he hpl
end
end L2

namespace HT
open PySem PyProof.Rows

section
open PySem.SeqAt
open PySem.AutoSeq1 (wpAny_loadPart')
open PySem.MeetsSeq PySem.MeetsSeq2 PySem.MeetsSeq3

end

section
variable {prog : Program} {w : World} {A : Around} {E : Value → Shared → Prop} {s : Shared}

theorem cat_tup {t b : Addr} {vs ws : List Value} {Q : Value → Shared → Prop} (ht : IsTup s.heap t vs.toArray) (hb : IsTup s.heap b ws.toArray) (hv : vs ≠ [])
    (h1 : ws = [] → Q (.ref t) s) (h2 : ws ≠ [] → Q (.ref s.heap.objs.size) { s with heap := s.heap.push { cls := .type "tuple", data := .seq (vs ++ ws).toArray } })
    (hsz : vs.length + ws.length ≤ sizeLine) : wpAny (model prog w) A (binaryOp .Add (.ref t) (.ref b)) Q E s := by
  obtain ⟨⟨cls, dd, data, sl⟩, ho, hc, n, hd⟩ := id ht
  obtain ⟨⟨cls2, dd2, data2, sl2⟩, ho2, hc2, n2, hd2⟩ := id hb
  simp only at hc hd hc2 hd2
  subst hc hd hc2 hd2
  have e : vs.toArray ++ ws.toArray = (vs ++ ws).toArray := by simp
  by_cases hw : ws = []
  · exact concat_meets ⟨_, ho, rfl⟩ ⟨_, ho2, rfl⟩ noFill_tuple_add seq_tuple_add PySem.F.slot_tuple_add PySem.F.entry_tuple_add (PySem.F.args_tuple_add_2 _ _)
      (tuple_addW1 t b vs.toArray ws.toArray n n2 dd dd2 sl sl2 (by simpa using hv) (by simp [hw])) ⟨ho, ho2, h1 hw⟩
  · refine concat_meets ⟨_, ho, rfl⟩ ⟨_, ho2, rfl⟩ noFill_tuple_add seq_tuple_add PySem.F.slot_tuple_add PySem.F.entry_tuple_add (PySem.F.args_tuple_add_2 _ _)
      (tuple_addW2 t b vs.toArray ws.toArray n n2 dd dd2 sl sl2 (by simpa using hv) (by simpa using hw) (by rw [List.size_toArray, List.size_toArray]; exact hsz)) ⟨ho, ho2, ?_⟩
    rw [e]
    exact h2 hw

end
end HT

namespace L2
open PySem PySem.Spec PyProof.Rows

abbrev TO := St → Hp → (Option Int → Hp → Prop) → Prop
section
variable {X : Cx} {e : Expr} {te : TE} {lo hi : Option Expr} {tl th : TO} {pos p2 : Pos}

def rCatT (K : PySem.W.Frag) : R2 := fun x y H Q => ∃ a b xs ys, x = .ref a ∧ y = .ref b ∧ SqT K H a xs ∧ SqT K H b ys ∧ xs ≠ [] ∧ xs.length + ys.length ≤ sizeLine ∧
  (ys = [] → Q (.ref a) H) ∧ (ys ≠ [] → ∀ p, H p = none → Q (.ref p) (upd H p (.tup (xs ++ ys))))
theorem Vals.nil_iff {xs : List V} {us : List Value} (r : Vals xs us) : us = [] ↔ xs = [] := by
  cases r with
  | nil => simp
  | cons _ _ => simp
theorem op_catT : OpR X (binaryOp .Add) (rCatT X.K) := by
  intro pins s σ H x y v u Q I rx ry h
  obtain ⟨a, b, xs, ys, rfl, rfl, ha, hb, hx, hz, q1, q2⟩ := h
  cases rx
  cases ry
  obtain ⟨its, r1, p1, _⟩ := I.tuple ha
  obtain ⟨its2, r2, p2, _⟩ := I.tuple hb
  refine HT.cat_tup p1 p2 (fun z => hx (r1.nil_iff.mp z)) (fun z => ⟨.ref a, H, I, rfl, q1 (r2.nil_iff.mp z)⟩) (fun z => ?_) (by rw [← r1.length, ← r2.length]; exact hz)
  refine ⟨.ref s.heap.objs.size, _, I.laid (t' := s.toks) (o := .tup (xs ++ ys)) (fun b ob q => Heap.get?_push_of_some _ q) (Nat.le_refl _) ?_, rfl, q2 (fun w => z (r2.nil_iff.mpr w)) _ (I.hok.fresh (Nat.le_refl _))⟩
  exact ⟨by rw [List.length_append]; exact hz, _, r1.append r2, IsTup.new _ _⟩
end
end L2

namespace L2
open PySem PySem.Spec PyProof.Rows

def ixN (n : Nat) (i : Int) : Option Nat := if 0 ≤ i then (if i < n then some i.toNat else none) else if -(n : Int) ≤ i then some (i + n).toNat else none
def atI {α : Type} (xs : List α) (i : Int) : Option α := (ixN xs.length i).bind fun j => xs[j]?
theorem ixN_seq {n : Nat} {i : Int} {j : Nat} (h : ixN n i = some j) : seqIndex? i n = some j ∧ j < n ∧ -(n : Int) ≤ i ∧ i < n := by
  unfold ixN at h
  by_cases h0 : 0 ≤ i
  · rw [if_pos h0] at h
    by_cases h1 : i < n
    · rw [if_pos h1] at h
      have e : i.toNat = j := Option.some.inj h
      exact ⟨by rw [seqIndex_of h0 h1, e], by omega, by omega, h1⟩
    · rw [if_neg h1] at h; cases h
  · rw [if_neg h0] at h
    by_cases h1 : -(n : Int) ≤ i
    · rw [if_pos h1] at h
      have e : (i + n).toNat = j := Option.some.inj h
      exact ⟨by rw [seqIndex_neg (by omega) h1, e], by omega, h1, by omega⟩
    · rw [if_neg h1] at h; cases h
theorem atI_get {α : Type} {xs : List α} {i : Int} {v : α} (h : atI xs i = some v) : ∃ j, seqIndex? i xs.length = some j ∧ xs[j]? = some v ∧ j < xs.length ∧ -(xs.length : Int) ≤ i ∧ i < xs.length := by
  unfold atI at h
  cases e : ixN xs.length i with
  | none => rw [e] at h; cases h
  | some j =>
    rw [e] at h
    obtain ⟨h1, h2, h3, h4⟩ := ixN_seq e
    exact ⟨j, h1, h, h2, h3, h4⟩
theorem atI_nat {α : Type} {xs : List α} {j : Nat} {v : α} (h : xs[j]? = some v) : atI xs (j : Int) = some v := by
  have hj : j < xs.length := (List.getElem?_eq_some_iff.mp h).1
  have e : ixN xs.length (j : Int) = some j := by
    unfold ixN
    rw [if_pos (by omega), if_pos (by omega)]; simp
  unfold atI; rw [e]; exact h
def PlainIx (b : Expr) : Prop := ∀ o i, subscripted b false o i = operate [o, i] (getItem o i)
def IxR (X : Cx) (r : R2) : Prop :=
  ∀ (value slice : Expr) (pins : List (Addr × Obj)) (s : Shared) (σ : St) (H : Hp) (x y : V) (v u : Value) (Q : VK), Inv X pins σ H s → RelV x v → RelV y u → r x y H Q →
    subscripted slice false v u = operate [v, u] (getItem v u) → wpAny (model X.prog X.w) X.A (subscriptTail value slice v u) (EP X pins σ Q) X.xe s
def MtR (X : Cx) (id : String) (r : V → List V → Hp → VK → Prop) : Prop :=
  ∀ (pins : List (Addr × Obj)) (s : Shared) (σ : St) (H : Hp) (x : V) (xs : List V) (v : Value) (us : List Value) (Q : VK), Inv X pins σ H s → RelV x v → Vals xs us → r x xs H Q →
    wpAny (model X.prog X.w) X.A (call (.builtin id) (v :: us)) (EP X pins σ Q) X.xe s
section
variable {X : Cx} {a b : Expr} {ta tb : TE} {pos : Pos}
theorem IxR.or {r r' : R2} (h : IxR X r) (h' : IxR X r') : IxR X (fun x y H Q => r x y H Q ∨ r' x y H Q) := by
  intro value slice pins s σ H x y v u Q I rx ry q hs
  rcases q with q | q
  · exact h value slice pins s σ H x y v u Q I rx ry q hs
  · exact h' value slice pins s σ H x y v u Q I rx ry q hs
theorem pe_ix {r : R2} (hr : IxR X r) (ha : PE X a ta) (hb : PE X b tb) (hs : PlainIx b) : PE X (.Subscript a b pos) (tOp r ta tb) := by
  intro pins s σ H Q I h
  exact Subscript_ (binT ha hb I h fun v u s2 x y H2 I2 rx ry q => hr a b pins s2 σ H2 x y v u Q I2 rx ry q (hs _ _))

def rIxL (K : PySem.W.Frag) : R2 := fun x y H Q => ∃ p xs i v, x = .ref p ∧ y = .int i ∧ SqL K H p xs ∧ atI xs i = some v ∧ Q v H
def rIxT (K : PySem.W.Frag) : R2 := fun x y H Q => ∃ p xs i v, x = .ref p ∧ y = .int i ∧ SqT K H p xs ∧ atI xs i = some v ∧ Q v H
def rIxS : R2 := fun x y H Q => ∃ z i c, x = .str z ∧ y = .int i ∧ z.length ≤ sizeLine ∧ atI z.cps.toList i = some c ∧ Q (.str ⟨#[c]⟩) H
theorem ix_list : IxR X (rIxL X.K) := by
  intro value slice pins s σ H x y v u Q I rx ry h hs
  obtain ⟨p, xs, i, z, rfl, rfl, hq, he, q⟩ := h
  cases rx
  obtain ⟨t, rfl⟩ := ry
  obtain ⟨its, r, pl, hz⟩ := I.list hq
  obtain ⟨j, h1, h2, h3, h4, h5⟩ := atI_get he
  obtain ⟨w, ew, rw'⟩ := r.get h2
  have hl := r.length
  have hn := line63
  have fin : EP X pins σ Q w s := ⟨z, H, I, rw', q⟩
  by_cases h0 : 0 ≤ i
  · have hj : i.toNat = j := by
      rw [seqIndex_of h0 h5] at h1
      exact Option.some.inj h1
    exact item_listR pl.isList h0 (by omega) (by rw [hj]; simpa using ew) fin hs
  · have hj : (i + (its.toArray.size : Int)).toNat = j := by
      rw [seqIndex_neg (by omega) h4] at h1
      rw [List.size_toArray, ← hl]
      exact Option.some.inj h1
    exact subscriptTail_builtinR (x := w) pl.isList.typeIs slot_list_getitem.lookup
      (wpAny_getItem_list_neg (Q := fun r s' => r = w ∧ EP X pins σ Q r s') pl.isList (by omega) (by rw [List.size_toArray] <;> omega) (by omega) (by rw [hj]; simpa using ew) ⟨rfl, fin⟩) hs
theorem ix_tup : IxR X (rIxT X.K) := by
  intro value slice pins s σ H x y v u Q I rx ry h hs
  obtain ⟨p, xs, i, z, rfl, rfl, hq, he, q⟩ := h
  cases rx
  obtain ⟨t, rfl⟩ := ry
  obtain ⟨its, r, pl, hz⟩ := I.tuple hq
  obtain ⟨j, h1, h2, h3, h4, h5⟩ := atI_get he
  obtain ⟨w, ew, rw'⟩ := r.get h2
  have hl := r.length
  have hn := line63
  have fin : EP X pins σ Q w s := ⟨z, H, I, rw', q⟩
  exact subscriptTail_builtinR (x := w) pl.typeIs slot_tuple_getitem.lookup
    (getItem_tuple (j := j) (Q := fun r s' => r = w ∧ EP X pins σ Q r s') pl (by omega) (by omega) (by rw [List.size_toArray, ← hl]; exact h1) (by simpa using ew) ⟨rfl, fin⟩) hs
theorem ix_str : IxR X rIxS := by
  intro value slice pins s σ H x y v u Q I rx ry h hs
  obtain ⟨z, i, c, rfl, rfl, hz, he, q⟩ := h
  obtain ⟨t, rfl⟩ := rx
  obtain ⟨t', rfl⟩ := ry
  obtain ⟨j, h1, h2, h3, h4, h5⟩ := atI_get he
  have hl : z.cps.toList.length = z.length := by simp [Str.length]
  rw [hl] at h1 h4 h5
  have hn := line63
  exact tail_any (typeIs_str s z t) slot_str_getitem.lookup (getItem_str (c := c) (by
    have e1 : decide (i < -(2 ^ 63 : Int)) = false := decide_eq_false (by omega)
    have e2 : decide (i ≥ 2 ^ 63) = false := decide_eq_false (by omega)
    rw [e1, e2, Bool.or_false]) (by rw [h1]; simpa using h2) ⟨.str ⟨#[c]⟩, H, I.tok _, ⟨_, rfl⟩, q⟩) hs
def rIx (K : PySem.W.Frag) : R2 := fun x y H Q => rIxL K x y H Q ∨ rIxT K x y H Q ∨ rIxS x y H Q
theorem ix_seq : IxR X (rIx X.K) := ix_list.or (ix_tup.or ix_str)

theorem mapSeq_set (its : List Value) (n j : Nat) (u : Value) : Obj.mapSeq (·.setIfInBounds j u) { cls := .type "list", data := .seq its.toArray n } = { cls := .type "list", data := .seq (its.set j u).toArray n } := by
  simp [Obj.mapSeq]
theorem Inv.lst {pins : List (Addr × Obj)} {σ : St} {H : Hp} {s : Shared} {p : Addr} {xs : List V} (I : Inv X pins σ H s) (h : H p = some (.lst xs)) :
    ∃ (its : List Value) (n : Nat), Vals xs its ∧ s.heap.get? p = some { cls := .type "list", data := .seq its.toArray n } ∧ xs.length ≤ sizeLine := by
  obtain ⟨z, its, n, r, e⟩ := I.hok p _ h
  exact ⟨its, n, r, e, z⟩
theorem Inv.lstUpd {pins : List (Addr × Obj)} {σ : St} {H : Hp} {s : Shared} {p : Addr} {xs ys : List V} {its its' : List Value} {n n' : Nat} {f : Obj → Obj} (I : Inv X pins σ H s) (h : H p = some (.lst xs))
    (ho : s.heap.get? p = some { cls := .type "list", data := .seq its.toArray n }) (hf : f { cls := .type "list", data := .seq its.toArray n } = { cls := .type "list", data := .seq its'.toArray n' }) (r : Vals ys its') (hz : ys.length ≤ sizeLine) (t : Nat) :
    Inv X pins σ (upd H p (.lst ys)) { s with heap := s.heap.update p f, toks := t } := by
  have e : (s.heap.update p f).get? p = some { cls := .type "list", data := .seq its'.toArray n' } := by
    rw [Heap.get?_update_self f ho (by rw [hf] <;> rfl), hf]
  refine I.write (x := p) (e := p) (by rw [h]; trivial) (.inl rfl) (fun b u hb q => (Heap.get?_update_other _ _ (Ne.symm hb)).trans q) ⟨_, e⟩ ?_
  exact ⟨hz, its', n', r, e⟩
def rSetL : V → V → V → Hp → (Hp → Prop) → Prop := fun o i v H Q => ∃ p xs k j, o = .ref p ∧ i = .int k ∧ H p = some (.lst xs) ∧ ixN xs.length k = some j ∧ Q (upd H p (.lst (xs.set j v)))
theorem set_list : PSet X rSetL := by
  intro pins s σ H o i v ov iv u Q I ro ri rv h
  obtain ⟨p, xs, k, j, rfl, rfl, hp, hj, q⟩ := h
  cases ro
  obtain ⟨t, rfl⟩ := ri
  obtain ⟨its, n, r, ho, hz⟩ := I.lst hp
  obtain ⟨h1, h2, h3, h4⟩ := ixN_seq hj
  have hl := r.length
  have hn := line63
  have I' : Inv X pins σ (upd H p (.lst (xs.set j v))) { s with heap := s.heap.update p (Obj.mapSeq (·.setIfInBounds j u)) } :=
    I.lstUpd hp ho (mapSeq_set its n j u) (r.set rv j) (by rw [List.length_set]; exact hz) s.toks
  by_cases h0 : 0 ≤ k
  · have hk : k.toNat = j := by
      rw [seqIndex_of h0 h4] at h1
      exact Option.some.inj h1
    exact PySem.W.ki_setAt ho h0 (by omega) (by rw [List.size_toArray, ← hl]; exact h4) (by rw [hk]; exact ⟨_, I', q⟩)
  · have hk : (k + (its.toArray.size : Int)).toNat = j := by
      rw [seqIndex_neg (by omega) h3] at h1
      rw [List.size_toArray, ← hl]
      exact Option.some.inj h1
    exact PySem.W.ki_setBack ho (by omega) (by rw [List.size_toArray, ← hl]; exact h3) (by omega) (by rw [hk]; exact ⟨_, I', q⟩)

def flatV : V → Bool
  | .non => true
  | .bl _ => true
  | .int _ => true
  | .str _ => true
  | _ => false
def eqV : V → V → Bool
  | .non, .non => true
  | .bl a, .bl b => a == b
  | .bl a, .int b => (if a then 1 else 0) == b
  | .int a, .bl b => a == (if b then 1 else 0)
  | .int a, .int b => a == b
  | .str a, .str b => a == b
  | _, _ => false
theorem eqAt_V {A : Around} {s : Shared} {y x : V} {u v : Value} (ry : RelV y u) (rx : RelV x v) (fy : flatV y = true) (fx : flatV x = true) : SeqAt.EqAt A s u v (eqV y x) := by
  cases y with
  | non =>
    cases ry
    cases x with
    | non => cases rx; exact SeqAt.EqAt.same _
    | bl b => cases rx; exact SeqAt.EqAt.none_bool b
    | int b => obtain ⟨t, rfl⟩ := rx; exact SeqAt.EqAt.none_int b t
    | str b => obtain ⟨t, rfl⟩ := rx; exact SeqAt.EqAt.none_str b t
    | _ => exact absurd (show false = true from fx) Bool.false_ne_true
  | bl a =>
    cases ry
    cases x with
    | non => cases rx; exact SeqAt.EqAt.bool_none a
    | bl b => cases rx; exact SeqAt.EqAt.bool_bool a b
    | int b => obtain ⟨t, rfl⟩ := rx; exact SeqAt.EqAt.bool_int a b t
    | str b => obtain ⟨t, rfl⟩ := rx; exact SeqAt.EqAt.bool_str a b t
    | _ => exact absurd (show false = true from fx) Bool.false_ne_true
  | int a =>
    obtain ⟨t', rfl⟩ := ry
    cases x with
    | non => cases rx; exact SeqAt.EqAt.int_none a t'
    | bl b => cases rx; exact SeqAt.EqAt.int_bool a t' b
    | int b => obtain ⟨t, rfl⟩ := rx; exact SeqAt.EqAt.int_int a t' b t
    | str b => obtain ⟨t, rfl⟩ := rx; exact SeqAt.EqAt.int_str a t' b t
    | _ => exact absurd (show false = true from fx) Bool.false_ne_true
  | str a =>
    obtain ⟨t', rfl⟩ := ry
    cases x with
    | non => cases rx; exact SeqAt.EqAt.str_none a t'
    | bl b => cases rx; exact SeqAt.EqAt.str_bool a t' b
    | int b => obtain ⟨t, rfl⟩ := rx; exact SeqAt.EqAt.str_int a t' b t
    | str b => obtain ⟨t, rfl⟩ := rx; exact SeqAt.EqAt.str_str a t' b t
    | _ => exact absurd (show false = true from fx) Bool.false_ne_true
  | _ => exact absurd (show false = true from fy) Bool.false_ne_true
theorem call_len_seq : CallR X (.builtin "len") (fun xs H Q => ∃ p ys, xs = [.ref p] ∧ (SqL X.K H p ys ∨ SqT X.K H p ys) ∧ Q (.int ys.length) H) := by
  intro pins s σ H xs us Q I r h
  obtain ⟨p, ys, rfl, hq, q⟩ := h
  obtain ⟨u, rfl, rx⟩ := vals1 r
  cases rx
  have hn := line63
  rcases hq with hq | hq
  · obtain ⟨its, r', pl, hz⟩ := I.list hq
    have hlen := r'.length
    exact Calls.call_len_list pl.isList (by simp only [List.size_toArray] <;> omega) ⟨.int ys.length, H, I.tok _, ⟨s.toks + 1, by rw [List.size_toArray, hlen]⟩, q⟩
  · obtain ⟨its, r', pl, hz⟩ := I.tuple hq
    have hlen := r'.length
    exact len_tuple pl (by simp only [List.size_toArray] <;> omega) ⟨.int ys.length, H, I.tok _, ⟨s.toks + 1, by rw [List.size_toArray, hlen]⟩, q⟩
theorem call_list_of : CallR X (.type "list") (fun xs H Q => ∃ p ys, xs = [.ref p] ∧ (SqL X.K H p ys ∨ SqT X.K H p ys) ∧ ∀ l, H l = none → Q (.ref l) (upd H l (.lst ys))) := by
  intro pins s σ H xs us Q I r h
  obtain ⟨p, ys, rfl, hq, q⟩ := h
  obtain ⟨u, rfl, rx⟩ := vals1 r
  cases rx
  have fin : ∀ (its : List Value), Vals ys its → ys.length ≤ sizeLine → ∀ (h' : Heap) (c' : Nat), (∀ b o', s.heap.get? b = some o' → h'.get? b = some o') →
      h'.get? s.heap.objs.size = some { cls := .type "list", dict := none, data := .seq its.toArray c', slots := #[] } → EP X pins σ Q (.ref s.heap.objs.size) { s with heap := h' } := fun its r' hz h' c' kp e =>
    ⟨.ref s.heap.objs.size, _, I.laid (t' := s.toks) kp (Nat.le_refl _) (show ObjOk X.prog X.w _ h' _ (.lst ys) from ⟨hz, its, c', r', e⟩), rfl, q _ (I.hok.fresh (Nat.le_refl _))⟩
  rcases hq with hq | hq
  · obtain ⟨its, r', pl, hz⟩ := I.list hq
    have hlen := r'.length
    obtain ⟨o, ho, hc, n, hd⟩ := pl.isList
    exact call_list_seq p (.inl rfl) ho hc hd (fun h' c' kp e => fin its r' hz h' c' kp e) (by simp only [List.size_toArray] <;> omega)
  · obtain ⟨its, r', pl, hz⟩ := I.tuple hq
    have hlen := r'.length
    obtain ⟨o, ho, hc, n, hd⟩ := pl
    exact call_list_seq p (.inr rfl) ho hc hd (fun h' c' kp e => fin its r' hz h' c' kp e) (by simp only [List.size_toArray] <;> omega)
theorem call_tuple_of : CallR X (.type "tuple") (fun xs H Q => ∃ p ys, xs = [.ref p] ∧ ((SqL X.K H p ys ∧ ∀ l, H l = none → Q (.ref l) (upd H l (.tup ys))) ∨ (SqT X.K H p ys ∧ Q (.ref p) H))) := by
  intro pins s σ H xs us Q I r h
  obtain ⟨p, ys, rfl, h⟩ := h
  obtain ⟨u, rfl, rx⟩ := vals1 r
  cases rx
  rcases h with ⟨hq, q⟩ | ⟨hq, q⟩
  · obtain ⟨its, r', pl, hz⟩ := I.list hq
    have hlen := r'.length
    refine call_tuple_list pl.isList (fun h' kp => ?_) (by simp only [List.size_toArray] <;> omega)
    have I1 : Inv X pins σ H { s with heap := h' } := I.kept (t' := s.toks) kp
    have I2 : Inv X pins σ (upd H h'.objs.size (.tup ys)) { s with heap := h'.push { cls := .type "tuple", data := .seq its.toArray } } :=
      I1.laid (t' := s.toks) (fun b o e => Heap.get?_push_of_some _ e) (Nat.le_refl _) (show ObjOk X.prog X.w _ _ _ (.tup ys) from ⟨hz, its, r', IsTup.new _ _⟩)
    exact ⟨.ref h'.objs.size, _, I2, rfl, q _ (I1.hok.fresh (Nat.le_refl _))⟩
  · obtain ⟨its, r', pl, hz⟩ := I.tuple hq
    exact call_tuple_same pl ⟨.ref p, H, I, rfl, q⟩

def tyV (K : PySem.W.Frag) (T : String) (x : V) (H : Hp) : Prop := match x with
  | .str _ => T = "str"
  | .int _ => T = "int"
  | .ref p => (T = "list" ∧ ∃ xs, SqL K H p xs) ∨ (T = "tuple" ∧ ∃ o, K.lookup p = some o ∧ o.cls = .type "tuple" ∧ o.dict = none) ∨
      (T = "dict" ∧ ((∃ kvs, H p = some (.dK kvs)) ∨ ∃ kvs, H p = some (.dT kvs))) ∨ (T = "set" ∧ ∃ S n, H p = some (.set S n))
  | _ => False
theorem tyV_is {pins : List (Addr × Obj)} {σ : St} {H : Hp} {s : Shared} {T : String} {x : V} {v : Value} (I : Inv X pins σ H s) (r : RelV x v) (ty : tyV X.K T x H) :
    s.TypeIs v T ∧ ∀ a, v = .ref a → ∃ ob, s.heap.get? a = some ob ∧ ob.dict = none := by
  cases x with
  | str z =>
    obtain ⟨t, rfl⟩ := r
    cases (show T = "str" from ty)
    exact ⟨typeIs_str s z t, fun _ e => nomatch e⟩
  | int i =>
    obtain ⟨t, rfl⟩ := r
    cases (show T = "int" from ty)
    exact ⟨typeIs_int s i t, fun _ e => nomatch e⟩
  | ref p =>
    cases r
    rcases ty with ⟨rfl, xs, hq⟩ | ⟨rfl, o, hk, hc, hd⟩ | ⟨rfl, hk⟩ | ⟨rfl, S, n, hk⟩
    · obtain ⟨its, _, pl, _⟩ := I.list hq
      refine ⟨pl.isList.typeIs, fun a e => ?_⟩
      cases e
      obtain ⟨o, n, e, c, hd, _⟩ := pl
      exact ⟨o, e, hd⟩
    · refine ⟨⟨o, I.kIn p o hk, hc⟩, fun a e => ?_⟩
      cases e
      exact ⟨o, I.kIn _ o hk, hd⟩
    · have z : ∃ o, s.heap.get? p = some o ∧ o.ExactDict := by
        rcases hk with ⟨kvs, hk⟩ | ⟨kvs, hk⟩
        · obtain ⟨_, _, _, _, o, _, _, e, ex, _⟩ := I.hok p _ hk
          exact ⟨o, e, ex⟩
        · obtain ⟨_, _, _, _, o, _, _, e, ex, _⟩ := I.hok p _ hk
          exact ⟨o, e, ex⟩
      obtain ⟨o, e, ex⟩ := z
      refine ⟨⟨o, e, ex.1⟩, fun a e2 => ?_⟩
      cases e2
      exact ⟨o, e, ex.2.1⟩
    · obtain ⟨o, _, _, _, e, ex, _⟩ := I.hok p _ hk
      refine ⟨⟨o, e, ex.1⟩, fun a e2 => ?_⟩
      cases e2
      exact ⟨o, e, ex.2.1⟩
  | _ => exact False.elim ty
def tBM (K : PySem.W.Frag) (T : String) (r : V → List V → Hp → VK → Prop) (to : TE) (t : TA) : TE := fun σ H Q => to σ H fun x H1 => tyV K T x H1 ∧ t σ H1 fun xs H2 => r x xs H2 Q
variable {o e : Expr} {es : List Expr} {to : TE} {t : TA} {name : Str} {apos cpos : Pos} {T id : String} {r : V → List V → Hp → VK → Prop}
theorem pe_bm (pa : PlainAttrs T) (slot : Slot T name id) (hty : typeOf (.builtin id) = pure (.type "method_descriptor")) (hm : MtR X id r) (ho : PE X o to) (ha : PA X (e :: es) t)
    (hbase : attributeBase o name X.env (eval o X.env) = eval o X.env := by rfl)
    (hfew : ((backTo cpos (starEach (e :: es) X.env)).all (fun x => !x.1) && (backToKw cpos (keywordEach [] X.env)).all (fun x => x.1.isSome)
      && decide ((e :: es).length + ([] : List Keyword).length + (if ([] : List Keyword).isEmpty then 0 else 1) < 30)) = true := by rfl)
    (hline : (apos.endLine == cpos.line) = true := by rfl) (hs : starEach (e :: es) X.env = (false, eval e X.env) :: starEach es X.env := by rfl) (hplain : (backTo cpos (starEach es X.env)).any (·.1) = false := by rfl) :
    PE X (.Call (.Attribute o name apos) (e :: es) [] cpos) (tBM X.K T r to t) := by
  intro pins s σ H Q I h
  refine wpAny_Call_method_late hbase hfew hline rfl (thn (ho pins s σ H _ I h) fun v s1 ⟨x, H1, I1, r1, ty, q1⟩ => ?_)
  obtain ⟨h1, h2⟩ := tyV_is I1 r1 ty
  refine ⟨T, id, pa, slot, hty, h1, h2, ?_⟩
  have hA := ha cpos pins s1 σ H1 _ I1 q1
  rw [hs] at hA ⊢
  refine Calls.callWith_builtin (by show (false || (backTo cpos (starEach es X.env)).any (·.1)) = false; rw [hplain] <;> rfl) (Calls.evalArgs_plain ?_)
  exact thn hA fun us s2 ⟨vs, H2, I2, r2, q2⟩ => hm pins s2 σ H2 x vs v us Q I2 r1 r2 q2
/- xs.append(e), list.index on a module's tuple .. are MtR facts of 06m -/
end
end L2

namespace L2
open PySem PySem.Spec PyProof.Rows

def MtM (X : Cx) (id : String) (r : V → List V → Hp → VK → Prop) : Prop :=
  ∀ (pins : List (Addr × Obj)) (s : Shared) (σ : St) (H : Hp) (x : V) (xs : List V) (v : Value) (us : List Value) (Q : VK), Inv X pins σ H s → RelV x v → Vals xs us → r x xs H Q →
    wpAny (model X.prog X.w) X.A (call (.builtin id) (v :: us)) (EP X pins σ Q) X.xe s

theorem Vals.one : ∀ {x : V} {us : List Value}, Vals [x] us → ∃ u, us = [u] ∧ RelV x u
  | _, _, .cons r .nil => ⟨_, rfl, r⟩
theorem Vals.rep {xs : List V} {us : List Value} (h : Vals xs us) : ∀ k : Nat, Vals (List.replicate k xs).flatten (List.replicate k us).flatten
  | 0 => .nil
  | k + 1 => by
    rw [List.replicate_succ, List.replicate_succ, List.flatten_cons, List.flatten_cons]
    exact Vals.append h (Vals.rep h k)
theorem foldl_rep (its : List Value) : ∀ (k : Nat) (acc : List Value),
    List.foldl (fun x1 x2 => x1 ++ x2) acc.toArray (List.replicate k its.toArray) = (acc ++ (List.replicate k its).flatten).toArray
  | 0, acc => by simp
  | k + 1, acc => by
    have e : acc.toArray ++ its.toArray = (acc ++ its).toArray := by simp
    have e2 : (acc ++ its) ++ (List.replicate k its).flatten = acc ++ (List.replicate (k + 1) its).flatten := by
      rw [List.replicate_succ, List.flatten_cons, List.append_assoc]
    rw [← e2, ← foldl_rep its k (acc ++ its), ← e, List.replicate_succ, List.foldl_cons]

section
variable {X : Cx} {pins : List (Addr × Obj)} {σ : St} {H : Hp} {s : Shared} {l b : Addr} {xs ys zs : List V}

theorem Inv.lset {its its' : List Value} {n : Nat} {f : Array Value → Array Value} {t' : Nat} (I : Inv X pins σ H s) (hH : H l = some (.lst xs))
    (e : s.heap.get? l = some { cls := .type "list", data := .seq its.toArray n }) (hf : f its.toArray = its'.toArray) (hv : Vals ys its') (hz : ys.length ≤ sizeLine) :
    Inv X pins σ (upd H l (.lst ys)) { s with heap := s.heap.update l (Obj.mapSeq f), toks := t' } := by
  have q := PySem.IsL.update e f
  rw [hf] at q
  refine I.write (x := l) (e := l) (by rw [hH]; exact trivial) (.inl rfl) (fun b' u hb hu => (Heap.get?_update_other s.heap (Obj.mapSeq f) (Ne.symm hb)).trans hu) ⟨_, q⟩ ?_
  exact ⟨hz, its', _, hv, q⟩
theorem Inv.lnew {its : List Value} {t' : Nat} (I : Inv X pins σ H s) (hv : Vals ys its) (hz : ys.length ≤ sizeLine) :
    Inv X pins σ (upd H s.heap.objs.size (.lst ys)) { s with heap := s.heap.push { cls := .type "list", data := .seq its.toArray }, toks := t' } :=
  I.laid (fun _ _ q => Heap.get?_push_of_some _ q) (Nat.le_refl _) ⟨hz, its, 0, hv, Heap.get?_push_size _ rfl⟩
theorem Inv.fresh (I : Inv X pins σ H s) : H s.heap.objs.size = none := I.hok.fresh (Nat.le_refl _)
theorem Inv.lstM (I : Inv X pins σ H s) (hH : H l = some (.lst xs)) : xs.length ≤ sizeLine ∧ ∃ (its : List Value) (n : Nat), Vals xs its ∧ xs.length = its.length ∧ s.heap.get? l = some { cls := .type "list", data := .seq its.toArray n } := by
  obtain ⟨z, its, n, r, e⟩ := I.hok l _ hH
  exact ⟨z, its, n, r, r.length, e⟩

end

section
variable {X : Cx}

def rAppend : V → List V → Hp → VK → Prop := fun x vs H Q => ∃ l xs y, x = .ref l ∧ vs = [y] ∧ H l = some (.lst xs) ∧ xs.length < sizeLine ∧ Q .non (upd H l (.lst (xs ++ [y])))
theorem mt_append : MtM X "list.append" rAppend := by
  intro pins s σ H x vs v us Q I rx rv h
  obtain ⟨l, xs, y, rfl, rfl, hH, hz, q⟩ := h
  cases rx
  obtain ⟨u, rfl, ru⟩ := rv.one
  obtain ⟨z, its, n, r, hl, e⟩ := I.lstM hH
  refine call_meets F.slot_list_append ⟨_, e, rfl⟩ F.entry_list_append (F.args_list_append_2 _ _) (PySem.list_append l its.toArray n u (by rw [List.size_toArray]; omega)) ⟨e, ?_⟩
  refine ⟨.non, _, I.lset (its' := its ++ [u]) hH e (by simp) (r.append (.cons ru .nil)) ?_, rfl, q⟩
  rw [List.length_append, List.length_singleton]
  omega

def rCat : R2 := fun x y H Q => ∃ l b xs zs, x = .ref l ∧ y = .ref b ∧ H l = some (.lst xs) ∧ H b = some (.lst zs) ∧ xs.length + zs.length ≤ sizeLine ∧ ∀ p, H p = none → Q (.ref p) (upd H p (.lst (xs ++ zs)))
theorem op_cat : OpR X (binaryOp .Add) rCat := by
  intro pins s σ H x y v u Q I rx ry h
  obtain ⟨l, b, xs, zs, rfl, rfl, hH, hB, hz, q⟩ := h
  cases rx
  cases ry
  obtain ⟨z, its, n, r, hl, e⟩ := I.lstM hH
  obtain ⟨z2, its2, n2, r2, hl2, e2⟩ := I.lstM hB
  refine PySem.P.add_list e e2 ?_ (by rw [List.size_toArray, List.size_toArray]; omega)
  have ea : its.toArray ++ its2.toArray = (its ++ its2).toArray := by simp
  rw [ea]
  exact ⟨.ref _, _, I.lnew (t' := s.toks) (r.append r2) (by rw [List.length_append]; omega), rfl, q _ I.fresh⟩
theorem len_rep {α : Type} (xs : List α) (k : Nat) : (List.replicate k xs).flatten.length = k * xs.length := by
  induction k with
  | zero => simp
  | succ k ih => rw [List.replicate_succ, List.flatten_cons, List.length_append, ih, Nat.succ_mul, Nat.add_comm]
end

section
variable {prog : Program} {w : World} {A : Around} {E : Value → Shared → Prop} {s : Shared}
end

section
variable {X : Cx}
end
end L2

namespace Att
open PySem PySem.W PySem.Calls PyProof.Rows

theorem ints_of_wellAll {P : Params} {h : Heap} : ∀ (ns : List Int) (vs : List Value), WellAll P h vs (ns.map WData.int) → IntsAre vs ns := by
  intro ns
  induction ns with
  | nil =>
    intro vs w
    rw [List.map_nil] at w
    cases w
    exact .nil
  | cons n ns ih =>
    intro vs w
    rw [List.map_cons] at w
    cases w with
    | cons a b =>
      cases a
      exact .cons _ _ (ih _ b)

theorem script_of {l : OpenLaw} {n : Nat} (hn : l.most = some n) {P : Params} {h : Heap} {args : List WData} {vals : List Value}
    (hpre : l.row.toRowW.claim.pre args = true) (hwl : WellAll P h vals args) :
    ∃ a vs ns, vals = [Value.ref a] ∧ args = [WData.list (ns.map WData.int)] ∧ h.get? a = some { cls := .type "list", data := .seq vs.toArray } ∧ IntsAre vs ns ∧ ns.length ≤ n := by
  have hsh : WShape.hasAll [] args [.list .int] = true := (pre_splitW hpre).1
  have hc : l.pre.holds [] { args := args } = true := (pre_splitW hpre).2
  obtain ⟨d, r, rfl, h1, h2⟩ := hasAllW_cons hsh
  obtain rfl := hasAllW_nil h2
  obtain ⟨xs, rfl, h3⟩ := hasW_list h1
  obtain ⟨ns, rfl⟩ := items_int h3
  have hlen : ns.length ≤ n := by
    unfold OpenLaw.pre at hc
    have h4 : (WTm.not (.lt (.lit (.int (n : Int))) (.len (.arg 0)))).holds [] { args := [.list (ns.map .int)] } = true := by
      have h4 := (holds_andW hc).1
      rw [hn] at h4
      exact h4
    have h5 := condW_of h4 (w_not (w_lt w_lit (w_len_list (w_arg rfl))))
    rw [List.length_map] at h5
    refine Nat.le_of_not_lt fun q => ?_
    have q' : (n : Int) < ((ns.length : Nat) : Int) := by omega
    first
      | (rw [decide_eq_true q'] at h5; exact absurd h5 (by decide))
      | (simp at h5; omega)
  cases hwl with
  | cons w1 w2 =>
    cases w2
    cases w1 with
    | list ho hall => exact ⟨_, _, ns, rfl, rfl, ho, ints_of_wellAll ns _ hall, hlen⟩

theorem post_true (l : OpenLaw) (args : List WData) : l.row.toRowW.claim.post args (.bool true) args = true :=
  postW_of (r := l.row.toRowW) (X := (true == true))
    (show WShape.has [] (.bool true) .bool = true by first | rfl | decide | simp [WShape.has, WShape.arms, WShape.armsAll])
    (show (WTm.eq .res (.lit (.bool true))).value [] { args := args, res := some (.bool true), after := args } = some (.bool (true == true)) from w_eq_bool (w_res rfl) w_lit) rfl

theorem attach_call {l : OpenLaw} {n : Nat} {q : Program} {loose : List Str} {XP : (Str → Option Value) → Heap → Prop} {YP : World → Heap → Prop} {d : DefRec}
    (hn : l.most = some n) (hdf : d.params.defaults = [])
    (call : ∀ (w : World) (s₀ s₁ : Shared) (mg mb : Str → Option Value) (fa : Addr) (o : Obj) (pm cd doc : Value) (a : Addr) (vs : List Value) (ns : List Int),
      Ground q loose [] XP w s₀ mg mb s₁.heap → YP w s₁.heap →
      s₁.heap.get? fa = some o → o.data = .func (docDef d.name d.params d.body d.scope pm cd doc) → s₁.heap.CodeRec cd d.name → mg d.name = some (.ref fa) →
      s₁.heap.get? a = some { cls := .type "list", data := .seq vs.toArray } → IntsAre vs ns → ns.length ≤ n → s₁.gens = #[] →
      codeAny (model l.prog w) callerA (.call (.ref fa) ⟨[.ref a], []⟩) (fun r s' => r = .ok (.ret (.bool true)) ∧ OldK s₁.heap s'.heap ∧ s'.os = s₁.os ∧ AllBare s'.gens) s₁) :
    WalkO q loose XP YP l.row.toRowW d [] (fun f vs => PySem.call f vs) := by
  intro w s₀ s₁ mg mb G Y fa o pm cd doc dV kV ho hd hcd hD hmg hg args vals as hpre hlay hrd hwl hlo
  obtain rfl : dV = .none := Dflts.none hD hdf
  obtain rfl : kV = .none := Dflts.noKw hD
  obtain ⟨a, vs, ns, rfl, rfl, hobj, hints, hlen⟩ := script_of hn hpre hwl
  refine enter_call (codeAny_mono (call w s₀ s₁ mg mb fa o pm cd doc a vs ns G Y ho (fd_plain hd) hcd hmg hobj hints hlen hg) fun r s' hq => ?_)
  obtain ⟨rfl, h2, h3, h4⟩ := hq
  exact ⟨.inl ⟨.bool true, .bool true, [], rfl, fun _ => rfl, .bool true, post_true l _, fun _ => ⟨List.Pairwise.nil, fun _ hm => (nomatch hm)⟩⟩, h2, h3, h4⟩

section
variable {prog : Program} {w : World} {A : Around} {E : Value → Shared → Prop} {s : Shared} {K : Frag}

def ledger (h : Heap) (L d : Addr) : List (Addr × Obj) := (List.range h.objs.size).filterMap fun a => if a = L ∨ a = d then none else (h.get? a).map fun o => (a, o)
end
end Att

namespace L2
open PySem PySem.Spec PyProof.Rows

theorem vals_ints : ∀ {vs : List Value} {ns : List Int}, IntsAre vs ns → Vals (ns.map V.int) vs
  | _, _, .nil => .nil
  | _, _, .cons n t h => .cons ⟨t, rfl⟩ (vals_ints h)

def Only (H : Hp) : Prop := ∀ b, H b = none ∨ ∃ o xs, H b = some (.frz o (.lst xs))

theorem law_call {P : Program} {w : World} {K : PySem.W.Frag} {mg mb : Str → Option Value} {CX : CXT} {k : Nat} {fa a : Addr} {fd : FuncData} {x : Str} {sp : Sp} {s₁ : Shared} {vs : List Value} {ns : List Int}
    (KX : K.In s₁.heap) (hns : s₁.heap.Ns mainGlobals mg) (hb : s₁.heap.Ns builtinsNs mb) (hbb : ∀ x : Str, x ≠ "__name__" → mb x = bootBuiltins x) (hlim : s₁.heap.NoLimit) (hg : s₁.gens = #[])
    (ha : s₁.heap.get? a = some { cls := .type "list", data := .seq vs.toArray }) (hi : IntsAre vs ns) (hl : ns.length ≤ sizeLine) (hr : Room k callerA)
    (F : ∀ base : Heap, K.In base → base.Ns mainGlobals mg → FnOk P w K mg base CX k fa fd [x] sp) (hbind : ∀ (s : Shared) (u : Value), BindsTo s fd ⟨[u], []⟩ [(x, u)])
    (hsp : ∀ H : Hp, Only H → SqL K H a (ns.map V.int) → sp [.ref a] H (fun v _ => v = .bl true) fun _ _ _ => False)
    (hCX : ∀ H e s', CX [] H s₁ (fun _ _ _ => False) e s' → False) :
    codeAny (model P w) callerA (.call (.ref fa) ⟨[.ref a], []⟩) (fun r s' => r = .ok (.ret (.bool true)) ∧ OldK s₁.heap s'.heap ∧ s'.os = s₁.os ∧ AllBare s'.gens) s₁ := by
  have rv := vals_ints hi
  have lenV := hi.length
  -- from an abstract heap in which nothing but the script may be tracked
  have core : ∀ H : Hp, Only H → SqL K H a (ns.map V.int) → HOk P w H s₁.heap → (∀ b, H b ≠ none → b = a) → (H a ≠ none → K.lookup a = none) →
      codeAny (model P w) callerA (.call (.ref fa) ⟨[.ref a], []⟩) (fun r s' => r = .ok (.ret (.bool true)) ∧ OldK s₁.heap s'.heap ∧ s'.os = s₁.os ∧ AllBare s'.gens) s₁ := by
    intro H hO hS hok hA hK
    have base_of : ∀ {b : Addr} {o : Obj}, s₁.heap.get? b = some o → H b = none → (hidT s₁.heap H).get? b = some o := fun e n => hidT_get e n
    have noA : ∀ {b : Addr} {o : Obj} {es : Array DictEntry} {ep : Nat}, s₁.heap.get? b = some o → o.data = .dict es ep → H b = none := fun {b o es ep} e d => by
      cases q : H b with
      | none => rfl
      | some u =>
        have e' : b = a := hA b (by rw [q]; simp)
        subst e'
        rw [ha] at e; cases e
        have d' : Data.seq vs.toArray _ = Data.dict es ep := d
        cases d'
    have nsK : ∀ {b : Addr} {m : Str → Option Value}, s₁.heap.Ns b m → (hidT s₁.heap H).Ns b m := fun {b m} ⟨o, es, ep, e, d, r⟩ => ⟨o, es, ep, base_of e (noA e d), d, r⟩
    have hKb : K.In (hidT s₁.heap H) := fun b o e => base_of (KX b o e) (by
      cases q : H b with
      | none => rfl
      | some u =>
        have e' : b = a := hA b (by rw [q]; simp)
        subst e'
        rw [hK (by rw [q]; simp)] at e; cases e)
    have hM : Mod K mg (hidT s₁.heap H) := ⟨hKb, nsK hns, ⟨mb, nsK hb, hbb⟩, let ⟨mc, h1, h2⟩ := hlim; ⟨mc, nsK h1, h2⟩⟩
    have e0 : Env0 P w K mg (hidT s₁.heap H) callerA [] s₁ H := ⟨rfl, hM, fun b o e => of_hidT e, Nat.le_of_eq (hidT_size _ _), trivial, fun b hb => absurd (show b ∈ ([] : List Addr) from hb) (by simp), hok, .of_eq hg⟩
    refine codeAny_mono ((F _ hKb (nsK hns)).run callerA [] s₁ H ⟨[.ref a], []⟩ [.ref a] [.ref a] _ _ hr e0 (hbind s₁ (.ref a)) (.cons rfl .nil) (hsp H hO hS)) fun r s' h => ?_
    cases r with
    | error e => exact (hCX H e s' h).elim
    | ok fl =>
      cases fl with
      | next => exact False.elim h
      | brk => exact False.elim h
      | cont => exact False.elim h
      | ret u =>
        obtain ⟨v, H', os, bare, un, hok', r', q⟩ := h
        have q' : v = .bl true := q
        subst q'
        obtain rfl : u = Value.bool true := r'
        refine ⟨rfl, OldK.of_keep fun b o e => ?_, os, bare⟩
        cases q : H b with
        | none => exact un.keep b o e q (by intro z; exact absurd (show b ∈ ([] : List Addr) from z) (by simp)) (by simp)
        | some u =>
          rcases hO b with z | ⟨ob, xs, z⟩
          · rw [q] at z; cases z
          · have z2 := un.frzs b ob _ z
            obtain ⟨e1, _⟩ := hok b _ z
            obtain ⟨e2, _⟩ := hok' b _ z2
            rw [e] at e1; cases e1
            exact e2
  cases hk : K.lookup a with
  | some o =>
    -- the script is one of the module's own objects
    have e := KX a o hk
    rw [ha] at e
    cases e
    refine core (fun _ => none) (fun _ => .inl rfl) (.inr ⟨_, vs.toArray, _, hk, rfl, rfl, rfl, by rw [List.size_toArray, lenV]; exact hl, by simpa using rv⟩) (fun b u z => by have z' : (none : Option HO) = some u := z; cases z') (fun b z => absurd rfl z) fun z => absurd rfl z
  | none =>
    refine core (fun b => if b = a then some (.frz { cls := .type "list", data := .seq vs.toArray } (.lst (ns.map V.int))) else none) (fun b => ?_) (.inl (.inr ⟨{ cls := .type "list", data := .seq vs.toArray }, if_pos rfl⟩)) (fun b u z => ?_) (fun b z => ?_) fun _ => hk
    · by_cases hb : b = a
      · exact .inr ⟨_, _, if_pos hb⟩
      · exact .inl (if_neg hb)
    · by_cases hb : b = a
      · have z' := (if_pos hb).symm.trans z
        cases z'
        subst hb
        exact ⟨ha, by rw [List.length_map]; exact hl, vs, _, rv, ha⟩
      · have z' := (if_neg hb).symm.trans z
        cases z'
    · by_cases hb : b = a
      · exact hb
      · exact absurd (if_neg hb) z
end L2

namespace L2
open PySem PySem.Spec PyProof.Rows

theorem walk_of {l : PySem.W.OpenLaw} {n k : Nat} {q : Program} {loose : List Str} {XP : (Str → Option Value) → Heap → Prop} {YP : World → Heap → Prop} {d : DefRec} {K : Params → PySem.W.Frag} {CX : World → CXT} {sp : World → Sp} {x : Str}
    (hn : l.most = some n) (hn2 : n ≤ sizeLine) (hdf : d.params.defaults = []) (hr : Room k callerA)
    (hY : ∀ (w : World) (h : Heap), YP w h → (K w.params).In h)
    (F : ∀ (w : World) (mg : Str → Option Value) (fa : Addr) (h : Heap), (K w.params).In h → h.Ns mainGlobals mg → mg d.name = some (.ref fa) →
      ∃ fd : FuncData, (∀ (s : Shared) (u : Value), BindsTo s fd ⟨[u], []⟩ [(x, u)]) ∧
        ∀ base : Heap, (K w.params).In base → base.Ns mainGlobals mg → FnOk l.prog w (K w.params) mg base (CX w) k fa fd [x] (sp w))
    (hsp : ∀ (w : World) (H : Hp) (a : Addr) (ns : List Int), ns.length ≤ n → Only H → SqL (K w.params) H a (ns.map V.int) → sp w [.ref a] H (fun v _ => v = .bl true) fun _ _ _ => False)
    (hCX : ∀ (w : World) (H : Hp) (s : Shared) (e : Value) (s' : Shared), CX w [] H s (fun _ _ _ => False) e s' → False) :
    PySem.W.WalkO q loose XP YP l.row.toRowW d [] (fun f vs => PySem.call f vs) := by
  refine Att.attach_call hn hdf fun w s₀ s₁ mg mb fa o pm cd doc a vs ns G Y ho hd hcd hmg hobj hints hlen hg => ?_
  have KX := hY w _ Y
  obtain ⟨fd, hb, hF⟩ := F w mg fa _ KX G.T.g hmg
  exact law_call KX G.T.g G.T.b G.T.builtins G.T.nolimit hg hobj hints (Nat.le_trans hlen hn2) hr hF hb (fun H hO hS => hsp w H a ns hlen hO hS) fun H e s' => hCX w H s₁ e s'
end L2

/- THE LAST THEOREM (shape; LID, My.* are yours):
   My.Adr: a structure of the addresses that your layer names (classes, functions); My.Txt K t: a structure (Prop) of the equations over K;
   My.txt_mk : {K} {implicit addresses ..} (e1 : nsIn K mainGlobals "law" = some (some (.ref f))) (e2 : K.lookup f = some ⟨oc, od, .func (fnOf "law" "law" params body scope dV kV doc pm an cdv ct), sl⟩) (e3 : codeIn K cdv "law" = true) .. : ∃ t, My.Txt K t

set_option maxRecDepth 100000 in
set_option maxHeartbeats 0 in
theorem PySem.Challenge.cw_LID_holds : PySem.Challenge.rw_LID.Holds := by
  w_on; o_law; k_head; (case hw => w_witness2)
  k_fill
  refine L2.walk_of (l := PySem.Challenge.rw_LID) (n := 63) (k := 40) (x := "script") (CX := fun w => ..) (sp := fun _ => My.sp_law) rfl (by decide) rfl ⟨rfl, by decide, by decide⟩ (fun w h Y => PySem.W.kIn_of Y) ?F ?S ?C
  case F =>
    intro w mg fa h KX G hmg
    have T : ∃ t, My.Txt (L2.KOf KX) t := by
      dsimp only [L2.KOf]                          -- K must stand as «<heap const> w.params» for k_is
      refine' My.txt_mk ?e1 ?e2 ?e3 ..
      (case e1 => PySem.W.k_is)                    -- in the order: a name -> its address -> its object -> its parts
      (case e2 => PySem.W.k_is)
      ..
    obtain ⟨t, T⟩ := T
    have e0 := hmg.symm.trans (PySem.W.mg_of KX G T.law)
    cases e0                                       -- fa is the law's own address
    exact ⟨_, fun s u => .of_eq rfl, fun base kb nb => My.law_fn T kb nb⟩     -- if «.of_eq rfl» comes too early: refine' ⟨_, ?b, fun base kb nb => My.law_fn T kb nb⟩; exact fun s u => .of_eq rfl
  case S => exact fun w H a ns hl hO hS => ..
  case C => exact ..
(the tactic k_is has no namespace: write k_is) -/

namespace L2
open PySem PySem.Spec PyProof.Rows

def defArgs (s : Stmt) : Arguments := match s with
  | .FunctionDef _ a _ _ _ _ _ _ _ _ => a
  | _ => { posonlyargs := [], args := [], vararg := none, kwonlyargs := [], kw_defaults := [], kwarg := none, defaults := [] }
def defBody (s : Stmt) : List Stmt := match s with
  | .FunctionDef _ _ b _ _ _ _ _ _ _ => b
  | _ => []
def defScope (s : Stmt) : Scope := match s with
  | .FunctionDef _ _ _ _ _ _ sc _ _ _ => sc
  | _ => { kind := .function, names := [], isGenerator := false, isCoroutine := false }

abbrev CX0 : CXT := fun _ _ _ _ _ _ => False
abbrev E0 : XK := fun _ _ _ => False
theorem pass0 {X : Cx} : Passes CX0 X E0 := fun _ _ _ _ _ _ _ h => h.elim

structure Fun (K : PySem.W.Frag) (x qual : Str) (st : Stmt) (f : Addr) (fd : FuncData) : Prop where
  ex : ∃ (oc : Value) (od : Option Addr) (kV doc pm : Value) (an : Option Addr) (cdv ct : Value) (osl : Array (Option Value)),
    fd = PySem.W.fnOf x qual (defArgs st) (defBody st) (defScope st) .none kV doc pm an cdv ct ∧ K.lookup f = some ⟨oc, od, .func fd, osl⟩ ∧ PySem.W.codeIn K cdv qual = true
  kp : PySem.W.keepIn K (.ref f) = true
section
variable {P : Program} {w : World} {K : PySem.W.Frag} {mg : Str → Option Value} {base : Heap}
theorem Fun.ok {x qual : Str} {st : Stmt} {f : Addr} {fd : FuncData} {N ps : List Str} {k : Nat} {sp : Sp} (F : Fun K x qual st f fd) (S : FnScope N ps (defScope st)) (len : ∀ vs H Q E, sp vs H Q E → vs.length = ps.length)
    (hbody : ∀ (cdv : Value) (A : Around) (outer : List Env) (s : Shared) (H : Hp) (vs : List V) (Q : VK) (E : XK), Room k (A.deeper (envOfC qual (defScope st) s.heap.objs.size f cdv)) → sp vs H Q E →
      ∃ t, PSs (cxOf CX0 P w K mg base N qual (defScope st) f cdv A outer s H E).nox (defBody st) t ∧ t { nx := fun _ H' => Q .non H', rt := Q } (start N vs) H) : FnOk P w K mg base CX0 (k + 1) f fd ps sp := by
  obtain ⟨oc, od, kV, doc, pm, an, cdv, ct, osl, rfl, lk, hcd⟩ := F.ex
  refine fn_of lk hcd S len fun A outer s H vs Q E hr hsp => ?_
  obtain ⟨t, h, q⟩ := hbody cdv A outer s H vs Q E hr hsp
  exact ⟨t, h.nox, q⟩
theorem Fun.binds {x qual : Str} {st : Stmt} {f : Addr} {fd : FuncData} {ps : List Str} (F : Fun K x qual st f fd)
    (h : ∀ (kV doc pm : Value) (an : Option Addr) (cdv ct : Value) (us : List Value), us.length = ps.length → bindArgs (PySem.W.fnOf x qual (defArgs st) (defBody st) (defScope st) .none kV doc pm an cdv ct) ⟨us, []⟩ = pure (ps.zip us)) : Binds K fd ps [] := by
  obtain ⟨oc, od, kV, doc, pm, an, cdv, ct, osl, rfl, lk, hcd⟩ := F.ex
  exact .all (h kV doc pm an cdv ct)
theorem fun_mk {x qual : Str} {st : Stmt} {f : Addr} {oc : Value} {od an : Option Addr} {osl : Array (Option Value)} {kV doc pm cdv ct : Value} (l : K.lookup f = some ⟨oc, od, .func (PySem.W.fnOf x qual (defArgs st) (defBody st) (defScope st) .none kV doc pm an cdv ct), osl⟩)
    (c : PySem.W.codeIn K cdv qual = true) (k : PySem.W.keepIn K (.ref f) = true) : Fun K x qual st f (PySem.W.fnOf x qual (defArgs st) (defBody st) (defScope st) .none kV doc pm an cdv ct) := ⟨⟨oc, od, kV, doc, pm, an, cdv, ct, osl, rfl, l, c⟩, k⟩
end
section
variable {X : Cx}
theorem pv (i : Nat) {x : Str} {pos : Pos} (hN : X.N[i]? = some x := by rfl) (hv : Vis X.env.scope x := by first | exact Or.inl rfl | exact Or.inr (Or.inl rfl) | exact Or.inr (Or.inr rfl)) (hd : (x == ("__debug__" : Str)) = false := by decide)
    (hcd : (x == ("__classdict__" : Str)) = false := by decide) : PE X (.Name x pos) (tVar i) := pe_var hN hv hd hcd
end

end L2

namespace L2
open PySem PySem.Spec PyProof.Rows
end L2
namespace L2
open PySem PySem.Spec PyProof.Rows

def clGo (env : Env) : List (Str × NameKind) → List (Str × Addr) → List (Str × Addr)
  | [], cs => cs
  | (n, k) :: r, cs => clGo env r (if (k == NameKind.free) = true then (n, (env.cells.lookup n).getD 0) :: cs else cs)
def clOf (scope : Scope) (env : Env) : List (Str × Addr) := clGo env scope.names []
theorem clGo_mem {env : Env} {p : Str × Addr} : ∀ (l : List (Str × NameKind)) (cs : List (Str × Addr)), p ∈ clGo env l cs → p ∈ cs ∨ ((p.1, NameKind.free) ∈ l ∧ p.2 = (env.cells.lookup p.1).getD 0)
  | [], cs, h => .inl h
  | (n, k) :: r, cs, h => by
    rcases clGo_mem r _ h with h | ⟨h1, h2⟩
    · by_cases hk : (k == NameKind.free) = true
      · rw [if_pos hk] at h
        rcases List.mem_cons.mp h with rfl | h
        · have e : k = NameKind.free := by simpa using hk
          subst e
          exact .inr ⟨List.mem_cons_self, rfl⟩
        · exact .inl h
      · rw [if_neg hk] at h
        exact .inl h
    · exact .inr ⟨List.mem_cons_of_mem _ h1, h2⟩
theorem clGo_has {env : Env} {x : Str} : ∀ (l : List (Str × NameKind)) (cs : List (Str × Addr)), ((x, NameKind.free) ∈ l ∨ ∃ c, (x, c) ∈ cs) → ∃ c, (x, c) ∈ clGo env l cs
  | [], cs, h => by
    rcases h with h | h
    · exact absurd h (by simp)
    · exact h
  | (n, k) :: r, cs, h => by
    refine clGo_has r _ ?_
    rcases h with h | ⟨c, h⟩
    · rcases List.mem_cons.mp h with e | h
      · injection e with e1 e2
        subst e1; subst e2
        exact .inr ⟨_, by rw [if_pos (by rfl)]; exact List.mem_cons_self⟩
      · exact .inl h
    · refine .inr ⟨c, ?_⟩
      by_cases hk : (k == NameKind.free) = true
      · rw [if_pos hk]; exact List.mem_cons_of_mem _ h
      · rw [if_neg hk]; exact h
theorem lookup_of_mem {x : Str} {c : Addr} : ∀ {l : List (Str × Addr)}, (x, c) ∈ l → ∃ c', l.lookup x = some c'
  | [], h => absurd h (by simp)
  | (n, d) :: r, h => by
    by_cases e : x = n
    · subst e
      exact ⟨d, by simp [List.lookup_cons]⟩
    · rcases List.mem_cons.mp h with q | q
      · injection q with q1 _
        exact absurd q1 e
      · obtain ⟨c', h'⟩ := lookup_of_mem q
        refine ⟨c', ?_⟩
        have e' : (x == n) = false := beq_eq_false_iff_ne.mpr e
        rw [List.lookup_cons, e']
        exact h'
theorem clos_of {scope : Scope} {env : Env} (h : ∀ y ∈ scope.names, y.2 = NameKind.free → ∃ c, env.cells.lookup y.1 = some c) : closureFor scope env = pure (clOf scope env) := by
  unfold closureFor clOf
  have key : ∀ (l : List (Str × NameKind)) (cs : List (Str × Addr)), (∀ y ∈ l, y.2 = NameKind.free → ∃ c, env.cells.lookup y.1 = some c) →
      (forIn l cs (fun (x : Str × NameKind) (cs : List (Str × Addr)) => (if (x.2 == NameKind.free) = true then cellOf env x.1 >>= fun c => pure (ForInStep.yield ((x.1, c) :: cs)) else pure (ForInStep.yield cs) : Sem (ForInStep (List (Str × Addr)))))) = pure (clGo env l cs) := by
    intro l
    induction l with
    | nil => intro cs _; rfl
    | cons x r ih =>
      intro cs hl
      obtain ⟨n, k⟩ := x
      rw [List.forIn_cons]
      have hr : ∀ y ∈ r, y.2 = NameKind.free → ∃ c, env.cells.lookup y.1 = some c := fun y hy => hl y (List.mem_cons_of_mem _ hy)
      by_cases hk : (k == NameKind.free) = true
      · obtain ⟨c, hc⟩ := hl (n, k) List.mem_cons_self (by simpa using hk)
        have hc' : env.cells.lookup n = some c := hc
        have e1 : cellOf env n = pure c := by unfold cellOf; rw [hc']
        simp only [hk, if_true, e1, pure_bind]
        rw [ih _ hr]
        simp only [clGo, hk, if_true, hc', Option.getD_some]
      · simp only [hk, if_false, pure_bind, Bool.false_eq_true]
        rw [ih _ hr]
        simp only [clGo, hk, if_false, Bool.false_eq_true]
  have q := key scope.names [] h
  simpa using q

def blk (X : Cx) (scope : Scope) (N' : List Str) (C : Addr) (s : Shared) (H : Hp) (ex : List Addr) : Cx where
  prog := X.prog
  w := X.w
  K := X.K
  mg := X.mg
  base := X.base
  A := X.A
  N := N'
  s₀ := s
  H₀ := H
  env := compEnvC scope (clOf scope X.env) C X.env
  outer := X.stack
  stack := X.stack
  ex := ex
  fn := fun _ => false
  calm := X.calm
  pn := []
  xe := fun _ _ => False
structure BlkOk (X : Cx) (scope : Scope) (x : List Str) (ix : List Nat) : Prop where
  kind : scope.kind = .function
  nocell : ∀ y ∈ scope.names, y.2 ≠ .cell
  own : ∀ y ∈ x, scope.names.lookup y = some .local
  names : ∀ y ∈ scope.names, y.2 = .local → scope.names.lookup y.1 = some .local
  free : ∀ y ∈ scope.names, y.2 = .free → X.env.scope.names.lookup y.1 = some .cell ∨ X.env.scope.names.lookup y.1 = some .free
  ixs : ∀ i ∈ ix, scope.names.lookup (X.N.getD i "") = some .free
  nd : (x ++ ix.map fun i => X.N.getD i "").Nodup
def nodupB : List Str → Bool
  | [] => true
  | x :: r => !(r.contains x) && nodupB r
def blkB (sc : Scope) (N : List Str) (scope : Scope) (x : List Str) (ix : List Nat) : Bool :=
  decide (scope.kind = .function) && scope.names.all (fun y => !decide (y.2 = .cell)) && x.all (fun y => decide (scope.names.lookup y = some .local)) &&
  scope.names.all (fun y => !decide (y.2 = .local) || decide (scope.names.lookup y.1 = some .local)) &&
  scope.names.all (fun y => !decide (y.2 = .free) || decide (sc.names.lookup y.1 = some .cell) || decide (sc.names.lookup y.1 = some .free)) &&
  ix.all (fun i => decide (scope.names.lookup (N.getD i "") = some .free)) && nodupB (x ++ ix.map fun i => N.getD i "")
theorem nodupB_ok : ∀ {l : List Str}, nodupB l = true → l.Nodup
  | [], _ => List.nodup_nil
  | x :: r, h => by
    unfold nodupB at h
    rw [Bool.and_eq_true] at h
    refine List.nodup_cons.mpr ⟨fun hm => ?_, nodupB_ok h.2⟩
    have : r.contains x = true := List.contains_iff_mem.mpr hm
    rw [this] at h
    exact absurd h.1 (by decide)
theorem blk_of {X : Cx} {scope : Scope} {x : List Str} {ix : List Nat} (h : blkB X.env.scope X.N scope x ix = true) : BlkOk X scope x ix := by
  unfold blkB at h
  simp only [Bool.and_eq_true, List.all_eq_true, decide_eq_true_eq, Bool.or_eq_true, Bool.not_eq_true', decide_eq_false_iff_not] at h
  obtain ⟨⟨⟨⟨⟨⟨h1, h2⟩, h3⟩, h4⟩, h5⟩, h6⟩, h7⟩ := h
  refine ⟨h1, fun y hy => h2 y hy, fun y hy => h3 y hy, fun y hy hk => ?_, fun y hy hk => ?_, fun i hi => h6 i hi, nodupB_ok h7⟩
  · rcases h4 y hy with q | q
    · exact absurd hk q
    · exact q
  · rcases h5 y hy with (q | q) | q
    · exact absurd hk q
    · exact .inl q
    · exact .inr q
def blkσ (ix : List Nat) (σ : St) : St := ix.map fun i => (σ[i]?).getD none
abbrev blkN (X : Cx) (x : List Str) (ix : List Nat) : List Str := x ++ ix.map fun i => X.N.getD i ""

theorem relabel_lookup {scope : Scope} {env : Env} {x : Str} : ∀ {names : List (Str × NameKind)} {k : NameKind},
    (names.map fun (p : Str × NameKind) => if (p.2 == NameKind.free && env.scope.kind == .function && env.kindOf p.1 == some .cell) = true then (p.1, NameKind.cell) else (p.1, p.2)).lookup x = some k →
    names.lookup x = some k ∨ (k = .cell ∧ names.lookup x = some .free)
  | [], k, h => by simp at h
  | (n, k') :: r, k, h => by
    rw [List.map_cons] at h
    cases hx : x == n with
    | true =>
      by_cases hc : (k' == NameKind.free && env.scope.kind == .function && env.kindOf n == some .cell) = true
      · rw [if_pos hc] at h
        simp only [List.lookup_cons, hx] at h
        have hk : k' = .free := by
          have := (Bool.and_eq_true_iff.mp (Bool.and_eq_true_iff.mp hc).1).1
          simpa using this
        subst hk
        cases h
        exact .inr ⟨rfl, by simp [List.lookup_cons, hx]⟩
      · rw [if_neg hc] at h
        simp only [List.lookup_cons, hx] at h
        cases h
        exact .inl (by simp [List.lookup_cons, hx])
    | false =>
      have h' : (r.map fun (p : Str × NameKind) => if (p.2 == NameKind.free && env.scope.kind == .function && env.kindOf p.1 == some .cell) = true then (p.1, NameKind.cell) else (p.1, p.2)).lookup x = some k := by
        by_cases hc : (k' == NameKind.free && env.scope.kind == .function && env.kindOf n == some .cell) = true
        · rw [if_pos hc] at h; simpa only [List.lookup_cons, hx] using h
        · rw [if_neg hc] at h; simpa only [List.lookup_cons, hx] using h
      rcases relabel_lookup (scope := scope) (env := env) h' with q | ⟨q1, q2⟩
      · exact .inl (by simpa only [List.lookup_cons, hx] using q)
      · exact .inr ⟨q1, by simpa only [List.lookup_cons, hx] using q2⟩
theorem relabel_free {env : Env} {x : Str} : ∀ {names : List (Str × NameKind)}, names.lookup x = some .free →
    (names.map fun (p : Str × NameKind) => if (p.2 == NameKind.free && env.scope.kind == .function && env.kindOf p.1 == some .cell) = true then (p.1, NameKind.cell) else (p.1, p.2)).lookup x = some .cell ∨
    (names.map fun (p : Str × NameKind) => if (p.2 == NameKind.free && env.scope.kind == .function && env.kindOf p.1 == some .cell) = true then (p.1, NameKind.cell) else (p.1, p.2)).lookup x = some .free
  | [], h => by simp at h
  | (n, k') :: r, h => by
    rw [List.map_cons]
    cases hx : x == n with
    | true =>
      simp only [List.lookup_cons, hx] at h
      cases h
      by_cases hc : (NameKind.free == NameKind.free && env.scope.kind == .function && env.kindOf n == some .cell) = true
      · rw [if_pos hc]; exact .inl (by simp [List.lookup_cons, hx])
      · rw [if_neg hc]; exact .inr (by simp [List.lookup_cons, hx])
    | false =>
      have h' : r.lookup x = some .free := by simpa only [List.lookup_cons, hx] using h
      have ih := relabel_free (env := env) h'
      by_cases hc : (k' == NameKind.free && env.scope.kind == .function && env.kindOf n == some .cell) = true
      · rw [if_pos hc]; simpa only [List.lookup_cons, hx] using ih
      · rw [if_neg hc]; simpa only [List.lookup_cons, hx] using ih

section
variable {X : Cx} {pins : List (Addr × Obj)} {σ : St} {H : Hp} {s : Shared} {scope : Scope} {x : List Str} {ix : List Nat} {C : Addr} {fp : List Addr}
theorem cells_of (I : Inv X pins σ H s) (B : BlkOk X scope x ix) : ∀ y ∈ scope.names, y.2 = NameKind.free → ∃ c, X.env.cells.lookup y.1 = some c := fun y hy hk => I.ok.has y.1 (B.free y hy hk)
theorem cl_sub (I : Inv X pins σ H s) (B : BlkOk X scope x ix) {y : Str} {c : Addr} (h : (clOf scope X.env).lookup y = some c) : X.env.cells.lookup y = some c := by
  rcases clGo_mem scope.names [] (PySem.mem_of_lookup h) with q | ⟨q1, q2⟩
  · exact absurd q (by simp)
  · obtain ⟨c', e⟩ := cells_of I B _ q1 rfl
    have e' : X.env.cells.lookup y = some c' := e
    have q2' : c = (X.env.cells.lookup y).getD 0 := q2
    rw [e', Option.getD_some] at q2'
    rw [e', q2']
theorem cl_has {y : Str} (h : scope.names.lookup y = some .free) : ∃ c, (clOf scope X.env).lookup y = some c := by
  obtain ⟨c, hc⟩ := clGo_has (env := X.env) scope.names [] (.inl (PySem.mem_of_lookup h))
  exact lookup_of_mem hc
theorem blk_ok (I : Inv X pins σ H s) (B : BlkOk X scope x ix) (hC : s.heap.objs.size ≤ C) (hf : ∀ b ∈ fp, FpOk X pins H b) (ho : ∀ b ∈ fp, ∃ o, s.heap.get? b = some o) :
    (blk X scope (blkN X x ix) C s H fp).Ok where
  mod := I.ok.mod
  kind := B.kind
  glob := I.ok.glob
  blt := I.ok.blt
  above := hC
  inj := fun y z c h1 h2 => I.ok.inj y z c (cl_sub I B h1) (cl_sub I B h2)
  has := fun y hy => by
    have hy' : (relabel scope X.env).names.lookup y = some .cell ∨ (relabel scope X.env).names.lookup y = some .free := hy
    rcases hy' with q | q
    · rcases relabel_lookup (scope := scope) (env := X.env) q with r | ⟨_, r⟩
      · exact absurd rfl (B.nocell _ (PySem.mem_of_lookup r))
      · exact cl_has r
    · rcases relabel_lookup (scope := scope) (env := X.env) q with r | ⟨r, _⟩
      · exact cl_has r
      · cases r
  cab := fun y c h => absurd (show false = true from h) Bool.false_ne_true
  hd := I.ok.hd
  frames := I.ok.frames
  stk := .inl rfl
  exf := fun b hb => by
    obtain ⟨o, e⟩ := ho b hb
    refine ⟨Nat.ne_of_lt (Nat.lt_of_lt_of_le (Heap.lt_size e) hC), fun y c h => ?_⟩
    exact (hf b hb).2.2.2.2.1 y c (cl_sub I B h)
  bs := I.bs
  bsz := Nat.le_trans I.ok.bsz I.sz
  noex := fun b o e hb => by
    rcases (hf b hb).2.2.2.1 with q | q
    · exact I.ok.noex b o e q
    · exact absurd (Nat.lt_of_lt_of_le (Heap.lt_size e) (Nat.le_trans I.ok.bsz q)) (Nat.lt_irrefl _)
  exfs := fun b hb z => by
    obtain ⟨_, h1, h2, _⟩ := hf b hb
    rcases List.mem_cons.mp (I.stkSub b z) with e | e
    · exact h1 e
    · exact h2 e
  funs := I.stack
  frf := I.stkFree

theorem blk_inv {D : Addr} {h1 : Heap} {tk : Nat} {m : Str → Option Value} (I : Inv X pins σ H s) (B : BlkOk X scope x ix) (ok : (blk X scope (blkN X x ix) C s H fp).Ok)
    (hD : D = s.heap.objs.size) (k : ∀ b o, s.heap.get? b = some o → h1.get? b = some o) (hl : h1.get? D = some { cls := .type "list", data := .seq #[] }) (hns : h1.Ns C m) (hCD : C ≠ D) (hC : s.heap.objs.size ≤ C) :
    Inv (blk X scope (blkN X x ix) C s H fp) [] (List.replicate x.length none ++ blkσ ix σ) (upd H D (.lst [])) { s with heap := h1, toks := tk } where
  ok := ok
  os := rfl
  bare := I.bare
  base := Un.laid k (by rw [hD]; exact Nat.le_refl _) (I.hok.fresh (by rw [hD]; exact Nat.le_refl _))
  loc := by
    refine ⟨m, hns, fun i y v e1 e2 e3 => ?_⟩
    by_cases hix : i < x.length
    · rw [List.getElem?_append_left (by simpa using hix), List.getElem?_replicate, if_pos hix] at e2
      cases e2
    · rw [List.getElem?_append_right (by simpa using hix), List.length_replicate] at e2
      have e1' : (ix.map fun i => X.N.getD i "")[i - x.length]? = some y := by
        have z : (x ++ ix.map fun i => X.N.getD i "")[i]? = some y := e1
        rwa [List.getElem?_append_right (by simpa using hix)] at z
      generalize i - x.length = j at e1' e2
      unfold blkσ at e2
      rw [List.getElem?_map] at e1' e2
      cases hj : ix[j]? with
      | none => rw [hj] at e2; cases e2
      | some i' =>
        rw [hj] at e1' e2
        simp only [Option.map_some, Option.some.injEq] at e1' e2
        have hi : σ[i']? = some (some v) := by
          cases q : σ[i']? with
          | none => rw [q] at e2; cases e2
          | some z => rw [q] at e2; exact congrArg some e2
        have hlt : i' < X.N.length := by
          have := (List.getElem?_eq_some_iff.mp hi).1
          rw [I.len] at this
          exact this
        have hn : X.N[i']? = some y := by
          rw [List.getD_eq_getElem?_getD, List.getElem?_eq_getElem hlt, Option.getD_some] at e1'
          rw [List.getElem?_eq_getElem hlt, e1']
        have hfree : scope.names.lookup y = some .free := by
          have := B.ixs i' (List.mem_of_getElem? hj)
          rw [e1'] at this
          exact this
        have kx := B.free _ (PySem.mem_of_lookup hfree) rfl
        have vis : Vis X.env.scope y := by
          rcases kx with q | q
          · exact .inr (.inl q)
          · exact .inr (.inr q)
        obtain ⟨m', _, hl'⟩ := I.loc
        obtain ⟨u, r, lk⟩ := hl' i' y v hn hi vis
        refine ⟨u, r, ?_⟩
        rcases lk with ⟨q, _⟩ | ⟨_, c, hc, hcell⟩
        · have q' : X.env.scope.names.lookup y = some .local := q
          rcases kx with z | z <;> (rw [q'] at z; cases z)
        · obtain ⟨c', hc'⟩ := cl_has (X := X) hfree
          have e := cl_sub I B hc'
          rw [hc] at e
          cases e
          refine .inr ⟨relabel_free (env := X.env) hfree, c, hc', ?_⟩
          obtain ⟨o, ho, hd⟩ := hcell
          exact ⟨o, k c o ho, hd⟩
  cell := fun y c h => by
    obtain ⟨v, o, ho, hd⟩ := I.cell y c (cl_sub I B h)
    exact ⟨v, o, k c o ho, hd⟩
  free := by
    show upd H D (.lst []) C = none
    rw [upd_ne hCD]
    exact I.hok.fresh hC
  freeC := fun y c h => by
    obtain ⟨v, o, ho, hd⟩ := I.cell y c (cl_sub I B h)
    show upd H D (.lst []) c = none
    rw [upd_ne (by rw [hD]; exact Nat.ne_of_lt (Heap.lt_size ho))]
    exact I.freeC y c (cl_sub I B h)
  pin := fun p hp => absurd (show p ∈ ([] : List (Addr × Obj)) from hp) (by simp)
  hok := I.hok.laid k (by rw [hD]; exact Nat.le_refl _) ⟨Nat.zero_le _, [], 0, .nil, hl⟩
  len := by
    show (List.replicate x.length none ++ blkσ ix σ).length = (blkN X x ix).length
    simp [blkσ]
theorem blk_out {σ' : St} {H' : Hp} {s' : Shared} {h' : Heap} {p' : List (Addr × Obj)} (I : Inv X pins σ H s) (hC : s.heap.objs.size ≤ C) (hf : ∀ b ∈ fp, FpOk X pins H b) (J : Inv (blk X scope (blkN X x ix) C s H fp) p' σ' H' s')
    (hs : Heap.SameBut C s'.heap h') : Inv X pins σ H' { s' with heap := h' } := by
  have I1 : Inv X pins σ H' s' := I.call' (ch := fp) J.os J.base J.hok J.bare fun b hb => ⟨(hf b hb).2.2.2.1, (hf b hb).2.1, (hf b hb).2.2.2.2.1, (hf b hb).2.2.2.2.2⟩
  refine I1.turned (it := C) (t' := s'.toks) (fun b o hb e => (hs.2 b hb).trans e) J.free (Nat.ne_of_gt (Nat.lt_of_lt_of_le I.lt hC)) (.inr (Nat.le_trans I.sz hC)) (fun y c e z => ?_) (fun p hp z => ?_)
  · obtain ⟨v, q⟩ := I.cell y c e
    exact absurd (Nat.lt_of_lt_of_le q.lt (by rw [z]; exact hC)) (Nat.lt_irrefl _)
  · exact absurd (Nat.lt_of_lt_of_le (Heap.lt_size (I.pin p hp).1) (by rw [z]; exact hC)) (Nat.lt_irrefl _)
end

def PIfs (X : Cx) (ifs : List Expr) (t : TT) : Prop :=
  ∀ (pins : List (Addr × Obj)) (s : Shared) (σ : St) (H : Hp) (Q : Bool → Hp → Prop), Inv X pins σ H s → t σ H Q →
    wpAny (model X.prog X.w) X.A (forIn ifs true fun c r => if r = true then do let ok ← isTrue c X.env (eval c X.env); pure (ForInStep.yield ok) else pure (ForInStep.yield r)) (TP X pins σ Q) X.xe s
def tYes : TT := fun _ H Q => Q true H
theorem pif_nil {X : Cx} : PIfs X [] tYes := fun _ _ _ H _ I h => wpAny_pure ⟨H, I, h⟩
theorem pif_one {X : Cx} {c : Expr} {t : TT} (h : PT X c t) : PIfs X [c] t := fun pins s σ H Q I hq => by
  rw [List.forIn_cons]
  refine wpAny_bind ?_
  rw [if_pos rfl]
  refine wpAny_bind (thn (h pins s σ H Q I hq) fun b s1 q => wpAny_pure ?_)
  exact wpAny_pure q

def wLCat (n : Nat) (own : V → Hp → List V → Prop) (ix : List Nat) (tt : TT) (te : TE) (σ : St) (Q : VK) (J : It) (H1 : Hp) (D : Addr) : Prop := ∃ W : Nat → Nat → List V → Hp → Prop, (∃ m, W 0 m [] (upd H1 D (.lst []))) ∧ ∀ i m ys H, W i m ys H → H D = some (.lst ys) →
  (J.stop i H ∧ Q (.ref D) H) ∨ (J.go i H ∧ ys.length < sizeLine ∧ ∀ x H', J.yld i H x H' → ∃ vs, own x H' vs ∧ vs.length = n ∧ tt (vs.map some ++ blkσ ix σ) H' fun b H2 =>
    if b = true then te (vs.map some ++ blkσ ix σ) H2 (fun v H3 => H3 D = some (.lst ys) ∧ ∃ m', m' < m ∧ W (i + 1) m' (ys ++ [v]) (upd H3 D (.lst (ys ++ [v]))))
    else H2 D = some (.lst ys) ∧ ∃ m', m' < m ∧ W (i + 1) m' ys H2)
def wLC (n : Nat) (own : V → Hp → List V → Prop) (ix : List Nat) (tt : TT) (te : TE) (σ : St) (Q : VK) (J : It) (H1 : Hp) : Prop := ∀ D, H1 D = none → wLCat n own ix tt te σ Q J H1 D
def tLC (n : Nat) (own : V → Hp → List V → Prop) (ix : List Nat) (wi : TI) (tt : TT) (te : TE) : TE := fun σ H Q => wi σ H fun J H1 => wLC n own ix tt te σ Q J H1
def gOwn (n : Nat) (own : V → Hp → List V → Prop) : TG := fun v σ H N => ∃ vs, own v H vs ∧ vs.length = n ∧ N (vs.map some ++ σ.drop n) H

theorem comp_loop {P : Program} {w : World} {A : Around} {R : Result → Shared → Prop} {s : Shared} {elt target iter : Expr} {ifs : List Expr} {scope : Scope} {pos : Pos} {it acc : Value} {env : Env} (Iv : Nat → Shared → Prop)
    (turn : ∀ n s, Iv n s → wpAny (model P w) A (pyNext it) (fun r s₁ => match r with
      | none => R (.ok .next) s₁
      | some v => wpAny (model P w) A (letOwnedTupleGo target it v) (fun _ t₁ => wpAny (model P w) A (assign target env v) (fun _ s₂ =>
          wpAny (model P w) A (forIn ifs true fun c r => if r = true then do let ok ← isTrue c env (eval c env); pure (ForInStep.yield ok) else pure (ForInStep.yield r)) (fun ok s₃ =>
            if ok = true then wpAny (model P w) A (eval elt env) (fun x s₄ =>
              wpAny (model P w) A (call (.builtin "list.append") [acc, x]) (fun _ s₅ => ∃ m, m < n ∧ Iv m s₅) (notedBy (model P w) A env fun e s' => R (.error e) s') s₄) (notedBy (model P w) A env fun e s' => R (.error e) s') s₃
            else ∃ m, m < n ∧ Iv m s₃) (notedBy (model P w) A env fun e s' => R (.error e) s') s₂) (notedBy (model P w) A env fun e s' => R (.error e) s') t₁) (notedBy (model P w) A env fun e s' => R (.error e) s') s₁) (notedBy (model P w) A env fun e s' => R (.error e) s') s)
    (n : Nat) (h : Iv n s) : codeAny (model P w) A (.compLoop (.ListComp elt [⟨target, iter, ifs, 0⟩] scope pos) 0 it acc env) R s := by
  refine codeAny_loop rfl Iv (fun n s hI => ?_) n h
  show wpAny _ A ((compTurn (.ListComp elt [⟨target, iter, ifs, 0⟩] scope pos) 0 it acc env).onRaise (fun x => do noteFrame x env; theTreesLotGoes x)) _ _ s
  refine wpAny_noted ?_
  rw [compTurn_list]
  refine wpAny_bind (wpAny_standAt (wpAny_bind (wpAny_mono (turn n s hI) (fun r s₁ k₁ => ?_) fun _ _ z => z)))
  cases r with
  | none => exact wpAny_pure k₁
  | some v =>
    refine wpAny_bind (wpAny_mono k₁ (fun _ t₁ k₂ => wpAny_bind (wpAny_mono k₂ (fun _ s₂ k₃ => wpAny_bind (wpAny_mono k₃ (fun ok s₃ k₄ => ?_) fun _ _ z => z)) fun _ _ z => z)) fun _ _ z => z)
    cases ok with
    | false => exact wpAny_pure ⟨rfl, k₄⟩
    | true => exact wpAny_bind (wpAny_bind (wpAny_mono k₄ (fun x s₄ k₅ => wpAny_bind (wpAny_mono k₅ (fun _ s₅ k₆ => wpAny_pure (wpAny_pure ⟨rfl, k₆⟩)) fun _ _ z => z)) fun _ _ z => z))
section
variable {X : Cx} {scope : Scope} {x : List Str} {ix : List Nat} {elt iter tg : Expr} {ifs : List Expr} {px pos : Pos} {wi : TI} {tt : TT} {te : TE} {own : V → Hp → List V → Prop}
theorem lc_core {pins : List (Addr × Obj)} {σ : St} {s₂ : Shared} {H2 : Hp} {it : Addr} {fp : List Addr} {tn : Nat → Heap → Prop} {J : It} {Q : VK} {E : Value → Shared → Prop} {RR : Value → Addr → Result → Shared → Prop}
    (hc : X.calm = true) (B : BlkOk X scope x ix) (hg : ∀ C s H fp, PG (blk X scope (blkN X x ix) C s H fp) tg (gOwn x.length own)) (ht : ∀ C s H fp, PIfs (blk X scope (blkN X x ix) C s H fp) ifs tt) (he : ∀ C s H fp, PE (blk X scope (blkN X x ix) C s H fp) elt te)
    (I2 : Inv X pins σ H2 s₂) (T : Turn X.prog X.w X.K tg J fp it tn) (st2 : tn 0 s₂.heap) (f2 : ∀ b ∈ fp, FpOk X pins H2 b) (hq : wLC x.length own ix tt te σ Q J H2)
    (hRR : ∀ D C s' σ' H' p', s₂.heap.objs.size ≤ C → Inv (blk X scope (blkN X x ix) C s₂ H2 fp) p' σ' H' s' → Q (.ref D) H' → RR (.ref D) C (.ok .next) s') :
    wpAny (model X.prog X.w) X.A (newList []) (fun acc s₃ => wpAny (model X.prog X.w) X.A (newFunctionEnv scope X.env.globals (clOf scope X.env) [] X.env.qual none .none (some X.env)) (fun cenv s₄ =>
      codeAny (model X.prog X.w) X.A (.compStart (.ListComp elt [⟨tg, iter, ifs, 0⟩] scope pos) 0 (.ref it) acc { cenv with scope := relabel scope X.env }) (RR acc cenv.locals) s₄) E s₃) E s₂ := by
  refine wpAny_newObj_type (wpAny_newFunctionEnv B.nocell (by intro y hy; simp at hy) (fun h₁ hns₁ hsb₁ => ?_) B.kind)
  dsimp only at hns₁ hsb₁ ⊢
  generalize hH2 : s₂.heap.push { cls := .type "list", dict := none, data := .seq ([] : List Value).toArray } = HH at hns₁ hsb₁ ⊢
  have hC : HH.objs.size = s₂.heap.objs.size + 1 := by rw [← hH2, Heap.size_push]
  have hDC : s₂.heap.objs.size ≠ HH.objs.size := by rw [hC]; exact Nat.ne_of_lt (Nat.lt_succ_self _)
  have hCle : s₂.heap.objs.size ≤ HH.objs.size := by rw [hC]; exact Nat.le_succ _
  have old : ∀ b o, s₂.heap.get? b = some o → h₁.get? b = some o := fun b o e =>
    hsb₁.extBut b o (by rw [hC]; exact Nat.ne_of_lt (Nat.lt_succ_of_lt (Heap.lt_size e))) (Heap.get?_push_of_some _ (hH2 ▸ Heap.get?_push_of_some _ e))
  have hacc : h₁.get? s₂.heap.objs.size = some { cls := .type "list", data := .seq #[] } := hsb₁.extBut _ _ hDC (Heap.get?_push_of_some _ (hH2 ▸ Heap.get?_push_size _ rfl))
  have hob : ∀ b ∈ fp, ∃ o, s₂.heap.get? b = some o := fun b hb => let ⟨o, e, _⟩ := T.obj 0 _ st2 b hb; ⟨o, e⟩
  have ok := blk_ok (C := HH.objs.size) I2 B hCle f2 hob
  obtain ⟨W, ⟨m0, w0⟩, turn⟩ := hq s₂.heap.objs.size (I2.hok.fresh (Nat.le_refl _))
  -- the iterator's records, in the block
  have stat : ∀ {H' : Hp}, (∀ b ∈ fp, H' b = none) → ∀ b ∈ fp, FpOk (blk X scope (blkN X x ix) HH.objs.size s₂ H2 fp) [] H' b := fun {H'} hn b hb => by
    obtain ⟨o, e⟩ := hob b hb
    obtain ⟨_, g1, g2, g3, g4, g5⟩ := f2 b hb
    refine ⟨hn b hb, Nat.ne_of_lt (Nat.lt_of_lt_of_le (Heap.lt_size e) hCle), fun z => ?_, .inl hb, fun y c h => g4 y c (cl_sub I2 B h), fun p hp => absurd (show p ∈ ([] : List (Addr × Obj)) from hp) (by simp)⟩
    rcases List.mem_cons.mp (I2.stkSub b z) with q | q
    · exact g1 q
    · exact g2 q
  have loop : ∀ s₃ : Shared, s₃ = { s₂ with heap := h₁, toks := s₂.toks + ([] : List (Str × Value)).length } →
      codeAny (model X.prog X.w) X.A (.compLoop (.ListComp elt [⟨tg, iter, ifs, 0⟩] scope pos) 0 (.ref it) (.ref s₂.heap.objs.size) (compEnvC scope (clOf scope X.env) HH.objs.size X.env))
        (RR (.ref s₂.heap.objs.size) HH.objs.size) s₃ := by
    rintro s₃ rfl
    have J0 := blk_inv (fp := fp) (C := HH.objs.size) (tk := s₂.toks + ([] : List (Str × Value)).length) I2 B ok rfl old hacc hns₁ (Ne.symm hDC) hCle
    have fr0 : ∀ b ∈ fp, upd H2 s₂.heap.objs.size (.lst []) b = none := fun b hb => by
      obtain ⟨o, e⟩ := hob b hb
      rw [upd_ne (Nat.ne_of_lt (Heap.lt_size e))]
      exact (f2 b hb).1
    refine comp_loop (fun k s' => ∃ i ys H', Inv (blk X scope (blkN X x ix) HH.objs.size s₂ H2 fp) [] (List.replicate x.length none ++ blkσ ix σ) H' s' ∧ tn i s'.heap ∧ (∀ b ∈ fp, H' b = none) ∧ H' s₂.heap.objs.size = some (.lst ys) ∧ W i k ys H') ?_ m0
      ⟨0, [], _, J0, T.keep 0 _ _ st2 (fun b _ o e => old b o e), fr0, upd_same, w0⟩
    rintro n s₄ ⟨i, ys, H4, I4, st4, fr4, hD4, w4⟩
    rcases turn i n ys H4 w4 hD4 with ⟨stop, qn⟩ | ⟨go, hz, step⟩
    · refine thn (T.done (blk X scope (blkN X x ix) HH.objs.size s₂ H2 fp) rfl rfl rfl hc i [] s₄ _ H4 _ I4 (stat fr4) st4 stop) fun r s5 ⟨hr, I5⟩ => ?_
      subst hr
      exact hRR _ _ s5 _ H4 [] hCle I5 qn
    · refine thn (T.item (blk X scope (blkN X x ix) HH.objs.size s₂ H2 fp) rfl rfl rfl hc i [] s₄ _ H4 _ I4 (stat fr4) st4 go) fun r s5 ⟨u, hr, h5⟩ => ?_
      subst hr
      refine wpAny_mono h5 (fun _ s6 ⟨xv, H6, I6, r6, y6, st6, fr6⟩ => ?_) fun _ _ z => z
      have I6' := I6.pinned (stat fr6) (T.obj _ _ st6)
      obtain ⟨vs, hov, hvl, q7⟩ := step xv H6 y6
      have fgt : ∀ {σ9 : St} {H9 : Hp} {s9 : Shared} {p9 : List (Addr × Obj)}, σ9.length = x.length → Inv (blk X scope (blkN X x ix) HH.objs.size s₂ H2 fp) p9 (σ9 ++ blkσ ix σ) H9 s9 → Inv (blk X scope (blkN X x ix) HH.objs.size s₂ H2 fp) p9 (List.replicate x.length none ++ blkσ ix σ) H9 s9 := fun {σ9 H9 s9 p9} hl I9 =>
        I9.weak (by simp [hl]) fun k v e => by
          by_cases hk : k < x.length
          · rw [List.getElem?_append_left (by simpa using hk), List.getElem?_replicate, if_pos hk] at e
            cases e
          · rw [List.getElem?_append_right (by simpa using hk), List.length_replicate] at e
            rw [List.getElem?_append_right (by rw [hl]; omega), hl]
            exact e
      refine wpAny_mono (hg _ _ _ _ _ s6 _ H6 xv u (fun σ9 H9 => σ9 = vs.map some ++ (List.replicate x.length (none : Option V) ++ blkσ ix σ).drop x.length ∧ H9 = H6) I6' r6 ⟨vs, hov, hvl, rfl, rfl⟩) (fun _ s7 ⟨σ7, H7, I7, e7, e8⟩ => ?_) fun _ _ z => z.elim
      subst e7 e8
      rw [List.drop_left' (by simp)] at I7
      have hml : (vs.map some).length = x.length := by rw [List.length_map]; exact hvl
      refine wpAny_mono (ht _ _ _ _ _ s7 _ H7 _ I7 q7) (fun b s8 ⟨H8, I8, q8⟩ => ?_) fun _ _ z => z.elim
      have pinned : ∀ {H9 : Hp} {s9 : Shared} {σ9 : St}, Inv (blk X scope (blkN X x ix) HH.objs.size s₂ H2 fp) ([] ++ pinsAt fp s6.heap) σ9 H9 s9 → tn (i + 1) s9.heap ∧ ∀ b ∈ fp, H9 b = none := fun {H9 s9 σ9} I9 => by
        refine ⟨T.keep _ _ _ st6 fun b hb o e => (I9.pin (b, o) (List.mem_append_right _ (List.mem_append_right _ (mem_pinsAt hb e)))).1, fun b hb => ?_⟩
        obtain ⟨o, e, d⟩ := T.obj _ _ st6 b hb
        exact (I9.pin (b, o) (List.mem_append_right _ (List.mem_append_right _ (mem_pinsAt hb e)))).2.1
      cases b with
      | false =>
        rw [if_neg Bool.false_ne_true] at q8 ⊢
        obtain ⟨hD8, m', hm, w8⟩ := q8
        obtain ⟨t8, f8⟩ := pinned I8
        exact ⟨m', hm, i + 1, ys, H8, fgt hml I8.unpinned, t8, f8, hD8, w8⟩
      | true =>
        rw [if_pos rfl] at q8 ⊢
        refine wpAny_mono (he _ _ _ _ _ s8 _ H8 _ I8 q8) (fun u9 s9 ⟨v9, H9, I9, r9, hD9, m', hm, w9⟩ => ?_) fun _ _ z => z.elim
        refine wpAny_mono (mt_append (X := blk X scope (blkN X x ix) HH.objs.size s₂ H2 fp) _ s9 _ H9 (.ref s₂.heap.objs.size) [v9] _ [u9] (fun _ H' => H' = upd H9 s₂.heap.objs.size (.lst (ys ++ [v9]))) I9 rfl (.cons r9 .nil) ⟨_, ys, v9, rfl, rfl, hD9, hz, rfl⟩) (fun _ s10 ⟨_, H10, I10, _, e10⟩ => ?_) fun _ _ z => z.elim
        subst e10
        obtain ⟨t10, f10⟩ := pinned I10
        exact ⟨m', hm, i + 1, ys ++ [v9], _, fgt hml I10.unpinned, t10, f10, upd_same, w9⟩
  exact codeAny_compStart_list (loop _ rfl) (T.self _ 0 _ _ _ (T.keep 0 _ _ st2 (fun b _ o e => old b o e)) (loop _ rfl))
theorem pe_lc (ix : List Nat) (hc : X.calm = true) (B : BlkOk X scope x ix) (hg : ∀ C s H fp, PG (blk X scope (blkN X x ix) C s H fp) tg (gOwn x.length own)) (hi : PI X tg iter wi) (ht : ∀ C s H fp, PIfs (blk X scope (blkN X x ix) C s H fp) ifs tt) (he : ∀ C s H fp, PE (blk X scope (blkN X x ix) C s H fp) elt te)
    (hs : ∀ v, foldedSetIterable iter X.env v = pure v := by intro _; rfl) : PE X (.ListComp elt [⟨tg, iter, ifs, 0⟩] scope pos) (tLC x.length own ix wi tt te) := by
  intro pins s σ H Q I h
  rw [eval_ListComp]
  refine wpAny_comprehension_free (use := none) rfl hs (clos_of (cells_of I B)) B.kind B.names ?_
  refine thn (hi pins s σ H _ I h) fun v s1 h1 => thn h1 fun itv s2 h2 => ?_
  obtain ⟨it, fp, tn, J, H2, e, I2, T, st2, f2, hq⟩ := h2
  subst e
  refine lc_core (RR := fun acc C => compPost (model X.prog X.w) X.A X.xe none (EP X pins σ Q) acc C) hc B hg ht he I2 T st2 f2 hq fun D C s' σ' H' p' hC I' q' => ?_
  obtain ⟨m, hn, _⟩ := I'.loc
  exact ⟨m, hn, fun h' hs' => ⟨.ref D, H', blk_out I2 hC f2 I' hs', rfl, q'⟩⟩
end
end L2
namespace L2
open PySem PySem.Spec PyProof.Rows
def Sm (n : Nat) (i : Int) : Prop := i.natAbs < 2 ^ n
theorem Sm.bits {n : Nat} {i : Int} (h : Sm n i) : Builtin.Int.intBits i ≤ n := by
  unfold Builtin.Int.intBits
  by_cases e : i = 0
  · subst e; exact Nat.zero_le _
  · have e' : (i == 0) = false := beq_eq_false_iff_ne.mpr e
    rw [e']
    have h0 : i.natAbs ≠ 0 := by omega
    have := (Nat.log2_lt h0).mpr h
    simp only [Bool.false_eq_true, if_false]
    omega
theorem Sm.mono {m n : Nat} {i : Int} (h : Sm m i) (hmn : m ≤ n) : Sm n i := Nat.lt_of_lt_of_le h (Nat.pow_le_pow_right (by decide) hmn)
theorem Sm.mul {m n : Nat} {i j : Int} (h : Sm m i) (h' : Sm n j) : Sm (m + n) (i * j) := by
  unfold Sm at *
  rw [Int.natAbs_mul, Nat.pow_add]
  by_cases e : j.natAbs = 0
  · rw [e, Nat.mul_zero]
    exact Nat.mul_pos (Nat.pow_pos (by decide)) (Nat.pow_pos (by decide))
  · exact Nat.lt_of_lt_of_le (Nat.mul_lt_mul_of_pos_right h (Nat.pos_of_ne_zero e)) (Nat.mul_le_mul_left _ (Nat.le_of_lt h'))
theorem Sm.add {m n : Nat} {i j : Int} (h : Sm m i) (h' : Sm n j) : Sm (max m n + 1) (i + j) := by
  have h1 := h.mono (Nat.le_max_left m n)
  have h2 := h'.mono (Nat.le_max_right m n)
  unfold Sm at *
  rw [Nat.pow_succ]
  omega
theorem Sm.neg {n : Nat} {i : Int} (h : Sm n i) : Sm n (-i) := by unfold Sm at *; rw [Int.natAbs_neg]; exact h
theorem Sm.sub {m n : Nat} {i j : Int} (h : Sm m i) (h' : Sm n j) : Sm (max m n + 1) (i - j) := by
  rw [Int.sub_eq_add_neg]; exact h.add h'.neg
theorem Sm.zero {n : Nat} : Sm n 0 := Nat.pow_pos (by decide)
theorem sm_of {n : Nat} {i : Int} (h1 : -(2 ^ n : Int) < i) (h2 : i < (2 ^ n : Int)) : Sm n i := by
  unfold Sm
  have e : ((2 ^ n : Nat) : Int) = (2 : Int) ^ n := by simp
  omega
def CMulB (i j : Int) : Prop := ∃ m n, m ≤ 1000000 ∧ n ≤ 1000000 ∧ Sm m i ∧ Sm n j
theorem CMulB.ok {i j : Int} (h : CMulB i j) : IntMulOk i j := by
  obtain ⟨m, n, hm, hn, h1, h2⟩ := h
  have e : (2 : Nat) ^ 20 = 1048576 := by decide
  exact .of_bits (by have := h1.bits; omega) (by have := h2.bits; omega)
def CDivBN (_ j : Int) : Prop := j ≠ 0 ∧ ∃ n, n ≤ 8000 ∧ Sm n j
theorem sm_log2 {n : Nat} {j : Int} (hn : n ≤ 8000) (h : Sm n j) : j.natAbs.log2 < 9000 := by
  by_cases e : j.natAbs = 0
  · rw [e]; decide
  · have := (Nat.log2_lt e).mpr h
    omega
section
variable {X : Cx}
theorem op_mulB : OpR X (binaryOp .Mult) (rI CMulB fun i j => .int (i * j)) := opI fun _ _ _ _ _ _ _ hc q => mul_int q hc.ok
theorem op_fdivBN : OpR X (binaryOp .FloorDiv) (rI CDivBN fun i j => .int (i.fdiv j)) := opI fun i j _ _ _ _ _ hc q => by
  obtain ⟨h1, n, hn, h2⟩ := hc
  exact floordiv_int h1 q (.inl (PyProof.noPylong_of_log2 (sm_log2 hn h2)))

def isiV (K : PySem.W.Frag) (H : Hp) : V → String → Bool → Prop
  | .int _, T, b => (T = "int" ∧ b = true) ∨ (T = "bool" ∧ b = false) ∨ (T = "tuple" ∧ b = false) ∨ (T = "list" ∧ b = false)
  | .bl _, T, b => (T = "int" ∧ b = true) ∨ (T = "bool" ∧ b = true) ∨ (T = "tuple" ∧ b = false) ∨ (T = "list" ∧ b = false)
  | .str _, T, b => (T = "int" ∧ b = false) ∨ (T = "bool" ∧ b = false) ∨ (T = "tuple" ∧ b = false) ∨ (T = "list" ∧ b = false)
  | .non, T, b => (T = "int" ∧ b = false) ∨ (T = "bool" ∧ b = false) ∨ (T = "tuple" ∧ b = false) ∨ (T = "list" ∧ b = false)
  | .ref p, T, b => (∃ xs, SqT K H p xs ∧ ((T = "int" ∧ b = false) ∨ (T = "bool" ∧ b = false) ∨ (T = "tuple" ∧ b = true) ∨ (T = "list" ∧ b = false))) ∨
      (∃ xs, SqL K H p xs ∧ ((T = "int" ∧ b = false) ∨ (T = "bool" ∧ b = false) ∨ (T = "tuple" ∧ b = false) ∨ (T = "list" ∧ b = true)))
  | _, _, _ => False
theorem call_isi : CallR X (.builtin "isinstance") (fun xs H Q => ∃ x T b, xs = [x, .ty T] ∧ isiV X.K H x T b ∧ Q (.bl b) H) := by
  intro pins s σ H xs us Q I r h
  obtain ⟨x, T, b, rfl, hi, q⟩ := h
  obtain ⟨u, w', rfl, rx, ru⟩ := vals2 r
  cases ru
  have k0 : EP X pins σ Q (.bool b) s := ⟨.bl b, H, I, rfl, q⟩
  have k1 : EP X pins σ Q (.bool b) { s with toks := s.toks + 1 } := ⟨.bl b, H, I.tok _, rfl, q⟩
  cases x with
  | int i =>
    obtain ⟨t, rfl⟩ := rx
    rcases hi with ⟨rfl, rfl⟩ | ⟨rfl, rfl⟩ | ⟨rfl, rfl⟩ | ⟨rfl, rfl⟩
    · exact IsiPair.int_int k0
    · exact IsiPair.int_bool k1
    · exact IsiPair.int_tuple k1
    · exact IsiPair.int_list k1
  | bl i =>
    cases rx
    rcases hi with ⟨rfl, rfl⟩ | ⟨rfl, rfl⟩ | ⟨rfl, rfl⟩ | ⟨rfl, rfl⟩
    · first | exact IsiPair.bool_int k0 | exact IsiPair.bool_int k1
    · first | exact IsiPair.bool_bool k0 | exact IsiPair.bool_bool k1
    · exact IsiPair.bool_tuple k1
    · exact IsiPair.bool_list k1
  | str i =>
    obtain ⟨t, rfl⟩ := rx
    rcases hi with ⟨rfl, rfl⟩ | ⟨rfl, rfl⟩ | ⟨rfl, rfl⟩ | ⟨rfl, rfl⟩
    · exact IsiPair.str_int k1
    · exact IsiPair.str_bool k1
    · exact IsiPair.str_tuple k1
    · exact IsiPair.str_list k1
  | non =>
    cases rx
    rcases hi with ⟨rfl, rfl⟩ | ⟨rfl, rfl⟩ | ⟨rfl, rfl⟩ | ⟨rfl, rfl⟩
    · exact IsiPair.NoneType_int k1
    · exact IsiPair.NoneType_bool k1
    · exact IsiPair.NoneType_tuple k1
    · exact IsiPair.NoneType_list k1
  | ref p =>
    cases rx
    rcases hi with ⟨xs, hS, hi⟩ | ⟨xs, hS, hi⟩
    · obtain ⟨its, _, ⟨o, e, c, _⟩, _⟩ := I.tuple hS
      rcases hi with ⟨rfl, rfl⟩ | ⟨rfl, rfl⟩ | ⟨rfl, rfl⟩ | ⟨rfl, rfl⟩
      · exact IsiPair.tuple_int e c k1
      · exact IsiPair.tuple_bool e c k1
      · exact IsiPair.tuple_tuple e c k0
      · exact IsiPair.tuple_list e c k1
    · obtain ⟨its, _, pl, _⟩ := I.list hS
      obtain ⟨o, e, c, _⟩ := pl.isList
      rcases hi with ⟨rfl, rfl⟩ | ⟨rfl, rfl⟩ | ⟨rfl, rfl⟩ | ⟨rfl, rfl⟩
      · exact IsiPair.list_int e c k1
      · exact IsiPair.list_bool e c k1
      · exact IsiPair.list_tuple e c k1
      · exact IsiPair.list_list e c k0
  | _ => exact (show False from hi).elim
end
end L2
namespace L2
open PySem PySem.Spec PyProof.Rows

inductive W where
  | non | bl (b : Bool) | int (i : Int) | str (x : Str) | ty (n : String) | tup (ws : List W) | lst (ws : List W) | loc (n : Nat) | kls (ws : List W)
inductive Cell where
  | lst (ws : List W) | obj (C : Addr) (fs : List (Str × W)) | dct (kvs : List (Key × W))
structure Gh where
  nx : Nat
  c : Nat → Option Cell
structure Mu where
  f : Nat → Option Addr
  hid : Addr → Prop

def KLst (K : PySem.W.Frag) (p : Addr) (xs : List V) : Prop :=
  ∃ (o : Obj) (its : Array Value) (n : Nat), K.lookup p = some o ∧ o.cls = .type "list" ∧ o.dict = none ∧ o.data = .seq its n ∧ its.size ≤ sizeLine ∧ Vals xs its.toList
def Frz (H : Hp) (μ : Mu) (p : Addr) (xs : List V) : Prop := H p = some (.lst xs) ∧ (∀ n, μ.f n ≠ some p) ∧ ¬ μ.hid p
def Frk (K : PySem.W.Frag) (H : Hp) (p : Addr) (xs : List V) : Prop := (∃ o, H p = some (.frz o (.lst xs))) ∨ KLst K p xs
theorem Frz.sq {K : PySem.W.Frag} {H : Hp} {μ : Mu} {p : Addr} {xs : List V} (h : Frz H μ p xs) : SqL K H p xs := .inl (.inl h.1)
theorem Frk.sq {K : PySem.W.Frag} {H : Hp} {p : Addr} {xs : List V} (h : Frk K H p xs) : SqL K H p xs := by
  rcases h with h | h
  · exact .inl (.inr h)
  · exact .inr h

mutual
def Rep (K : PySem.W.Frag) (H : Hp) (μ : Mu) : W → V → Prop
  | .non, v => v = .non
  | .bl b, v => v = .bl b
  | .int i, v => v = .int i
  | .str x, v => v = .str x
  | .ty n, v => v = .ty n
  | .tup ws, v => ∃ p xs, v = .ref p ∧ SqT K H p xs ∧ Reps K H μ ws xs
  | .lst ws, v => ∃ p xs, v = .ref p ∧ Frz H μ p xs ∧ Reps K H μ ws xs
  | .kls ws, v => ∃ p xs, v = .ref p ∧ Frk K H p xs ∧ Reps K H μ ws xs
  | .loc n, v => ∃ p, v = .ref p ∧ μ.f n = some p
def Reps (K : PySem.W.Frag) (H : Hp) (μ : Mu) : List W → List V → Prop
  | [], xs => xs = []
  | w :: ws, xs => ∃ v vs, xs = v :: vs ∧ Rep K H μ w v ∧ Reps K H μ ws vs
end

section
variable {K : PySem.W.Frag} {H H' H1 H2 : Hp} {μ μ' μ1 μ2 : Mu} {h h' : Gh} {w : W} {ws : List W} {v : V} {xs : List V}

theorem Reps.len : ∀ {ws : List W} {xs : List V}, Reps K H μ ws xs → ws.length = xs.length
  | [], xs, h => by
    have e : xs = [] := by rw [Reps] at h; exact h
    rw [e]; rfl
  | w :: ws, xs, h => by
    rw [Reps] at h
    obtain ⟨v, vs, e, _, h⟩ := h
    rw [e, List.length_cons, List.length_cons, Reps.len h]
theorem Reps.get : ∀ {ws : List W} {xs : List V} {i : Nat} {w : W}, Reps K H μ ws xs → ws[i]? = some w → ∃ v, xs[i]? = some v ∧ Rep K H μ w v
  | [], _, _, _, _, e => by simp at e
  | a :: ws, xs, 0, w, h, e => by
    rw [Reps] at h
    obtain ⟨v, vs, e1, r, _⟩ := h
    simp at e; subst e; subst e1
    exact ⟨v, rfl, r⟩
  | a :: ws, xs, i + 1, w, h, e => by
    rw [Reps] at h
    obtain ⟨v, vs, e1, _, h⟩ := h
    subst e1
    obtain ⟨u, h1, h2⟩ := Reps.get (i := i) (w := w) h (by simpa using e)
    exact ⟨u, by simpa using h1, h2⟩
theorem Reps.nil : Reps K H μ [] [] := by rw [Reps]
theorem Reps.cons (r : Rep K H μ w v) (h : Reps K H μ ws xs) : Reps K H μ (w :: ws) (v :: xs) := by
  rw [Reps]; exact ⟨v, xs, rfl, r, h⟩
theorem Reps.append : ∀ {ws : List W} {xs : List V} {us : List W} {ys : List V}, Reps K H μ ws xs → Reps K H μ us ys → Reps K H μ (ws ++ us) (xs ++ ys)
  | [], xs, us, ys, h, g => by
    rw [Reps] at h; subst h; exact g
  | w :: ws, xs, us, ys, h, g => by
    rw [Reps] at h
    obtain ⟨v, vs, e, r, h⟩ := h
    subst e
    exact Reps.cons r (Reps.append h g)
theorem Reps.one (r : Rep K H μ w v) : Reps K H μ [w] [v] := Reps.cons r Reps.nil
theorem Reps.set (r : Rep K H μ w v) : ∀ {ws : List W} {xs : List V} (i : Nat), Reps K H μ ws xs → Reps K H μ (ws.set i w) (xs.set i v)
  | [], xs, i, h => by rw [Reps] at h; subst h; exact Reps.nil
  | a :: ws, xs, 0, h => by
    rw [Reps] at h
    obtain ⟨u, vs, e, _, h⟩ := h
    subst e
    exact Reps.cons r h
  | a :: ws, xs, i + 1, h => by
    rw [Reps] at h
    obtain ⟨u, vs, e, q, h⟩ := h
    subst e
    exact Reps.cons q (Reps.set r i h)
structure Ex0 (K : PySem.W.Frag) (H : Hp) (μ : Mu) (H' : Hp) (μ' : Mu) : Prop where
  t : ∀ p xs, SqT K H p xs → SqT K H' p xs
  l : ∀ p xs, Frz H μ p xs → Frz H' μ' p xs
  k : ∀ p xs, Frk K H p xs → Frk K H' p xs
  m : ∀ n p, μ.f n = some p → μ'.f n = some p
structure Ex (K : PySem.W.Frag) (H : Hp) (μ : Mu) (H' : Hp) (μ' : Mu) : Prop extends Ex0 K H μ H' μ' where
  o : ∀ p u, μ.hid p → H p = some u → μ'.hid p ∧ H' p = some u
mutual
theorem Rep.ex (e : Ex0 K H μ H' μ') : ∀ {w : W} {v : V}, Rep K H μ w v → Rep K H' μ' w v
  | .non, _, h => by rw [Rep] at h ⊢; exact h
  | .bl _, _, h => by rw [Rep] at h ⊢; exact h
  | .int _, _, h => by rw [Rep] at h ⊢; exact h
  | .str _, _, h => by rw [Rep] at h ⊢; exact h
  | .ty _, _, h => by rw [Rep] at h ⊢; exact h
  | .tup ws, _, h => by
    rw [Rep] at h ⊢
    obtain ⟨p, xs, e1, hs, hr⟩ := h
    exact ⟨p, xs, e1, e.t _ _ hs, Reps.ex e hr⟩
  | .lst ws, _, h => by
    rw [Rep] at h ⊢
    obtain ⟨p, xs, e1, hs, hr⟩ := h
    exact ⟨p, xs, e1, e.l _ _ hs, Reps.ex e hr⟩
  | .kls ws, _, h => by
    rw [Rep] at h ⊢
    obtain ⟨p, xs, e1, hs, hr⟩ := h
    exact ⟨p, xs, e1, e.k _ _ hs, Reps.ex e hr⟩
  | .loc n, _, h => by
    rw [Rep] at h ⊢
    obtain ⟨p, e1, hm⟩ := h
    exact ⟨p, e1, e.m _ _ hm⟩
theorem Reps.ex (e : Ex0 K H μ H' μ') : ∀ {ws : List W} {xs : List V}, Reps K H μ ws xs → Reps K H' μ' ws xs
  | [], _, h => by rw [Reps] at h ⊢; exact h
  | w :: ws, _, h => by
    rw [Reps] at h ⊢
    obtain ⟨v, vs, e1, r, h⟩ := h
    exact ⟨v, vs, e1, Rep.ex e r, Reps.ex e h⟩
end
structure Ext (K : PySem.W.Frag) (H : Hp) (μ : Mu) (H' : Hp) (μ' : Mu) : Prop where
  r : ∀ w v, Rep K H μ w v → Rep K H' μ' w v
  o : ∀ p u, μ.hid p → H p = some u → μ'.hid p ∧ H' p = some u
theorem Ext.refl : Ext K H μ H μ := ⟨fun _ _ h => h, fun _ _ h g => ⟨h, g⟩⟩
theorem Ext.trans (a : Ext K H μ H1 μ1) (b : Ext K H1 μ1 H2 μ2) : Ext K H μ H2 μ2 :=
  ⟨fun w v h => b.r w v (a.r w v h), fun p u h g => let ⟨h1, g1⟩ := a.o p u h g; b.o p u h1 g1⟩
theorem Ex.ext (e : Ex K H μ H' μ') : Ext K H μ H' μ' := ⟨fun _ _ h => Rep.ex e.toEx0 h, e.o⟩
theorem Ext.s (e : Ext K H μ H' μ') : ∀ {ws : List W} {xs : List V}, Reps K H μ ws xs → Reps K H' μ' ws xs
  | [], _, h => by rw [Reps] at h ⊢; exact h
  | w :: ws, _, h => by
    rw [Reps] at h ⊢
    obtain ⟨v, vs, e1, r, h⟩ := h
    exact ⟨v, vs, e1, e.r _ _ r, Ext.s e h⟩

def MutO : Option HO → Prop
  | some (.lst _) => True
  | some (.dK _) => True
  | some (.ins _ _ _) => True
  | _ => False
def RepF {κ : Type} (K : PySem.W.Frag) (H : Hp) (μ : Mu) : List (κ × W) → List (κ × V) → Prop := Paired fun (p : κ × W) (q : κ × V) => p.1 = q.1 ∧ Rep K H μ p.2 q.2
def CellOk (K : PySem.W.Frag) (H : Hp) (μ : Mu) (p : Addr) : Cell → Prop
  | .lst ws => ∃ xs, H p = some (.lst xs) ∧ Reps K H μ ws xs
  | .obj C fs => ∃ dx fvs, H p = some (.ins C dx fvs) ∧ RepF K H μ fs fvs
  | .dct kvs => ∃ kvv, H p = some (.dK kvv) ∧ RepF K H μ kvs kvv
structure Rel (K : PySem.W.Frag) (μ : Mu) (H : Hp) (h : Gh) : Prop where
  inj : ∀ m n p, μ.f m = some p → μ.f n = some p → m = n
  dom : ∀ n p, μ.f n = some p → n < h.nx
  trk : ∀ n p, μ.f n = some p → MutO (H p)
  cel : ∀ n c, h.c n = some c → ∃ p, μ.f n = some p ∧ CellOk K H μ p c
  hd : ∀ p, μ.hid p → (∃ xs, H p = some (.lst xs)) ∧ ∀ n, μ.f n ≠ some p
theorem CellOk.ext {p : Addr} {c : Cell} (e : Ext K H μ H' μ') (hp : H' p = H p) (x : CellOk K H μ p c) : CellOk K H' μ' p c := by
  cases c with
  | lst ws => obtain ⟨xs, a, b⟩ := x; exact ⟨xs, hp.trans a, e.s b⟩
  | obj C fs => obtain ⟨dx, fvs, a, b⟩ := x; exact ⟨dx, fvs, hp.trans a, Paired.mapP b fun _ _ z => ⟨z.1, e.r _ _ z.2⟩⟩
  | dct kvs => obtain ⟨kvv, a, b⟩ := x; exact ⟨kvv, hp.trans a, Paired.mapP b fun _ _ z => ⟨z.1, e.r _ _ z.2⟩⟩

theorem Rd.laid {p q : Addr} {o u : HO} (hp : H p = none) (r : Rd H q u) : Rd (upd H p o) q u := by
  have ne : q ≠ p := by
    rcases r with r | ⟨_, r⟩
    · exact ne_of_none r hp
    · exact ne_of_none r hp
  unfold Rd
  rw [upd_ne ne]
  exact r
theorem Ex.laid {p : Addr} {o : HO} (hp : H p = none) : Ex K H μ (upd H p o) μ where
  t := fun q xs h => by
    rcases h with h | h
    · exact .inl (h.laid hp)
    · exact .inr h
  l := fun q xs h => ⟨by rw [upd_ne (ne_of_none h.1 hp)]; exact h.1, h.2⟩
  k := fun q xs h => by
    rcases h with ⟨o', h⟩ | h
    · exact .inl ⟨o', by rw [upd_ne (ne_of_none h hp)]; exact h⟩
    · exact .inr h
  m := fun _ _ h => h
  o := fun q u z e => ⟨z, by rw [upd_ne (ne_of_none e hp)]; exact e⟩
theorem Rel.laid {p : Addr} {o : HO} (R : Rel K μ H h) (hp : H p = none) : Rel K μ (upd H p o) h where
  inj := R.inj
  dom := R.dom
  trk := fun n q e => by
    have := R.trk n q e
    have ne : q ≠ p := fun z => by subst z; rw [hp] at this; exact this
    rw [upd_ne ne]; exact this
  cel := fun n c e => by
    obtain ⟨q, e1, x⟩ := R.cel n c e
    have := R.trk n q e1
    have ne : q ≠ p := fun z => by subst z; rw [hp] at this; exact this
    exact ⟨q, e1, x.ext (Ex.laid hp).ext (upd_ne ne)⟩
  hd := fun q z => by
    obtain ⟨⟨xs, e⟩, g⟩ := R.hd q z
    exact ⟨⟨xs, by rw [upd_ne (ne_of_none e hp)]; exact e⟩, g⟩
theorem Rep.tupNew {p : Addr} (hp : H p = none) (r : Reps K H μ ws xs) : Rep K (upd H p (.tup xs)) μ (.tup ws) (.ref p) := by
  rw [Rep]
  exact ⟨p, xs, rfl, SqT.of upd_same, (Ex.laid hp).ext.s r⟩
theorem Rep.lstNew {p : Addr} (R : Rel K μ H h) (hp : H p = none) (r : Reps K H μ ws xs) : Rep K (upd H p (.lst xs)) μ (.lst ws) (.ref p) := by
  rw [Rep]
  refine ⟨p, xs, rfl, ⟨upd_same, fun n e => ?_, fun z => ?_⟩, (Ex.laid hp).ext.s r⟩
  · have := R.trk n p e
    rw [hp] at this
    exact this
  · obtain ⟨⟨xs, e⟩, _⟩ := R.hd p z
    rw [hp] at e
    cases e
def Mu.put (μ : Mu) (n : Nat) (p : Addr) : Mu := ⟨fun m => if m = n then some p else μ.f m, μ.hid⟩
theorem Mu.put_same {n : Nat} {p : Addr} : (μ.put n p).f n = some p := by show (if n = n then some p else μ.f n) = _; rw [if_pos rfl]
theorem Mu.put_ne {m n : Nat} {p : Addr} (e : m ≠ n) : (μ.put n p).f m = μ.f m := by show (if m = n then some p else μ.f m) = _; rw [if_neg e]
def Gh.new (h : Gh) (c : Cell) : Gh := ⟨h.nx + 1, fun m => if m = h.nx then some c else h.c m⟩
def Gh.set (h : Gh) (n : Nat) (c : Cell) : Gh := ⟨h.nx, fun m => if m = n then some c else h.c m⟩
theorem Rel.dead (R : Rel K μ H h) {n : Nat} (hn : h.nx ≤ n) : μ.f n = none := by
  cases e : μ.f n with
  | none => rfl
  | some p => exact absurd (R.dom n p e) (by omega)
theorem Ex.newCell {p : Addr} {o : HO} (R : Rel K μ H h) (hp : H p = none) : Ex K H μ (upd H p o) (μ.put h.nx p) where
  t := fun q xs z => (Ex.laid (μ := μ) hp).t q xs z
  l := fun q xs z => by
    have nq := ne_of_none z.1 hp
    refine ⟨by rw [upd_ne nq]; exact z.1, fun n e => ?_, z.2.2⟩
    by_cases hn : n = h.nx
    · subst hn
      rw [Mu.put_same] at e
      exact nq (Option.some.inj e).symm
    · rw [Mu.put_ne hn] at e
      exact z.2.1 n e
  k := fun q xs z => (Ex.laid (μ := μ) hp).k q xs z
  m := fun n q e => by
    have hn : n ≠ h.nx := fun z => by subst z; rw [R.dead (Nat.le_refl _)] at e; cases e
    rw [Mu.put_ne hn]; exact e
  o := fun q u z e => ⟨z, by rw [upd_ne (ne_of_none e hp)]; exact e⟩
theorem Rel.newCell {p : Addr} {o : HO} {c : Cell} (R : Rel K μ H h) (hp : H p = none) (mo : MutO (some o)) (ck : CellOk K (upd H p o) (μ.put h.nx p) p c) : Rel K (μ.put h.nx p) (upd H p o) (h.new c) where
  inj := fun m n q em en => by
    by_cases hm : m = h.nx
    · by_cases hn : n = h.nx
      · rw [hm, hn]
      · rw [hm, Mu.put_same] at em
        rw [Mu.put_ne hn] at en
        have e : p = q := Option.some.inj em
        subst e
        have := R.trk n _ en
        rw [hp] at this
        exact this.elim
    · rw [Mu.put_ne hm] at em
      by_cases hn : n = h.nx
      · rw [hn, Mu.put_same] at en
        have e : p = q := Option.some.inj en
        subst e
        have := R.trk m _ em
        rw [hp] at this
        exact this.elim
      · rw [Mu.put_ne hn] at en
        exact R.inj m n q em en
  dom := fun n q e => by
    show n < h.nx + 1
    by_cases hn : n = h.nx
    · omega
    · rw [Mu.put_ne hn] at e
      have := R.dom n q e
      omega
  trk := fun n q e => by
    by_cases hn : n = h.nx
    · rw [hn, Mu.put_same] at e
      have e : p = q := Option.some.inj e
      subst e
      rw [upd_same]; exact mo
    · rw [Mu.put_ne hn] at e
      have := R.trk n q e
      have ne : q ≠ p := fun z => by subst z; rw [hp] at this; exact this
      rw [upd_ne ne]; exact this
  cel := fun n d e => by
    have e : (if n = h.nx then some c else h.c n) = some d := e
    by_cases hn : n = h.nx
    · rw [if_pos hn] at e
      have e : c = d := Option.some.inj e
      subst e
      exact ⟨p, by rw [hn, Mu.put_same], ck⟩
    · rw [if_neg hn] at e
      obtain ⟨q, e1, x⟩ := R.cel n d e
      have := R.trk n q e1
      have ne : q ≠ p := fun z => by subst z; rw [hp] at this; exact this
      exact ⟨q, by rw [Mu.put_ne hn]; exact e1, x.ext (Ex.newCell R hp).ext (upd_ne ne)⟩
  hd := fun q z => by
    obtain ⟨⟨xs, e⟩, g⟩ := R.hd q z
    have ne := ne_of_none e hp
    refine ⟨⟨xs, by rw [upd_ne ne]; exact e⟩, fun n en => ?_⟩
    by_cases hn : n = h.nx
    · rw [hn, Mu.put_same] at en
      exact ne (Option.some.inj en).symm
    · rw [Mu.put_ne hn] at en
      exact g n en
theorem Rd.kept {p q : Addr} {o u : HO} (mo : MutO (H p)) (r : Rd H q u) (hn : q ≠ p) : Rd (upd H p o) q u := by
  unfold Rd
  rw [upd_ne hn]
  exact r
theorem Ex.write {n : Nat} {p : Addr} {o : HO} (R : Rel K μ H h) (hn : μ.f n = some p) : Ex K H μ (upd H p o) μ where
  t := fun q xs z => by
    rcases z with z | z
    · refine .inl (z.kept (R.trk n p hn) fun e => ?_)
      subst e
      have := R.trk n q hn
      rcases z with r | ⟨_, r⟩ <;> rw [r] at this <;> exact this
    · exact .inr z
  l := fun q xs z => ⟨by rw [upd_ne (fun e => z.2.1 n (by rw [e]; exact hn))]; exact z.1, z.2⟩
  k := fun q xs z => by
    rcases z with ⟨o', z⟩ | z
    · refine .inl ⟨o', ?_⟩
      rw [upd_ne (fun e => ?_)]
      · exact z
      · subst e
        have := R.trk n q hn
        rw [z] at this
        exact this
    · exact .inr z
  m := fun _ _ e => e
  o := fun q u z e => ⟨z, by rw [upd_ne (fun y => (R.hd q z).2 n (by rw [y]; exact hn))]; exact e⟩
theorem Rel.write {n : Nat} {p : Addr} {o : HO} {c : Cell} (R : Rel K μ H h) (hn : μ.f n = some p) (mo : MutO (some o)) (ck : CellOk K (upd H p o) μ p c) : Rel K μ (upd H p o) (h.set n c) where
  inj := R.inj
  dom := R.dom
  trk := fun m q e => by
    by_cases z : q = p
    · subst z; rw [upd_same]; exact mo
    · rw [upd_ne z]; exact R.trk m q e
  cel := fun m d e => by
    have e : (if m = n then some c else h.c m) = some d := e
    by_cases hm : m = n
    · rw [if_pos hm] at e
      have e : c = d := Option.some.inj e
      subst e
      exact ⟨p, by rw [hm]; exact hn, ck⟩
    · rw [if_neg hm] at e
      obtain ⟨q, e1, x⟩ := R.cel m d e
      have ne : q ≠ p := fun z => by subst z; exact hm (R.inj m n q e1 hn)
      exact ⟨q, e1, x.ext (Ex.write R hn).ext (upd_ne ne)⟩
  hd := fun q z => by
    obtain ⟨⟨xs, e⟩, g⟩ := R.hd q z
    exact ⟨⟨xs, by rw [upd_ne (fun y => g n (by rw [y]; exact hn))]; exact e⟩, g⟩

mutual
def Lo (k : Nat) : W → Prop
  | .tup ws => Los k ws
  | .lst ws => Los k ws
  | .kls ws => Los k ws
  | .loc n => n < k
  | _ => True
def Los (k : Nat) : List W → Prop
  | [] => True
  | w :: ws => Lo k w ∧ Los k ws
end
mutual
theorem Rep.lo {k : Nat} (hd : ∀ n p, μ.f n = some p → n < k) : ∀ {w : W} {v : V}, Rep K H μ w v → Lo k w
  | .non, _, _ => by rw [Lo] <;> first | trivial | (intros; contradiction)
  | .bl _, _, _ => by rw [Lo] <;> first | trivial | (intros; contradiction)
  | .int _, _, _ => by rw [Lo] <;> first | trivial | (intros; contradiction)
  | .str _, _, _ => by rw [Lo] <;> first | trivial | (intros; contradiction)
  | .ty _, _, _ => by rw [Lo] <;> first | trivial | (intros; contradiction)
  | .tup ws, _, h => by
    rw [Rep] at h
    obtain ⟨p, xs, _, _, hr⟩ := h
    rw [Lo]
    exact Reps.lo hd hr
  | .lst ws, _, h => by
    rw [Rep] at h
    obtain ⟨p, xs, _, _, hr⟩ := h
    rw [Lo]
    exact Reps.lo hd hr
  | .kls ws, _, h => by
    rw [Rep] at h
    obtain ⟨p, xs, _, _, hr⟩ := h
    rw [Lo]
    exact Reps.lo hd hr
  | .loc n, _, h => by
    rw [Rep] at h
    obtain ⟨p, _, hm⟩ := h
    rw [Lo]
    exact hd n p hm
theorem Reps.lo {k : Nat} (hd : ∀ n p, μ.f n = some p → n < k) : ∀ {ws : List W} {xs : List V}, Reps K H μ ws xs → Los k ws
  | [], _, _ => by rw [Los]; trivial
  | w :: ws, _, h => by
    rw [Reps] at h
    obtain ⟨v, vs, _, r, h⟩ := h
    rw [Los]
    exact ⟨Rep.lo hd r, Reps.lo hd h⟩
end
def Mu.cut (μ : Mu) (k : Nat) : Mu := ⟨fun n => if n < k then μ.f n else none, μ.hid⟩
theorem Mu.cut_some {k n : Nat} {p : Addr} (e : (μ.cut k).f n = some p) : n < k ∧ μ.f n = some p := by
  have e : (if n < k then μ.f n else none) = some p := e
  by_cases hn : n < k
  · rw [if_pos hn] at e; exact ⟨hn, e⟩
  · rw [if_neg hn] at e; cases e
mutual
theorem Rep.cut {k : Nat} : ∀ {w : W} {v : V}, Rep K H μ w v → Lo k w → Rep K H (μ.cut k) w v
  | .non, _, h, _ => by rw [Rep] at h ⊢; exact h
  | .bl _, _, h, _ => by rw [Rep] at h ⊢; exact h
  | .int _, _, h, _ => by rw [Rep] at h ⊢; exact h
  | .str _, _, h, _ => by rw [Rep] at h ⊢; exact h
  | .ty _, _, h, _ => by rw [Rep] at h ⊢; exact h
  | .tup ws, _, h, l => by
    rw [Rep] at h ⊢
    rw [Lo] at l
    obtain ⟨p, xs, e1, hs, hr⟩ := h
    exact ⟨p, xs, e1, hs, Reps.cut hr l⟩
  | .lst ws, _, h, l => by
    rw [Rep] at h ⊢
    rw [Lo] at l
    obtain ⟨p, xs, e1, hs, hr⟩ := h
    exact ⟨p, xs, e1, ⟨hs.1, fun n e => hs.2.1 n (Mu.cut_some e).2, hs.2.2⟩, Reps.cut hr l⟩
  | .kls ws, _, h, l => by
    rw [Rep] at h ⊢
    rw [Lo] at l
    obtain ⟨p, xs, e1, hs, hr⟩ := h
    exact ⟨p, xs, e1, hs, Reps.cut hr l⟩
  | .loc n, _, h, l => by
    rw [Rep] at h ⊢
    rw [Lo] at l
    obtain ⟨p, e1, hm⟩ := h
    refine ⟨p, e1, ?_⟩
    show (if n < k then μ.f n else none) = some p
    rw [if_pos l]
    exact hm
theorem Reps.cut {k : Nat} : ∀ {ws : List W} {xs : List V}, Reps K H μ ws xs → Los k ws → Reps K H (μ.cut k) ws xs
  | [], _, h, _ => by rw [Reps] at h ⊢; exact h
  | w :: ws, _, h, l => by
    rw [Reps] at h ⊢
    rw [Los] at l
    obtain ⟨v, vs, e1, r, h⟩ := h
    exact ⟨v, vs, e1, Rep.cut r l.1, Reps.cut h l.2⟩
end
end
end L2
namespace L2
open PySem PySem.Spec PyProof.Rows
section
variable {K : PySem.W.Frag} {H H' H1 H2 : Hp} {μ μ' μ1 μ2 : Mu} {h h' : Gh} {w : W} {ws : List W} {v : V} {xs ys : List V} {p : Addr}
def Mu.hide (μ : Mu) (p : Addr) : Mu := ⟨μ.f, fun q => q = p ∨ μ.hid q⟩
def Mu.unhide (μ : Mu) (p : Addr) : Mu := ⟨μ.f, fun q => q ≠ p ∧ μ.hid q⟩
structure ExtX (p : Addr) (K : PySem.W.Frag) (H : Hp) (μ : Mu) (H' : Hp) (μ' : Mu) : Prop where
  r : ∀ w v, Rep K H μ w v → Rep K H' μ' w v
  o : ∀ q u, q ≠ p → μ.hid q → H q = some u → μ'.hid q ∧ H' q = some u
theorem Ext.x (a : Ext K H μ H1 μ1) (hp : ¬ μ.hid p) (b : ExtX p K H1 μ1 H2 μ2) : Ext K H μ H2 μ2 :=
  ⟨fun w v z => b.r w v (a.r w v z), fun q u z e => let ⟨z1, e1⟩ := a.o q u z e; b.o q u (fun y => hp (by rw [← y]; exact z)) z1 e1⟩
theorem Ext.hide {o : HO} (hp : H p = none) : Ext K H μ (upd H p o) (μ.hide p) := Ex.ext {
  t := fun q xs z => (Ex.laid (μ := μ) hp).t q xs z
  l := fun q xs z => by
    have nq := ne_of_none z.1 hp
    refine ⟨by rw [upd_ne nq]; exact z.1, z.2.1, fun y => ?_⟩
    rcases y with y | y
    · exact nq y
    · exact z.2.2 y
  k := fun q xs z => (Ex.laid (μ := μ) hp).k q xs z
  m := fun _ _ e => e
  o := fun q u z e => ⟨.inr z, by rw [upd_ne (ne_of_none e hp)]; exact e⟩ }
theorem Rel.nohid (R : Rel K μ H h) (hp : H p = none) : ¬ μ.hid p := fun z => by
  obtain ⟨⟨xs, e⟩, _⟩ := R.hd p z
  rw [hp] at e; cases e
theorem Rel.hide (R : Rel K μ H h) (hp : H p = none) : Rel K (μ.hide p) (upd H p (.lst xs)) h where
  inj := R.inj
  dom := R.dom
  trk := (R.laid hp).trk
  cel := fun n c e => by
    obtain ⟨q, e1, x⟩ := R.cel n c e
    have := R.trk n q e1
    have ne : q ≠ p := fun z => by subst z; rw [hp] at this; exact this
    exact ⟨q, e1, x.ext (Ext.hide hp) (upd_ne ne)⟩
  hd := fun q z => by
    rcases z with z | z
    · subst z
      refine ⟨⟨xs, upd_same⟩, fun n e => ?_⟩
      have := R.trk n q e
      rw [hp] at this
      exact this
    · exact (R.laid (o := .lst xs) hp).hd q z
theorem Ex0.grow (R : Rel K μ H h) (hp : μ.hid p) : Ex0 K H μ (upd H p (.lst ys)) μ where
  t := fun q xs z => by
    rcases z with z | z
    · refine .inl ?_
      unfold Rd
      rw [upd_ne (fun y => ?_)]
      · exact z
      · subst y
        obtain ⟨⟨xs', e⟩, _⟩ := R.hd q hp
        rcases z with r | ⟨_, r⟩ <;> rw [e] at r <;> cases r
    · exact .inr z
  l := fun q xs z => ⟨by rw [upd_ne (fun y => z.2.2 (by rw [y]; exact hp))]; exact z.1, z.2⟩
  k := fun q xs z => by
    rcases z with ⟨o', z⟩ | z
    · refine .inl ⟨o', ?_⟩
      rw [upd_ne (fun y => ?_)]
      · exact z
      · subst y
        obtain ⟨⟨xs', e⟩, _⟩ := R.hd q hp
        rw [e] at z
        cases z
    · exact .inr z
  m := fun _ _ e => e
theorem ExtX.grow (R : Rel K μ H h) (hp : μ.hid p) : ExtX p K H μ (upd H p (.lst ys)) μ :=
  ⟨fun _ _ z => Rep.ex (Ex0.grow R hp) z, fun q u ne z e => ⟨z, by rw [upd_ne ne]; exact e⟩⟩
theorem Rel.grow (R : Rel K μ H h) (hp : μ.hid p) : Rel K μ (upd H p (.lst ys)) h where
  inj := R.inj
  dom := R.dom
  trk := fun n q e => by
    have ne : q ≠ p := fun z => (R.hd p hp).2 n (by rw [← z]; exact e)
    rw [upd_ne ne]; exact R.trk n q e
  cel := fun n c e => by
    obtain ⟨q, e1, x⟩ := R.cel n c e
    have ne : q ≠ p := fun z => (R.hd p hp).2 n (by rw [← z]; exact e1)
    refine ⟨q, e1, ?_⟩
    cases c with
    | lst ws => obtain ⟨xs, a, b⟩ := x; exact ⟨xs, (upd_ne ne).trans a, Reps.ex (Ex0.grow R hp) b⟩
    | obj C fs => obtain ⟨dx, fvs, a, b⟩ := x; exact ⟨dx, fvs, (upd_ne ne).trans a, Paired.mapP b fun _ _ z => ⟨z.1, Rep.ex (Ex0.grow R hp) z.2⟩⟩
    | dct kvs => obtain ⟨kvv, a, b⟩ := x; exact ⟨kvv, (upd_ne ne).trans a, Paired.mapP b fun _ _ z => ⟨z.1, Rep.ex (Ex0.grow R hp) z.2⟩⟩
  hd := fun q z => by
    by_cases e : q = p
    · subst e; exact ⟨⟨ys, upd_same⟩, (R.hd q hp).2⟩
    · rw [upd_ne e]; exact R.hd q z
theorem Ex0.unhide : Ex0 K H μ H (μ.unhide p) where
  t := fun _ _ z => z
  l := fun q xs z => ⟨z.1, z.2.1, fun y => z.2.2 y.2⟩
  k := fun _ _ z => z
  m := fun _ _ e => e
theorem ExtX.unhide : ExtX p K H μ H (μ.unhide p) := ⟨fun _ _ z => Rep.ex Ex0.unhide z, fun q u ne z e => ⟨⟨ne, z⟩, e⟩⟩
theorem Rel.unhide (R : Rel K μ H h) : Rel K (μ.unhide p) H h where
  inj := R.inj
  dom := R.dom
  trk := R.trk
  cel := fun n c e => by
    obtain ⟨q, e1, x⟩ := R.cel n c e
    refine ⟨q, e1, ?_⟩
    cases c with
    | lst ws => obtain ⟨xs, a, b⟩ := x; exact ⟨xs, a, Reps.ex Ex0.unhide b⟩
    | obj C fs => obtain ⟨dx, fvs, a, b⟩ := x; exact ⟨dx, fvs, a, Paired.mapP b fun _ _ z => ⟨z.1, Rep.ex Ex0.unhide z.2⟩⟩
    | dct kvs => obtain ⟨kvv, a, b⟩ := x; exact ⟨kvv, a, Paired.mapP b fun _ _ z => ⟨z.1, Rep.ex Ex0.unhide z.2⟩⟩
  hd := fun q z => R.hd q z.2
theorem Rep.built (R : Rel K μ H h) (hp : μ.hid p) (e : H p = some (.lst xs)) (r : Reps K H μ ws xs) : Rep K H (μ.unhide p) (.lst ws) (.ref p) := by
  rw [Rep]
  exact ⟨p, xs, rfl, ⟨e, (R.hd p hp).2, fun z => z.1 rfl⟩, Reps.ex Ex0.unhide r⟩
end

abbrev Sw := List (Option W)
abbrev WK := W → Gh → Prop
abbrev ME := Sw → Gh → WK → Prop
abbrev MT := Sw → Gh → (Bool → Gh → Prop) → Prop
abbrev MA := Sw → Gh → (List W → Gh → Prop) → Prop
structure MEnds where
  nx : Sw → Gh → Prop
  rt : WK
  bk : Sw → Gh → Prop := fun _ _ => False
  ct : Sw → Gh → Prop := fun _ _ => False
abbrev MS := MEnds → Sw → Gh → Prop
abbrev MG := W → Sw → Gh → (Sw → Gh → Prop) → Prop
abbrev MGs := List W → Sw → Gh → (Sw → Gh → Prop) → Prop
structure Xw where
  cls : Str
  fs : List (Str × W)
abbrev XWK := Xw → Gh → Prop
abbrev MSp := List W → Gh → WK → XWK → Prop
def EF : XWK := fun _ _ => False

structure Slots (K : PySem.W.Frag) (H : Hp) (μ : Mu) (σw : Sw) (σ : St) : Prop where
  len : σw.length = σ.length
  get : ∀ (i : Nat) (w : W), σw[i]? = some (some w) → ∃ v, σ[i]? = some (some v) ∧ Rep K H μ w v
def DQ (K : PySem.W.Frag) (H : Hp) (μ : Mu) (Q : WK) : VK := fun v H' => ∃ μ' w h', Ext K H μ H' μ' ∧ Rel K μ' H' h' ∧ Rep K H' μ' w v ∧ Q w h'
def DB (K : PySem.W.Frag) (H : Hp) (μ : Mu) (Q : Bool → Gh → Prop) : Bool → Hp → Prop := fun b H' => ∃ μ' h', Ext K H μ H' μ' ∧ Rel K μ' H' h' ∧ Q b h'
def DA (K : PySem.W.Frag) (H : Hp) (μ : Mu) (Q : List W → Gh → Prop) : List V → Hp → Prop := fun vs H' => ∃ μ' ws h', Ext K H μ H' μ' ∧ Rel K μ' H' h' ∧ Reps K H' μ' ws vs ∧ Q ws h'
def DN (K : PySem.W.Frag) (H : Hp) (μ : Mu) (N : Sw → Gh → Prop) : St → Hp → Prop := fun σ' H' => ∃ μ' σw' h', Ext K H μ H' μ' ∧ Rel K μ' H' h' ∧ Slots K H' μ' σw' σ' ∧ N σw' h'
section
variable {K : PySem.W.Frag} {H H' H1 H2 : Hp} {μ μ' μ1 μ2 : Mu} {h h' h1 : Gh} {w : W} {v : V} {σ : St} {σw : Sw}
theorem Slots.ext (S : Slots K H μ σw σ) (e : Ext K H μ H' μ') : Slots K H' μ' σw σ := ⟨S.len, fun i w q => let ⟨v, a, b⟩ := S.get i w q; ⟨v, a, e.r _ _ b⟩⟩
theorem Slots.set (S : Slots K H μ σw σ) (r : Rep K H μ w v) (i : Nat) : Slots K H μ (σw.set i (some w)) (σ.set i (some v)) := by
  refine ⟨by rw [List.length_set, List.length_set, S.len], fun j u q => ?_⟩
  rw [List.getElem?_set] at q ⊢
  by_cases hij : i = j
  · rw [if_pos hij] at q ⊢
    by_cases hl : i < σw.length
    · rw [if_pos hl] at q
      rw [if_pos (by rw [← S.len]; exact hl)]
      have e : w = u := by injection q with q; injection q
      subst e
      exact ⟨v, rfl, r⟩
    · rw [if_neg hl] at q; cases q
  · rw [if_neg hij] at q ⊢
    exact S.get j u q
theorem DQ.trans {Q : WK} (e : Ext K H μ H1 μ1) (q : DQ K H1 μ1 Q v H') : DQ K H μ Q v H' := let ⟨μ', w, h', a, b⟩ := q; ⟨μ', w, h', e.trans a, b⟩
theorem DB.trans {Q : Bool → Gh → Prop} {b : Bool} (e : Ext K H μ H1 μ1) (q : DB K H1 μ1 Q b H') : DB K H μ Q b H' := let ⟨μ', h', a, b⟩ := q; ⟨μ', h', e.trans a, b⟩
theorem DN.trans {N : Sw → Gh → Prop} {σ' : St} (e : Ext K H μ H1 μ1) (q : DN K H1 μ1 N σ' H') : DN K H μ N σ' H' := let ⟨μ', w, h', a, b⟩ := q; ⟨μ', w, h', e.trans a, b⟩
end
def tD (K : PySem.W.Frag) (m : ME) : TE := fun σ H Q => ∃ μ h σw Qw, Rel K μ H h ∧ Slots K H μ σw σ ∧ m σw h Qw ∧ ∀ v H', DQ K H μ Qw v H' → Q v H'
def tDT (K : PySem.W.Frag) (m : MT) : TT := fun σ H Q => ∃ μ h σw Qw, Rel K μ H h ∧ Slots K H μ σw σ ∧ m σw h Qw ∧ ∀ b H', DB K H μ Qw b H' → Q b H'
def tDA (K : PySem.W.Frag) (m : MA) : TA := fun σ H Q => ∃ μ h σw Qw, Rel K μ H h ∧ Slots K H μ σw σ ∧ m σw h Qw ∧ ∀ vs H', DA K H μ Qw vs H' → Q vs H'
def tDG (K : PySem.W.Frag) (g : MG) : TG := fun v σ H N => ∃ μ h σw w Nw, Rel K μ H h ∧ Slots K H μ σw σ ∧ Rep K H μ w v ∧ g w σw h Nw ∧ ∀ σ' H', DN K H μ Nw σ' H' → N σ' H'
structure EndsOk (K : PySem.W.Frag) (H : Hp) (μ : Mu) (Dw : MEnds) (D : Ends) : Prop where
  nx : ∀ σ' H', DN K H μ Dw.nx σ' H' → D.nx σ' H'
  rt : ∀ v H', DQ K H μ Dw.rt v H' → D.rt v H'
  bk : ∀ σ' H', DN K H μ Dw.bk σ' H' → D.bk σ' H'
  ct : ∀ σ' H', DN K H μ Dw.ct σ' H' → D.ct σ' H'
def tDS (K : PySem.W.Frag) (m : MS) : TS := fun D σ H => ∃ μ h σw Dw, Rel K μ H h ∧ Slots K H μ σw σ ∧ m Dw σw h ∧ EndsOk K H μ Dw D
theorem EndsOk.trans {K : PySem.W.Frag} {H H1 : Hp} {μ μ1 : Mu} {Dw : MEnds} {D : Ends} (k : EndsOk K H μ Dw D) (e : Ext K H μ H1 μ1) : EndsOk K H1 μ1 Dw D :=
  ⟨fun _ _ q => k.nx _ _ (q.trans e), fun _ _ q => k.rt _ _ (q.trans e), fun _ _ q => k.bk _ _ (q.trans e), fun _ _ q => k.ct _ _ (q.trans e)⟩
section
variable {X : Cx} {e : Expr} {es : List Expr} {st : Stmt} {sts : List Stmt}
theorem PE.of {t t' : TE} (h : PE X e t) (k : ∀ σ H Q, t' σ H Q → t σ H Q) : PE X e t' := fun pins s σ H Q I q => h pins s σ H Q I (k σ H Q q)
theorem PT.of {t t' : TT} (h : PT X e t) (k : ∀ σ H Q, t' σ H Q → t σ H Q) : PT X e t' := fun pins s σ H Q I q => h pins s σ H Q I (k σ H Q q)
theorem PW.of {t t' : TT} (h : PW X e t) (k : ∀ σ H Q, t' σ H Q → t σ H Q) : PW X e t' := fun wh pins s σ H Q I q => h wh pins s σ H Q I (k σ H Q q)
theorem PA.of {t t' : TA} (h : PA X es t) (k : ∀ σ H Q, t' σ H Q → t σ H Q) : PA X es t' := fun pos pins s σ H Q I q => h pos pins s σ H Q I (k σ H Q q)
theorem PG.of {t t' : TG} (h : PG X e t) (k : ∀ v σ H Q, t' v σ H Q → t v σ H Q) : PG X e t' := fun pins s σ H v u Q I r q => h pins s σ H v u Q I r (k v σ H Q q)
theorem PS.of {t t' : TS} (h : PS X st t) (k : ∀ D σ H, t' D σ H → t D σ H) : PS X st t' := fun pins s σ H D I q => h pins s σ H D I (k D σ H q)
theorem PSs.of {t t' : TS} (h : PSs X sts t) (k : ∀ D σ H, t' D σ H → t D σ H) : PSs X sts t' := fun pins s σ H D I q => h pins s σ H D I (k D σ H q)
end
abbrev DE (X : Cx) (e : Expr) (m : ME) : Prop := PE X e (tD X.K m)
abbrev DT (X : Cx) (e : Expr) (m : MT) : Prop := PT X e (tDT X.K m)
abbrev DWt (X : Cx) (e : Expr) (m : MT) : Prop := PW X e (tDT X.K m)
abbrev DAs (X : Cx) (es : List Expr) (m : MA) : Prop := PA X es (tDA X.K m)
abbrev DG (X : Cx) (e : Expr) (m : MG) : Prop := PG X e (tDG X.K m)
abbrev DS (X : Cx) (st : Stmt) (m : MS) : Prop := PS X st (tDS X.K m)
abbrev DSs (X : Cx) (st : List Stmt) (m : MS) : Prop := PSs X st (tDS X.K m)

section
variable {X : Cx} {e a b c : Expr} {ma mb mc : ME} {pos : Pos}
def mVar (i : Nat) : ME := fun σ h Q => match σ[i]? with
  | some (some w) => Q w h
  | _ => False
def mC (w : W) : ME := fun _ h Q => Q w h
theorem dv (i : Nat) (he : PE X e (tVar i)) : DE X e (mVar i) := he.of fun σ H Q ⟨μ, h, σw, Qw, R, S, m, k⟩ => by
  unfold mVar at m
  cases q : σw[i]? with
  | none => rw [q] at m; exact m.elim
  | some o =>
    rw [q] at m
    cases o with
    | none => exact m.elim
    | some w =>
      obtain ⟨v, h1, h2⟩ := S.get i w q
      exact ⟨v, h1, k _ _ ⟨μ, w, h, .refl, R, h2, m⟩⟩
theorem dc {w : W} {v : V} (he : PE X e (tC v)) (r : ∀ H μ, Rep X.K H μ w v) : DE X e (mC w) := he.of fun σ H Q ⟨μ, h, σw, Qw, R, S, m, k⟩ => k _ _ ⟨μ, w, h, .refl, R, r H μ, m⟩
theorem d_int {i : Int} {j pos} : DE X (.Constant (.int i) j pos) (mC (.int i)) := dc pe_int fun _ _ => by rw [Rep]
theorem d_bl {i : Bool} {j pos} : DE X (.Constant (.bool i) j pos) (mC (.bl i)) := dc pe_bl fun _ _ => by rw [Rep]
theorem d_str {i : Str} {j pos} : DE X (.Constant (.str i) j pos) (mC (.str i)) := dc pe_str fun _ _ => by rw [Rep]

abbrev M2 := W → W → Gh → WK → Prop
def mOp (r : M2) (ma mb : ME) : ME := fun σ h Q => ma σ h fun x h1 => mb σ h1 fun y h2 => r x y h2 Q
def Sim2 (K : PySem.W.Frag) (r : R2) (mr : M2) : Prop := ∀ {H : Hp} {μ : Mu} {h : Gh} {x y : V} {wx wy : W} {Qw : WK} {Q : VK}, Rel K μ H h → Rep K H μ wx x → Rep K H μ wy y → mr wx wy h Qw →
  (∀ v H', DQ K H μ Qw v H' → Q v H') → r x y H Q
theorem two {K : PySem.W.Frag} {σ : St} {H : Hp} {Q : VK} {mr : M2} {R2' : V → V → Hp → Prop} (h : tD K (mOp mr ma mb) σ H Q)
    (k : ∀ {H2 : Hp} {μ2 : Mu} {h2 : Gh} {x y : V} {wx wy : W} {Qw : WK}, Rel K μ2 H2 h2 → Rep K H2 μ2 wx x → Rep K H2 μ2 wy y → mr wx wy h2 Qw → (∀ v H', DQ K H2 μ2 Qw v H' → Q v H') → R2' x y H2) :
    tD K ma σ H fun x H1 => tD K mb σ H1 fun y H2 => R2' x y H2 := by
  obtain ⟨μ, g, σw, Qw, R, S, m, q⟩ := h
  refine ⟨μ, g, σw, _, R, S, m, fun x H1 ⟨μ1, wx, h1, e1, R1, r1, m1⟩ => ?_⟩
  refine ⟨μ1, h1, σw, _, R1, S.ext e1, m1, fun y H2 ⟨μ2, wy, h2, e2, R2, r2, m2⟩ => ?_⟩
  exact k R2 (e2.r _ _ r1) r2 m2 fun v H' z => q _ _ ((z.trans e2).trans e1)
def DOp (X : Cx) (f : Value → Value → Sem Value) (mr : M2) : Prop := ∃ r, OpR X f r ∧ Sim2 X.K r mr
theorem d_op {op : Operator} {mr : M2} (ho : DOp X (binaryOp op) mr) (ha : DE X a ma) (hb : DE X b mb) : DE X (.BinOp a op b pos) (mOp mr ma mb) := by
  obtain ⟨r, o, s⟩ := ho
  exact (pe_op o ha hb).of fun σ H Q h => two h fun R r1 r2 m k => s R r1 r2 m k
theorem d_cmp {op : CmpOp} {mr : M2} (ho : DOp X (compareOp op) mr) (ha : DE X a ma) (hb : DE X b mb) (hm : behindInMarks op b = false) : DE X (.Compare a [op] [b] pos) (mOp mr ma mb) := by
  obtain ⟨r, o, s⟩ := ho
  exact (pe_cmpR o ha hb hm).of fun σ H Q h => two h fun R r1 r2 m k => s R r1 r2 m k
def mTest (m : ME) : MT := fun σ h Q => m σ h fun w h1 => match w with
  | .bl c => Q c h1
  | _ => False
theorem test_of {K : PySem.W.Frag} {σ : St} {H : Hp} {m : ME} {Q : Bool → Hp → Prop} (h : tDT K (mTest m) σ H Q) : tD K m σ H fun x H' => ∃ k, x = .bl k ∧ Q k H' := by
  obtain ⟨μ, g, σw, Qw, R, S, mm, q⟩ := h
  refine ⟨μ, g, σw, _, R, S, mm, fun v H' ⟨μ1, w, h1, e1, R1, r1, m1⟩ => ?_⟩
  cases w with
  | bl c => rw [Rep] at r1; exact ⟨c, r1, q _ _ ⟨μ1, h1, e1, R1, m1⟩⟩
  | _ => exact m1.elim
theorem dt_cmp {op : CmpOp} {mr : M2} (ho : DOp X (compareOp op) mr) (ha : DE X a ma) (hb : DE X b mb) (hm : behindInMarks op b = false) : DT X (.Compare a [op] [b] pos) (mTest (mOp mr ma mb)) := by
  obtain ⟨r, o, s⟩ := ho
  exact (pt_cmpR o ha hb hm).of fun σ H Q h => two (test_of h) fun R r1 r2 m k => s R r1 r2 m k
def by2 (c : Bool) (a b : Prop) : Prop := match c with
  | true => a
  | false => b
def br (c : Bool) (a b : Prop) : Prop := (c = true → a) ∧ (c = false → b)
theorem br_t {c : Bool} {a b : Prop} (e : c = true) (x : a) : br c a b := ⟨fun _ => x, fun z => by rw [e] at z; cases z⟩
theorem br_f {c : Bool} {a b : Prop} (e : c = false) (x : b) : br c a b := ⟨fun z => (by rw [e] at z; cases z), fun _ => x⟩
theorem br_d {c : Prop} [Decidable c] {a b : Prop} (x : c → a) (y : ¬ c → b) : br (decide c) a b := ⟨fun e => x (of_decide_eq_true e), fun e => y (of_decide_eq_false e)⟩
def mAnd (t u : MT) : MT := fun σ h Q => t σ h fun c h1 => br c (u σ h1 Q) (Q false h1)
def mOr (t u : MT) : MT := fun σ h Q => t σ h fun c h1 => br c (Q true h1) (u σ h1 Q)
def mNot (t : MT) : MT := fun σ h Q => t σ h fun c h1 => Q (!c) h1
variable {tA tB' : MT} {rest : List Expr}
theorem dw_and1 (ha : DT X a tA) : DWt X (.BoolOp .And [a] pos) tA := pw_and1 ha
theorem dw_or1 (ha : DT X a tA) : DWt X (.BoolOp .Or [a] pos) tA := pw_or1 ha
theorem dw_and (ha : DT X a tA) (hb : DWt X (.BoolOp .And (b :: rest) pos) tB') : DWt X (.BoolOp .And (a :: b :: rest) pos) (mAnd tA tB') := (pw_and ha hb).of fun σ H Q ⟨μ, g, σw, Qw, R, S, m, q⟩ => by
  refine ⟨μ, g, σw, _, R, S, m, fun c H1 ⟨μ1, h1, e1, R1, m1⟩ => ?_⟩
  cases c with
  | true =>
    rw [if_pos rfl]
    exact ⟨μ1, h1, σw, _, R1, S.ext e1, m1.1 rfl, fun b H' z => q _ _ (z.trans e1)⟩
  | false =>
    rw [if_neg Bool.false_ne_true]
    exact q _ _ ⟨μ1, h1, e1, R1, m1.2 rfl⟩
theorem dw_or (ha : DT X a tA) (hb : DWt X (.BoolOp .Or (b :: rest) pos) tB') : DWt X (.BoolOp .Or (a :: b :: rest) pos) (mOr tA tB') := (pw_or ha hb).of fun σ H Q ⟨μ, g, σw, Qw, R, S, m, q⟩ => by
  refine ⟨μ, g, σw, _, R, S, m, fun c H1 ⟨μ1, h1, e1, R1, m1⟩ => ?_⟩
  cases c with
  | true =>
    rw [if_pos rfl]
    exact q _ _ ⟨μ1, h1, e1, R1, m1.1 rfl⟩
  | false =>
    rw [if_neg Bool.false_ne_true]
    exact ⟨μ1, h1, σw, _, R1, S.ext e1, m1.2 rfl, fun b H' z => q _ _ (z.trans e1)⟩
theorem dt_not (ha : DT X a tA) : DT X (.UnaryOp .Not a pos) (mNot tA) := (pt_not ha).of fun σ H Q ⟨μ, g, σw, Qw, R, S, m, q⟩ =>
  ⟨μ, g, σw, _, R, S, m, fun c H1 ⟨μ1, h1, e1, R1, m1⟩ => q _ _ ⟨μ1, h1, e1, R1, m1⟩⟩
def mIf (t : MT) (a b : ME) : ME := fun σ h Q => t σ h fun c h1 => br c (a σ h1 Q) (b σ h1 Q)
theorem d_if (hc : DT X c tA) (ha : DE X a ma) (hb : DE X b mb) : DE X (.IfExp c a b pos) (mIf tA ma mb) := (pe_ifExp hc ha hb).of fun σ H Q ⟨μ, g, σw, Qw, R, S, m, q⟩ => by
  refine ⟨μ, g, σw, _, R, S, m, fun c H1 ⟨μ1, h1, e1, R1, m1⟩ => ?_⟩
  cases c with
  | true =>
    rw [if_pos rfl]
    exact ⟨μ1, h1, σw, _, R1, S.ext e1, m1.1 rfl, fun b H' z => q _ _ (z.trans e1)⟩
  | false =>
    rw [if_neg Bool.false_ne_true]
    exact ⟨μ1, h1, σw, _, R1, S.ext e1, m1.2 rfl, fun b H' z => q _ _ (z.trans e1)⟩
def mNil : MA := fun _ h Q => Q [] h
def mCons (a : ME) (r : MA) : MA := fun σ h Q => a σ h fun x h1 => r σ h1 fun xs h2 => Q (x :: xs) h2
variable {es : List Expr} {mr : MA}
theorem da_nil : DAs X [] mNil := pa_nil.of fun σ H Q ⟨μ, g, σw, Qw, R, S, m, q⟩ => q _ _ ⟨μ, [], g, .refl, R, .nil, m⟩
theorem da_cons (ha : DE X e ma) (hr : DAs X es mr) (hs : starEach (e :: es) X.env = (false, eval e X.env) :: starEach es X.env := by rfl) : DAs X (e :: es) (mCons ma mr) := (pa_cons ha hr hs).of fun σ H Q ⟨μ, g, σw, Qw, R, S, m, q⟩ => by
  refine ⟨μ, g, σw, _, R, S, m, fun v H1 ⟨μ1, w, h1, e1, R1, r1, m1⟩ => ?_⟩
  refine ⟨μ1, h1, σw, _, R1, S.ext e1, m1, fun vs H2 ⟨μ2, ws, h2, e2, R2, r2, m2⟩ => ?_⟩
  exact q _ _ ⟨μ2, w :: ws, h2, e1.trans e2, R2, .cons (e2.r _ _ r1) r2, m2⟩
def szOk (n : Nat) (P : Prop) : Prop := by2 (Nat.ble n 1000) P (n ≤ sizeLine ∧ P)
theorem szOk.ok {n : Nat} {P : Prop} (h : szOk n P) : n ≤ sizeLine ∧ P := by
  unfold szOk at h
  cases e : Nat.ble n 1000 with
  | true => rw [e] at h; exact ⟨Nat.le_trans (Nat.le_of_ble_eq_true e) (by decide), h⟩
  | false => rw [e] at h; exact h
theorem szOk.mk {n : Nat} {P : Prop} (hn : n ≤ sizeLine) (h : P) : szOk n P := by
  unfold szOk
  cases e : Nat.ble n 1000 with
  | true => exact h
  | false => exact ⟨hn, h⟩
def mTup (t : MA) : ME := fun σ h Q => t σ h fun ws h1 => szOk ws.length (Q (.tup ws) h1)
def mLst (t : MA) : ME := fun σ h Q => t σ h fun ws h1 => szOk ws.length (Q (.lst ws) h1)
def mLstM (t : MA) : ME := fun σ h Q => t σ h fun ws h1 => szOk ws.length (Q (.loc h1.nx) (h1.new (.lst ws)))
theorem d_tup {x1} (h : DAs X es mr) : DE X (.Tuple es x1 pos) (mTup mr) := (pe_tup h).of fun σ H Q ⟨μ, g, σw, Qw, R, S, m, q⟩ =>
  ⟨μ, g, σw, _, R, S, m, fun vs H1 ⟨μ1, ws, h1, e1, R1, r1, sz⟩ => ⟨by rw [← r1.len]; exact sz.ok.1, fun p hp => q _ _ ⟨μ1, .tup ws, h1, e1.trans (Ex.laid hp).ext, R1.laid hp, .tupNew hp r1, sz.ok.2⟩⟩⟩
theorem d_lst (h : DAs X es mr) : DE X (.List es pos) (mLst mr) := (pe_lst h).of fun σ H Q ⟨μ, g, σw, Qw, R, S, m, q⟩ =>
  ⟨μ, g, σw, _, R, S, m, fun vs H1 ⟨μ1, ws, h1, e1, R1, r1, sz⟩ => ⟨by rw [← r1.len]; exact sz.ok.1, fun p hp => q _ _ ⟨μ1, .lst ws, h1, e1.trans (Ex.laid hp).ext, R1.laid hp, .lstNew R1 hp r1, sz.ok.2⟩⟩⟩
theorem newLst {K : PySem.W.Frag} {H : Hp} {μ : Mu} {h : Gh} {p : Addr} {ws : List W} {xs : List V} (R : Rel K μ H h) (hp : H p = none) (r : Reps K H μ ws xs) :
    Rel K (μ.put h.nx p) (upd H p (.lst xs)) (h.new (.lst ws)) := R.newCell hp trivial ⟨xs, upd_same, (Ex.newCell R hp).ext.s r⟩
theorem d_lstM (h : DAs X es mr) : DE X (.List es pos) (mLstM mr) := (pe_lst h).of fun σ H Q ⟨μ, g, σw, Qw, R, S, m, q⟩ =>
  ⟨μ, g, σw, _, R, S, m, fun vs H1 ⟨μ1, ws, h1, e1, R1, r1, sz⟩ => ⟨by rw [← r1.len]; exact sz.ok.1, fun p hp => q _ _ ⟨μ1.put h1.nx p, .loc h1.nx, h1.new (.lst ws), e1.trans (Ex.newCell R1 hp).ext, newLst R1 hp r1, by rw [Rep]; exact ⟨p, rfl, Mu.put_same⟩, sz.ok.2⟩⟩⟩

def lift (K : PySem.W.Frag) (ms : MSp) : Sp := fun vs H Q _ => ∃ μ h ws Qw, Rel K μ H h ∧ Reps K H μ ws vs ∧ ms ws h Qw EF ∧ ∀ v H', DQ K H μ Qw v H' → Q v H'
def mCall (ms : MSp) (E : XWK) (ma : MA) : ME := fun σ h Q => ma σ h fun ws h1 => ms ws h1 Q E
theorem call_of {K : PySem.W.Frag} {σ : St} {H : Hp} {Q : VK} {E : XK} {ms : MSp} {ma : MA} (h : tD K (mCall ms EF ma) σ H Q) : tCall (lift K ms) [] E (tDA K ma) σ H Q := by
  obtain ⟨μ, g, σw, Qw, R, S, m, q⟩ := h
  refine ⟨μ, g, σw, _, R, S, m, fun vs H1 ⟨μ1, ws, h1, e1, R1, r1, m1⟩ => ?_⟩
  show lift K ms (vs ++ []) H1 Q E
  rw [List.append_nil]
  exact ⟨μ1, h1, ws, Qw, R1, r1, m1, fun v H' z => q _ _ (z.trans e1)⟩
theorem d_call {k : Nat} {f : Addr} {fd : FuncData} {ps : List Str} {ms : MSp} {x : Str} {p : Pos} (F : FnOk X.prog X.w X.K X.mg X.base CX0 k f fd ps (lift X.K ms)) (hr : Room k X.A) (hg : Gl X x) (hm : X.mg x = some (.ref f)) (hk : PySem.W.keepIn X.K (.ref f) = true)
    (hb : Binds X.K fd ps []) (ha : DAs X (e :: es) mr) (hdb : (x == ("__debug__" : Str)) = false := by decide) (he : starEach (e :: es) X.env = (false, eval e X.env) :: starEach es X.env := by rfl) (hpl : (backTo pos (starEach es X.env)).any (·.1) = false := by rfl) :
    DE X (.Call (.Name x p) (e :: es) [] pos) (mCall ms EF mr) := (pe_call F hr hg hm hk hb .nil pass0 ha hdb he hpl).of fun _ _ _ h => call_of h
def truW (h : Gh) (w : W) : Option Bool := match w with
  | .non => some false
  | .bl b => some b
  | .int i => some (i != 0)
  | .tup ws => some (!ws.isEmpty)
  | .lst ws => some (!ws.isEmpty)
  | .kls ws => some (!ws.isEmpty)
  | .loc n => (match h.c n with
    | some (.lst ws) => some (!ws.isEmpty)
    | _ => none)
  | _ => none
def mTru (m : ME) : MT := fun σ h Q => m σ h fun w h1 => match truW h1 w with
  | some b => Q b h1
  | none => False
theorem Reps.emp {K : PySem.W.Frag} {H : Hp} {μ : Mu} {ws : List W} {xs : List V} (r : Reps K H μ ws xs) : ws.isEmpty = xs.isEmpty := by
  have := r.len
  cases ws <;> cases xs <;> first | rfl | cases this
theorem dt_tru (he : DE X e ma) (h : ∀ whole, isTrue e X.env whole = (do let v ← whole; standAt e.pos; holding [v] (truthy v)) := by intro _; rfl) : DT X e (mTru ma) := (pt_truth he h).of fun σ H Q ⟨μ, g, σw, Qw, R, S, m, q⟩ => by
  refine ⟨μ, g, σw, _, R, S, m, fun v H1 ⟨μ1, w, h1, e1, R1, r1, m1⟩ => ?_⟩
  dsimp only at m1
  split at m1
  · rename_i b eb
    refine ⟨b, ?_, q _ _ ⟨μ1, h1, e1, R1, m1⟩⟩
    cases w with
    | non => rw [Rep] at r1; subst r1; cases eb; rfl
    | bl c => rw [Rep] at r1; subst r1; cases eb; rfl
    | int c => rw [Rep] at r1; subst r1; cases eb; rfl
    | tup ws =>
      rw [Rep] at r1
      obtain ⟨p, xs, ev, hs, rs⟩ := r1
      subst ev
      cases eb
      exact .inr (.inl ⟨xs, hs, by rw [rs.emp]⟩)
    | lst ws =>
      rw [Rep] at r1
      obtain ⟨p, xs, ev, hs, rs⟩ := r1
      subst ev
      cases eb
      exact .inl ⟨xs, hs.sq, by rw [rs.emp]⟩
    | kls ws =>
      rw [Rep] at r1
      obtain ⟨p, xs, ev, hs, rs⟩ := r1
      subst ev
      cases eb
      exact .inl ⟨xs, hs.sq, by rw [rs.emp]⟩
    | loc n =>
      rw [Rep] at r1
      obtain ⟨p, ev, hm⟩ := r1
      subst ev
      unfold truW at eb
      dsimp only at eb
      cases ec : h1.c n with
      | none => rw [ec] at eb; cases eb
      | some cl =>
        rw [ec] at eb
        cases cl with
        | lst ws =>
          cases eb
          obtain ⟨p', hm', xs, hx, rs⟩ := R1.cel n _ ec
          have ep : p' = p := by rw [hm] at hm'; exact (Option.some.inj hm').symm
          subst ep
          exact .inl ⟨xs, .of hx, by rw [rs.emp]⟩
        | _ => cases eb
    | _ => cases eb
  · exact m1.elim
abbrev MC := List W → Gh → WK → Prop
def mCB (r : MC) (ma : MA) : ME := fun σ h Q => ma σ h fun ws h1 => r ws h1 Q
def SimC (K : PySem.W.Frag) (r : List V → Hp → VK → Prop) (mr : MC) : Prop := ∀ {H : Hp} {μ : Mu} {h : Gh} {vs : List V} {ws : List W} {Qw : WK} {Q : VK}, Rel K μ H h → Reps K H μ ws vs → mr ws h Qw → (∀ v H', DQ K H μ Qw v H' → Q v H') → r vs H Q
def DCall (X : Cx) (f : Value) (mr : MC) : Prop := ∃ r, CallR X f r ∧ SimC X.K r mr
theorem cb_of {K : PySem.W.Frag} {σ : St} {H : Hp} {Q : VK} {r : List V → Hp → VK → Prop} {mc : MC} {ma : MA} (s : SimC K r mc) (h : tD K (mCB mc ma) σ H Q) : tCB r (tDA K ma) σ H Q := by
  obtain ⟨μ, g, σw, Qw, R, S, m, q⟩ := h
  exact ⟨μ, g, σw, _, R, S, m, fun vs H1 ⟨μ1, ws, h1, e1, R1, r1, m1⟩ => s R1 r1 m1 fun v H' z => q _ _ (z.trans e1)⟩
theorem d_callB {x : Str} {p : Pos} {id : String} {mc : MC} (hc : DCall X (.builtin id) mc) (hg : Gl X x) (hm : X.mg x = none) (hv : bootBuiltins x = some (.builtin id)) (ha : DAs X (e :: es) mr) (hn : x ≠ "__name__" := by decide) (hdb : (x == ("__debug__" : Str)) = false := by decide)
    (he : starEach (e :: es) X.env = (false, eval e X.env) :: starEach es X.env := by rfl) (hpl : (backTo pos (starEach es X.env)).any (·.1) = false := by rfl) : DE X (.Call (.Name x p) (e :: es) [] pos) (mCB mc mr) := by
  obtain ⟨r, c, s⟩ := hc
  exact (pe_callB c hg hm hv ha hn hdb he hpl).of fun _ _ _ h => cb_of s h
theorem d_callTy {x : Str} {p : Pos} {T : String} {mc : MC} (hc : DCall X (.type T) mc) (hg : Gl X x) (hm : X.mg x = none) (hv : bootBuiltins x = some (.type T)) (ha : DAs X (e :: es) mr) (hn : x ≠ "__name__" := by decide) (hdb : (x == ("__debug__" : Str)) = false := by decide)
    (he : starEach (e :: es) X.env = (false, eval e X.env) :: starEach es X.env := by rfl) (hpl : (backTo pos (starEach es X.env)).any (·.1) = false := by rfl) : DE X (.Call (.Name x p) (e :: es) [] pos) (mCB mc mr) := by
  obtain ⟨r, c, s⟩ := hc
  exact (pe_callTy c hg hm hv ha hn hdb he hpl).of fun _ _ _ h => cb_of s h
end
end L2
namespace L2
open PySem PySem.Spec PyProof.Rows
section
variable {X : Cx} {e a b c tg : Expr} {ma mb mc : ME} {pos : Pos} {es : List Expr}
def nName (i : Nat) : MG := fun w σ h N => N (σ.set i (some w)) h
theorem dg_name {i : Nat} (hg : PG X e (gName i)) : DG X e (nName i) := hg.of fun v σ H N ⟨μ, h, σw, w, Nw, R, S, r, m, k⟩ => k _ _ ⟨μ, σw.set i (some w), h, .refl, R, S.set r i, m⟩
def nNil : MGs := fun ws σ h N => match ws with
  | [] => N σ h
  | _ => False
abbrev MSet := W → W → W → Gh → (Gh → Prop) → Prop
def SimSet (K : PySem.W.Frag) (t : TSet) (ms : MSet) : Prop := ∀ {H : Hp} {μ : Mu} {h : Gh} {o i v : V} {wo wi w : W} {Nw : Gh → Prop} {N : Hp → Prop}, Rel K μ H h → Rep K H μ wo o → Rep K H μ wi i → Rep K H μ w v → ms wo wi w h Nw →
  (∀ H', (∃ μ' h', Ext K H μ H' μ' ∧ Rel K μ' H' h' ∧ Nw h') → N H') → t o i v H N
def nSub (mo mi : ME) (ms : MSet) : MG := fun w σ h N => mo σ h fun o h1 => mi σ h1 fun i h2 => ms o i w h2 fun h3 => N σ h3
theorem dg_sub {o i : Expr} {mo mi : ME} {t : TSet} {ms : MSet} (ho : DE X o mo) (hi : DE X i mi) (hs : PSet X t) (hm : SimSet X.K t ms)
    (ha : ∀ v, assign (.Subscript o i pos) X.env v = (do
      let ov ← holding [v] (eval o X.env)
      let iv ← holding [v, ov] (eval i X.env)
      standAt pos
      holding [v, ov, iv] (setItem ov iv v)
      release [v, ov, iv] []) := by intro _; rfl) : DG X (.Subscript o i pos) (nSub mo mi ms) :=
  (pg_sub ho hi hs ha).of fun v σ H N ⟨μ, h, σw, w, Nw, R, S, r, m, k⟩ => by
    refine ⟨μ, h, σw, _, R, S, m, fun o H1 ⟨μ1, wo, h1, e1, R1, r1, m1⟩ => ?_⟩
    refine ⟨μ1, h1, σw, _, R1, S.ext e1, m1, fun i H2 ⟨μ2, wi, h2, e2, R2, r2, m2⟩ => ?_⟩
    refine hm R2 (e2.r _ _ r1) r2 (e2.r _ _ (e1.r _ _ r)) m2 fun H3 ⟨μ3, h3, e3, R3, m3⟩ => ?_
    exact k _ _ ⟨μ3, σw, h3, (e1.trans e2).trans e3, R3, S.ext ((e1.trans e2).trans e3), m3⟩
def sSetL : MSet := fun o i w h N => match o, i with
  | .loc n, .int k => (match h.c n with
    | some (.lst ws) => (match ixN ws.length k with
      | some j => N (h.set n (.lst (ws.set j w)))
      | none => False)
    | _ => False)
  | _, _ => False
theorem Rel.lstAt {K : PySem.W.Frag} {μ : Mu} {H : Hp} {h : Gh} {n : Nat} {ws : List W} (R : Rel K μ H h) (e : h.c n = some (.lst ws)) : ∃ p xs, μ.f n = some p ∧ H p = some (.lst xs) ∧ Reps K H μ ws xs := by
  obtain ⟨p, e1, xs, e2, r⟩ := R.cel n _ e
  exact ⟨p, xs, e1, e2, r⟩
theorem sim_setL {K : PySem.W.Frag} : SimSet K rSetL sSetL := by
  intro H μ h o i v wo wi w Nw N R ro ri r m k
  cases wo with
  | loc n =>
    cases wi with
    | int z =>
      rw [Rep] at ro
      rw [Rep] at ri
      obtain ⟨p, eo, hp⟩ := ro
      unfold sSetL at m
      dsimp only at m
      cases ec : h.c n with
      | none => rw [ec] at m; exact m.elim
      | some cl =>
        rw [ec] at m
        cases cl with
        | lst ws =>
          dsimp only at m
          obtain ⟨p', xs, hp', hx, rs⟩ := R.lstAt ec
          have ep : p' = p := by rw [hp] at hp'; exact (Option.some.inj hp').symm
          subst ep
          cases ej : ixN ws.length z with
          | none => rw [ej] at m; exact m.elim
          | some j =>
            rw [ej] at m
            refine ⟨p', xs, z, j, eo, ri, hx, by rw [← rs.len]; exact ej, k _ ⟨μ, _, (Ex.write R hp).ext, R.write hp trivial ?_, m⟩⟩
            exact ⟨_, upd_same, Reps.set ((Ex.write R hp).ext.r _ _ r) j ((Ex.write R hp).ext.s rs)⟩
        | _ => exact m.elim
    | _ => exact m.elim
  | _ => exact m.elim

variable {st : Stmt} {rest body : List Stmt} {m1 m2 : MS} {t : MT}
def mNext : MS := fun D σ h => D.nx σ h
def mSeq (m u : MS) : MS := fun D σ h => m { D with nx := u D } σ h
theorem dss_nil : DSs X [] mNext := pss_nil.of fun D σ H ⟨μ, h, σw, Dw, R, S, m, k⟩ => k.nx _ _ ⟨μ, σw, h, .refl, R, S, m⟩
theorem dss_one (h1 : DS X st m1) : DSs X [st] m1 := pss_one h1
theorem dss_cons (h1 : DS X st m1) (h2 : DSs X rest m2) : DSs X (st :: rest) (mSeq m1 m2) := (pss_cons h1 h2).of fun D σ H ⟨μ, h, σw, Dw, R, S, m, k⟩ => by
  refine ⟨μ, h, σw, _, R, S, m, ?_, k.rt, k.bk, k.ct⟩
  intro σ' H' ⟨μ1, σw1, h1, e1, R1, S1, m1⟩
  exact ⟨μ1, h1, σw1, Dw, R1, S1, m1, k.trans e1⟩
def mDrop (m : ME) : MS := fun D σ h => m σ h fun _ h1 => D.nx σ h1
theorem ds_expr (he : DE X e ma) (hs : swapsWith e none pos.line X.env = pure false := by rfl) : DS X (.Expr e pos) (mDrop ma) := (ps_expr he hs).of fun D σ H ⟨μ, h, σw, Dw, R, S, m, k⟩ =>
  ⟨μ, h, σw, _, R, S, m, fun v H1 ⟨μ1, w, h1, e1, R1, _, m1⟩ => k.nx _ _ ⟨μ1, σw, h1, e1, R1, S.ext e1, m1⟩⟩
def mRet (m : ME) : MS := fun D σ h => m σ h D.rt
theorem ds_ret (he : DE X e ma) : DS X (.Return (some e) pos) (mRet ma) := (ps_ret he).of fun D σ H ⟨μ, h, σw, Dw, R, S, m, k⟩ => ⟨μ, h, σw, _, R, S, m, k.rt⟩
def mIfS (t : MT) (a b : MS) : MS := fun D σ h => t σ h fun c h1 => br c (a D σ h1) (b D σ h1)
theorem ds_if {a b : List Stmt} (hc : DT X c t) (ha : DSs X a m1) (hb : DSs X b m2) : DS X (.If c a b pos) (mIfS t m1 m2) := (ps_if hc ha hb).of fun D σ H ⟨μ, h, σw, Dw, R, S, m, k⟩ => by
  refine ⟨μ, h, σw, _, R, S, m, fun b H1 ⟨μ1, h1, e1, R1, q⟩ => ?_⟩
  cases b with
  | true => rw [if_pos rfl]; exact ⟨μ1, h1, σw, Dw, R1, S.ext e1, q.1 rfl, k.trans e1⟩
  | false => rw [if_neg Bool.false_ne_true]; exact ⟨μ1, h1, σw, Dw, R1, S.ext e1, q.2 rfl, k.trans e1⟩
def mAsg (m : ME) (g : MG) : MS := fun D σ h => m σ h fun w h1 => g w σ h1 D.nx
theorem asg_of {K : PySem.W.Frag} {σ : St} {H : Hp} {D : Ends} {m : ME} {g : MG} (q : tDS K (mAsg m g) D σ H) : tAsg (tD K m) (tDG K g) D σ H := by
  obtain ⟨μ, h, σw, Dw, R, S, m, k⟩ := q
  exact ⟨μ, h, σw, _, R, S, m, fun v H1 ⟨μ1, w, h1, e1, R1, r1, m1⟩ => ⟨μ1, h1, σw, w, _, R1, S.ext e1, r1, m1, fun σ' H' z => k.nx _ _ (z.trans e1)⟩⟩
theorem ds_asg {g : MG} (he : DE X e ma) (hg : DG X tg g) (hs : swapsWithSole [tg] e pos.line X.env = pure false := by rfl) (hw : swappedStores [tg] e X.env = pure none := by rfl)
    (h1 : (assignEach [tg] X.env).map (·.2) = [assign tg X.env] := by rfl) : DS X (.Assign [tg] e pos) (mAsg ma g) := (ps_asg he hg hs hw h1).of fun _ _ _ q => asg_of q
theorem set_of {K : PySem.W.Frag} {σ : St} {H : Hp} {D : Ends} {m : ME} {t : TE} {i : Nat} (ht : ∀ σ H Q, tD K m σ H Q → t σ H Q) (q : tDS K (mAsg m (nName i)) D σ H) : tAsg t (gName i) D σ H := by
  obtain ⟨μ, h, σw, Dw, R, S, m, k⟩ := q
  exact ht _ _ _ ⟨μ, h, σw, _, R, S, m, fun v H1 ⟨μ1, w, h1, e1, R1, r1, m1⟩ => k.nx _ _ ⟨μ1, σw.set i (some w), h1, e1, R1, (S.ext e1).set r1 i, m1⟩⟩
theorem ds_set {i : Nat} {x : Str} {pos' : Pos} (hN : X.N.Nodup) (hi : X.N[i]? = some x) (hx : Loc X.env.scope x) (he : DE X e ma) (hs : swapsWith e (some (.Name x pos')) pos.line X.env = pure false := by rfl)
    (hf : X.fn x = true ∨ X.env.scope.names.lookup x = some .local := by first | exact .inl rfl | exact .inr rfl | assumption) :
    DS X (.Assign [.Name x pos'] e pos) (mAsg ma (nName i)) := (ps_set hN hi hx he hs hf).of fun _ _ _ q => set_of (fun _ _ _ z => z) q
def mPar (i j : Nat) (ta : MA) : MS := fun D σ h => ta σ h fun ws h1 => match ws with
  | [v, w] => D.nx ((σ.set i (some v)).set j (some w)) h1
  | _ => False
structure Src where
  ws : List W
  cell : Option Nat
def Src.chk (s : Src) (h : Gh) : Prop := match s.cell with
  | none => True
  | some n => h.c n = some (.lst s.ws)
abbrev MI := Sw → Gh → (Src → Gh → Prop) → Prop
def ItOk (K : PySem.W.Frag) (J : It) (src : Src) (H : Hp) (μ : Mu) : Prop := ∀ {H2 : Hp} {μ2 : Mu} {h2 : Gh} {i : Nat}, Ext K H μ H2 μ2 → Rel K μ2 H2 h2 → src.chk h2 →
  (∀ w, src.ws[i]? = some w → J.go i H2 ∧ ∀ x H3, J.yld i H2 x H3 → ∃ μ3, Ext K H2 μ2 H3 μ3 ∧ Rel K μ3 H3 h2 ∧ Rep K H3 μ3 w x) ∧ (src.ws.length ≤ i → J.stop i H2)
def DI (K : PySem.W.Frag) (H : Hp) (μ : Mu) (Rw : Src → Gh → Prop) : It → Hp → Prop := fun J H' => ∃ μ' src h', Ext K H μ H' μ' ∧ Rel K μ' H' h' ∧ ItOk K J src H' μ' ∧ Rw src h'
def tDI (K : PySem.W.Frag) (mi : MI) : TI := fun σ H R => ∃ μ h σw Rw, Rel K μ H h ∧ Slots K H μ σw σ ∧ mi σw h Rw ∧ ∀ J H', DI K H μ Rw J H' → R J H'
abbrev DIt (X : Cx) (tg iter : Expr) (mi : MI) : Prop := PI X tg iter (tDI X.K mi)
theorem PI.of {iter : Expr} {t t' : TI} (h : PI X tg iter t) (k : ∀ σ H R, t' σ H R → t σ H R) : PI X tg iter t' := fun pins s σ H R I q => h pins s σ H R I (k σ H R q)
def viewL (h : Gh) : W → Option (List W)
  | .lst ws => some ws
  | .kls ws => some ws
  | .loc n => (match h.c n with
    | some (.lst ws) => some ws
    | _ => none)
  | _ => none
def view (h : Gh) : W → Option (List W)
  | .tup ws => some ws
  | .lst ws => some ws
  | .kls ws => some ws
  | .loc n => viewL h (.loc n)
  | _ => none
def srcA (h : Gh) : W → Option Src
  | .tup ws => some ⟨ws, none⟩
  | .lst ws => some ⟨ws, none⟩
  | .kls ws => some ⟨ws, none⟩
  | .loc n => (match h.c n with
    | some (.lst ws) => some ⟨ws, some n⟩
    | _ => none)
  | _ => none
theorem itl_frz {K : PySem.W.Frag} {H : Hp} {μ : Mu} {p : Addr} {ws : List W} (r : Rep K H μ (.lst ws) (.ref p)) : ItOk K (Itl K p) ⟨ws, none⟩ H μ := by
  intro H2 μ2 h2 i e R2 _
  have r2 := e.r _ _ r
  rw [Rep] at r2
  obtain ⟨q, xs, eq, hf, rs⟩ := r2
  cases eq
  refine ⟨fun w ew => ?_, fun hl => ⟨xs, hf.sq, by rw [← rs.len]; exact hl⟩⟩
  obtain ⟨v, ev, rv⟩ := rs.get ew
  refine ⟨⟨xs, v, hf.sq, ev⟩, fun x H3 ⟨e3, y⟩ => ?_⟩
  subst e3
  have := y xs hf.sq
  rw [ev] at this
  cases this
  exact ⟨μ2, .refl, R2, rv⟩
theorem itl_kls {K : PySem.W.Frag} {H : Hp} {μ : Mu} {p : Addr} {ws : List W} (r : Rep K H μ (.kls ws) (.ref p)) : ItOk K (Itl K p) ⟨ws, none⟩ H μ := by
  intro H2 μ2 h2 i e R2 _
  have r2 := e.r _ _ r
  rw [Rep] at r2
  obtain ⟨q, xs, eq, hf, rs⟩ := r2
  cases eq
  refine ⟨fun w ew => ?_, fun hl => ⟨xs, hf.sq, by rw [← rs.len]; exact hl⟩⟩
  obtain ⟨v, ev, rv⟩ := rs.get ew
  refine ⟨⟨xs, v, hf.sq, ev⟩, fun x H3 ⟨e3, y⟩ => ?_⟩
  subst e3
  have := y xs hf.sq
  rw [ev] at this
  cases this
  exact ⟨μ2, .refl, R2, rv⟩
theorem itl_cell {K : PySem.W.Frag} {H : Hp} {μ : Mu} {p : Addr} {n : Nat} {ws : List W} (r : Rep K H μ (.loc n) (.ref p)) : ItOk K (Itl K p) ⟨ws, some n⟩ H μ := by
  intro H2 μ2 h2 i e R2 ck
  have r2 := e.r _ _ r
  rw [Rep] at r2
  obtain ⟨q, eq, hm⟩ := r2
  cases eq
  obtain ⟨p', xs, hm', hx, rs⟩ := R2.lstAt (show h2.c n = some (.lst ws) from ck)
  have ep : p' = p := by rw [hm] at hm'; exact (Option.some.inj hm').symm
  subst ep
  refine ⟨fun w ew => ?_, fun hl => ⟨xs, .of hx, by rw [← rs.len]; exact hl⟩⟩
  obtain ⟨v, ev, rv⟩ := rs.get ew
  refine ⟨⟨xs, v, .of hx, ev⟩, fun x H3 ⟨e3, y⟩ => ?_⟩
  subst e3
  have := y xs (.of hx)
  rw [ev] at this
  cases this
  exact ⟨μ2, .refl, R2, rv⟩
theorem itt_tup {K : PySem.W.Frag} {H : Hp} {μ : Mu} {p : Addr} {ws : List W} (r : Rep K H μ (.tup ws) (.ref p)) : ItOk K (Itt K p) ⟨ws, none⟩ H μ := by
  intro H2 μ2 h2 i e R2 _
  have r2 := e.r _ _ r
  rw [Rep] at r2
  obtain ⟨q, xs, eq, hf, rs⟩ := r2
  cases eq
  refine ⟨fun w ew => ?_, fun hl => ⟨xs, hf, by rw [← rs.len]; exact hl⟩⟩
  obtain ⟨v, ev, rv⟩ := rs.get ew
  refine ⟨⟨xs, v, hf, ev⟩, fun x H3 ⟨e3, y⟩ => ?_⟩
  subst e3
  have := y xs hf
  rw [ev] at this
  cases this
  exact ⟨μ2, .refl, R2, rv⟩
def iSeq (K : PySem.W.Frag) (tl : TE) : TI := fun σ H R => tl σ H fun x H1 => (∃ a, x = .ref a ∧ (∃ xs, SqL K H1 a xs) ∧ R (Itl K a) H1) ∨ (∃ a, x = .ref a ∧ (∃ xs, SqT K H1 a xs) ∧ R (Itt K a) H1)
theorem pi_seq {l : Expr} {tl : TE} (hl : PE X l tl) : PI X tg l (iSeq X.K tl) := by
  intro pins s σ H R I h
  refine thn (hl pins s σ H _ I h) fun v s1 ⟨x, H1, I1, r1, q1⟩ => ?_
  rcases q1 with ⟨a, e, ⟨xs, hq⟩, q⟩ | ⟨a, e, ⟨xs, hq⟩, q⟩
  · subst e
    cases r1
    obtain ⟨its, rv, p, hz⟩ := I1.list hq
    refine wpAny_pyIter_list p.isList ?_
    refine ⟨s1.heap.objs.size, [s1.heap.objs.size], _, _, H1, rfl, I1.kept (t' := s1.toks) fun b o e => Heap.get?_push_of_some _ e, turn_list a _, ⟨_, Heap.get?_push_size _ rfl, rfl, rfl⟩, fun b hb => ?_, q⟩
    have e : b = s1.heap.objs.size := by simpa using hb
    subst e
    exact I1.fpOk (Nat.le_refl _) (I1.hok.fresh (Nat.le_refl _))
  · subst e
    cases r1
    obtain ⟨its, rv, p, hz⟩ := I1.tuple hq
    refine wpAny_pyIter_tuple (show s1.heap.IsTuple a its.toArray from p) ?_
    refine ⟨s1.heap.objs.size, [s1.heap.objs.size], _, _, H1, rfl, I1.kept (t' := s1.toks) fun b o e => Heap.get?_push_of_some _ e, turn_tuple a _, ⟨_, Heap.get?_push_size _ rfl, rfl, rfl⟩, fun b hb => ?_, q⟩
    have e : b = s1.heap.objs.size := by simpa using hb
    subst e
    exact I1.fpOk (Nat.le_refl _) (I1.hok.fresh (Nat.le_refl _))
def nIt (m : ME) : MI := fun σ h R => m σ h fun w h1 => match srcA h1 w with
  | some s => R s h1
  | none => False
theorem di_seq {l : Expr} (hl : DE X l ma) : DIt X tg l (nIt ma) := PI.of (pi_seq hl) fun σ H Q ⟨μ, h, σw, Rw, R, S, m, k⟩ => by
  refine ⟨μ, h, σw, _, R, S, m, fun v H1 ⟨μ1, w, h1, e1, R1, r1, m1⟩ => ?_⟩
  cases w with
  | tup ws =>
    have r1' := r1
    rw [Rep] at r1
    obtain ⟨p, xs, ev, hs, _⟩ := r1
    subst ev
    exact .inr ⟨p, rfl, ⟨xs, hs⟩, k _ _ ⟨μ1, ⟨ws, none⟩, h1, e1, R1, itt_tup r1', m1⟩⟩
  | lst ws =>
    have r1' := r1
    rw [Rep] at r1
    obtain ⟨p, xs, ev, hs, _⟩ := r1
    subst ev
    exact .inl ⟨p, rfl, ⟨xs, hs.sq⟩, k _ _ ⟨μ1, ⟨ws, none⟩, h1, e1, R1, itl_frz r1', m1⟩⟩
  | kls ws =>
    have r1' := r1
    rw [Rep] at r1
    obtain ⟨p, xs, ev, hs, _⟩ := r1
    subst ev
    exact .inl ⟨p, rfl, ⟨xs, hs.sq⟩, k _ _ ⟨μ1, ⟨ws, none⟩, h1, e1, R1, itl_kls r1', m1⟩⟩
  | loc n =>
    have r1' := r1
    rw [Rep] at r1
    obtain ⟨p, ev, hm⟩ := r1
    subst ev
    unfold srcA at m1
    dsimp only at m1
    cases ec : h1.c n with
    | none => rw [ec] at m1; exact m1.elim
    | some cl =>
      rw [ec] at m1
      cases cl with
      | lst ws =>
        obtain ⟨p', xs, hm', hx, rs⟩ := R1.lstAt ec
        have ep : p' = p := by rw [hm] at hm'; exact (Option.some.inj hm').symm
        subst ep
        exact .inl ⟨p', rfl, ⟨xs, .of hx⟩, k _ _ ⟨μ1, ⟨ws, some n⟩, h1, e1, R1, itl_cell r1', m1⟩⟩
      | _ => exact m1.elim
  | _ => exact m1.elim
def rngW (lo : Int) (n : Nat) : List W := (List.range n).map fun (k : Nat) => .int (lo + (k : Int))
theorem itr_ok {K : PySem.W.Frag} {H : Hp} {μ : Mu} {lo : Int} {n : Nat} : ItOk K (Itr lo n) ⟨rngW lo n, none⟩ H μ := by
  intro H2 μ2 h2 i e R2 _
  refine ⟨fun w ew => ?_, fun hl => ?_⟩
  · have hi : i < n := by
      have := (List.getElem?_eq_some_iff.mp ew).1
      simpa [rngW] using this
    have ew' : w = .int (lo + (i : Int)) := by
      unfold rngW at ew
      rw [List.getElem?_map, List.getElem?_range hi] at ew
      exact (Option.some.inj ew).symm
    subst ew'
    refine ⟨hi, fun x H3 ⟨e3, y⟩ => ?_⟩
    subst e3
    exact ⟨μ2, .refl, R2, by rw [Rep]; exact y⟩
  · have : n ≤ i := by simpa [rngW] using hl
    exact this
def rgOk (j : Int) (P : Prop) : Prop := by2 (decide (-1000 ≤ j) && decide (j ≤ 1000)) P ((-(2 ^ 62) ≤ j ∧ j < 2 ^ 62) ∧ P)
theorem rgOk.ok {j : Int} {P : Prop} (h : rgOk j P) : (-(2 ^ 62) ≤ j ∧ j < 2 ^ 62) ∧ P := by
  unfold rgOk at h
  cases e : (decide (-1000 ≤ j) && decide (j ≤ 1000)) with
  | true =>
    rw [e] at h
    rw [Bool.and_eq_true, decide_eq_true_iff, decide_eq_true_iff] at e
    exact ⟨⟨by omega, by omega⟩, h⟩
  | false => rw [e] at h; exact h
theorem rgOk.mk {j : Int} {P : Prop} (h1 : -(2 ^ 62) ≤ j) (h2 : j < 2 ^ 62) (h : P) : rgOk j P := by
  unfold rgOk
  cases e : (decide (-1000 ≤ j) && decide (j ≤ 1000)) with
  | true => exact h
  | false => exact ⟨⟨h1, h2⟩, h⟩
def nRng1 (ma : MA) : MI := fun σ h R => ma σ h fun ws h1 => match ws with
  | [.int j] => rgOk j (R ⟨rngW 0 j.toNat, none⟩ h1)
  | _ => False
def nRng2 (ma : MA) : MI := fun σ h R => ma σ h fun ws h1 => match ws with
  | [.int i, .int j] => rgOk i (rgOk j (R ⟨rngW i (j - i).toNat, none⟩ h1))
  | _ => False
theorem di_range1 {a : Expr} {mr : MA} {p pos : Pos} (hg : Gl X "range") (hm : X.mg "range" = none) (ha : DAs X [a] mr) (hs : starEach [a] X.env = [(false, eval a X.env)] := by rfl) : DIt X tg (.Call (.Name "range" p) [a] [] pos) (nRng1 mr) :=
  PI.of (pi_range1 hg hm ha hs) fun σ H Q ⟨μ, h, σw, Rw, R, S, m, k⟩ => by
    refine ⟨μ, h, σw, _, R, S, m, fun vs H1 ⟨μ1, ws, h1, e1, R1, r1, m1⟩ => ?_⟩
    dsimp only at m1
    split at m1
    · rename_i j
      rw [Reps] at r1
      obtain ⟨v, vr, ev, ra, r1⟩ := r1
      rw [Reps] at r1
      rw [Rep] at ra
      subst ev r1 ra
      exact ⟨j, rfl, m1.ok.1.1, m1.ok.1.2, k _ _ ⟨μ1, _, h1, e1, R1, itr_ok, m1.ok.2⟩⟩
    · exact m1.elim
theorem di_range2 {a b : Expr} {mr : MA} {p pos : Pos} (hg : Gl X "range") (hm : X.mg "range" = none) (ha : DAs X [a, b] mr) (hs : starEach [a, b] X.env = [(false, eval a X.env), (false, eval b X.env)] := by rfl) (hs2 : starEach [b] X.env = [(false, eval b X.env)] := by rfl) :
    DIt X tg (.Call (.Name "range" p) [a, b] [] pos) (nRng2 mr) :=
  PI.of (pi_range2 hg hm ha hs hs2) fun σ H Q ⟨μ, h, σw, Rw, R, S, m, k⟩ => by
    refine ⟨μ, h, σw, _, R, S, m, fun vs H1 ⟨μ1, ws, h1, e1, R1, r1, m1⟩ => ?_⟩
    dsimp only at m1
    split at m1
    · rename_i i j
      rw [Reps] at r1
      obtain ⟨v, vr, ev, ra, r1⟩ := r1
      rw [Reps] at r1
      obtain ⟨v', vr', ev', rb, r1⟩ := r1
      rw [Reps] at r1
      rw [Rep] at ra rb
      subst ev ev' r1 ra rb
      exact ⟨i, j, rfl, ⟨m1.ok.1.1, m1.ok.1.2, m1.ok.2.ok.1.1, m1.ok.2.ok.1.2⟩, k _ _ ⟨μ1, _, h1, e1, R1, itr_ok, m1.ok.2.ok.2⟩⟩
    · exact m1.elim

def Src.go (s : Src) (h : Gh) (P : Prop) : Prop := match s.cell with
  | none => P
  | some n => h.c n = some (.lst s.ws) ∧ P
theorem Src.go_ok {s : Src} {h : Gh} {P : Prop} (x : s.go h P) : s.chk h ∧ P := by
  unfold Src.go at x
  unfold Src.chk
  cases e : s.cell with
  | none => rw [e] at x; exact ⟨trivial, x⟩
  | some n => rw [e] at x; exact x
def mForL (s : Src) (g : MG) (b : MS) (D : MEnds) : List W → Sw → Gh → Prop
  | [], σ, h => s.go h (D.nx σ h)
  | w :: r, σ, h => s.go h (g w σ h fun σ1 h1 => b { D with nx := mForL s g b D r, ct := mForL s g b D r, bk := D.nx } σ1 h1)
def mFor (mi : MI) (g : MG) (b : MS) : MS := fun D σ h => mi σ h fun s h1 => mForL s g b D s.ws σ h1
theorem ds_for {iter : Expr} {body : List Stmt} {mi : MI} {g : MG} {mb0 : MS} {pos : Pos} (hp : PassesOwn (model X.prog X.w) X.A X.env X.xe) (hc : X.calm = true) (hi : DIt X tg iter mi) (hg : DG X tg g) (hb : DSs X body mb0)
    (hs : ∀ x, foldedSetIterable iter X.env x = pure x := by intro _; rfl) : DS X (.For tg iter body [] pos) (mFor mi g mb0) := (ps_for hp hc hi hg hb hs).of fun D σ H ⟨μ, h, σw, Dw, R, S, m, k⟩ => by
  refine ⟨μ, h, σw, _, R, S, m, fun J H1 ⟨μ1, src, h1, e1, R1, ok, m1⟩ => ?_⟩
  refine ⟨fun i n σ' H' => n = src.ws.length - i ∧ i ≤ src.ws.length ∧ DN X.K H1 μ1 (mForL src g mb0 Dw (src.ws.drop i)) σ' H', ⟨src.ws.length, by simp, Nat.zero_le _, μ1, σw, h1, .refl, R1, S.ext e1, by rw [List.drop_zero]; exact m1⟩, ?_⟩
  rintro i n σ2 H2 ⟨hn, hle, μ2, σw2, h2, e2, R2, S2, m2⟩
  by_cases hlt : i < src.ws.length
  · rw [List.drop_eq_getElem_cons hlt] at m2
    obtain ⟨ck, m2⟩ := Src.go_ok m2
    obtain ⟨hgo, hy⟩ := (ok e2 R2 ck).1 src.ws[i] (List.getElem?_eq_getElem hlt)
    refine .inr ⟨hgo, fun σ' H' => DN X.K H2 μ2 (mForL src g mb0 Dw (src.ws.drop (i + 1))) σ' H', fun σ' H' z => ⟨src.ws.length - (i + 1), by omega, rfl, hlt, z.trans e2⟩, fun x H3 y => ?_⟩
    obtain ⟨μ3, e3, R3, rx⟩ := hy x H3 y
    refine ⟨μ3, h2, σw2, src.ws[i], _, R3, S2.ext e3, rx, m2, fun σ4 H4 ⟨μ4, σw4, h4, e4, R4, S4, m4⟩ => ?_⟩
    have e24 := e3.trans e4
    have e14 := (e1.trans e2).trans e24
    exact ⟨μ4, h4, σw4, _, R4, S4, m4, fun σ' H' z => z.trans e24, fun v H' z => k.rt _ _ (z.trans e14), fun σ' H' z => k.nx _ _ (z.trans e14), fun σ' H' z => z.trans e24⟩
  · have ei : i = src.ws.length := by omega
    subst ei
    rw [List.drop_length] at m2
    obtain ⟨ck, m2⟩ := Src.go_ok m2
    exact .inl ⟨(ok e2 R2 ck).2 (Nat.le_refl _), k.nx _ _ ⟨μ2, σw2, h2, e1.trans e2, R2, S2, m2⟩⟩

def blkW (ix : List Nat) (σ : Sw) : Sw := ix.map fun i => (σ[i]?).getD none
theorem Slots.blk {K : PySem.W.Frag} {H : Hp} {μ : Mu} {σw : Sw} {σ : St} {ix : List Nat} (S : Slots K H μ σw σ) : ∀ {ws : List W} {vs : List V}, Reps K H μ ws vs → Slots K H μ (ws.map some ++ blkW ix σw) (vs.map some ++ blkσ ix σ) := by
  intro ws vs r
  have hl := r.len
  refine ⟨by simp [blkW, blkσ, hl], fun i u q => ?_⟩
  by_cases hi : i < ws.length
  · rw [List.getElem?_append_left (by simpa using hi), List.getElem?_map] at q
    have q' : ws[i]? = some u := by
      cases e : ws[i]? with
      | none => rw [e] at q; cases q
      | some a => rw [e] at q; simpa using q
    obtain ⟨v, hv, rv⟩ := r.get q'
    refine ⟨v, ?_, rv⟩
    rw [List.getElem?_append_left (by rw [List.length_map]; omega), List.getElem?_map, hv]
    rfl
  · rw [List.getElem?_append_right (by simpa using hi), List.length_map] at q
    rw [List.getElem?_append_right (by rw [List.length_map]; omega), List.length_map, ← hl]
    generalize i - ws.length = i at q ⊢
    unfold blkW at q
    unfold blkσ
    rw [List.getElem?_map] at q ⊢
    cases e : ix[i]? with
    | none => rw [e] at q; cases q
    | some j =>
      rw [e] at q
      cases e2 : σw[j]? with
      | none => simp [e2] at q
      | some o =>
        have eo : o = some u := by simpa [e2] using q
        subst eo
        obtain ⟨v', h1, h2⟩ := S.get j u e2
        exact ⟨v', by simp [h1], h2⟩
def mYes : MT := fun _ h Q => Q true h
def mLCL (s : Src) (own : W → Option (List W)) (ix : List Nat) (tt : MT) (te : ME) (σ : Sw) (Q : WK) : List W → List W → Gh → Prop
  | [], acc, h => s.go h (Q (.lst acc) h)
  | w :: r, acc, h => s.go h (match own w with
    | some vs => tt (vs.map some ++ blkW ix σ) h fun c h1 => by2 c (te (vs.map some ++ blkW ix σ) h1 fun v h2 => mLCL s own ix tt te σ Q r (acc ++ [v]) h2) (mLCL s own ix tt te σ Q r acc h1)
    | none => False)
def mLC (own : W → Option (List W)) (ix : List Nat) (mi : MI) (tt : MT) (te : ME) : ME := fun σ h Q => mi σ h fun s h1 => szOk s.ws.length (mLCL s own ix tt te σ Q s.ws [] h1)
def OwnOk (K : PySem.W.Frag) (n : Nat) (own : V → Hp → List V → Prop) (ow : W → Option (List W)) : Prop := ∀ {H : Hp} {μ : Mu} {w : W} {v : V} {ws : List W}, Rep K H μ w v → ow w = some ws → ∃ vs, own v H vs ∧ vs.length = n ∧ Reps K H μ ws vs
def ow1 (w : W) : Option (List W) := some [w]
def ov1 : V → Hp → List V → Prop := fun v _ vs => vs = [v]
theorem own_1 {K : PySem.W.Frag} : OwnOk K 1 ov1 ow1 := by
  intro H μ w v ws r e
  cases (show some [w] = some ws from e)
  exact ⟨[v], rfl, rfl, .one r⟩
abbrev DIfs (X : Cx) (ifs : List Expr) (m : MT) : Prop := PIfs X ifs (tDT X.K m)
theorem dif_nil : DIfs X [] mYes := fun pins s σ H Q I ⟨μ, h, σw, Qw, R, S, m, k⟩ => pif_nil pins s σ H Q I (k _ _ ⟨μ, h, .refl, R, m⟩)
theorem dif_one (h : DT X c t) : DIfs X [c] t := pif_one h
theorem lc_of {K : PySem.W.Frag} {σ : St} {H : Hp} {Q : VK} {n : Nat} {own : V → Hp → List V → Prop} {ow : W → Option (List W)} {ix : List Nat} {mi : MI} {tt : MT} {te : ME} (oo : OwnOk K n own ow) (q : tD K (mLC ow ix mi tt te) σ H Q) : tLC n own ix (tDI K mi) (tDT K tt) (tD K te) σ H Q := by
  obtain ⟨μ, h, σw, Qw, R, S, m, k⟩ := q
  refine ⟨μ, h, σw, _, R, S, m, fun J H1 ⟨μ1, src, h1, e1, R1, ok, hz0⟩ => ?_⟩
  obtain ⟨hz, m1⟩ := hz0.ok
  intro D hD
  have nD := R1.nohid hD
  have hD1 : Ext K H1 μ1 (upd H1 D (.lst [])) (μ1.hide D) := Ext.hide hD
  refine ⟨fun i n ys H' => n = src.ws.length - i ∧ i ≤ src.ws.length ∧ ys.length ≤ i ∧ H' D = some (.lst ys) ∧ ∃ μ' acc h', Ext K H1 μ1 H' μ' ∧ Rel K μ' H' h' ∧ μ'.hid D ∧ Reps K H' μ' acc ys ∧ mLCL src ow ix tt te σw Qw (src.ws.drop i) acc h',
    ⟨src.ws.length, by simp, Nat.zero_le _, Nat.le_refl _, upd_same, μ1.hide D, [], h1, hD1, R1.hide hD, .inl rfl, .nil, by rw [List.drop_zero]; exact m1⟩, ?_⟩
  rintro i n' ys H2 ⟨hn, hle, hys, hH2, μ2, acc, h2, e2, R2, hid2, ra, m2⟩ _
  by_cases hlt : i < src.ws.length
  · rw [List.drop_eq_getElem_cons hlt] at m2
    obtain ⟨ck, m2⟩ := Src.go_ok m2
    obtain ⟨hgo, hy⟩ := (ok e2 R2 ck).1 src.ws[i] (List.getElem?_eq_getElem hlt)
    refine .inr ⟨hgo, by omega, fun x H3 y => ?_⟩
    obtain ⟨μ3, e3, R3, rx⟩ := hy x H3 y
    have e13 := e2.trans e3
    cases eo : ow src.ws[i] with
    | none => rw [eo] at m2; exact m2.elim
    | some us =>
      rw [eo] at m2
      obtain ⟨vs, hov, hvl, rvs⟩ := oo rx eo
      have S3 := (S.ext (e1.trans e13)).blk (ix := ix) rvs
      refine ⟨vs, hov, hvl, μ3, h2, _, _, R3, S3, m2, fun b H4 ⟨μ4, h4, e4, R4, m4⟩ => ?_⟩
      have e24 := e3.trans e4
      obtain ⟨hid4, hH4⟩ := e24.o D _ hid2 hH2
      cases b with
      | false =>
        dsimp only
        rw [if_neg Bool.false_ne_true]
        exact ⟨hH4, src.ws.length - (i + 1), by omega, rfl, hlt, by omega, hH4, μ4, acc, h4, e2.trans e24, R4, hid4, e24.s ra, m4⟩
      | true =>
        dsimp only
        rw [if_pos rfl]
        refine ⟨μ4, h4, _, _, R4, S3.ext e4, m4, fun v H5 ⟨μ5, w5, h5, e5, R5, r5, m5⟩ => ?_⟩
        have e25 := e24.trans e5
        obtain ⟨hid5, hH5⟩ := e25.o D _ hid2 hH2
        have g := ExtX.grow (ys := ys ++ [v]) R5 hid5
        have rs : Reps K (upd H5 D (.lst (ys ++ [v]))) μ5 (acc ++ [w5]) (ys ++ [v]) := Reps.ex (Ex0.grow R5 hid5) (Reps.append (e25.s ra) (Reps.one r5))
        exact ⟨hH5, src.ws.length - (i + 1), by omega, rfl, hlt, by rw [List.length_append]; simp; omega, upd_same, μ5, acc ++ [w5], h5, (e2.trans e25).x nD g, R5.grow hid5, hid5, rs, m5⟩
  · have ei : i = src.ws.length := by omega
    subst ei
    rw [List.drop_length] at m2
    obtain ⟨ck, m2⟩ := Src.go_ok m2
    exact .inl ⟨(ok e2 R2 ck).2 (Nat.le_refl _), k _ _ ⟨μ2.unhide D, .lst acc, h2, e1.trans (e2.x nD .unhide), R2.unhide, Rep.built R2 hid2 hH2 ra, m2⟩⟩
variable {scope : Scope} {x : Str} {xs : List Str} {ix : List Nat} {elt iter : Expr} {ifs : List Expr} {px : Pos} {mi : MI} {tt : MT} {te : ME}
theorem pgo_1 (B : BlkOk X scope [x] ix) (C : Addr) (s : Shared) (H : Hp) (fp : List Addr) : PG (blk X scope (blkN X [x] ix) C s H fp) (.Name x px) (gOwn 1 ov1) := by
  have hown : (relabel scope X.env).names.lookup x = some .local := lookup_relabel_local (B.own x (by simp))
  intro pins s' σ H' v u Q I r ⟨vs, hv, hl, q⟩
  cases hv
  refine pg_name (X := blk X scope (blkN X [x] ix) C s H fp) (i := 0) B.nd rfl (.inl hown) (.inr hown) pins s' σ H' v u Q I r ?_
  have hlen : σ.length = (blkN X [x] ix).length := I.len
  cases σ with
  | nil => simp at hlen
  | cons o σ => exact q
theorem d_lc {own : V → Hp → List V → Prop} {ow : W → Option (List W)} (ix : List Nat) (hc : X.calm = true) (B : BlkOk X scope xs ix) (oo : OwnOk X.K xs.length own ow) (hg : ∀ C s H fp, PG (blk X scope (blkN X xs ix) C s H fp) tg (gOwn xs.length own)) (hi : DIt X tg iter mi)
    (ht : ∀ C s H fp, DIfs (blk X scope (blkN X xs ix) C s H fp) ifs tt) (he : ∀ C s H fp, DE (blk X scope (blkN X xs ix) C s H fp) elt te)
    (hs : ∀ v, foldedSetIterable iter X.env v = pure v := by intro _; rfl) : DE X (.ListComp elt [⟨tg, iter, ifs, 0⟩] scope pos) (mLC ow ix mi tt te) := (pe_lc ix hc B hg hi ht he hs).of fun _ _ _ q => lc_of oo q
theorem cutF {κ : Type} {K : PySem.W.Frag} {H0 H : Hp} {μ0 μ : Mu} {k : Nat} (hd : ∀ n p, μ0.f n = some p → n < k) : ∀ {fs : List (κ × W)} {f0 fv : List (κ × V)}, RepF K H0 μ0 fs f0 → RepF K H μ fs fv → RepF K H (μ.cut k) fs fv
  | [], _, _, _, .nil => .nil
  | _ :: _, _, _, .cons a b, .cons c d => .cons ⟨c.1, Rep.cut c.2 (Rep.lo hd a.2)⟩ (cutF hd b d)
def exitW (pure : Bool) (h : Gh) (w : W) (h' : Gh) (Q : WK) : Prop := match pure with
  | false => Q w h'
  | true => (∀ n c, n < h.nx → h.c n = some c → h'.c n = some c) ∧ ((Lo h.nx w ∧ Q w h) ∨ ∃ n ws, w = .loc n ∧ h.nx ≤ n ∧ h'.c n = some (.lst ws) ∧ Los h.nx ws ∧ Q (.lst ws) h)
def mFn (n N : Nat) (pure : Bool) (body : XWK → MS) : MSp := fun ws h Q E => by2 (Nat.beq ws.length n)
  (body E { nx := fun _ h' => exitW pure h .non h' Q, rt := fun w h' => exitW pure h w h' Q } (ws.map some ++ List.replicate (N - ws.length) none) h) False
theorem mFn_ok {n N : Nat} {pure : Bool} {body : XWK → MS} {ws : List W} {h : Gh} {Q : WK} {E : XWK} (x : mFn n N pure body ws h Q E) : ws.length = n ∧
    body E { nx := fun _ h' => exitW pure h .non h' Q, rt := fun w h' => exitW pure h w h' Q } (ws.map some ++ List.replicate (N - ws.length) none) h := by
  unfold mFn at x
  cases e : Nat.beq ws.length n with
  | true => rw [e] at x; exact ⟨Nat.eq_of_beq_eq_true e, x⟩
  | false => rw [e] at x; exact (show False from x).elim
theorem Rel.cut {K : PySem.W.Frag} {H H' : Hp} {μ μ' : Mu} {h h' : Gh} (R : Rel K μ H h) (R' : Rel K μ' H' h') (e : Ext K H μ H' μ') (hc : ∀ n c, h.c n = some c → h'.c n = some c) : Rel K (μ'.cut h.nx) H' h where
  inj := fun m n p a b => R'.inj m n p (Mu.cut_some a).2 (Mu.cut_some b).2
  dom := fun n p a => (Mu.cut_some a).1
  trk := fun n p a => R'.trk n p (Mu.cut_some a).2
  cel := fun n c a => by
    obtain ⟨p0, m0, x0⟩ := R.cel n c a
    obtain ⟨p, m, x⟩ := R'.cel n c (hc n c a)
    have hn := R.dom n p0 m0
    refine ⟨p, by show (if n < h.nx then μ'.f n else none) = some p; rw [if_pos hn]; exact m, ?_⟩
    cases c with
    | lst ws =>
      obtain ⟨xs0, _, r0⟩ := x0
      obtain ⟨xs, hx, r⟩ := x
      exact ⟨xs, hx, Reps.cut r (Reps.lo R.dom r0)⟩
    | obj C fs =>
      obtain ⟨dx0, f0, _, r0⟩ := x0
      obtain ⟨dx, fv, hx, r⟩ := x
      exact ⟨dx, fv, hx, cutF R.dom r0 r⟩
    | dct kvs =>
      obtain ⟨f0, _, r0⟩ := x0
      obtain ⟨fv, hx, r⟩ := x
      exact ⟨fv, hx, cutF R.dom r0 r⟩
  hd := fun p z => ⟨(R'.hd p z).1, fun n a => (R'.hd p z).2 n (Mu.cut_some a).2⟩
theorem Ext.cut {K : PySem.W.Frag} {H H' : Hp} {μ μ' : Mu} {h : Gh} (R : Rel K μ H h) (e : Ext K H μ H' μ') : Ext K H μ H' (μ'.cut h.nx) :=
  ⟨fun w v r => Rep.cut (e.r w v r) (Rep.lo R.dom r), fun p u z a => e.o p u z a⟩
theorem exit_ok {K : PySem.W.Frag} {H H' : Hp} {μ μ' : Mu} {h h' : Gh} {w : W} {v : V} {Q : WK} {pure : Bool} (R : Rel K μ H h) (e : Ext K H μ H' μ') (R' : Rel K μ' H' h') (r : Rep K H' μ' w v) (x : exitW pure h w h' Q) : DQ K H μ Q v H' := by
  cases pure with
  | false => exact ⟨μ', w, h', e, R', r, x⟩
  | true =>
    obtain ⟨hc0, ⟨lo, q⟩ | ⟨n, ws, ew, hn, ec, lo, q⟩⟩ := x
    all_goals have hc : ∀ n c, h.c n = some c → h'.c n = some c := fun n c a => hc0 n c (let ⟨p, m, _⟩ := R.cel n c a; R.dom n p m) a
    · exact ⟨μ'.cut h.nx, w, h, e.cut R, R.cut R' e hc, Rep.cut r lo, q⟩
    · subst ew
      refine ⟨μ'.cut h.nx, .lst ws, h, e.cut R, R.cut R' e hc, ?_, q⟩
      rw [Rep] at r
      rw [Rep]
      obtain ⟨p, ev, hm⟩ := r
      obtain ⟨p', xs, hm', hx, rs⟩ := R'.lstAt ec
      have ep : p' = p := by rw [hm] at hm'; exact (Option.some.inj hm').symm
      subst ep
      refine ⟨p', xs, ev, ⟨hx, fun m a => ?_, fun z => (R'.hd p' z).2 n hm⟩, Reps.cut rs lo⟩
      obtain ⟨a1, a2⟩ := Mu.cut_some a
      have := R'.inj m n p' a2 hm
      omega
theorem start_slots {K : PySem.W.Frag} {H : Hp} {μ : Mu} {N : List Str} : ∀ {ws : List W} {vs : List V}, Reps K H μ ws vs → Slots K H μ (ws.map some ++ List.replicate (N.length - ws.length) none) (start N vs) := by
  intro ws vs r
  have hl := r.len
  refine ⟨by simp [start, hl], fun i w q => ?_⟩
  by_cases hi : i < ws.length
  · rw [List.getElem?_append_left (by simpa using hi), List.getElem?_map] at q
    have q' : ws[i]? = some w := by
      cases e : ws[i]? with
      | none => rw [e] at q; cases q
      | some a => rw [e] at q; simpa using q
    obtain ⟨v, hv, rv⟩ := r.get q'
    refine ⟨v, ?_, rv⟩
    unfold start
    rw [List.getElem?_append_left (by rw [List.length_map]; omega), List.getElem?_map, hv]
    rfl
  · rw [List.getElem?_append_right (by simpa using hi), List.getElem?_replicate] at q
    split at q <;> cases q
theorem d_fn {P : Program} {w : World} {K : PySem.W.Frag} {mg : Str → Option Value} {base : Heap} {x qual : Str} {st : Stmt} {f : Addr} {fd : FuncData} {N ps : List Str} {k : Nat} {pure : Bool} {body : XWK → MS} (F : Fun K x qual st f fd) (S : FnScope N ps (defScope st))
    (hb : ∀ (cdv : Value) (A : Around) (outer : List Env) (s : Shared) (H : Hp) (E : XK), Room k (A.deeper (envOfC qual (defScope st) s.heap.objs.size f cdv)) →
      DSs (cxOf CX0 P w K mg base N qual (defScope st) f cdv A outer s H E).nox (defBody st) (body EF)) : FnOk P w K mg base CX0 (k + 1) f fd ps (lift K (mFn ps.length N.length pure body)) := by
  refine F.ok S (fun vs H Q E ⟨μ, h, ws, Qw, R, r, m, k⟩ => by rw [← r.len]; exact (mFn_ok m).1) (fun cdv A outer s H vs Q E hr ⟨μ, h, ws, Qw, R, r, m0, k⟩ => ?_)
  obtain ⟨hl, m⟩ := mFn_ok m0
  refine ⟨_, hb cdv A outer s H E hr, μ, h, _, _, R, start_slots r, m, ?_, ?_, ?_, ?_⟩
  · rintro σ' H' ⟨μ1, σw1, h1, e1, R1, S1, m1⟩
    exact k _ _ (exit_ok (w := .non) R e1 R1 (by rw [Rep]) m1)
  · rintro v H' ⟨μ1, w1, h1, e1, R1, r1, m1⟩
    exact k _ _ (exit_ok R e1 R1 r1 m1)
  · rintro σ' H' ⟨μ1, σw1, h1, e1, R1, S1, m1⟩
    exact m1.elim
  · rintro σ' H' ⟨μ1, σw1, h1, e1, R1, S1, m1⟩
    exact m1.elim
end
end L2
namespace L2
open PySem PySem.Spec PyProof.Rows
section
variable {X : Cx} {K : PySem.W.Frag}
theorem DQ.int {H : Hp} {μ : Mu} {h : Gh} {i : Int} {Q : WK} (R : Rel K μ H h) (q : Q (.int i) h) : DQ K H μ Q (.int i) H := ⟨μ, .int i, h, .refl, R, by rw [Rep], q⟩
theorem DQ.bl {H : Hp} {μ : Mu} {h : Gh} {i : Bool} {Q : WK} (R : Rel K μ H h) (q : Q (.bl i) h) : DQ K H μ Q (.bl i) H := ⟨μ, .bl i, h, .refl, R, by rw [Rep], q⟩
def kI (C : Int → Int → Prop) (g : Int → Int → Int) : M2 := fun x y h Q => match x, y with
  | .int i, .int j => C i j ∧ Q (.int (g i j)) h
  | _, _ => False
def kSub : M2 := fun x y h Q => match x, y with
  | .int i, .int j => Q (.int (i - j)) h
  | _, _ => False
theorem o_sub : DOp X (binaryOp .Sub) kSub := ⟨_, op_sub, by
  intro H μ h x y wx wy Qw Q R rx ry m k
  unfold kSub at m
  split at m
  · rw [Rep] at rx ry
    exact ⟨_, _, rx, ry, k _ _ (.int R m)⟩
  · exact m.elim⟩
def kMul : M2 := fun x y h Q => match x, y with
  | .int i, .int j => CMulB i j ∧ Q (.int (i * j)) h
  | _, _ => False
theorem o_mul : DOp X (binaryOp .Mult) kMul := ⟨_, op_mulB, by
  intro H μ h x y wx wy Qw Q R rx ry m k
  unfold kMul at m
  split at m
  · rw [Rep] at rx ry
    exact ⟨_, _, rx, ry, m.1, k _ _ (.int R m.2)⟩
  · exact m.elim⟩
def kDiv : M2 := fun x y h Q => match x, y with
  | .int i, .int j => CDivBN i j ∧ Q (.int (i.fdiv j)) h
  | _, _ => False
theorem o_div : DOp X (binaryOp .FloorDiv) kDiv := ⟨_, op_fdivBN, by
  intro H μ h x y wx wy Qw Q R rx ry m k
  unfold kDiv at m
  split at m
  · rw [Rep] at rx ry
    exact ⟨_, _, rx, ry, m.1, k _ _ (.int R m.2)⟩
  · exact m.elim⟩
def kMod : M2 := fun x y h Q => match x, y with
  | .int i, .int j => j ≠ 0 ∧ Q (.int (i.fmod j)) h
  | _, _ => False
theorem o_mod : DOp X (binaryOp .Mod) kMod := ⟨_, op_modN, by
  intro H μ h x y wx wy Qw Q R rx ry m k
  unfold kMod at m
  split at m
  · rw [Rep] at rx ry
    exact ⟨_, _, rx, ry, m.1, k _ _ (.int R m.2)⟩
  · exact m.elim⟩
def kPow : M2 := fun x y h Q => match x, y with
  | .int i, .int j => CPow i j ∧ Q (.int (i ^ j.toNat)) h
  | _, _ => False
theorem o_pow : DOp X (binaryOp .Pow) kPow := ⟨_, op_pow, by
  intro H μ h x y wx wy Qw Q R rx ry m k
  unfold kPow at m
  split at m
  · rw [Rep] at rx ry
    exact ⟨_, _, rx, ry, m.1, k _ _ (.int R m.2)⟩
  · exact m.elim⟩
def kLt : M2 := fun x y h Q => match x, y with
  | .int i, .int j => Q (.bl (decide (i < j))) h
  | _, _ => False
theorem o_lt : DOp X (compareOp .Lt) kLt := ⟨_, op_lt, by
  intro H μ h x y wx wy Qw Q R rx ry m k
  unfold kLt at m
  split at m
  · rw [Rep] at rx ry
    exact ⟨_, _, rx, ry, k _ _ (.bl R m)⟩
  · exact m.elim⟩
def kGt : M2 := fun x y h Q => match x, y with
  | .int i, .int j => Q (.bl (decide (j < i))) h
  | _, _ => False
theorem o_gt : DOp X (compareOp .Gt) kGt := ⟨_, op_gt, by
  intro H μ h x y wx wy Qw Q R rx ry m k
  unfold kGt at m
  split at m
  · rw [Rep] at rx ry
    exact ⟨_, _, rx, ry, k _ _ (.bl R m)⟩
  · exact m.elim⟩
def kGe : M2 := fun x y h Q => match x, y with
  | .int i, .int j => Q (.bl (decide (j ≤ i))) h
  | _, _ => False
theorem o_ge : DOp X (compareOp .GtE) kGe := ⟨_, op_ge, by
  intro H μ h x y wx wy Qw Q R rx ry m k
  unfold kGe at m
  split at m
  · rw [Rep] at rx ry
    exact ⟨_, _, rx, ry, k _ _ (.bl R m)⟩
  · exact m.elim⟩
theorem Reps.ne_nil {H : Hp} {μ : Mu} {ws : List W} {xs : List V} (r : Reps K H μ ws xs) : xs = [] ↔ ws = [] := by
  have := r.len
  constructor
  · intro e; subst e; exact List.eq_nil_of_length_eq_zero this
  · intro e; subst e; exact List.eq_nil_of_length_eq_zero this.symm
def kIx : M2 := fun x y h Q => match y with
  | .int i => (match view h x with
    | some ws => (match atI ws i with
      | some w => Q w h
      | none => False)
    | none => False)
  | _ => False
theorem Reps.at {H : Hp} {μ : Mu} {ws : List W} {xs : List V} {i : Int} {w : W} (r : Reps K H μ ws xs) (e : atI ws i = some w) : ∃ v, atI xs i = some v ∧ Rep K H μ w v := by
  unfold atI at e ⊢
  rw [← r.len]
  cases q : ixN ws.length i with
  | none => rw [q] at e; cases e
  | some j => rw [q] at e; exact r.get e
theorem viewL_ok {H : Hp} {μ : Mu} {h : Gh} {w : W} {v : V} {ws : List W} (R : Rel K μ H h) (r : Rep K H μ w v) (e : viewL h w = some ws) : ∃ p xs, v = .ref p ∧ SqL K H p xs ∧ Reps K H μ ws xs := by
  cases w with
  | lst us =>
    rw [Rep] at r
    obtain ⟨p, xs, ev, hs, rs⟩ := r
    cases (show some us = some ws from e)
    exact ⟨p, xs, ev, hs.sq, rs⟩
  | kls us =>
    rw [Rep] at r
    obtain ⟨p, xs, ev, hs, rs⟩ := r
    cases (show some us = some ws from e)
    exact ⟨p, xs, ev, hs.sq, rs⟩
  | loc n =>
    rw [Rep] at r
    obtain ⟨p, ev, hm⟩ := r
    unfold viewL at e
    dsimp only at e
    cases ec : h.c n with
    | none => rw [ec] at e; cases e
    | some cl =>
      rw [ec] at e
      cases cl with
      | lst us =>
        cases (show some us = some ws from e)
        obtain ⟨p', xs, hm', hx, rs⟩ := R.lstAt ec
        have ep : p' = p := by rw [hm] at hm'; exact (Option.some.inj hm').symm
        subst ep
        exact ⟨p', xs, ev, .of hx, rs⟩
      | _ => cases e
  | _ => cases e
theorem view_ok {H : Hp} {μ : Mu} {h : Gh} {w : W} {v : V} {ws : List W} (R : Rel K μ H h) (r : Rep K H μ w v) (e : view h w = some ws) : ∃ p xs, v = .ref p ∧ (SqL K H p xs ∨ SqT K H p xs) ∧ Reps K H μ ws xs := by
  cases w with
  | tup us =>
    rw [Rep] at r
    obtain ⟨p, xs, ev, hs, rs⟩ := r
    cases (show some us = some ws from e)
    exact ⟨p, xs, ev, .inr hs, rs⟩
  | lst us =>
    obtain ⟨p, xs, ev, hs, rs⟩ := viewL_ok (ws := ws) R r e
    exact ⟨p, xs, ev, .inl hs, rs⟩
  | kls us =>
    obtain ⟨p, xs, ev, hs, rs⟩ := viewL_ok (ws := ws) R r e
    exact ⟨p, xs, ev, .inl hs, rs⟩
  | loc n =>
    obtain ⟨p, xs, ev, hs, rs⟩ := viewL_ok (ws := ws) R r e
    exact ⟨p, xs, ev, .inl hs, rs⟩
  | _ => cases e
theorem sim_ix : Sim2 K (rIx K) kIx := by
  intro H μ h x y wx wy Qw Q R rx ry m k
  unfold kIx at m
  split at m
  · rename_i i
    split at m
    · rename_i ws ev
      split at m
      · rename_i w ew
        obtain ⟨p, xs, ex, hs, rs⟩ := view_ok R rx ev
        obtain ⟨v, hv, rv⟩ := rs.at ew
        rw [Rep] at ry
        have fin := k _ _ ⟨μ, w, h, .refl, R, rv, m⟩
        rcases hs with hs | hs
        · exact .inl ⟨p, xs, i, v, ex, ry, hs, hv, fin⟩
        · exact .inr (.inl ⟨p, xs, i, v, ex, ry, hs, hv, fin⟩)
      · exact m.elim
    · exact m.elim
  · exact m.elim
theorem d_ix {a b : Expr} {ma mb : ME} {pos : Pos} (ha : DE X a ma) (hb : DE X b mb) (hs : PlainIx b) : DE X (.Subscript a b pos) (mOp kIx ma mb) := (pe_ix ix_seq ha hb hs).of fun σ H Q h => two h fun R r1 r2 m k => sim_ix R r1 r2 m k
end
end L2
namespace L2
open PySem PySem.Spec PyProof.Rows
mutual
def eqW : W → W → Bool
  | .non, .non => true
  | .bl a, .bl b => a == b
  | .bl a, .int b => (if a then 1 else 0) == b
  | .int a, .bl b => a == (if b then 1 else 0)
  | .int a, .int b => a == b
  | .str a, .str b => a == b
  | .tup a, .tup b => eqWs a b
  | .lst a, .lst b => eqWs a b
  | _, _ => false
def eqWs : List W → List W → Bool
  | [], [] => true
  | a :: as, b :: bs => eqW a b && eqWs as bs
  | _, _ => false
end
def plW : Nat → W → Bool
  | _, .non => true
  | _, .bl _ => true
  | _, .int _ => true
  | _, .str _ => true
  | n + 1, .tup ws => ws.all (plW n)
  | n + 1, .lst ws => ws.all (plW n)
  | _, _ => false
mutual
def Dt (K : PySem.W.Frag) (H : Hp) : W → V → Prop
  | .non, v => v = .non
  | .bl b, v => v = .bl b
  | .int i, v => v = .int i
  | .str x, v => v = .str x
  | .tup ws, v => ∃ p xs, v = .ref p ∧ SqT K H p xs ∧ Dts K H ws xs
  | .lst ws, v => ∃ p xs, v = .ref p ∧ SqL K H p xs ∧ Dts K H ws xs
  | .ty _, _ => False
  | .kls _, _ => False
  | .loc _, _ => False
def Dts (K : PySem.W.Frag) (H : Hp) : List W → List V → Prop
  | [], xs => xs = []
  | w :: ws, xs => ∃ v vs, xs = v :: vs ∧ Dt K H w v ∧ Dts K H ws vs
end
section
variable {X : Cx} {K : PySem.W.Frag} {H : Hp} {μ : Mu} {h : Gh}
theorem Dts.len : ∀ {ws : List W} {xs : List V}, Dts K H ws xs → ws.length = xs.length
  | [], xs, h => by
    have e : xs = [] := by rw [Dts] at h; exact h
    rw [e]; rfl
  | w :: ws, xs, h => by
    rw [Dts] at h
    obtain ⟨v, vs, e, _, h⟩ := h
    rw [e, List.length_cons, List.length_cons, Dts.len h]
theorem Dts.get : ∀ {ws : List W} {xs : List V} {i : Nat} {w : W}, Dts K H ws xs → ws[i]? = some w → ∃ v, xs[i]? = some v ∧ Dt K H w v
  | [], _, _, _, _, e => by simp at e
  | a :: ws, xs, 0, w, h, e => by
    rw [Dts] at h
    obtain ⟨v, vs, e1, r, _⟩ := h
    simp at e; subst e; subst e1
    exact ⟨v, rfl, r⟩
  | a :: ws, xs, i + 1, w, h, e => by
    rw [Dts] at h
    obtain ⟨v, vs, e1, _, h⟩ := h
    subst e1
    obtain ⟨u, h1, h2⟩ := Dts.get (i := i) (w := w) h (by simpa using e)
    exact ⟨u, by simpa using h1, h2⟩
theorem dts_of {n : Nat} (one : ∀ {w : W} {v : V}, Rep K H μ w v → plW n w = true → Dt K H w v) : ∀ {ws : List W} {xs : List V}, Reps K H μ ws xs → ws.all (plW n) = true → Dts K H ws xs
  | [], _, h, _ => by rw [Reps] at h; rw [Dts]; exact h
  | w :: ws, _, h, p => by
    rw [Reps] at h
    rw [Dts]
    obtain ⟨v, vs, e, r, h⟩ := h
    rw [List.all_cons, Bool.and_eq_true] at p
    exact ⟨v, vs, e, one r p.1, dts_of one h p.2⟩
theorem dt_of : ∀ (n : Nat) {w : W} {v : V}, Rep K H μ w v → plW n w = true → Dt K H w v := by
  intro n
  induction n with
  | zero =>
    intro w v r p
    cases w with
    | non => rw [Rep] at r; rw [Dt]; exact r
    | bl _ => rw [Rep] at r; rw [Dt]; exact r
    | int _ => rw [Rep] at r; rw [Dt]; exact r
    | str _ => rw [Rep] at r; rw [Dt]; exact r
    | _ => simp [plW] at p
  | succ n ih =>
    intro w v r p
    cases w with
    | non => rw [Rep] at r; rw [Dt]; exact r
    | bl _ => rw [Rep] at r; rw [Dt]; exact r
    | int _ => rw [Rep] at r; rw [Dt]; exact r
    | str _ => rw [Rep] at r; rw [Dt]; exact r
    | tup ws =>
      rw [Rep] at r; rw [Dt]
      obtain ⟨p', xs, e, hs, rs⟩ := r
      exact ⟨p', xs, e, hs, dts_of ih rs (by simpa [plW] using p)⟩
    | lst ws =>
      rw [Rep] at r; rw [Dt]
      obtain ⟨p', xs, e, hs, rs⟩ := r
      exact ⟨p', xs, e, hs.sq, dts_of ih rs (by simpa [plW] using p)⟩
    | _ => simp [plW] at p
theorem eqWs_len : ∀ {a b : List W}, a.length ≠ b.length → eqWs a b = false
  | [], [], h => absurd rfl h
  | [], _ :: _, _ => by simp [eqWs]
  | _ :: _, [], _ => by simp [eqWs]
  | a :: as, b :: bs, h => by
    rw [eqWs, eqWs_len (a := as) (b := bs) (by simpa using h), Bool.and_false]
def eqJW (a b : List W) (j : Nat) : Bool := eqW (a.getD j .non) (b.getD j .non)
theorem all_eqJW : ∀ {a b : List W}, a.length = b.length → (List.range a.length).all (eqJW a b) = eqWs a b
  | [], [], _ => by simp [eqWs]
  | [], _ :: _, h => by simp at h
  | _ :: _, [], h => by simp at h
  | a :: as, b :: bs, h => by
    rw [eqWs, ← all_eqJW (a := as) (b := bs) (by simpa using h), List.length_cons, List.range_succ_eq_map, List.all_cons, List.all_map]
    rfl
mutual
theorem eqW_same {pins : List (Addr × Obj)} {s : Shared} {σ : St} (I : Inv X pins σ H s) : ∀ {w u : W} {v : V}, Dt X.K H w v → Dt X.K H u v → eqW w u = true
  | .non, u, v, h, g => by rw [Dt] at h; subst h; cases u <;> rw [Dt] at g <;> first | rfl | exact g.elim | (obtain ⟨_, _, g, _⟩ := g; cases g; done) | (cases g; done)
  | .bl b, u, v, h, g => by rw [Dt] at h; subst h; cases u <;> rw [Dt] at g <;> first | (injection g with g; simp [eqW, g]; done) | exact g.elim | (obtain ⟨_, _, g, _⟩ := g; cases g; done) | (cases g; done)
  | .int b, u, v, h, g => by rw [Dt] at h; subst h; cases u <;> rw [Dt] at g <;> first | (injection g with g; simp [eqW, g]; done) | exact g.elim | (obtain ⟨_, _, g, _⟩ := g; cases g; done) | (cases g; done)
  | .str b, u, v, h, g => by rw [Dt] at h; subst h; cases u <;> rw [Dt] at g <;> first | (injection g with g; simp [eqW, g]; done) | exact g.elim | (obtain ⟨_, _, g, _⟩ := g; cases g; done) | (cases g; done)
  | .tup ws, u, v, h, g => by
    rw [Dt] at h
    obtain ⟨p, xs, e, hs, ds⟩ := h
    subst e
    cases u with
    | tup us =>
      rw [Dt] at g
      obtain ⟨p', xs', e', hs', ds'⟩ := g
      cases e'
      have := I.tuple_inj hs hs'
      subst this
      rw [eqW]
      exact eqWs_same I ds ds'
    | lst us =>
      rw [Dt] at g
      obtain ⟨p', xs', e', hs', ds'⟩ := g
      cases e'
      obtain ⟨_, _, t, _⟩ := I.tuple hs
      obtain ⟨_, _, l, _⟩ := I.list hs'
      exact absurd rfl (SeqAt.ne_of_list_tuple l.isList (show s.heap.IsTuple _ _ from t))
    | ty _ => rw [Dt] at g; exact g.elim
    | loc _ => rw [Dt] at g; exact g.elim
    | kls _ => rw [Dt] at g; exact g.elim
    | _ => rw [Dt] at g; cases g
  | .lst ws, u, v, h, g => by
    rw [Dt] at h
    obtain ⟨p, xs, e, hs, ds⟩ := h
    subst e
    cases u with
    | lst us =>
      rw [Dt] at g
      obtain ⟨p', xs', e', hs', ds'⟩ := g
      cases e'
      have := I.list_inj hs hs'
      subst this
      rw [eqW]
      exact eqWs_same I ds ds'
    | tup us =>
      rw [Dt] at g
      obtain ⟨p', xs', e', hs', ds'⟩ := g
      cases e'
      obtain ⟨_, _, t, _⟩ := I.tuple hs'
      obtain ⟨_, _, l, _⟩ := I.list hs
      exact absurd rfl (SeqAt.ne_of_list_tuple l.isList (show s.heap.IsTuple _ _ from t))
    | ty _ => rw [Dt] at g; exact g.elim
    | loc _ => rw [Dt] at g; exact g.elim
    | kls _ => rw [Dt] at g; exact g.elim
    | _ => rw [Dt] at g; cases g
  | .ty _, _, _, h, _ => by rw [Dt] at h; exact h.elim
  | .loc _, _, _, h, _ => by rw [Dt] at h; exact h.elim
  | .kls _, _, _, h, _ => by rw [Dt] at h; exact h.elim
theorem eqWs_same {pins : List (Addr × Obj)} {s : Shared} {σ : St} (I : Inv X pins σ H s) : ∀ {ws us : List W} {vs : List V}, Dts X.K H ws vs → Dts X.K H us vs → eqWs ws us = true
  | [], us, vs, h, g => by
    rw [Dts] at h; subst h
    cases us with
    | nil => rfl
    | cons _ _ => rw [Dts] at g; obtain ⟨_, _, g, _⟩ := g; cases g
  | w :: ws, us, vs, h, g => by
    rw [Dts] at h
    obtain ⟨v, vs', e, h1, h2⟩ := h
    subst e
    cases us with
    | nil => rw [Dts] at g; cases g
    | cons u us =>
      rw [Dts] at g
      obtain ⟨v', vs'', e', g1, g2⟩ := g
      cases e'
      rw [eqWs, eqW_same I h1 g1, eqWs_same I h2 g2]
      rfl
end

theorem in1_units {A : Around} : A.in1.units = A.units + 1 := rfl
theorem plW_tup {n : Nat} {ws : List W} (h : plW n (.tup ws) = true) : ∃ m, n = m + 1 ∧ ws.all (plW m) = true := by
  cases n with
  | zero => simp [plW] at h
  | succ m => exact ⟨m, rfl, by simpa [plW] using h⟩
theorem plW_lst {n : Nat} {ws : List W} (h : plW n (.lst ws) = true) : ∃ m, n = m + 1 ∧ ws.all (plW m) = true := by
  cases n with
  | zero => simp [plW] at h
  | succ m => exact ⟨m, rfl, by simpa [plW] using h⟩
theorem items_at {s : Shared} {A : Around} {n : Nat} {ws us : List W} {xs ys : List V} {its jts : List Value} (d1 : Dts K H ws xs) (d2 : Dts K H us ys) (p1 : ws.all (plW n) = true) (p2 : us.all (plW n) = true) (r1 : Vals xs its) (r2 : Vals ys jts)
    (one : ∀ {w u : W} {v x : V} {a b : Value}, Dt K H w v → Dt K H u x → plW n w = true → plW n u = true → RelV v a → RelV x b → SeqAt.EqAt A s a b (eqW w u)) :
    ∀ j (h1 : j < its.toArray.size) (h2 : j < jts.toArray.size), SeqAt.EqAt A s its.toArray[j] jts.toArray[j] (eqJW ws us j) := by
  intro j h1 h2
  have l1 : j < ws.length := by rw [d1.len, r1.length]; simpa using h1
  have l2 : j < us.length := by rw [d2.len, r2.length]; simpa using h2
  obtain ⟨v, ev, dv⟩ := d1.get (List.getElem?_eq_getElem l1)
  obtain ⟨x, ex, dx⟩ := d2.get (List.getElem?_eq_getElem l2)
  obtain ⟨a, ea, ra⟩ := r1.get ev
  obtain ⟨b, eb, rb⟩ := r2.get ex
  have ea' : its.toArray[j] = a := by simpa using (List.getElem?_eq_some_iff.mp ea).2
  have eb' : jts.toArray[j] = b := by simpa using (List.getElem?_eq_some_iff.mp eb).2
  have e : eqJW ws us j = eqW ws[j] us[j] := by
    unfold eqJW
    rw [List.getD_eq_getElem?_getD, List.getD_eq_getElem?_getD, List.getElem?_eq_getElem l1, List.getElem?_eq_getElem l2]
    rfl
  rw [ea', eb', e]
  exact one dv dx (List.all_eq_true.mp p1 _ (List.getElem_mem l1)) (List.all_eq_true.mp p2 _ (List.getElem_mem l2)) ra rb
theorem size_of {ws : List W} {xs : List V} {its : List Value} (d : Dts K H ws xs) (r : Vals xs its) : its.toArray.size = ws.length := by
  rw [d.len, r.length]; simp
theorem tup_all {ws us : List W} : ((List.range (min ws.length us.length)).all (eqJW ws us) && ws.length == us.length) = eqWs ws us := by
  by_cases e : ws.length = us.length
  · rw [← e, Nat.min_self, all_eqJW e]; simp
  · rw [eqWs_len e]
    have e2 : (ws.length == us.length) = false := beq_eq_false_iff_ne.mpr e
    rw [e2, Bool.and_false]
theorem eqAtW {pins : List (Addr × Obj)} {s : Shared} {σ : St} (I : Inv X pins σ H s) : ∀ (n : Nat) {A : Around} {w u : W} {v x : V} {a b : Value}, A.units + n < cLine → Dt X.K H w v → Dt X.K H u x → plW n w = true → plW n u = true → RelV v a → RelV x b → SeqAt.EqAt A s a b (eqW w u) := by
  intro n
  induction n with
  | zero =>
    intro A w u v x a b hu dw du pw pu ra rb
    have hu' : A.units < cLine := by omega
    cases w with
    | non =>
      cases u with
      | non => rw [Dt] at dw; rw [Dt] at du; subst dw; subst du; exact eqAt_V ra rb rfl rfl
      | bl j => rw [Dt] at dw; rw [Dt] at du; subst dw; subst du; exact eqAt_V ra rb rfl rfl
      | int j => rw [Dt] at dw; rw [Dt] at du; subst dw; subst du; exact eqAt_V ra rb rfl rfl
      | str j => rw [Dt] at dw; rw [Dt] at du; subst dw; subst du; exact eqAt_V ra rb rfl rfl
      | _ => simp [plW] at pu
    | bl i =>
      cases u with
      | non => rw [Dt] at dw; rw [Dt] at du; subst dw; subst du; exact eqAt_V ra rb rfl rfl
      | bl j => rw [Dt] at dw; rw [Dt] at du; subst dw; subst du; exact eqAt_V ra rb rfl rfl
      | int j => rw [Dt] at dw; rw [Dt] at du; subst dw; subst du; exact eqAt_V ra rb rfl rfl
      | str j => rw [Dt] at dw; rw [Dt] at du; subst dw; subst du; exact eqAt_V ra rb rfl rfl
      | _ => simp [plW] at pu
    | int i =>
      cases u with
      | non => rw [Dt] at dw; rw [Dt] at du; subst dw; subst du; exact eqAt_V ra rb rfl rfl
      | bl j => rw [Dt] at dw; rw [Dt] at du; subst dw; subst du; exact eqAt_V ra rb rfl rfl
      | int j => rw [Dt] at dw; rw [Dt] at du; subst dw; subst du; exact eqAt_V ra rb rfl rfl
      | str j => rw [Dt] at dw; rw [Dt] at du; subst dw; subst du; exact eqAt_V ra rb rfl rfl
      | _ => simp [plW] at pu
    | str i =>
      cases u with
      | non => rw [Dt] at dw; rw [Dt] at du; subst dw; subst du; exact eqAt_V ra rb rfl rfl
      | bl j => rw [Dt] at dw; rw [Dt] at du; subst dw; subst du; exact eqAt_V ra rb rfl rfl
      | int j => rw [Dt] at dw; rw [Dt] at du; subst dw; subst du; exact eqAt_V ra rb rfl rfl
      | str j => rw [Dt] at dw; rw [Dt] at du; subst dw; subst du; exact eqAt_V ra rb rfl rfl
      | _ => simp [plW] at pu
    | _ => simp [plW] at pw
  | succ n ih =>
    intro A w u v x a b hu dw du pw pu ra rb
    have hu' : A.units < cLine := by omega
    have hu1 : A.in1.units + n < cLine := by rw [in1_units]; omega
    cases w with
    | non =>
      cases u with
      | non => rw [Dt] at dw; rw [Dt] at du; subst dw; subst du; exact eqAt_V ra rb rfl rfl
      | bl j => rw [Dt] at dw; rw [Dt] at du; subst dw; subst du; exact eqAt_V ra rb rfl rfl
      | int j => rw [Dt] at dw; rw [Dt] at du; subst dw; subst du; exact eqAt_V ra rb rfl rfl
      | str j => rw [Dt] at dw; rw [Dt] at du; subst dw; subst du; exact eqAt_V ra rb rfl rfl
      | tup us =>
        rw [Dt] at dw; subst dw; cases ra
        rw [Dt] at du; obtain ⟨p2, xs2, e2, hs2, ds2⟩ := du; subst e2; cases rb; obtain ⟨its2, rv2, pl2, hz2⟩ := I.tuple hs2; have q2 : s.heap.IsTuple p2 its2.toArray := pl2
        first | (apply SeqAt.EqAt.none_tuple <;> assumption) | (rw [eqW]; apply SeqAt.EqAt.none_tuple <;> assumption) | (show SeqAt.EqAt A s _ _ false; apply SeqAt.EqAt.none_tuple <;> assumption)
      | lst us =>
        rw [Dt] at dw; subst dw; cases ra
        rw [Dt] at du; obtain ⟨p2, xs2, e2, hs2, ds2⟩ := du; subst e2; cases rb; obtain ⟨its2, rv2, pl2, hz2⟩ := I.list hs2; have q2 := pl2.isList
        first | (apply SeqAt.EqAt.none_list <;> assumption) | (rw [eqW]; apply SeqAt.EqAt.none_list <;> assumption) | (show SeqAt.EqAt A s _ _ false; apply SeqAt.EqAt.none_list <;> assumption)
      | _ => simp [plW] at pu
    | bl i =>
      cases u with
      | non => rw [Dt] at dw; rw [Dt] at du; subst dw; subst du; exact eqAt_V ra rb rfl rfl
      | bl j => rw [Dt] at dw; rw [Dt] at du; subst dw; subst du; exact eqAt_V ra rb rfl rfl
      | int j => rw [Dt] at dw; rw [Dt] at du; subst dw; subst du; exact eqAt_V ra rb rfl rfl
      | str j => rw [Dt] at dw; rw [Dt] at du; subst dw; subst du; exact eqAt_V ra rb rfl rfl
      | tup us =>
        rw [Dt] at dw; subst dw; cases ra
        rw [Dt] at du; obtain ⟨p2, xs2, e2, hs2, ds2⟩ := du; subst e2; cases rb; obtain ⟨its2, rv2, pl2, hz2⟩ := I.tuple hs2; have q2 : s.heap.IsTuple p2 its2.toArray := pl2
        first | (apply SeqAt.EqAt.bool_tuple <;> assumption) | (rw [eqW]; apply SeqAt.EqAt.bool_tuple <;> assumption) | (show SeqAt.EqAt A s _ _ false; apply SeqAt.EqAt.bool_tuple <;> assumption)
      | lst us =>
        rw [Dt] at dw; subst dw; cases ra
        rw [Dt] at du; obtain ⟨p2, xs2, e2, hs2, ds2⟩ := du; subst e2; cases rb; obtain ⟨its2, rv2, pl2, hz2⟩ := I.list hs2; have q2 := pl2.isList
        first | (apply SeqAt.EqAt.bool_list <;> assumption) | (rw [eqW]; apply SeqAt.EqAt.bool_list <;> assumption) | (show SeqAt.EqAt A s _ _ false; apply SeqAt.EqAt.bool_list <;> assumption)
      | _ => simp [plW] at pu
    | int i =>
      cases u with
      | non => rw [Dt] at dw; rw [Dt] at du; subst dw; subst du; exact eqAt_V ra rb rfl rfl
      | bl j => rw [Dt] at dw; rw [Dt] at du; subst dw; subst du; exact eqAt_V ra rb rfl rfl
      | int j => rw [Dt] at dw; rw [Dt] at du; subst dw; subst du; exact eqAt_V ra rb rfl rfl
      | str j => rw [Dt] at dw; rw [Dt] at du; subst dw; subst du; exact eqAt_V ra rb rfl rfl
      | tup us =>
        rw [Dt] at dw; subst dw; obtain ⟨t1, ra⟩ := ra; subst ra
        rw [Dt] at du; obtain ⟨p2, xs2, e2, hs2, ds2⟩ := du; subst e2; cases rb; obtain ⟨its2, rv2, pl2, hz2⟩ := I.tuple hs2; have q2 : s.heap.IsTuple p2 its2.toArray := pl2
        first | (apply SeqAt.EqAt.int_tuple <;> assumption) | (rw [eqW]; apply SeqAt.EqAt.int_tuple <;> assumption) | (show SeqAt.EqAt A s _ _ false; apply SeqAt.EqAt.int_tuple <;> assumption)
      | lst us =>
        rw [Dt] at dw; subst dw; obtain ⟨t1, ra⟩ := ra; subst ra
        rw [Dt] at du; obtain ⟨p2, xs2, e2, hs2, ds2⟩ := du; subst e2; cases rb; obtain ⟨its2, rv2, pl2, hz2⟩ := I.list hs2; have q2 := pl2.isList
        first | (apply SeqAt.EqAt.int_list <;> assumption) | (rw [eqW]; apply SeqAt.EqAt.int_list <;> assumption) | (show SeqAt.EqAt A s _ _ false; apply SeqAt.EqAt.int_list <;> assumption)
      | _ => simp [plW] at pu
    | str i =>
      cases u with
      | non => rw [Dt] at dw; rw [Dt] at du; subst dw; subst du; exact eqAt_V ra rb rfl rfl
      | bl j => rw [Dt] at dw; rw [Dt] at du; subst dw; subst du; exact eqAt_V ra rb rfl rfl
      | int j => rw [Dt] at dw; rw [Dt] at du; subst dw; subst du; exact eqAt_V ra rb rfl rfl
      | str j => rw [Dt] at dw; rw [Dt] at du; subst dw; subst du; exact eqAt_V ra rb rfl rfl
      | tup us =>
        rw [Dt] at dw; subst dw; obtain ⟨t1, ra⟩ := ra; subst ra
        rw [Dt] at du; obtain ⟨p2, xs2, e2, hs2, ds2⟩ := du; subst e2; cases rb; obtain ⟨its2, rv2, pl2, hz2⟩ := I.tuple hs2; have q2 : s.heap.IsTuple p2 its2.toArray := pl2
        first | (apply SeqAt.EqAt.str_tuple <;> assumption) | (rw [eqW]; apply SeqAt.EqAt.str_tuple <;> assumption) | (show SeqAt.EqAt A s _ _ false; apply SeqAt.EqAt.str_tuple <;> assumption)
      | lst us =>
        rw [Dt] at dw; subst dw; obtain ⟨t1, ra⟩ := ra; subst ra
        rw [Dt] at du; obtain ⟨p2, xs2, e2, hs2, ds2⟩ := du; subst e2; cases rb; obtain ⟨its2, rv2, pl2, hz2⟩ := I.list hs2; have q2 := pl2.isList
        first | (apply SeqAt.EqAt.str_list <;> assumption) | (rw [eqW]; apply SeqAt.EqAt.str_list <;> assumption) | (show SeqAt.EqAt A s _ _ false; apply SeqAt.EqAt.str_list <;> assumption)
      | _ => simp [plW] at pu
    | tup ws =>
      cases u with
      | non =>
        rw [Dt] at dw; obtain ⟨p1, xs1, e1, hs1, ds1⟩ := dw; subst e1; cases ra; obtain ⟨its1, rv1, pl1, hz1⟩ := I.tuple hs1; have q1 : s.heap.IsTuple p1 its1.toArray := pl1
        rw [Dt] at du; subst du; cases rb
        first | (apply SeqAt.EqAt.tuple_none <;> assumption) | (rw [eqW]; apply SeqAt.EqAt.tuple_none <;> assumption) | (show SeqAt.EqAt A s _ _ false; apply SeqAt.EqAt.tuple_none <;> assumption)
      | bl j =>
        rw [Dt] at dw; obtain ⟨p1, xs1, e1, hs1, ds1⟩ := dw; subst e1; cases ra; obtain ⟨its1, rv1, pl1, hz1⟩ := I.tuple hs1; have q1 : s.heap.IsTuple p1 its1.toArray := pl1
        rw [Dt] at du; subst du; cases rb
        first | (apply SeqAt.EqAt.tuple_bool <;> assumption) | (rw [eqW]; apply SeqAt.EqAt.tuple_bool <;> assumption) | (show SeqAt.EqAt A s _ _ false; apply SeqAt.EqAt.tuple_bool <;> assumption)
      | int j =>
        rw [Dt] at dw; obtain ⟨p1, xs1, e1, hs1, ds1⟩ := dw; subst e1; cases ra; obtain ⟨its1, rv1, pl1, hz1⟩ := I.tuple hs1; have q1 : s.heap.IsTuple p1 its1.toArray := pl1
        rw [Dt] at du; subst du; obtain ⟨t2, rb⟩ := rb; subst rb
        first | (apply SeqAt.EqAt.tuple_int <;> assumption) | (rw [eqW]; apply SeqAt.EqAt.tuple_int <;> assumption) | (show SeqAt.EqAt A s _ _ false; apply SeqAt.EqAt.tuple_int <;> assumption)
      | str j =>
        rw [Dt] at dw; obtain ⟨p1, xs1, e1, hs1, ds1⟩ := dw; subst e1; cases ra; obtain ⟨its1, rv1, pl1, hz1⟩ := I.tuple hs1; have q1 : s.heap.IsTuple p1 its1.toArray := pl1
        rw [Dt] at du; subst du; obtain ⟨t2, rb⟩ := rb; subst rb
        first | (apply SeqAt.EqAt.tuple_str <;> assumption) | (rw [eqW]; apply SeqAt.EqAt.tuple_str <;> assumption) | (show SeqAt.EqAt A s _ _ false; apply SeqAt.EqAt.tuple_str <;> assumption)
      | tup us =>
        have dw0 := dw; have du0 := du
        rw [Dt] at dw; obtain ⟨p1, xs1, e1, hs1, ds1⟩ := dw; subst e1; cases ra; obtain ⟨its1, rv1, pl1, hz1⟩ := I.tuple hs1; have q1 : s.heap.IsTuple p1 its1.toArray := pl1
        rw [Dt] at du; obtain ⟨p2, xs2, e2, hs2, ds2⟩ := du; subst e2; cases rb; obtain ⟨its2, rv2, pl2, hz2⟩ := I.tuple hs2; have q2 : s.heap.IsTuple p2 its2.toArray := pl2
        have pw : ws.all (plW n) = true := by simpa [plW] using pw
        have pu : us.all (plW n) = true := by simpa [plW] using pu
        by_cases hp : p1 = p2
        · subst hp; rw [eqW_same I dw0 du0]; exact SeqAt.EqAt.same _
        · refine SeqAt.EqAt.of_refs hp ?_
          have z := SeqAt.RcAt.tuples q1 q2 hu' (items_at ds1 ds2 pw pu rv1 rv2 (fun a b c d e f => ih hu1 a b c d e f))
          rw [size_of ds1 rv1, size_of ds2 rv2, tup_all] at z
          rw [eqW]; exact z
      | lst us =>
        rw [Dt] at dw; obtain ⟨p1, xs1, e1, hs1, ds1⟩ := dw; subst e1; cases ra; obtain ⟨its1, rv1, pl1, hz1⟩ := I.tuple hs1; have q1 : s.heap.IsTuple p1 its1.toArray := pl1
        rw [Dt] at du; obtain ⟨p2, xs2, e2, hs2, ds2⟩ := du; subst e2; cases rb; obtain ⟨its2, rv2, pl2, hz2⟩ := I.list hs2; have q2 := pl2.isList
        first | (apply SeqAt.EqAt.tuple_list <;> assumption) | (rw [eqW]; apply SeqAt.EqAt.tuple_list <;> assumption) | (show SeqAt.EqAt A s _ _ false; apply SeqAt.EqAt.tuple_list <;> assumption)
      | _ => simp [plW] at pu
    | lst ws =>
      cases u with
      | non =>
        rw [Dt] at dw; obtain ⟨p1, xs1, e1, hs1, ds1⟩ := dw; subst e1; cases ra; obtain ⟨its1, rv1, pl1, hz1⟩ := I.list hs1; have q1 := pl1.isList
        rw [Dt] at du; subst du; cases rb
        first | (apply SeqAt.EqAt.list_none <;> assumption) | (rw [eqW]; apply SeqAt.EqAt.list_none <;> assumption) | (show SeqAt.EqAt A s _ _ false; apply SeqAt.EqAt.list_none <;> assumption)
      | bl j =>
        rw [Dt] at dw; obtain ⟨p1, xs1, e1, hs1, ds1⟩ := dw; subst e1; cases ra; obtain ⟨its1, rv1, pl1, hz1⟩ := I.list hs1; have q1 := pl1.isList
        rw [Dt] at du; subst du; cases rb
        first | (apply SeqAt.EqAt.list_bool <;> assumption) | (rw [eqW]; apply SeqAt.EqAt.list_bool <;> assumption) | (show SeqAt.EqAt A s _ _ false; apply SeqAt.EqAt.list_bool <;> assumption)
      | int j =>
        rw [Dt] at dw; obtain ⟨p1, xs1, e1, hs1, ds1⟩ := dw; subst e1; cases ra; obtain ⟨its1, rv1, pl1, hz1⟩ := I.list hs1; have q1 := pl1.isList
        rw [Dt] at du; subst du; obtain ⟨t2, rb⟩ := rb; subst rb
        first | (apply SeqAt.EqAt.list_int <;> assumption) | (rw [eqW]; apply SeqAt.EqAt.list_int <;> assumption) | (show SeqAt.EqAt A s _ _ false; apply SeqAt.EqAt.list_int <;> assumption)
      | str j =>
        rw [Dt] at dw; obtain ⟨p1, xs1, e1, hs1, ds1⟩ := dw; subst e1; cases ra; obtain ⟨its1, rv1, pl1, hz1⟩ := I.list hs1; have q1 := pl1.isList
        rw [Dt] at du; subst du; obtain ⟨t2, rb⟩ := rb; subst rb
        first | (apply SeqAt.EqAt.list_str <;> assumption) | (rw [eqW]; apply SeqAt.EqAt.list_str <;> assumption) | (show SeqAt.EqAt A s _ _ false; apply SeqAt.EqAt.list_str <;> assumption)
      | tup us =>
        rw [Dt] at dw; obtain ⟨p1, xs1, e1, hs1, ds1⟩ := dw; subst e1; cases ra; obtain ⟨its1, rv1, pl1, hz1⟩ := I.list hs1; have q1 := pl1.isList
        rw [Dt] at du; obtain ⟨p2, xs2, e2, hs2, ds2⟩ := du; subst e2; cases rb; obtain ⟨its2, rv2, pl2, hz2⟩ := I.tuple hs2; have q2 : s.heap.IsTuple p2 its2.toArray := pl2
        first | (apply SeqAt.EqAt.list_tuple <;> assumption) | (rw [eqW]; apply SeqAt.EqAt.list_tuple <;> assumption) | (show SeqAt.EqAt A s _ _ false; apply SeqAt.EqAt.list_tuple <;> assumption)
      | lst us =>
        have dw0 := dw; have du0 := du
        rw [Dt] at dw; obtain ⟨p1, xs1, e1, hs1, ds1⟩ := dw; subst e1; cases ra; obtain ⟨its1, rv1, pl1, hz1⟩ := I.list hs1; have q1 := pl1.isList
        rw [Dt] at du; obtain ⟨p2, xs2, e2, hs2, ds2⟩ := du; subst e2; cases rb; obtain ⟨its2, rv2, pl2, hz2⟩ := I.list hs2; have q2 := pl2.isList
        have pw : ws.all (plW n) = true := by simpa [plW] using pw
        have pu : us.all (plW n) = true := by simpa [plW] using pu
        by_cases hp : p1 = p2
        · subst hp; rw [eqW_same I dw0 du0]; exact SeqAt.EqAt.same _
        · refine SeqAt.EqAt.of_refs hp ?_
          rw [eqW]
          by_cases hl : ws.length = us.length
          · have z := SeqAt.RcAt.lists q1 q2 (by rw [size_of ds1 rv1, size_of ds2 rv2, hl]) hu' (items_at ds1 ds2 pw pu rv1 rv2 (fun a b c d e f => ih hu1 a b c d e f))
            rw [size_of ds1 rv1, all_eqJW hl] at z
            exact z
          · rw [eqWs_len hl]; exact SeqAt.RcAt.lists_lengths q1 q2 (by rw [size_of ds1 rv1, size_of ds2 rv2]; simpa using hl) hu'
      | _ => simp [plW] at pu
    | _ => simp [plW] at pw
theorem rcAtW {pins : List (Addr × Obj)} {s : Shared} {σ : St} (I : Inv X pins σ H s) (n : Nat) {A : Around} {w u : W} {v x : V} {a b : Value} (hu : A.units + n < cLine) (dw : Dt X.K H w v) (du : Dt X.K H u x) (pw : plW n w = true) (pu : plW n u = true) (ra : RelV v a) (rb : RelV x b) : SeqAt.RcAt A s a b (eqW w u) := by
  have hu' : A.units < cLine := by omega
  cases w with
  | non =>
    cases u with
    | non =>
      rw [Dt] at dw; subst dw; cases ra
      rw [Dt] at du; subst du; cases rb
      first | exact SeqAt.RcAt.none_none .. | (apply SeqAt.RcAt.none_none <;> assumption) | (rw [eqW]; apply SeqAt.RcAt.none_none <;> assumption)
    | bl j =>
      rw [Dt] at dw; subst dw; cases ra
      rw [Dt] at du; subst du; cases rb
      first | exact SeqAt.RcAt.none_bool .. | (apply SeqAt.RcAt.none_bool <;> assumption) | (rw [eqW]; apply SeqAt.RcAt.none_bool <;> assumption)
    | int j =>
      rw [Dt] at dw; subst dw; cases ra
      rw [Dt] at du; subst du; obtain ⟨t2, rb⟩ := rb; subst rb
      first | exact SeqAt.RcAt.none_int .. | (apply SeqAt.RcAt.none_int <;> assumption) | (rw [eqW]; apply SeqAt.RcAt.none_int <;> assumption)
    | str j =>
      rw [Dt] at dw; subst dw; cases ra
      rw [Dt] at du; subst du; obtain ⟨t2, rb⟩ := rb; subst rb
      first | exact SeqAt.RcAt.none_str .. | (apply SeqAt.RcAt.none_str <;> assumption) | (rw [eqW]; apply SeqAt.RcAt.none_str <;> assumption)
    | tup us =>
      rw [Dt] at dw; subst dw; cases ra
      rw [Dt] at du; obtain ⟨p2, xs2, e2, hs2, ds2⟩ := du; subst e2; cases rb; obtain ⟨its2, rv2, pl2, hz2⟩ := I.tuple hs2; have q2 : s.heap.IsTuple p2 its2.toArray := pl2
      first | exact SeqAt.RcAt.none_tuple .. | (apply SeqAt.RcAt.none_tuple <;> assumption) | (rw [eqW]; apply SeqAt.RcAt.none_tuple <;> assumption)
    | lst us =>
      rw [Dt] at dw; subst dw; cases ra
      rw [Dt] at du; obtain ⟨p2, xs2, e2, hs2, ds2⟩ := du; subst e2; cases rb; obtain ⟨its2, rv2, pl2, hz2⟩ := I.list hs2; have q2 := pl2.isList
      first | exact SeqAt.RcAt.none_list .. | (apply SeqAt.RcAt.none_list <;> assumption) | (rw [eqW]; apply SeqAt.RcAt.none_list <;> assumption)
    | _ => rw [Dt] at du; exact du.elim
  | bl i =>
    cases u with
    | non =>
      rw [Dt] at dw; subst dw; cases ra
      rw [Dt] at du; subst du; cases rb
      first | exact SeqAt.RcAt.bool_none .. | (apply SeqAt.RcAt.bool_none <;> assumption) | (rw [eqW]; apply SeqAt.RcAt.bool_none <;> assumption)
    | bl j =>
      rw [Dt] at dw; subst dw; cases ra
      rw [Dt] at du; subst du; cases rb
      first | exact SeqAt.RcAt.bool_bool .. | (apply SeqAt.RcAt.bool_bool <;> assumption) | (rw [eqW]; apply SeqAt.RcAt.bool_bool <;> assumption)
    | int j =>
      rw [Dt] at dw; subst dw; cases ra
      rw [Dt] at du; subst du; obtain ⟨t2, rb⟩ := rb; subst rb
      first | exact SeqAt.RcAt.bool_int .. | (apply SeqAt.RcAt.bool_int <;> assumption) | (rw [eqW]; apply SeqAt.RcAt.bool_int <;> assumption)
    | str j =>
      rw [Dt] at dw; subst dw; cases ra
      rw [Dt] at du; subst du; obtain ⟨t2, rb⟩ := rb; subst rb
      first | exact SeqAt.RcAt.bool_str .. | (apply SeqAt.RcAt.bool_str <;> assumption) | (rw [eqW]; apply SeqAt.RcAt.bool_str <;> assumption)
    | tup us =>
      rw [Dt] at dw; subst dw; cases ra
      rw [Dt] at du; obtain ⟨p2, xs2, e2, hs2, ds2⟩ := du; subst e2; cases rb; obtain ⟨its2, rv2, pl2, hz2⟩ := I.tuple hs2; have q2 : s.heap.IsTuple p2 its2.toArray := pl2
      first | exact SeqAt.RcAt.bool_tuple .. | (apply SeqAt.RcAt.bool_tuple <;> assumption) | (rw [eqW]; apply SeqAt.RcAt.bool_tuple <;> assumption)
    | lst us =>
      rw [Dt] at dw; subst dw; cases ra
      rw [Dt] at du; obtain ⟨p2, xs2, e2, hs2, ds2⟩ := du; subst e2; cases rb; obtain ⟨its2, rv2, pl2, hz2⟩ := I.list hs2; have q2 := pl2.isList
      first | exact SeqAt.RcAt.bool_list .. | (apply SeqAt.RcAt.bool_list <;> assumption) | (rw [eqW]; apply SeqAt.RcAt.bool_list <;> assumption)
    | _ => rw [Dt] at du; exact du.elim
  | int i =>
    cases u with
    | non =>
      rw [Dt] at dw; subst dw; obtain ⟨t1, ra⟩ := ra; subst ra
      rw [Dt] at du; subst du; cases rb
      first | exact SeqAt.RcAt.int_none .. | (apply SeqAt.RcAt.int_none <;> assumption) | (rw [eqW]; apply SeqAt.RcAt.int_none <;> assumption)
    | bl j =>
      rw [Dt] at dw; subst dw; obtain ⟨t1, ra⟩ := ra; subst ra
      rw [Dt] at du; subst du; cases rb
      first | exact SeqAt.RcAt.int_bool .. | (apply SeqAt.RcAt.int_bool <;> assumption) | (rw [eqW]; apply SeqAt.RcAt.int_bool <;> assumption)
    | int j =>
      rw [Dt] at dw; subst dw; obtain ⟨t1, ra⟩ := ra; subst ra
      rw [Dt] at du; subst du; obtain ⟨t2, rb⟩ := rb; subst rb
      first | exact SeqAt.RcAt.int_int .. | (apply SeqAt.RcAt.int_int <;> assumption) | (rw [eqW]; apply SeqAt.RcAt.int_int <;> assumption)
    | str j =>
      rw [Dt] at dw; subst dw; obtain ⟨t1, ra⟩ := ra; subst ra
      rw [Dt] at du; subst du; obtain ⟨t2, rb⟩ := rb; subst rb
      first | exact SeqAt.RcAt.int_str .. | (apply SeqAt.RcAt.int_str <;> assumption) | (rw [eqW]; apply SeqAt.RcAt.int_str <;> assumption)
    | tup us =>
      rw [Dt] at dw; subst dw; obtain ⟨t1, ra⟩ := ra; subst ra
      rw [Dt] at du; obtain ⟨p2, xs2, e2, hs2, ds2⟩ := du; subst e2; cases rb; obtain ⟨its2, rv2, pl2, hz2⟩ := I.tuple hs2; have q2 : s.heap.IsTuple p2 its2.toArray := pl2
      first | exact SeqAt.RcAt.int_tuple .. | (apply SeqAt.RcAt.int_tuple <;> assumption) | (rw [eqW]; apply SeqAt.RcAt.int_tuple <;> assumption)
    | lst us =>
      rw [Dt] at dw; subst dw; obtain ⟨t1, ra⟩ := ra; subst ra
      rw [Dt] at du; obtain ⟨p2, xs2, e2, hs2, ds2⟩ := du; subst e2; cases rb; obtain ⟨its2, rv2, pl2, hz2⟩ := I.list hs2; have q2 := pl2.isList
      first | exact SeqAt.RcAt.int_list .. | (apply SeqAt.RcAt.int_list <;> assumption) | (rw [eqW]; apply SeqAt.RcAt.int_list <;> assumption)
    | _ => rw [Dt] at du; exact du.elim
  | str i =>
    cases u with
    | non =>
      rw [Dt] at dw; subst dw; obtain ⟨t1, ra⟩ := ra; subst ra
      rw [Dt] at du; subst du; cases rb
      first | exact SeqAt.RcAt.str_none .. | (apply SeqAt.RcAt.str_none <;> assumption) | (rw [eqW]; apply SeqAt.RcAt.str_none <;> assumption)
    | bl j =>
      rw [Dt] at dw; subst dw; obtain ⟨t1, ra⟩ := ra; subst ra
      rw [Dt] at du; subst du; cases rb
      first | exact SeqAt.RcAt.str_bool .. | (apply SeqAt.RcAt.str_bool <;> assumption) | (rw [eqW]; apply SeqAt.RcAt.str_bool <;> assumption)
    | int j =>
      rw [Dt] at dw; subst dw; obtain ⟨t1, ra⟩ := ra; subst ra
      rw [Dt] at du; subst du; obtain ⟨t2, rb⟩ := rb; subst rb
      first | exact SeqAt.RcAt.str_int .. | (apply SeqAt.RcAt.str_int <;> assumption) | (rw [eqW]; apply SeqAt.RcAt.str_int <;> assumption)
    | str j =>
      rw [Dt] at dw; subst dw; obtain ⟨t1, ra⟩ := ra; subst ra
      rw [Dt] at du; subst du; obtain ⟨t2, rb⟩ := rb; subst rb
      first | exact SeqAt.RcAt.str_str .. | (apply SeqAt.RcAt.str_str <;> assumption) | (rw [eqW]; apply SeqAt.RcAt.str_str <;> assumption)
    | tup us =>
      rw [Dt] at dw; subst dw; obtain ⟨t1, ra⟩ := ra; subst ra
      rw [Dt] at du; obtain ⟨p2, xs2, e2, hs2, ds2⟩ := du; subst e2; cases rb; obtain ⟨its2, rv2, pl2, hz2⟩ := I.tuple hs2; have q2 : s.heap.IsTuple p2 its2.toArray := pl2
      first | exact SeqAt.RcAt.str_tuple .. | (apply SeqAt.RcAt.str_tuple <;> assumption) | (rw [eqW]; apply SeqAt.RcAt.str_tuple <;> assumption)
    | lst us =>
      rw [Dt] at dw; subst dw; obtain ⟨t1, ra⟩ := ra; subst ra
      rw [Dt] at du; obtain ⟨p2, xs2, e2, hs2, ds2⟩ := du; subst e2; cases rb; obtain ⟨its2, rv2, pl2, hz2⟩ := I.list hs2; have q2 := pl2.isList
      first | exact SeqAt.RcAt.str_list .. | (apply SeqAt.RcAt.str_list <;> assumption) | (rw [eqW]; apply SeqAt.RcAt.str_list <;> assumption)
    | _ => rw [Dt] at du; exact du.elim
  | tup ws =>
    cases u with
    | non =>
      rw [Dt] at dw; obtain ⟨p1, xs1, e1, hs1, ds1⟩ := dw; subst e1; cases ra; obtain ⟨its1, rv1, pl1, hz1⟩ := I.tuple hs1; have q1 : s.heap.IsTuple p1 its1.toArray := pl1
      rw [Dt] at du; subst du; cases rb
      first | exact SeqAt.RcAt.tuple_none .. | (apply SeqAt.RcAt.tuple_none <;> assumption) | (rw [eqW]; apply SeqAt.RcAt.tuple_none <;> assumption)
    | bl j =>
      rw [Dt] at dw; obtain ⟨p1, xs1, e1, hs1, ds1⟩ := dw; subst e1; cases ra; obtain ⟨its1, rv1, pl1, hz1⟩ := I.tuple hs1; have q1 : s.heap.IsTuple p1 its1.toArray := pl1
      rw [Dt] at du; subst du; cases rb
      first | exact SeqAt.RcAt.tuple_bool .. | (apply SeqAt.RcAt.tuple_bool <;> assumption) | (rw [eqW]; apply SeqAt.RcAt.tuple_bool <;> assumption)
    | int j =>
      rw [Dt] at dw; obtain ⟨p1, xs1, e1, hs1, ds1⟩ := dw; subst e1; cases ra; obtain ⟨its1, rv1, pl1, hz1⟩ := I.tuple hs1; have q1 : s.heap.IsTuple p1 its1.toArray := pl1
      rw [Dt] at du; subst du; obtain ⟨t2, rb⟩ := rb; subst rb
      first | exact SeqAt.RcAt.tuple_int .. | (apply SeqAt.RcAt.tuple_int <;> assumption) | (rw [eqW]; apply SeqAt.RcAt.tuple_int <;> assumption)
    | str j =>
      rw [Dt] at dw; obtain ⟨p1, xs1, e1, hs1, ds1⟩ := dw; subst e1; cases ra; obtain ⟨its1, rv1, pl1, hz1⟩ := I.tuple hs1; have q1 : s.heap.IsTuple p1 its1.toArray := pl1
      rw [Dt] at du; subst du; obtain ⟨t2, rb⟩ := rb; subst rb
      first | exact SeqAt.RcAt.tuple_str .. | (apply SeqAt.RcAt.tuple_str <;> assumption) | (rw [eqW]; apply SeqAt.RcAt.tuple_str <;> assumption)
    | tup us =>
      obtain ⟨m, hm, pw⟩ := plW_tup pw
      subst hm
      obtain ⟨m', hm', pu⟩ := plW_tup pu
      cases hm'
      have hu1 : A.in1.units + m < cLine := by rw [in1_units]; omega
      rw [Dt] at dw; obtain ⟨p1, xs1, e1, hs1, ds1⟩ := dw; subst e1; cases ra; obtain ⟨its1, rv1, pl1, hz1⟩ := I.tuple hs1; have q1 : s.heap.IsTuple p1 its1.toArray := pl1
      rw [Dt] at du; obtain ⟨p2, xs2, e2, hs2, ds2⟩ := du; subst e2; cases rb; obtain ⟨its2, rv2, pl2, hz2⟩ := I.tuple hs2; have q2 : s.heap.IsTuple p2 its2.toArray := pl2
      rw [eqW]
      have z := SeqAt.RcAt.tuples q1 q2 hu' (items_at ds1 ds2 pw pu rv1 rv2 (fun a b c d e f => eqAtW I m hu1 a b c d e f))
      rw [size_of ds1 rv1, size_of ds2 rv2, tup_all] at z
      exact z
    | lst us =>
      rw [Dt] at dw; obtain ⟨p1, xs1, e1, hs1, ds1⟩ := dw; subst e1; cases ra; obtain ⟨its1, rv1, pl1, hz1⟩ := I.tuple hs1; have q1 : s.heap.IsTuple p1 its1.toArray := pl1
      rw [Dt] at du; obtain ⟨p2, xs2, e2, hs2, ds2⟩ := du; subst e2; cases rb; obtain ⟨its2, rv2, pl2, hz2⟩ := I.list hs2; have q2 := pl2.isList
      first | exact SeqAt.RcAt.tuple_list .. | (apply SeqAt.RcAt.tuple_list <;> assumption) | (rw [eqW]; apply SeqAt.RcAt.tuple_list <;> assumption)
    | _ => rw [Dt] at du; exact du.elim
  | lst ws =>
    cases u with
    | non =>
      rw [Dt] at dw; obtain ⟨p1, xs1, e1, hs1, ds1⟩ := dw; subst e1; cases ra; obtain ⟨its1, rv1, pl1, hz1⟩ := I.list hs1; have q1 := pl1.isList
      rw [Dt] at du; subst du; cases rb
      first | exact SeqAt.RcAt.list_none .. | (apply SeqAt.RcAt.list_none <;> assumption) | (rw [eqW]; apply SeqAt.RcAt.list_none <;> assumption)
    | bl j =>
      rw [Dt] at dw; obtain ⟨p1, xs1, e1, hs1, ds1⟩ := dw; subst e1; cases ra; obtain ⟨its1, rv1, pl1, hz1⟩ := I.list hs1; have q1 := pl1.isList
      rw [Dt] at du; subst du; cases rb
      first | exact SeqAt.RcAt.list_bool .. | (apply SeqAt.RcAt.list_bool <;> assumption) | (rw [eqW]; apply SeqAt.RcAt.list_bool <;> assumption)
    | int j =>
      rw [Dt] at dw; obtain ⟨p1, xs1, e1, hs1, ds1⟩ := dw; subst e1; cases ra; obtain ⟨its1, rv1, pl1, hz1⟩ := I.list hs1; have q1 := pl1.isList
      rw [Dt] at du; subst du; obtain ⟨t2, rb⟩ := rb; subst rb
      first | exact SeqAt.RcAt.list_int .. | (apply SeqAt.RcAt.list_int <;> assumption) | (rw [eqW]; apply SeqAt.RcAt.list_int <;> assumption)
    | str j =>
      rw [Dt] at dw; obtain ⟨p1, xs1, e1, hs1, ds1⟩ := dw; subst e1; cases ra; obtain ⟨its1, rv1, pl1, hz1⟩ := I.list hs1; have q1 := pl1.isList
      rw [Dt] at du; subst du; obtain ⟨t2, rb⟩ := rb; subst rb
      first | exact SeqAt.RcAt.list_str .. | (apply SeqAt.RcAt.list_str <;> assumption) | (rw [eqW]; apply SeqAt.RcAt.list_str <;> assumption)
    | tup us =>
      rw [Dt] at dw; obtain ⟨p1, xs1, e1, hs1, ds1⟩ := dw; subst e1; cases ra; obtain ⟨its1, rv1, pl1, hz1⟩ := I.list hs1; have q1 := pl1.isList
      rw [Dt] at du; obtain ⟨p2, xs2, e2, hs2, ds2⟩ := du; subst e2; cases rb; obtain ⟨its2, rv2, pl2, hz2⟩ := I.tuple hs2; have q2 : s.heap.IsTuple p2 its2.toArray := pl2
      first | exact SeqAt.RcAt.list_tuple .. | (apply SeqAt.RcAt.list_tuple <;> assumption) | (rw [eqW]; apply SeqAt.RcAt.list_tuple <;> assumption)
    | lst us =>
      obtain ⟨m, hm, pw⟩ := plW_lst pw
      subst hm
      obtain ⟨m', hm', pu⟩ := plW_lst pu
      cases hm'
      have hu1 : A.in1.units + m < cLine := by rw [in1_units]; omega
      rw [Dt] at dw; obtain ⟨p1, xs1, e1, hs1, ds1⟩ := dw; subst e1; cases ra; obtain ⟨its1, rv1, pl1, hz1⟩ := I.list hs1; have q1 := pl1.isList
      rw [Dt] at du; obtain ⟨p2, xs2, e2, hs2, ds2⟩ := du; subst e2; cases rb; obtain ⟨its2, rv2, pl2, hz2⟩ := I.list hs2; have q2 := pl2.isList
      rw [eqW]
      by_cases hl : ws.length = us.length
      · have z := SeqAt.RcAt.lists q1 q2 (by rw [size_of ds1 rv1, size_of ds2 rv2, hl]) hu' (items_at ds1 ds2 pw pu rv1 rv2 (fun a b c d e f => eqAtW I m hu1 a b c d e f))
        rw [size_of ds1 rv1, all_eqJW hl] at z
        exact z
      · rw [eqWs_len hl]; exact SeqAt.RcAt.lists_lengths q1 q2 (by rw [size_of ds1 rv1, size_of ds2 rv2]; simpa using hl) hu'
    | _ => rw [Dt] at du; exact du.elim
  | _ => rw [Dt] at dw; exact dw.elim
theorem rcNeAtW {pins : List (Addr × Obj)} {s : Shared} {σ : St} (I : Inv X pins σ H s) (n : Nat) {A : Around} {w u : W} {v x : V} {a b : Value} (hu : A.units + n < cLine) (dw : Dt X.K H w v) (du : Dt X.K H u x) (pw : plW n w = true) (pu : plW n u = true) (ra : RelV v a) (rb : RelV x b) : SeqAt.RcNeAt A s a b (!eqW w u) := by
  have hu' : A.units < cLine := by omega
  cases w with
  | non =>
    cases u with
    | non =>
      rw [Dt] at dw; subst dw; cases ra
      rw [Dt] at du; subst du; cases rb
      first | exact SeqAt.RcNeAt.none_none .. | (apply SeqAt.RcNeAt.none_none <;> assumption) | (rw [eqW]; apply SeqAt.RcNeAt.none_none <;> assumption)
    | bl j =>
      rw [Dt] at dw; subst dw; cases ra
      rw [Dt] at du; subst du; cases rb
      first | exact SeqAt.RcNeAt.none_bool .. | (apply SeqAt.RcNeAt.none_bool <;> assumption) | (rw [eqW]; apply SeqAt.RcNeAt.none_bool <;> assumption)
    | int j =>
      rw [Dt] at dw; subst dw; cases ra
      rw [Dt] at du; subst du; obtain ⟨t2, rb⟩ := rb; subst rb
      first | exact SeqAt.RcNeAt.none_int .. | (apply SeqAt.RcNeAt.none_int <;> assumption) | (rw [eqW]; apply SeqAt.RcNeAt.none_int <;> assumption)
    | str j =>
      rw [Dt] at dw; subst dw; cases ra
      rw [Dt] at du; subst du; obtain ⟨t2, rb⟩ := rb; subst rb
      first | exact SeqAt.RcNeAt.none_str .. | (apply SeqAt.RcNeAt.none_str <;> assumption) | (rw [eqW]; apply SeqAt.RcNeAt.none_str <;> assumption)
    | tup us =>
      rw [Dt] at dw; subst dw; cases ra
      rw [Dt] at du; obtain ⟨p2, xs2, e2, hs2, ds2⟩ := du; subst e2; cases rb; obtain ⟨its2, rv2, pl2, hz2⟩ := I.tuple hs2; have q2 : s.heap.IsTuple p2 its2.toArray := pl2
      first | exact SeqAt.RcNeAt.none_tuple .. | (apply SeqAt.RcNeAt.none_tuple <;> assumption) | (rw [eqW]; apply SeqAt.RcNeAt.none_tuple <;> assumption)
    | lst us =>
      rw [Dt] at dw; subst dw; cases ra
      rw [Dt] at du; obtain ⟨p2, xs2, e2, hs2, ds2⟩ := du; subst e2; cases rb; obtain ⟨its2, rv2, pl2, hz2⟩ := I.list hs2; have q2 := pl2.isList
      first | exact SeqAt.RcNeAt.none_list .. | (apply SeqAt.RcNeAt.none_list <;> assumption) | (rw [eqW]; apply SeqAt.RcNeAt.none_list <;> assumption)
    | _ => rw [Dt] at du; exact du.elim
  | bl i =>
    cases u with
    | non =>
      rw [Dt] at dw; subst dw; cases ra
      rw [Dt] at du; subst du; cases rb
      first | exact SeqAt.RcNeAt.bool_none .. | (apply SeqAt.RcNeAt.bool_none <;> assumption) | (rw [eqW]; apply SeqAt.RcNeAt.bool_none <;> assumption)
    | bl j =>
      rw [Dt] at dw; subst dw; cases ra
      rw [Dt] at du; subst du; cases rb
      first | exact SeqAt.RcNeAt.bool_bool .. | (apply SeqAt.RcNeAt.bool_bool <;> assumption) | (rw [eqW]; apply SeqAt.RcNeAt.bool_bool <;> assumption)
    | int j =>
      rw [Dt] at dw; subst dw; cases ra
      rw [Dt] at du; subst du; obtain ⟨t2, rb⟩ := rb; subst rb
      first | exact SeqAt.RcNeAt.bool_int .. | (apply SeqAt.RcNeAt.bool_int <;> assumption) | (rw [eqW]; apply SeqAt.RcNeAt.bool_int <;> assumption)
    | str j =>
      rw [Dt] at dw; subst dw; cases ra
      rw [Dt] at du; subst du; obtain ⟨t2, rb⟩ := rb; subst rb
      first | exact SeqAt.RcNeAt.bool_str .. | (apply SeqAt.RcNeAt.bool_str <;> assumption) | (rw [eqW]; apply SeqAt.RcNeAt.bool_str <;> assumption)
    | tup us =>
      rw [Dt] at dw; subst dw; cases ra
      rw [Dt] at du; obtain ⟨p2, xs2, e2, hs2, ds2⟩ := du; subst e2; cases rb; obtain ⟨its2, rv2, pl2, hz2⟩ := I.tuple hs2; have q2 : s.heap.IsTuple p2 its2.toArray := pl2
      first | exact SeqAt.RcNeAt.bool_tuple .. | (apply SeqAt.RcNeAt.bool_tuple <;> assumption) | (rw [eqW]; apply SeqAt.RcNeAt.bool_tuple <;> assumption)
    | lst us =>
      rw [Dt] at dw; subst dw; cases ra
      rw [Dt] at du; obtain ⟨p2, xs2, e2, hs2, ds2⟩ := du; subst e2; cases rb; obtain ⟨its2, rv2, pl2, hz2⟩ := I.list hs2; have q2 := pl2.isList
      first | exact SeqAt.RcNeAt.bool_list .. | (apply SeqAt.RcNeAt.bool_list <;> assumption) | (rw [eqW]; apply SeqAt.RcNeAt.bool_list <;> assumption)
    | _ => rw [Dt] at du; exact du.elim
  | int i =>
    cases u with
    | non =>
      rw [Dt] at dw; subst dw; obtain ⟨t1, ra⟩ := ra; subst ra
      rw [Dt] at du; subst du; cases rb
      first | exact SeqAt.RcNeAt.int_none .. | (apply SeqAt.RcNeAt.int_none <;> assumption) | (rw [eqW]; apply SeqAt.RcNeAt.int_none <;> assumption)
    | bl j =>
      rw [Dt] at dw; subst dw; obtain ⟨t1, ra⟩ := ra; subst ra
      rw [Dt] at du; subst du; cases rb
      first | exact SeqAt.RcNeAt.int_bool .. | (apply SeqAt.RcNeAt.int_bool <;> assumption) | (rw [eqW]; apply SeqAt.RcNeAt.int_bool <;> assumption)
    | int j =>
      rw [Dt] at dw; subst dw; obtain ⟨t1, ra⟩ := ra; subst ra
      rw [Dt] at du; subst du; obtain ⟨t2, rb⟩ := rb; subst rb
      first | exact SeqAt.RcNeAt.int_int .. | (apply SeqAt.RcNeAt.int_int <;> assumption) | (rw [eqW]; apply SeqAt.RcNeAt.int_int <;> assumption)
    | str j =>
      rw [Dt] at dw; subst dw; obtain ⟨t1, ra⟩ := ra; subst ra
      rw [Dt] at du; subst du; obtain ⟨t2, rb⟩ := rb; subst rb
      first | exact SeqAt.RcNeAt.int_str .. | (apply SeqAt.RcNeAt.int_str <;> assumption) | (rw [eqW]; apply SeqAt.RcNeAt.int_str <;> assumption)
    | tup us =>
      rw [Dt] at dw; subst dw; obtain ⟨t1, ra⟩ := ra; subst ra
      rw [Dt] at du; obtain ⟨p2, xs2, e2, hs2, ds2⟩ := du; subst e2; cases rb; obtain ⟨its2, rv2, pl2, hz2⟩ := I.tuple hs2; have q2 : s.heap.IsTuple p2 its2.toArray := pl2
      first | exact SeqAt.RcNeAt.int_tuple .. | (apply SeqAt.RcNeAt.int_tuple <;> assumption) | (rw [eqW]; apply SeqAt.RcNeAt.int_tuple <;> assumption)
    | lst us =>
      rw [Dt] at dw; subst dw; obtain ⟨t1, ra⟩ := ra; subst ra
      rw [Dt] at du; obtain ⟨p2, xs2, e2, hs2, ds2⟩ := du; subst e2; cases rb; obtain ⟨its2, rv2, pl2, hz2⟩ := I.list hs2; have q2 := pl2.isList
      first | exact SeqAt.RcNeAt.int_list .. | (apply SeqAt.RcNeAt.int_list <;> assumption) | (rw [eqW]; apply SeqAt.RcNeAt.int_list <;> assumption)
    | _ => rw [Dt] at du; exact du.elim
  | str i =>
    cases u with
    | non =>
      rw [Dt] at dw; subst dw; obtain ⟨t1, ra⟩ := ra; subst ra
      rw [Dt] at du; subst du; cases rb
      first | exact SeqAt.RcNeAt.str_none .. | (apply SeqAt.RcNeAt.str_none <;> assumption) | (rw [eqW]; apply SeqAt.RcNeAt.str_none <;> assumption)
    | bl j =>
      rw [Dt] at dw; subst dw; obtain ⟨t1, ra⟩ := ra; subst ra
      rw [Dt] at du; subst du; cases rb
      first | exact SeqAt.RcNeAt.str_bool .. | (apply SeqAt.RcNeAt.str_bool <;> assumption) | (rw [eqW]; apply SeqAt.RcNeAt.str_bool <;> assumption)
    | int j =>
      rw [Dt] at dw; subst dw; obtain ⟨t1, ra⟩ := ra; subst ra
      rw [Dt] at du; subst du; obtain ⟨t2, rb⟩ := rb; subst rb
      first | exact SeqAt.RcNeAt.str_int .. | (apply SeqAt.RcNeAt.str_int <;> assumption) | (rw [eqW]; apply SeqAt.RcNeAt.str_int <;> assumption)
    | str j =>
      rw [Dt] at dw; subst dw; obtain ⟨t1, ra⟩ := ra; subst ra
      rw [Dt] at du; subst du; obtain ⟨t2, rb⟩ := rb; subst rb
      first | exact SeqAt.RcNeAt.str_str .. | (apply SeqAt.RcNeAt.str_str <;> assumption) | (rw [eqW]; apply SeqAt.RcNeAt.str_str <;> assumption)
    | tup us =>
      rw [Dt] at dw; subst dw; obtain ⟨t1, ra⟩ := ra; subst ra
      rw [Dt] at du; obtain ⟨p2, xs2, e2, hs2, ds2⟩ := du; subst e2; cases rb; obtain ⟨its2, rv2, pl2, hz2⟩ := I.tuple hs2; have q2 : s.heap.IsTuple p2 its2.toArray := pl2
      first | exact SeqAt.RcNeAt.str_tuple .. | (apply SeqAt.RcNeAt.str_tuple <;> assumption) | (rw [eqW]; apply SeqAt.RcNeAt.str_tuple <;> assumption)
    | lst us =>
      rw [Dt] at dw; subst dw; obtain ⟨t1, ra⟩ := ra; subst ra
      rw [Dt] at du; obtain ⟨p2, xs2, e2, hs2, ds2⟩ := du; subst e2; cases rb; obtain ⟨its2, rv2, pl2, hz2⟩ := I.list hs2; have q2 := pl2.isList
      first | exact SeqAt.RcNeAt.str_list .. | (apply SeqAt.RcNeAt.str_list <;> assumption) | (rw [eqW]; apply SeqAt.RcNeAt.str_list <;> assumption)
    | _ => rw [Dt] at du; exact du.elim
  | tup ws =>
    cases u with
    | non =>
      rw [Dt] at dw; obtain ⟨p1, xs1, e1, hs1, ds1⟩ := dw; subst e1; cases ra; obtain ⟨its1, rv1, pl1, hz1⟩ := I.tuple hs1; have q1 : s.heap.IsTuple p1 its1.toArray := pl1
      rw [Dt] at du; subst du; cases rb
      first | exact SeqAt.RcNeAt.tuple_none .. | (apply SeqAt.RcNeAt.tuple_none <;> assumption) | (rw [eqW]; apply SeqAt.RcNeAt.tuple_none <;> assumption)
    | bl j =>
      rw [Dt] at dw; obtain ⟨p1, xs1, e1, hs1, ds1⟩ := dw; subst e1; cases ra; obtain ⟨its1, rv1, pl1, hz1⟩ := I.tuple hs1; have q1 : s.heap.IsTuple p1 its1.toArray := pl1
      rw [Dt] at du; subst du; cases rb
      first | exact SeqAt.RcNeAt.tuple_bool .. | (apply SeqAt.RcNeAt.tuple_bool <;> assumption) | (rw [eqW]; apply SeqAt.RcNeAt.tuple_bool <;> assumption)
    | int j =>
      rw [Dt] at dw; obtain ⟨p1, xs1, e1, hs1, ds1⟩ := dw; subst e1; cases ra; obtain ⟨its1, rv1, pl1, hz1⟩ := I.tuple hs1; have q1 : s.heap.IsTuple p1 its1.toArray := pl1
      rw [Dt] at du; subst du; obtain ⟨t2, rb⟩ := rb; subst rb
      first | exact SeqAt.RcNeAt.tuple_int .. | (apply SeqAt.RcNeAt.tuple_int <;> assumption) | (rw [eqW]; apply SeqAt.RcNeAt.tuple_int <;> assumption)
    | str j =>
      rw [Dt] at dw; obtain ⟨p1, xs1, e1, hs1, ds1⟩ := dw; subst e1; cases ra; obtain ⟨its1, rv1, pl1, hz1⟩ := I.tuple hs1; have q1 : s.heap.IsTuple p1 its1.toArray := pl1
      rw [Dt] at du; subst du; obtain ⟨t2, rb⟩ := rb; subst rb
      first | exact SeqAt.RcNeAt.tuple_str .. | (apply SeqAt.RcNeAt.tuple_str <;> assumption) | (rw [eqW]; apply SeqAt.RcNeAt.tuple_str <;> assumption)
    | tup us =>
      obtain ⟨m, hm, pw⟩ := plW_tup pw
      subst hm
      obtain ⟨m', hm', pu⟩ := plW_tup pu
      cases hm'
      have hu1 : A.in1.units + m < cLine := by rw [in1_units]; omega
      rw [Dt] at dw; obtain ⟨p1, xs1, e1, hs1, ds1⟩ := dw; subst e1; cases ra; obtain ⟨its1, rv1, pl1, hz1⟩ := I.tuple hs1; have q1 : s.heap.IsTuple p1 its1.toArray := pl1
      rw [Dt] at du; obtain ⟨p2, xs2, e2, hs2, ds2⟩ := du; subst e2; cases rb; obtain ⟨its2, rv2, pl2, hz2⟩ := I.tuple hs2; have q2 : s.heap.IsTuple p2 its2.toArray := pl2
      rw [eqW]
      have z := SeqAt.RcNeAt.tuples q1 q2 hu' (items_at ds1 ds2 pw pu rv1 rv2 (fun a b c d e f => eqAtW I m hu1 a b c d e f))
      rw [size_of ds1 rv1, size_of ds2 rv2, tup_all] at z
      exact z
    | lst us =>
      rw [Dt] at dw; obtain ⟨p1, xs1, e1, hs1, ds1⟩ := dw; subst e1; cases ra; obtain ⟨its1, rv1, pl1, hz1⟩ := I.tuple hs1; have q1 : s.heap.IsTuple p1 its1.toArray := pl1
      rw [Dt] at du; obtain ⟨p2, xs2, e2, hs2, ds2⟩ := du; subst e2; cases rb; obtain ⟨its2, rv2, pl2, hz2⟩ := I.list hs2; have q2 := pl2.isList
      first | exact SeqAt.RcNeAt.tuple_list .. | (apply SeqAt.RcNeAt.tuple_list <;> assumption) | (rw [eqW]; apply SeqAt.RcNeAt.tuple_list <;> assumption)
    | _ => rw [Dt] at du; exact du.elim
  | lst ws =>
    cases u with
    | non =>
      rw [Dt] at dw; obtain ⟨p1, xs1, e1, hs1, ds1⟩ := dw; subst e1; cases ra; obtain ⟨its1, rv1, pl1, hz1⟩ := I.list hs1; have q1 := pl1.isList
      rw [Dt] at du; subst du; cases rb
      first | exact SeqAt.RcNeAt.list_none .. | (apply SeqAt.RcNeAt.list_none <;> assumption) | (rw [eqW]; apply SeqAt.RcNeAt.list_none <;> assumption)
    | bl j =>
      rw [Dt] at dw; obtain ⟨p1, xs1, e1, hs1, ds1⟩ := dw; subst e1; cases ra; obtain ⟨its1, rv1, pl1, hz1⟩ := I.list hs1; have q1 := pl1.isList
      rw [Dt] at du; subst du; cases rb
      first | exact SeqAt.RcNeAt.list_bool .. | (apply SeqAt.RcNeAt.list_bool <;> assumption) | (rw [eqW]; apply SeqAt.RcNeAt.list_bool <;> assumption)
    | int j =>
      rw [Dt] at dw; obtain ⟨p1, xs1, e1, hs1, ds1⟩ := dw; subst e1; cases ra; obtain ⟨its1, rv1, pl1, hz1⟩ := I.list hs1; have q1 := pl1.isList
      rw [Dt] at du; subst du; obtain ⟨t2, rb⟩ := rb; subst rb
      first | exact SeqAt.RcNeAt.list_int .. | (apply SeqAt.RcNeAt.list_int <;> assumption) | (rw [eqW]; apply SeqAt.RcNeAt.list_int <;> assumption)
    | str j =>
      rw [Dt] at dw; obtain ⟨p1, xs1, e1, hs1, ds1⟩ := dw; subst e1; cases ra; obtain ⟨its1, rv1, pl1, hz1⟩ := I.list hs1; have q1 := pl1.isList
      rw [Dt] at du; subst du; obtain ⟨t2, rb⟩ := rb; subst rb
      first | exact SeqAt.RcNeAt.list_str .. | (apply SeqAt.RcNeAt.list_str <;> assumption) | (rw [eqW]; apply SeqAt.RcNeAt.list_str <;> assumption)
    | tup us =>
      rw [Dt] at dw; obtain ⟨p1, xs1, e1, hs1, ds1⟩ := dw; subst e1; cases ra; obtain ⟨its1, rv1, pl1, hz1⟩ := I.list hs1; have q1 := pl1.isList
      rw [Dt] at du; obtain ⟨p2, xs2, e2, hs2, ds2⟩ := du; subst e2; cases rb; obtain ⟨its2, rv2, pl2, hz2⟩ := I.tuple hs2; have q2 : s.heap.IsTuple p2 its2.toArray := pl2
      first | exact SeqAt.RcNeAt.list_tuple .. | (apply SeqAt.RcNeAt.list_tuple <;> assumption) | (rw [eqW]; apply SeqAt.RcNeAt.list_tuple <;> assumption)
    | lst us =>
      obtain ⟨m, hm, pw⟩ := plW_lst pw
      subst hm
      obtain ⟨m', hm', pu⟩ := plW_lst pu
      cases hm'
      have hu1 : A.in1.units + m < cLine := by rw [in1_units]; omega
      rw [Dt] at dw; obtain ⟨p1, xs1, e1, hs1, ds1⟩ := dw; subst e1; cases ra; obtain ⟨its1, rv1, pl1, hz1⟩ := I.list hs1; have q1 := pl1.isList
      rw [Dt] at du; obtain ⟨p2, xs2, e2, hs2, ds2⟩ := du; subst e2; cases rb; obtain ⟨its2, rv2, pl2, hz2⟩ := I.list hs2; have q2 := pl2.isList
      rw [eqW]
      by_cases hl : ws.length = us.length
      · have z := SeqAt.RcNeAt.lists q1 q2 (by rw [size_of ds1 rv1, size_of ds2 rv2, hl]) hu' (items_at ds1 ds2 pw pu rv1 rv2 (fun a b c d e f => eqAtW I m hu1 a b c d e f))
        rw [size_of ds1 rv1, all_eqJW hl] at z
        exact z
      · rw [eqWs_len hl]; exact SeqAt.RcNeAt.lists_lengths q1 q2 (by rw [size_of ds1 rv1, size_of ds2 rv2]; simpa using hl) hu'
    | _ => rw [Dt] at du; exact du.elim
  | _ => rw [Dt] at dw; exact dw.elim

def datW (h : Gh) : W → Option W
  | .loc n => (match h.c n with
    | some (.lst ws) => some (.lst ws)
    | _ => none)
  | w => some w
theorem datW_ok {w d : W} {v : V} {n : Nat} (R : Rel K μ H h) (r : Rep K H μ w v) (e : datW h w = some d) (p : plW n d = true) : Dt K H d v := by
  have other : datW h w = some w → Dt K H d v := fun z => by
    rw [z] at e; cases e; exact dt_of n r p
  cases w with
  | loc m =>
    unfold datW at e
    dsimp only at e
    cases ec : h.c m with
    | none => rw [ec] at e; cases e
    | some cl =>
      rw [ec] at e
      cases cl with
      | lst us =>
        cases (show some (W.lst us) = some d from e)
        obtain ⟨p', xs, hm', hx, rs⟩ := R.lstAt ec
        rw [Rep] at r
        obtain ⟨q, ev, hm⟩ := r
        have ep : p' = q := by rw [hm] at hm'; exact (Option.some.inj hm').symm
        subst ep
        obtain ⟨k, rfl, p⟩ := plW_lst p
        rw [Dt]
        exact ⟨p', xs, ev, .of hx, dts_of (dt_of k) rs p⟩
      | _ => cases e
  | _ => exact other rfl
def rEqD (K : PySem.W.Frag) (neg : Bool) : R2 := fun x y H Q => ∃ w u, Dt K H w x ∧ Dt K H u y ∧ plW 30 w = true ∧ plW 30 u = true ∧ Q (.bl (if neg then !eqW w u else eqW w u)) H
theorem op_eqD (hu : X.A.units + 30 < cLine) : OpR X (compareOp .Eq) (rEqD X.K false) := by
  intro pins s σ H x y v u Q I rx ry ⟨w, w', d1, d2, p1, p2, q⟩
  exact rcAtW I 30 hu d1 d2 p1 p2 rx ry X.prog X.w X.xe _ (fin_bl I q rfl)
theorem op_neD (hu : X.A.units + 30 < cLine) : OpR X (compareOp .NotEq) (rEqD X.K true) := by
  intro pins s σ H x y v u Q I rx ry ⟨w, w', d1, d2, p1, p2, q⟩
  exact rcNeAtW I 30 hu d1 d2 p1 p2 rx ry X.prog X.w X.xe _ (fin_bl I q rfl)
def kEq : M2 := fun x y h Q => match datW h x, datW h y with
  | some a, some b => by2 (plW 30 a && plW 30 b) (Q (.bl (eqW a b)) h) False
  | _, _ => False
def kNe : M2 := fun x y h Q => match datW h x, datW h y with
  | some a, some b => by2 (plW 30 a && plW 30 b) (Q (.bl (!eqW a b)) h) False
  | _, _ => False
theorem o_eq (hu : X.A.units + 30 < cLine) : DOp X (compareOp .Eq) kEq := ⟨_, op_eqD hu, by
  intro H μ h x y wx wy Qw Q R rx ry m k
  unfold kEq at m
  split at m
  · rename_i a b ea eb
    cases hp : (plW 30 a && plW 30 b) with
    | true =>
      rw [hp] at m
      rw [Bool.and_eq_true] at hp
      exact ⟨a, b, datW_ok R rx ea hp.1, datW_ok R ry eb hp.2, hp.1, hp.2, k _ _ (.bl R m)⟩
    | false => rw [hp] at m; exact (show False from m).elim
  · exact m.elim⟩
theorem o_ne (hu : X.A.units + 30 < cLine) : DOp X (compareOp .NotEq) kNe := ⟨_, op_neD hu, by
  intro H μ h x y wx wy Qw Q R rx ry m k
  unfold kNe at m
  split at m
  · rename_i a b ea eb
    cases hp : (plW 30 a && plW 30 b) with
    | true =>
      rw [hp] at m
      rw [Bool.and_eq_true] at hp
      exact ⟨a, b, datW_ok R rx ea hp.1, datW_ok R ry eb hp.2, hp.1, hp.2, k _ _ (.bl R m)⟩
    | false => rw [hp] at m; exact (show False from m).elim
  · exact m.elim⟩
theorem hu30 {A : Around} {k : Nat} (hr : Room k A) : A.units + 30 < cLine := by have := hr.units; omega
end
end L2
namespace L2
open PySem PySem.Spec PyProof.Rows
section
variable {X : Cx} {K : PySem.W.Frag}
theorem reps1 {H : Hp} {μ : Mu} {w : W} {vs : List V} (r : Reps K H μ [w] vs) : ∃ v, vs = [v] ∧ Rep K H μ w v := by
  rw [Reps] at r
  obtain ⟨v, vr, ev, ra, r⟩ := r
  rw [Reps] at r
  subst r
  exact ⟨v, ev, ra⟩
theorem reps2 {H : Hp} {μ : Mu} {w u : W} {vs : List V} (r : Reps K H μ [w, u] vs) : ∃ v x, vs = [v, x] ∧ Rep K H μ w v ∧ Rep K H μ u x := by
  rw [Reps] at r
  obtain ⟨v, vr, ev, ra, r⟩ := r
  obtain ⟨x, e, rb⟩ := reps1 r
  subst e
  exact ⟨v, x, ev, ra, rb⟩
theorem CMulB.of {i j : Int} {m n : Nat} (hi : Sm m i) (hj : Sm n j) (hm : m ≤ 1000000) (hn : n ≤ 1000000) : CMulB i j := ⟨m, n, hm, hn, hi, hj⟩
theorem Sm.lit {i : Int} (h : Nat.ble (i.natAbs + 1) (2 ^ 64) = true) : Sm 64 i := by
  have := Nat.le_of_ble_eq_true h
  unfold Sm
  omega
def kLen : MC := fun ws h Q => match ws with
  | [w] => (match view h w with
    | some xs => Q (.int (xs.length : Int)) h
    | none => False)
  | _ => False
theorem c_len : DCall X (.builtin "len") kLen := ⟨_, call_len_seq, by
  intro H μ h vs ws Qw Q R r m k
  unfold kLen at m
  split at m
  · split at m
    · rename_i w _ xs ev
      obtain ⟨v, e, rv⟩ := reps1 r
      obtain ⟨p, ys, ex, hs, rs⟩ := view_ok R rv ev
      subst e ex
      exact ⟨p, ys, rfl, hs, by rw [← rs.len]; exact k _ _ (.int R m)⟩
    · exact m.elim
  · exact m.elim⟩
def kAbs : MC := fun ws h Q => match ws with
  | [.int i] => Q (.int (if i < 0 then -i else i)) h
  | _ => False
theorem c_abs : DCall X (.builtin "abs") kAbs := ⟨_, call_abs, by
  intro H μ h vs ws Qw Q R r m k
  unfold kAbs at m
  split at m
  · obtain ⟨v, e, rv⟩ := reps1 r
    rw [Rep] at rv
    subst e rv
    exact ⟨_, rfl, k _ _ (.int R m)⟩
  · exact m.elim⟩
def kMax : MC := fun ws h Q => match ws with
  | [.int i, .int j] => Q (.int (if j > i then j else i)) h
  | _ => False
theorem c_max (hc : X.calm = true) : DCall X (.builtin "max") kMax := ⟨_, call_max2 hc, by
  intro H μ h vs ws Qw Q R r m k
  unfold kMax at m
  split at m
  · obtain ⟨v, x, e, rv, rx⟩ := reps2 r
    rw [Rep] at rv rx
    subst e rv rx
    exact ⟨_, _, rfl, k _ _ (.int R m)⟩
  · exact m.elim⟩
def isiW (h : Gh) (w : W) (T : String) : Option Bool := match w with
  | .int _ => if T = "int" then some true else if T = "bool" ∨ T = "tuple" ∨ T = "list" then some false else none
  | .bl _ => if T = "int" ∨ T = "bool" then some true else if T = "tuple" ∨ T = "list" then some false else none
  | .str _ => if T = "int" ∨ T = "bool" ∨ T = "tuple" ∨ T = "list" then some false else none
  | .non => if T = "int" ∨ T = "bool" ∨ T = "tuple" ∨ T = "list" then some false else none
  | .tup _ => if T = "tuple" then some true else if T = "int" ∨ T = "bool" ∨ T = "list" then some false else none
  | w => (match viewL h w with
    | some _ => if T = "list" then some true else if T = "int" ∨ T = "bool" ∨ T = "tuple" then some false else none
    | none => none)
theorem isiW_ok {H : Hp} {μ : Mu} {h : Gh} {w : W} {v : V} {T : String} {b : Bool} (R : Rel K μ H h) (r : Rep K H μ w v) (e : isiW h w T = some b) : isiV K H v T b := by
  unfold isiW at e
  split at e
  · rw [Rep] at r; subst r
    split at e
    · rename_i t; subst t; cases e; exact .inl ⟨rfl, rfl⟩
    · split at e
      · rename_i t; cases e
        rcases t with t | t | t <;> subst t
        · exact .inr (.inl ⟨rfl, rfl⟩)
        · exact .inr (.inr (.inl ⟨rfl, rfl⟩))
        · exact .inr (.inr (.inr ⟨rfl, rfl⟩))
      · cases e
  · rw [Rep] at r; subst r
    split at e
    · rename_i t; cases e
      rcases t with t | t <;> subst t
      · exact .inl ⟨rfl, rfl⟩
      · exact .inr (.inl ⟨rfl, rfl⟩)
    · split at e
      · rename_i t; cases e
        rcases t with t | t <;> subst t
        · exact .inr (.inr (.inl ⟨rfl, rfl⟩))
        · exact .inr (.inr (.inr ⟨rfl, rfl⟩))
      · cases e
  · rw [Rep] at r; subst r
    split at e
    · rename_i t; cases e
      rcases t with t | t | t | t <;> subst t
      · exact .inl ⟨rfl, rfl⟩
      · exact .inr (.inl ⟨rfl, rfl⟩)
      · exact .inr (.inr (.inl ⟨rfl, rfl⟩))
      · exact .inr (.inr (.inr ⟨rfl, rfl⟩))
    · cases e
  · rw [Rep] at r; subst r
    split at e
    · rename_i t; cases e
      rcases t with t | t | t | t <;> subst t
      · exact .inl ⟨rfl, rfl⟩
      · exact .inr (.inl ⟨rfl, rfl⟩)
      · exact .inr (.inr (.inl ⟨rfl, rfl⟩))
      · exact .inr (.inr (.inr ⟨rfl, rfl⟩))
    · cases e
  · rw [Rep] at r
    obtain ⟨p, xs, ev, hs, _⟩ := r
    subst ev
    refine .inl ⟨xs, hs, ?_⟩
    split at e
    · rename_i t; subst t; cases e; exact .inr (.inr (.inl ⟨rfl, rfl⟩))
    · split at e
      · rename_i t; cases e
        rcases t with t | t | t <;> subst t
        · exact .inl ⟨rfl, rfl⟩
        · exact .inr (.inl ⟨rfl, rfl⟩)
        · exact .inr (.inr (.inr ⟨rfl, rfl⟩))
      · cases e
  · split at e
    · rename_i ws ev
      obtain ⟨p, xs, ex, hs, _⟩ := viewL_ok R r ev
      subst ex
      refine .inr ⟨xs, hs, ?_⟩
      split at e
      · rename_i t; subst t; cases e; exact .inr (.inr (.inr ⟨rfl, rfl⟩))
      · split at e
        · rename_i t; cases e
          rcases t with t | t | t <;> subst t
          · exact .inl ⟨rfl, rfl⟩
          · exact .inr (.inl ⟨rfl, rfl⟩)
          · exact .inr (.inr (.inl ⟨rfl, rfl⟩))
        · cases e
    · cases e
def kIsi : MC := fun ws h Q => match ws with
  | [w, .ty T] => (match isiW h w T with
    | some b => Q (.bl b) h
    | none => False)
  | _ => False
theorem c_isi : DCall X (.builtin "isinstance") kIsi := ⟨_, call_isi, by
  intro H μ h vs ws Qw Q R r m k
  unfold kIsi at m
  split at m
  · split at m
    · rename_i w T _ b eb
      obtain ⟨v, x, e, rv, rx⟩ := reps2 r
      have hi := isiW_ok R rv eb
      rw [Rep] at rx
      subst e rx
      exact ⟨v, T, b, rfl, hi, k _ _ (.bl R m)⟩
    · exact m.elim
  · exact m.elim⟩
def kTuple : MC := fun ws h Q => match ws with
  | [.tup us] => Q (.tup us) h
  | [w] => (match viewL h w with
    | some us => Q (.tup us) h
    | none => False)
  | _ => False
theorem c_tuple : DCall X (.type "tuple") kTuple := ⟨_, call_tuple_of, by
  intro H μ h vs ws Qw Q R r m k
  unfold kTuple at m
  split at m
  · obtain ⟨v, e, rv⟩ := reps1 r
    have rv' := rv
    rw [Rep] at rv
    obtain ⟨p, xs, ex, hs, rs⟩ := rv
    subst e ex
    exact ⟨p, xs, rfl, .inr ⟨hs, k _ _ ⟨μ, _, h, .refl, R, rv', m⟩⟩⟩
  · split at m
    · rename_i w _ _ us ev
      obtain ⟨v, e, rv⟩ := reps1 r
      obtain ⟨p, ys, ex, hs, rs⟩ := viewL_ok R rv ev
      subst e ex
      exact ⟨p, ys, rfl, .inl ⟨hs, fun l hl => k _ _ ⟨μ, _, h, (Ex.laid hl).ext, R.laid hl, .tupNew hl rs, m⟩⟩⟩
    · exact m.elim
  · exact m.elim⟩
def kList : MC := fun ws h Q => match ws with
  | [w] => (match view h w with
    | some us => Q (.lst us) h
    | none => False)
  | _ => False
theorem c_list : DCall X (.type "list") kList := ⟨_, call_list_of, by
  intro H μ h vs ws Qw Q R r m k
  unfold kList at m
  split at m
  · split at m
    · rename_i w _ xs ev
      obtain ⟨v, e, rv⟩ := reps1 r
      obtain ⟨p, ys, ex, hs, rs⟩ := view_ok R rv ev
      subst e ex
      exact ⟨p, ys, rfl, hs, fun l hl => k _ _ ⟨μ, _, h, (Ex.laid hl).ext, R.laid hl, .lstNew R hl rs, m⟩⟩
    · exact m.elim
  · exact m.elim⟩
abbrev MM := W → List W → Gh → WK → Prop
def SimM (K : PySem.W.Frag) (r : V → List V → Hp → VK → Prop) (mr : MM) : Prop := ∀ {H : Hp} {μ : Mu} {h : Gh} {x : V} {vs : List V} {wx : W} {ws : List W} {Qw : WK} {Q : VK}, Rel K μ H h → Rep K H μ wx x → Reps K H μ ws vs → mr wx ws h Qw → (∀ v H', DQ K H μ Qw v H' → Q v H') → r x vs H Q
def isLst (h : Gh) (w : W) (P : Prop) : Prop := match w with
  | .loc n => (match h.c n with
    | some (.lst _) => P
    | _ => False)
  | _ => False
theorem isLst_ty {H : Hp} {μ : Mu} {h : Gh} {w : W} {v : V} {P : Prop} (R : Rel K μ H h) (r : Rep K H μ w v) (e : isLst h w P) : tyV K "list" v H ∧ P := by
  unfold isLst at e
  split at e
  · split at e
    · rename_i n _ ws ec
      rw [Rep] at r
      obtain ⟨p, ev, hm⟩ := r
      obtain ⟨p', xs, hm', hx, rs⟩ := R.lstAt ec
      have ep : p' = p := by rw [hm] at hm'; exact (Option.some.inj hm').symm
      subst ep ev
      exact ⟨.inl ⟨rfl, xs, .of hx⟩, e⟩
    · exact e.elim
  · exact e.elim
def mBMr (r : MM) (mo : ME) (ma : MA) : ME := fun σ h Q => mo σ h fun x h1 => isLst h1 x (ma σ h1 fun xs h2 => r x xs h2 Q)
variable {o e : Expr} {es : List Expr} {mo : ME} {ma : MA} {name : Str} {apos cpos : Pos} {id : String} {r : V → List V → Hp → VK → Prop} {mr : MM}
theorem d_bm (slot : Slot "list" name id) (hty : typeOf (.builtin id) = pure (.type "method_descriptor")) (hm : MtR X id r) (hs : SimM X.K r mr) (ho : DE X o mo) (ha : DAs X (e :: es) ma)
    (hbase : attributeBase o name X.env (eval o X.env) = eval o X.env := by rfl)
    (hfew : ((backTo cpos (starEach (e :: es) X.env)).all (fun x => !x.1) && (backToKw cpos (keywordEach [] X.env)).all (fun x => x.1.isSome)
      && decide ((e :: es).length + ([] : List Keyword).length + (if ([] : List Keyword).isEmpty then 0 else 1) < 30)) = true := by rfl)
    (hline : (apos.endLine == cpos.line) = true := by rfl) (hst : starEach (e :: es) X.env = (false, eval e X.env) :: starEach es X.env := by rfl) (hplain : (backTo cpos (starEach es X.env)).any (·.1) = false := by rfl) :
    DE X (.Call (.Attribute o name apos) (e :: es) [] cpos) (mBMr mr mo ma) := (pe_bm PySem.F.plainAttrs_list slot hty hm ho ha hbase hfew hline hst hplain).of fun σ H Q ⟨μ, h, σw, Qw, R, S, m, k⟩ => by
  refine ⟨μ, h, σw, _, R, S, m, fun v H1 ⟨μ1, w, h1, e1, R1, r1, il⟩ => ⟨(isLst_ty R1 r1 il).1, ?_⟩⟩
  have m1 := (isLst_ty R1 r1 il).2
  exact ⟨μ1, h1, σw, _, R1, S.ext e1, m1, fun vs H2 ⟨μ2, ws, h2, e2, R2, r2, m2⟩ => hs R2 (e2.r _ _ r1) r2 m2 fun v H' z => k _ _ ((z.trans e2).trans e1)⟩
def kAppend : MM := fun x ws h Q => match x, ws with
  | .loc n, [w] => (match h.c n with
    | some (.lst us) => us.length < sizeLine ∧ Q .non (h.set n (.lst (us ++ [w])))
    | _ => False)
  | _, _ => False
theorem locAt {H : Hp} {μ : Mu} {h : Gh} {n : Nat} {v : V} {us : List W} (R : Rel K μ H h) (r : Rep K H μ (.loc n) v) (ec : h.c n = some (.lst us)) : ∃ p xs, v = .ref p ∧ μ.f n = some p ∧ H p = some (.lst xs) ∧ Reps K H μ us xs := by
  rw [Rep] at r
  obtain ⟨p, ev, hm⟩ := r
  obtain ⟨p', xs, hm', hx, rs⟩ := R.lstAt ec
  have ep : p' = p := by rw [hm] at hm'; exact (Option.some.inj hm').symm
  subst ep
  exact ⟨p', xs, ev, hm, hx, rs⟩
theorem DQ.wrote {H : Hp} {μ : Mu} {h : Gh} {n : Nat} {p : Addr} {us : List W} {xs : List V} {Q : WK} {w : W} {v : V} (R : Rel K μ H h) (hm : μ.f n = some p) (rs : Reps K H μ us xs) (rw' : Rep K H μ w v) (q : Q w (h.set n (.lst us))) : DQ K H μ Q v (upd H p (.lst xs)) :=
  ⟨μ, w, h.set n (.lst us), (Ex.write R hm).ext, R.write hm trivial ⟨xs, upd_same, (Ex.write R hm).ext.s rs⟩, (Ex.write R hm).ext.r _ _ rw', q⟩
theorem s_append : SimM K rAppend kAppend := by
  intro H μ h x vs wx ws Qw Q R rx rs m k
  unfold kAppend at m
  split at m
  · split at m
    · rename_i n w _ us ec
      obtain ⟨p, xs, ex, hm, hx, r1⟩ := locAt R rx ec
      obtain ⟨v, ev, rv⟩ := reps1 rs
      exact ⟨p, xs, v, ex, ev, hx, by rw [← r1.len]; exact m.1, k _ _ (.wrote R hm (r1.append (.one rv)) (by rw [Rep]) m.2)⟩
    · exact m.elim
  · exact m.elim
theorem d_append (ho : DE X o mo) (ha : DAs X [e] ma)
    (hbase : attributeBase o "append" X.env (eval o X.env) = eval o X.env := by rfl)
    (hfew : ((backTo cpos (starEach [e] X.env)).all (fun x => !x.1) && (backToKw cpos (keywordEach [] X.env)).all (fun x => x.1.isSome)
      && decide (([e] : List Expr).length + ([] : List Keyword).length + (if ([] : List Keyword).isEmpty then 0 else 1) < 30)) = true := by rfl)
    (hline : (apos.endLine == cpos.line) = true := by rfl) (hst : starEach [e] X.env = (false, eval e X.env) :: starEach [] X.env := by rfl) (hplain : (backTo cpos (starEach [] X.env)).any (·.1) = false := by rfl) :
    DE X (.Call (.Attribute o "append" apos) [e] [] cpos) (mBMr kAppend mo ma) := d_bm PySem.F.slot_list_append PySem.F.type_list_append mt_append s_append ho ha hbase hfew hline hst hplain
end
end L2
namespace L2
open PySem PySem.Spec PyProof.Rows
section
variable {X : Cx} {K : PySem.W.Frag}
theorem op_catT0 : OpR X (binaryOp .Add) (fun x y H Q => ∃ a b ys, x = .ref a ∧ y = .ref b ∧ SqT X.K H a [] ∧ SqT X.K H b ys ∧ Q (.ref b) H) := by
  intro pins s σ H x y v u Q I rx ry ⟨a, b, ys, ex, ey, ha, hb, q⟩
  subst ex ey
  cases rx
  cases ry
  obtain ⟨its, r1, p1, _⟩ := I.tuple ha
  obtain ⟨jts, r2, p2, _⟩ := I.tuple hb
  cases r1
  obtain ⟨⟨cls, dd, data, sl⟩, ho, hc, n, hd⟩ := id p1
  obtain ⟨⟨cls2, dd2, data2, sl2⟩, ho2, hc2, n2, hd2⟩ := id p2
  simp only at hc hd hc2 hd2
  subst hc hd hc2 hd2
  exact concat_meets ⟨_, ho, rfl⟩ ⟨_, ho2, rfl⟩ noFill_tuple_add seq_tuple_add PySem.F.slot_tuple_add PySem.F.entry_tuple_add (PySem.F.args_tuple_add_2 _ _)
    (tuple_addW0 a b _ _ n n2 dd dd2 sl sl2 (by simp)) ⟨ho, ho2, ⟨.ref b, H, I, rfl, q⟩⟩
def trkL (h : Gh) : W → Option (List W)
  | .lst ws => some ws
  | .loc n => (match h.c n with
    | some (.lst ws) => some ws
    | _ => none)
  | _ => none
theorem trkL_ok {H : Hp} {μ : Mu} {h : Gh} {w : W} {v : V} {ws : List W} (R : Rel K μ H h) (r : Rep K H μ w v) (e : trkL h w = some ws) : ∃ p xs, v = .ref p ∧ H p = some (.lst xs) ∧ Reps K H μ ws xs := by
  cases w with
  | lst us =>
    rw [Rep] at r
    obtain ⟨p, xs, ev, hs, rs⟩ := r
    cases (show some us = some ws from e)
    exact ⟨p, xs, ev, hs.1, rs⟩
  | loc n =>
    unfold trkL at e
    dsimp only at e
    cases ec : h.c n with
    | none => rw [ec] at e; cases e
    | some cl =>
      rw [ec] at e
      cases cl with
      | lst us =>
        cases (show some us = some ws from e)
        obtain ⟨p, xs, ev, _, hx, rs⟩ := locAt R r ec
        exact ⟨p, xs, ev, hx, rs⟩
      | _ => cases e
  | _ => cases e
def kAddA : M2 := fun x y h Q => match x, y with
  | .int i, .int j => Q (.int (i + j)) h
  | .tup [], .tup b => Q (.tup b) h
  | .tup (a0 :: a), .tup b => szOk (a.length + 1 + b.length) (Q (.tup (a0 :: a ++ b)) h)
  | x, y => (match trkL h x, trkL h y with
    | some a, some b => szOk (a.length + b.length) (Q (.lst (a ++ b)) h)
    | _, _ => False)
theorem o_addA : DOp X (binaryOp .Add) kAddA := ⟨_, (op_add.or (op_catT0.or op_catT)).or op_cat, by
  intro H μ h x y wx wy Qw Q R rx ry m k
  unfold kAddA at m
  split at m
  · rw [Rep] at rx ry
    exact .inl (.inl ⟨_, _, rx, ry, k _ _ (.int R m)⟩)
  · rename_i b
    have ry' := ry
    rw [Rep] at rx ry
    obtain ⟨p, xs, ex, hx, r1⟩ := rx
    obtain ⟨q, ys, ey, hy, r2⟩ := ry
    rw [Reps] at r1
    subst r1
    rw [ey] at ry'
    exact .inl (.inr (.inl ⟨p, q, ys, ex, ey, hx, hy, k _ _ ⟨μ, _, h, .refl, R, ry', m⟩⟩))
  · rename_i a0 a b
    have rx' := rx
    rw [Rep] at rx ry
    obtain ⟨p, xs, ex, hx, r1⟩ := rx
    obtain ⟨q, ys, ey, hy, r2⟩ := ry
    have sz := m.ok.1
    refine .inl (.inr (.inr ⟨p, q, xs, ys, ex, ey, hx, hy, fun z => (by have := r1.ne_nil.mp z; cases this), by rw [← r1.len, ← r2.len]; exact sz, fun z => ?_, fun z l hl => ?_⟩))
    · have eb : b = [] := r2.ne_nil.mp z
      subst eb
      refine k _ _ ⟨μ, .tup (a0 :: a ++ []), h, .refl, R, ?_, m.ok.2⟩
      rw [List.append_nil, ← ex]
      exact rx'
    · exact k _ _ ⟨μ, _, h, (Ex.laid hl).ext, R.laid hl, .tupNew hl (r1.append r2), m.ok.2⟩
  · split at m
    · rename_i a b ea eb
      obtain ⟨p, xs, ex, hx, r1⟩ := trkL_ok R rx ea
      obtain ⟨q, ys, ey, hy, r2⟩ := trkL_ok R ry eb
      have sz := m.ok.1
      exact .inr ⟨p, q, xs, ys, ex, ey, hx, hy, by rw [← r1.len, ← r2.len]; exact sz, fun l hl => k _ _ ⟨μ, _, h, (Ex.laid hl).ext, R.laid hl, .lstNew R hl (r1.append r2), m.ok.2⟩⟩
    · exact m.elim⟩
variable {o e : Expr} {mo : ME} {ma : MA} {apos cpos : Pos}
end
end L2
namespace L2
open PySem PySem.Spec PyProof.Rows
def spLaw (K : PySem.W.Frag) : Sp := fun vs H Q _ => ∃ (a : Addr) (ns : List Int), vs = [.ref a] ∧ SqL K H a (ns.map V.int) ∧ Only H ∧ ns.length ≤ 63 ∧ ∀ H', Q (.bl true) H'
def g0 : Gh := ⟨0, fun _ => none⟩
def μ0 : Mu := ⟨fun _ => none, fun _ => False⟩
theorem rel0 {K : PySem.W.Frag} {H : Hp} : Rel K μ0 H g0 where
  inj := fun m n p h => by cases (show (none : Option Addr) = some p from h)
  dom := fun n p h => by cases (show (none : Option Addr) = some p from h)
  trk := fun n p h => by cases (show (none : Option Addr) = some p from h)
  cel := fun n c h => by cases (show (none : Option Cell) = some c from h)
  hd := fun p h => False.elim h
theorem reps_ints {K : PySem.W.Frag} {H : Hp} {μ : Mu} : ∀ ns : List Int, Reps K H μ (ns.map W.int) (ns.map V.int)
  | [] => .nil
  | n :: ns => .cons (by rw [Rep]) (reps_ints ns)
theorem law_imp {P : Program} {w : World} {K : PySem.W.Frag} {mg : Str → Option Value} {base : Heap} {k : Nat} {f : Addr} {fd : FuncData} {ps : List Str} {ms : MSp}
    (hm : ∀ ns : List Int, ns.length ≤ 63 → ms [.kls (ns.map W.int)] g0 (fun w _ => w = .bl true) EF) (F : FnOk P w K mg base CX0 k f fd ps (lift K ms)) : FnOk P w K mg base CX0 k f fd ps (spLaw K) :=
  F.imp fun vs H Q E ⟨a, ns, e, hS, hO, hl, q⟩ => by
    subst e
    refine ⟨μ0, g0, [.kls (ns.map W.int)], _, rel0, .one ?_, hm ns hl, fun v H' ⟨μ', w', h', _, _, r, e⟩ => ?_⟩
    · rw [Rep]
      refine ⟨a, ns.map V.int, rfl, ?_, reps_ints ns⟩
      rcases hS with (hS | hS) | hS
      · rcases hO a with z | ⟨o, xs, z⟩ <;> rw [hS] at z <;> cases z
      · exact .inl hS
      · exact .inr hS
    · subst e
      rw [Rep] at r
      subst r
      exact q H'
end L2
namespace L2
open PySem PySem.Spec PyProof.Rows
inductive Sk where
  | l | t
section
variable {P : Program} {w : World} {A : Around} {E : Value → Shared → Prop} {s : Shared} {k k1 k2 : Sk}
structure Zap (z TI TO i1 i2 : Addr) : Prop where
  a1 : TI ≠ z
  a2 : TO ≠ z
  a3 : i1 ≠ z
  a4 : i2 ≠ z
  a5 : TI ≠ TO
  a6 : TI ≠ i1
  a7 : TI ≠ i2
  a8 : TO ≠ i1
  a9 : TO ≠ i2
  b1 : i1 ≠ i2
structure Off (a z TO i1 i2 : Addr) : Prop where
  z : a ≠ z
  o : a ≠ TO
  i : a ≠ i1
  j : a ≠ i2
end
end L2
namespace L2
open PySem PySem.Spec PyProof.Rows
section
variable {X : Cx} {pins : List (Addr × Obj)} {σ : St} {H : Hp} {s : Shared} {h' : Heap}
end
section
variable {X : Cx} {K : PySem.W.Frag}
end
end L2
namespace L2
open PySem PySem.Spec PyProof.Rows
section
variable {X : Cx} {K : PySem.W.Frag}
end
end L2
namespace L2
open PySem PySem.Spec PyProof.Rows
end L2
namespace L2
open PySem PySem.Spec PyProof.Rows
section
variable {P : Program} {w : World} {A : Around} {E : Value → Shared → Prop} {s : Shared}
end
end L2
namespace L2
open PySem PySem.Spec PyProof.Rows
section
variable {X : Cx} {K : PySem.W.Frag}
end
end L2
namespace L2
open PySem PySem.Spec PyProof.Rows
section
variable {X : Cx}
end
end L2
namespace L2
open PySem PySem.Spec PyProof.Rows
section
variable {X : Cx} {K : PySem.W.Frag}
end
end L2
namespace L2
open PySem PySem.Spec PyProof.Rows
theorem repsN {K : PySem.W.Frag} {H : Hp} {μ : Mu} : Reps K H μ [] [] := by rw [Reps]
theorem repsC {K : PySem.W.Frag} {H : Hp} {μ : Mu} {w : W} {v : V} {ws : List W} {vs : List V} (h : Rep K H μ w v) (t : Reps K H μ ws vs) : Reps K H μ (w :: ws) (v :: vs) := by rw [Reps]; exact ⟨v, vs, rfl, h, t⟩
theorem repI {K : PySem.W.Frag} {H : Hp} {μ : Mu} {i : Int} : Rep K H μ (.int i) (.int i) := by rw [Rep]
theorem rep_tupK {K : PySem.W.Frag} {a : Addr} {od : Option Addr} {sl : Array (Option Value)} {its : Array Value} {n : Nat} {xs : List V} {ws : List W} (h : K.lookup a = some ⟨.type "tuple", od, .seq its n, sl⟩) (hz : its.size ≤ sizeLine) (hv : Vals xs its.toList) (hr : ∀ H μ, Reps K H μ ws xs) : ∀ H μ, Rep K H μ (.tup ws) (.ref a) := by
  intro H μ
  rw [Rep]
  exact ⟨a, xs, rfl, .inr ⟨_, its, n, h, rfl, rfl, hz, hv⟩, hr H μ⟩
theorem relI {i : Int} {t} : RelV (.int i) (.int i t) := ⟨t, rfl⟩
theorem relR {a : Addr} : RelV (.ref a) (.ref a) := rfl
end L2
namespace L2
open PySem PySem.Spec PyProof.Rows
section
variable {prog : Program} {w : World} {A : Around} {E : Value → Shared → Prop} {s : Shared}
end
section
variable {X : Cx} {pos : Pos}
end
end L2
namespace L2
open PySem PySem.Spec PyProof.Rows
section
variable {K : PySem.W.Frag} {H : Hp} {μ : Mu} {h : Gh} {p : Addr} {ws : List W} {xs : List V}
end
section
variable {X : Cx} {tg iter elt : Expr} {ifs : List Expr} {pos : Pos} {scope : Scope} {xs : List Str} {mi : MI} {tt : MT} {te : ME}
end
end L2
namespace L2
open PySem PySem.Spec PyProof.Rows
def isStar : Expr → Bool
  | .Starred _ _ => true
  | _ => false
theorem star_of {e : Expr} {es : List Expr} {env : Env} (h : isStar e = false) : starEach (e :: es) env = (false, eval e env) :: starEach es env := by
  cases e <;> first | rfl | cases h
theorem star_1 {e : Expr} {env : Env} (h : isStar e = false) : starEach [e] env = [(false, eval e env)] := (star_of h).trans rfl
def noStar : List Expr → Bool
  | [] => true
  | e :: r => !isStar e && noStar r
theorem plain_of {pos : Pos} {env : Env} : ∀ {es : List Expr}, noStar es = true → (backTo pos (starEach es env)).any (·.1) = false
  | [], _ => rfl
  | e :: r, h => by
    rw [noStar, Bool.and_eq_true, Bool.not_eq_true'] at h
    rw [star_of h.1]
    show (false || (backTo pos (starEach r env)).any (·.1)) = false
    rw [plain_of h.2]
    rfl
theorem few_1 {cpos : Pos} {e : Expr} {env : Env} (h : isStar e = false) : ((backTo cpos (starEach [e] env)).all (fun x => !x.1) && (backToKw cpos (keywordEach [] env)).all (fun x => x.1.isSome)
      && decide (([e] : List Expr).length + ([] : List Keyword).length + (if ([] : List Keyword).isEmpty then 0 else 1) < 30)) = true := by
  rw [star_1 h]; rfl
end L2
namespace L2
open PySem PySem.Spec PyProof.Rows
section
variable {prog : Program} {w : World} {A : Around} {E : Value → Shared → Prop} {s : Shared}
end
section
variable {X : Cx}
end
end L2
namespace L2
open PySem PySem.Spec PyProof.Rows
section
variable {X : Cx}
def kInt : MC := fun ws h Q => match ws with
  | [.int i] => Q (.int i) h
  | [.bl b] => Q (.int (if b then 1 else 0)) h
  | _ => False
theorem c_int : DCall X (.type "int") kInt := ⟨_, call_int1, by
  intro H μ h vs ws Qw Q R r m k
  unfold kInt at m
  split at m
  · obtain ⟨v, e, rv⟩ := reps1 r
    rw [Rep] at rv
    subst e rv
    exact .inl ⟨_, rfl, k _ _ (.int R m)⟩
  · obtain ⟨v, e, rv⟩ := reps1 r
    rw [Rep] at rv
    subst e rv
    exact .inr ⟨_, rfl, k _ _ (.int R m)⟩
  · exact m.elim⟩
theorem noFill_tup_mul : fillsNumberSlot (.type "tuple") "mul" = pure false :=
  PySem.fillsNumberSlot_seq (id := "tuple.__mul__") (r := some (.builtin "tuple.__rmul__")) F.slot_tuple_mul.lookup (by decide +kernel) F.slot_tuple_rmul.lookup (by decide +kernel)
theorem repeat_tup : seqRepeat? (.type "tuple") = pure (some (.builtin "tuple.__mul__")) := by
  unfold seqRepeat?
  rw [PySem.seqSlot_of (T := "tuple") (name := "__mul__") (id := "tuple.__mul__") F.slot_tuple_mul.lookup (by decide +kernel), PySem.seqSlot_of (T := "tuple") (name := "__rmul__") (id := "tuple.__rmul__") F.slot_tuple_rmul.lookup (by decide +kernel)]
  rfl
theorem int_rmul_tup (a : Int) (t : Tok) (l : Addr) (items : Array Value) :
    Meets (Builtin.«int.__rmul__» ⟨[.int a t, .ref l], []⟩) (fun _ R s => IsTup s.heap l items ∧ R (.ok (.ret Value.notImplemented)) s) :=
  .of_wp fun prog w A R s h => by
    obtain ⟨hp, g, d, tk, os⟩ := s
    obtain ⟨⟨o, ho, hc, n, hd⟩, h⟩ := h
    obtain ⟨cl, dd, da, sl⟩ := o
    simp only at hc hd
    subst hc hd
    wp_walk
    exact ⟨_, rfl, h⟩
theorem tup_mul (l : Addr) (items : Array Value) (k : Int) (t : Tok) (h0 : 0 ≤ k) (h1 : k < 2 ^ 63) (hz : items.size * k.toNat ≤ sizeLine) :
    Meets (Builtin.«tuple.__mul__» ⟨[.ref l, .int k t], []⟩) (fun _ R s => IsTup s.heap l items ∧ (if items.size = 0 ∨ k = 1 then R (.ok (.ret (.ref l))) s else
      R (.ok (.ret (.ref s.heap.objs.size))) { s with heap := s.heap.push { cls := .type "tuple", data := .seq (List.replicate k.toNat items.toList).flatten.toArray } })) :=
  .of_wp fun prog w A R s h => by
    obtain ⟨hp, g, d, tk, os⟩ := s
    obtain ⟨⟨o, ho, hc, n, hd⟩, h⟩ := h
    obtain ⟨cl, dd, da, sl⟩ := o
    simp only at hc hd
    subst hc hd
    have ht : IsTup hp l items := ⟨_, ho, rfl, n, rfl⟩
    wp_walk
    rw [if_neg (by simp; omega)]
    refine wpAny_bind (tupleItemsOf_ (s := ⟨hp, g, d, tk, os⟩) ht ?_)
    dsimp only
    have hemp : items.isEmpty = decide (items.size = 0) := rfl
    by_cases e : items.size = 0 ∨ k = 1
    · rw [if_pos e] at h
      rw [if_pos (by rcases e with e | e <;> simp [hemp, e])]
      unfold Builtin.Tuple.tupleIsExact
      refine wpAny_bind (wpAny_bind (wpAny_typeOf ⟨_, ho, rfl⟩ (wpAny_pure ?_)))
      rw [if_pos (by decide)]
      refine wpAny_bind (wpAny_rule ?_)
      exact wpAny_pure ⟨_, rfl, h⟩
    · rw [if_neg e] at h
      rw [not_or] at e
      rw [if_neg (by simp [hemp, e.1, e.2])]
      by_cases k0 : k = 0
      · rw [if_pos (by simp [k0])]
        subst k0
        have ee : (List.replicate (0 : Int).toNat items.toList).flatten.toArray = #[] := rfl
        rw [ee] at h
        exact wpAny_bind (m := Builtin.Tuple.tupleExact _) (wpAny_newObj_type (wpAny_pure ⟨_, rfl, h⟩) (by show 0 ≤ sizeLine; exact Nat.zero_le _))
      · rw [if_neg (by simp [hemp, e.1]; omega)]
        have hp8 : ((2 : Int) ^ 63 - 1) / 8 = 1152921504606846975 := by decide
        have hsz : (sizeLine : Nat) ≤ 1152921504606846975 := by decide
        have hk : ((items.size * k.toNat : Nat) : Int) = (items.size : Int) * k := by rw [Int.natCast_mul, Int.toNat_of_nonneg h0]
        rw [if_neg (by rw [hp8, ← hk]; omega)]
        rw [if_neg (by unfold Builtin.Tuple.tupleTooMany; rw [← hk, decide_eq_true_iff]; omega)]
        have hnew : List.foldl (fun x1 x2 => x1 ++ x2) #[] (List.replicate k.toNat items) = (List.replicate k.toNat items.toList).flatten.toArray := by
          have := foldl_rep items.toList k.toNat []
          rw [List.nil_append] at this
          simpa using this
        rw [hnew]
        refine wpAny_bind (m := Builtin.Tuple.tupleExact _) (wpAny_newObj_type (wpAny_pure ⟨_, rfl, h⟩) ?_)
        show (List.replicate k.toNat items.toList).flatten.toArray.size ≤ sizeLine
        rw [List.size_toArray, len_rep, Nat.mul_comm]
        simpa using hz
def rMulT (K : PySem.W.Frag) : R2 := fun x y H Q => ∃ a xs k, x = .ref a ∧ y = .int k ∧ SqT K H a xs ∧ 0 ≤ k ∧ k < 2 ^ 63 ∧ xs.length * k.toNat ≤ sizeLine ∧
  ((xs.length = 0 ∨ k = 1) → Q (.ref a) H) ∧ (¬ (xs.length = 0 ∨ k = 1) → ∀ p, H p = none → Q (.ref p) (upd H p (.tup (List.replicate k.toNat xs).flatten)))
theorem op_mulT : OpR X (binaryOp .Mult) (rMulT X.K) := by
  intro pins s σ H x y v u Q I rx ry h
  obtain ⟨a, xs, k, rfl, rfl, hx, h0, h1, hz, q1, q2⟩ := h
  cases rx
  obtain ⟨t, rfl⟩ := ry
  obtain ⟨its, r, ht, hsz⟩ := I.tuple hx
  have hlen : its.toArray.size = xs.length := by rw [List.size_toArray]; exact r.length.symm
  refine wpAny_binaryOp_repeat_ref (T := "tuple") (U := "int") (by decide) ht.typeIs (fun s' => typeIs_int s' k t) noFill_tup_mul F.fills_int_mul F.slot_int_rmul repeat_tup F.slot_int_index.lookup
    (call_meets F.slot_int_rmul (typeIs_int s k t) F.entry_int_rmul (F.args_int_rmul_2 _ _) (int_rmul_tup k t a its.toArray)
      ⟨ht, rfl, ht.typeIs, call_meets F.slot_tuple_mul ht.typeIs F.entry_tuple_mul (F.args_tuple_mul_2 _ _) (tup_mul a its.toArray k t h0 h1 (by rw [hlen]; exact hz)) ⟨ht, ?_⟩⟩)
  rw [hlen]
  by_cases e : xs.length = 0 ∨ k = 1
  · rw [if_pos e]
    exact ⟨.ref a, H, I, rfl, q1 e⟩
  · rw [if_neg e]
    refine ⟨.ref s.heap.objs.size, _, I.laid (t' := s.toks) (o := .tup (List.replicate k.toNat xs).flatten) (fun b ob q => Heap.get?_push_of_some _ q) (Nat.le_refl _) ?_, rfl, q2 e _ (I.hok.fresh (Nat.le_refl _))⟩
    exact ⟨by rw [len_rep, Nat.mul_comm]; exact hz, _, r.rep k.toNat, IsTup.new _ _⟩
def kMulA : M2 := fun x y h Q => match x, y with
  | .int i, .int j => CMulB i j ∧ Q (.int (i * j)) h
  | .tup ws, .int k => (0 ≤ k ∧ k ≤ 1000 ∧ ws.length * k.toNat ≤ 1000) ∧ Q (.tup (List.replicate k.toNat ws).flatten) h
  | _, _ => False
theorem reps_rep {K : PySem.W.Frag} {H : Hp} {μ : Mu} {ws : List W} {xs : List V} (r : Reps K H μ ws xs) : ∀ k : Nat, Reps K H μ (List.replicate k ws).flatten (List.replicate k xs).flatten
  | 0 => repsN
  | k + 1 => by
    rw [List.replicate_succ, List.replicate_succ, List.flatten_cons, List.flatten_cons]
    exact Reps.append r (reps_rep r k)
theorem o_mulA : DOp X (binaryOp .Mult) kMulA := ⟨_, op_mulB.or op_mulT, by
  intro H μ h x y wx wy Qw Q R rx ry m k
  cases wx with
  | int i => cases wy with
    | int j =>
      rw [Rep] at rx ry
      have m : CMulB i j ∧ Qw (.int (i * j)) h := m
      exact .inl ⟨_, _, rx, ry, m.1, k _ _ (.int R m.2)⟩
    | _ => exact (show False from m).elim
  | tup ws => cases wy with
    | int n =>
      have m : (0 ≤ n ∧ n ≤ 1000 ∧ ws.length * n.toNat ≤ 1000) ∧ Qw (.tup (List.replicate n.toNat ws).flatten) h := m
      obtain ⟨⟨h0, h1, h2⟩, m⟩ := m
      have rx0 := rx
      rw [Rep] at rx
      rw [Rep] at ry
      obtain ⟨p, xs, ex, hx, rs⟩ := rx
      have hl := rs.len
      have sz : (1000 : Nat) ≤ sizeLine := by decide
      have p63 : (2 : Int) ^ 63 = 9223372036854775808 := by decide
      refine .inr ⟨p, xs, n, ex, ry, hx, h0, by omega, by rw [← hl]; omega, fun e => ?_, fun e q hq => ?_⟩
      · have ee : (List.replicate n.toNat ws).flatten = ws := by
          rcases e with e | e
          · have : ws = [] := List.eq_nil_of_length_eq_zero (by omega)
            subst this
            have : ∀ k : Nat, (List.replicate k ([] : List W)).flatten = [] := fun k => by induction k with
              | zero => rfl
              | succ k ih => rw [List.replicate_succ, List.flatten_cons, ih]; rfl
            exact this _
          · subst e
            show (List.replicate 1 ws).flatten = ws
            simp
        rw [ee] at m
        rw [← ex]
        exact k _ _ ⟨μ, .tup ws, h, .refl, R, rx0, m⟩
      · exact k _ _ ⟨μ, .tup (List.replicate n.toNat ws).flatten, h, (Ex.laid hq).ext, R.laid hq, .tupNew hq (reps_rep rs _), m⟩
    | _ => exact (show False from m).elim
  | _ => exact (show False from by cases wy <;> exact m).elim⟩
def rIndex (K : PySem.W.Frag) : V → List V → Hp → VK → Prop := fun x vs H Q => ∃ (l : Addr) (ns : List Int) (k : Int) (j : Nat), x = .ref l ∧ vs = [.int k] ∧ SqL K H l (ns.map V.int) ∧ ns[j]? = some k ∧ (∀ m, m < j → ns[m]? ≠ some k) ∧ Q (.int j) H
theorem mt_index : MtR X "list.index" (rIndex X.K) := by
  intro pins s σ H x vs v us Q I rx rv h
  obtain ⟨l, ns, k, j, rfl, rfl, hx, hj, hno, q⟩ := h
  cases rx
  obtain ⟨u, rfl, ru⟩ := rv.one
  obtain ⟨t, rfl⟩ := ru
  obtain ⟨its, r, pl, hz⟩ := I.list hx
  obtain ⟨⟨cl, dd, da, sl⟩, n, e, c1, c2, c3⟩ := pl
  simp only at c1 c2 c3
  subst c1 c2 c3
  have hl := r.length
  rw [List.length_map] at hl
  have at' : ∀ {m : Nat} (hm : m < its.toArray.size), ∃ a t', ns[m]? = some a ∧ its.toArray[m] = .int a t' := fun {m} hm => by
    have hm' : m < ns.length := by rw [List.size_toArray] at hm; omega
    obtain ⟨u, hu, ru⟩ := r.get (show (ns.map V.int)[m]? = some (.int ns[m]) by rw [List.getElem?_map, List.getElem?_eq_getElem hm']; rfl)
    obtain ⟨t', rfl⟩ := ru
    refine ⟨ns[m], t', List.getElem?_eq_getElem hm', ?_⟩
    have := (List.getElem?_eq_some_iff.mp hu).2
    simpa using this
  have hjl : j < its.toArray.size := by
    have := (List.getElem?_eq_some_iff.mp hj).1
    rw [List.size_toArray]; omega
  have h63 : (sizeLine : Nat) < 2 ^ 63 - 1 := by decide
  have hz' : ns.length ≤ sizeLine := by rw [List.length_map] at hz; exact hz
  let ev : Value → Bool := fun y => match y with
    | .int a _ => a == k
    | _ => false
  refine call_meets F.slot_list_index ⟨_, e, rfl⟩ F.entry_list_index (F.args_list_index_2 _ _) (SeqAt.list_indexAt l its.toArray n none sl (.int k t) ev j hjl ?_ ?_ ?_) ⟨e, ?_, ?_⟩
  · rw [List.size_toArray] at hjl
    have : (2 : Int) ^ 63 - 1 = ((2 ^ 63 - 1 : Nat) : Int) := by decide
    rw [this]
    omega
  · obtain ⟨a, t', ea, e2⟩ := at' hjl
    rw [e2]
    rw [hj] at ea
    cases ea
    show (k == k) = true
    exact beq_self_eq_true k
  · intro m hm hmj
    obtain ⟨a, t', ea, e2⟩ := at' hm
    rw [e2]
    show (a == k) = false
    refine beq_eq_false_iff_ne.mpr fun x => hno m hmj ?_
    rw [ea, x]
  · intro y hy
    obtain ⟨m, hm, e2⟩ := Array.mem_iff_getElem.mp hy
    obtain ⟨a, t', ea, e3⟩ := at' hm
    rw [← e2, e3]
    exact SeqAt.EqAt.int_int a t' k t
  · exact ⟨.int j, H, I.tok _, ⟨_, rfl⟩, q⟩
def kIndex : MM := fun x ws h Q => match ws with
  | [.int k] => (match viewL h x with
    | some us => ∃ (ns : List Int) (j : Nat), us = ns.map W.int ∧ ns[j]? = some k ∧ (∀ m, m < j → ns[m]? ≠ some k) ∧ Q (.int j) h
    | none => False)
  | _ => False
theorem reps_intsV {K : PySem.W.Frag} {H : Hp} {μ : Mu} : ∀ {ns : List Int} {xs : List V}, Reps K H μ (ns.map W.int) xs → xs = ns.map V.int
  | [], xs, r => by rw [List.map_nil, Reps] at r; exact r
  | n :: ns, xs, r => by
    rw [List.map_cons, Reps] at r
    obtain ⟨v, vs, e, rv, r⟩ := r
    rw [Rep] at rv
    rw [e, rv, reps_intsV r]; rfl
theorem s_index {K : PySem.W.Frag} : SimM K (rIndex K) kIndex := by
  intro H μ h x vs wx ws Qw Q R rx rs m k
  unfold kIndex at m
  split at m
  · rename_i i
    obtain ⟨v, ev, rv⟩ := reps1 rs
    rw [Rep] at rv
    subst ev rv
    split at m
    · rename_i us ev
      obtain ⟨ns, j, eu, hj, hno, m⟩ := m
      obtain ⟨p, xs, ex, hs, rr⟩ := viewL_ok R rx ev
      rw [eu] at rr
      have exs := reps_intsV rr
      subst exs
      exact ⟨p, ns, i, j, ex, rfl, hs, hj, hno, k _ _ (.int R m)⟩
    · exact m.elim
  · exact m.elim
def isLst2 (h : Gh) (w : W) (P : Prop) : Prop := match viewL h w with
  | some _ => P
  | none => False
theorem isLst2_ty {K : PySem.W.Frag} {H : Hp} {μ : Mu} {h : Gh} {w : W} {v : V} {P : Prop} (R : Rel K μ H h) (r : Rep K H μ w v) (e : isLst2 h w P) : tyV K "list" v H ∧ P := by
  unfold isLst2 at e
  split at e
  · rename_i us ev
    obtain ⟨p, xs, ex, hs, _⟩ := viewL_ok R r ev
    subst ex
    exact ⟨.inl ⟨rfl, xs, hs⟩, e⟩
  · exact e.elim
def mBMl (r : MM) (mo : ME) (ma : MA) : ME := fun σ h Q => mo σ h fun x h1 => isLst2 h1 x (ma σ h1 fun xs h2 => r x xs h2 Q)
theorem d_index {o e : Expr} {mo : ME} {ma : MA} {apos cpos : Pos} (ho : DE X o mo) (ha : DAs X [e] ma)
    (hbase : attributeBase o "index" X.env (eval o X.env) = eval o X.env := by rfl)
    (hfew : ((backTo cpos (starEach [e] X.env)).all (fun x => !x.1) && (backToKw cpos (keywordEach [] X.env)).all (fun x => x.1.isSome)
      && decide (([e] : List Expr).length + ([] : List Keyword).length + (if ([] : List Keyword).isEmpty then 0 else 1) < 30)) = true := by rfl)
    (hline : (apos.endLine == cpos.line) = true := by rfl) (hst : starEach [e] X.env = (false, eval e X.env) :: starEach [] X.env := by rfl) (hplain : (backTo cpos (starEach [] X.env)).any (·.1) = false := by rfl) :
    DE X (.Call (.Attribute o "index" apos) [e] [] cpos) (mBMl kIndex mo ma) := (pe_bm PySem.F.plainAttrs_list PySem.F.slot_list_index PySem.F.type_list_index mt_index ho ha hbase hfew hline hst hplain).of fun σ H Q ⟨μ, h, σw, Qw, R, S, m, k⟩ => by
  refine ⟨μ, h, σw, _, R, S, m, fun v H1 ⟨μ1, w, h1, e1, R1, r1, il⟩ => ⟨(isLst2_ty R1 r1 il).1, ?_⟩⟩
  have m1 := (isLst2_ty R1 r1 il).2
  exact ⟨μ1, h1, σw, _, R1, S.ext e1, m1, fun vs H2 ⟨μ2, ws, h2, e2, R2, r2, m2⟩ => s_index R2 (e2.r _ _ r1) r2 m2 fun v H' z => k _ _ ((z.trans e2).trans e1)⟩
end
end L2
namespace L2
open PySem PySem.Spec PyProof.Rows
section
variable {X : Cx}
def CMulS (i j : Int) : Prop := CMulB i j ∨ Sm 64 i ∨ Sm 64 j
theorem CMulS.ok {i j : Int} (h : CMulS i j) : IntMulOk i j := by
  rcases h with h | h | h
  · exact h.ok
  · exact .of_left h.bits
  · exact .of_right h.bits
theorem op_mulS : OpR X (binaryOp .Mult) (rI CMulS fun i j => .int (i * j)) := opI fun _ _ _ _ _ _ _ hc q => mul_int q hc.ok
def kMulS : M2 := fun x y h Q => match x, y with
  | .int i, .int j => CMulS i j ∧ Q (.int (i * j)) h
  | _, _ => False
theorem o_mulS : DOp X (binaryOp .Mult) kMulS := ⟨_, op_mulS, by
  intro H μ h x y wx wy Qw Q R rx ry m k
  unfold kMulS at m
  split at m
  · rw [Rep] at rx ry
    exact ⟨_, _, rx, ry, m.1, k _ _ (.int R m.2)⟩
  · exact m.elim⟩
end
end L2
namespace My
open PySem L2 PyProof.Rows
def k_CORNERS : W := (.tup [(.tup [(.int 0), (.int 0), (.int 1)]), (.tup [(.int 1), (.int 0), (.int 1)]), (.tup [(.int 0), (.int 1), (.int 1)]), (.tup [(.int 1), (.int 1), (.int 1)])])
def top (i : Nat) : Stmt := PySem.Challenge.pw_easelroom_k70_letter_things.main.body.getD i (.Pass ⟨0, 0, 0, 0⟩)
abbrev s_free_rows : Stmt := top 2
theorem sc_free_rows : FnScope ["rows"] ["rows"] (defScope s_free_rows) := ⟨rfl, rfl, rfl, by decide +kernel, rfl, by decide +kernel, by decide +kernel⟩
abbrev s_number_sum : Stmt := top 4
theorem sc_number_sum : FnScope ["number", "letters"] ["number", "letters"] (defScope s_number_sum) := ⟨rfl, rfl, rfl, by decide +kernel, rfl, by decide +kernel, by decide +kernel⟩
abbrev s_letter_sum : Stmt := top 5
theorem sc_letter_sum : FnScope ["letter", "letters"] ["letter", "letters"] (defScope s_letter_sum) := ⟨rfl, rfl, rfl, by decide +kernel, rfl, by decide +kernel, by decide +kernel⟩
abbrev s_letter_count : Stmt := top 7
theorem sc_letter_count : FnScope ["rows"] ["rows"] (defScope s_letter_count) := ⟨rfl, rfl, rfl, by decide +kernel, rfl, by decide +kernel, by decide +kernel⟩
abbrev s_free_thing : Stmt := top 8
theorem sc_free_thing : FnScope ["rows", "k", "letters", "place", "first"] ["rows", "k"] (defScope s_free_thing) := ⟨rfl, rfl, rfl, by decide +kernel, rfl, by decide +kernel, by decide +kernel⟩
abbrev s_l_cell : Stmt := top 10
theorem sc_l_cell : FnScope ["_law_script", "_law_k"] ["_law_script", "_law_k"] (defScope s_l_cell) := ⟨rfl, rfl, rfl, by decide +kernel, rfl, by decide +kernel, by decide +kernel⟩
abbrev s_l_bag : Stmt := top 11
theorem sc_l_bag : FnScope ["_law_cell_here"] ["_law_cell_here"] (defScope s_l_bag) := ⟨rfl, rfl, rfl, by decide +kernel, rfl, by decide +kernel, by decide +kernel⟩
abbrev s_l_draw : Stmt := top 12
theorem sc_l_draw : FnScope ["_law_bag_here", "_law_many", "_law_found"] ["_law_bag_here", "_law_many"] (defScope s_l_draw) := ⟨rfl, rfl, rfl, by decide +kernel, rfl, by decide +kernel, by decide +kernel⟩
abbrev s_l_number : Stmt := top 13
theorem sc_l_number : FnScope ["_law_number_here", "_law_letters"] ["_law_number_here", "_law_letters"] (defScope s_l_number) := ⟨rfl, rfl, rfl, by decide +kernel, rfl, by decide +kernel, by decide +kernel⟩
abbrev s_l_letter : Stmt := top 14
theorem sc_l_letter : FnScope ["_law_letter_here", "_law_letters"] ["_law_letter_here", "_law_letters"] (defScope s_l_letter) := ⟨rfl, rfl, rfl, by decide +kernel, rfl, by decide +kernel, by decide +kernel⟩
abbrev s_law : Stmt := top 15
theorem sc_law : FnScope ["_law_script", "_law_bag_here", "_law_rows", "_law_places", "_law_k", "_law_letters", "_law_said", "_law_corners", "_law_lap", "_law_at", "_law_due", "_law_found"] ["_law_script"] (defScope s_law) := ⟨rfl, rfl, rfl, by decide +kernel, rfl, by decide +kernel, by decide +kernel⟩
def r_free_rows : MSp := mFn 1 1 false fun E =>
    (mRet (mLC ow1 [0] (nRng1 (mCons (mCB kLen (mCons (mVar 0) mNil)) mNil)) (mTest (mOp kEq (mOp kIx (mOp kIx (mVar 1) (mVar 0)) (mC (.int 0))) (mC (.str "free")))) (mVar 0)))
def m_free_rows : MSp := r_free_rows
def r_number_sum : MSp := mFn 2 2 false fun E =>
    (mRet (mIf (mTest (mOp kNe (mVar 0) (mC (.int 0)))) (mTup (mCons (mTup (mCons (mOp kMulA (mTup (mCons (mC (.int 0)) mNil)) (mVar 1)) (mCons (mVar 0) mNil))) mNil)) (mTup mNil)))
def m_number_sum : MSp := r_number_sum
def r_letter_sum : MSp := mFn 2 2 false fun E =>
    (mRet (mTup (mCons (mTup (mCons (mCB kTuple (mCons (mLC ow1 [0] (nRng1 (mCons (mVar 1) mNil)) mYes (mIf (mTest (mOp kEq (mVar 0) (mVar 1))) (mC (.int 1)) (mC (.int 0)))) mNil)) (mCons (mC (.int 1)) mNil))) mNil)))
def m_letter_sum : MSp := r_letter_sum
def r_letter_count (c_free_rows : MSp) : MSp := mFn 1 1 false fun E =>
    (mRet (mOp kMul (mC (.int 2)) (mCB kMax (mCons (mOp kSub (mCB kLen (mCons (mCall c_free_rows E (mCons (mVar 0) mNil)) mNil)) (mC (.int 4))) (mCons (mC (.int 0)) mNil)))))
def m_letter_count : MSp := r_letter_count m_free_rows
def t_free_thing_3 (c_free_rows c_number_sum c_letter_sum c_letter_count : MSp) (E : XWK) : MS :=
    (mSeq (mAsg (mOp kMul (mC (.int 2)) (mOp kSub (mVar 3) (mC (.int 4)))) (nName 4))
    (mRet (mTup (mCons (mCall c_letter_sum E (mCons (mVar 4) (mCons (mVar 2) mNil))) (mCons (mCall c_letter_sum E (mCons (mOp kAddA (mVar 4) (mC (.int 1))) (mCons (mVar 2) mNil))) (mCons (mCall c_number_sum E (mCons (mC (.int 1)) (mCons (mVar 2) mNil))) mNil))))))
def r_free_thing (c_free_rows c_number_sum c_letter_sum c_letter_count : MSp) : MSp := mFn 2 5 false fun E =>
    (mSeq (mAsg (mCall c_letter_count E (mCons (mVar 0) mNil)) (nName 2))
    (mSeq (mAsg (mBMl kIndex (mCall c_free_rows E (mCons (mVar 0) mNil)) (mCons (mVar 1) mNil)) (nName 3))
    (mSeq (mIfS (mTest (mOp kLt (mVar 3) (mC (.int 4)))) (mRet (mCB kTuple (mCons (mLC ow1 [2] (nIt (mOp kIx (mC k_CORNERS) (mVar 3))) mYes (mCall c_number_sum E (mCons (mVar 0) (mCons (mVar 1) mNil)))) mNil))) mNext)
    (t_free_thing_3 c_free_rows c_number_sum c_letter_sum c_letter_count E))))
def m_free_thing : MSp := r_free_thing m_free_rows m_number_sum m_letter_sum m_letter_count
def t_l_cell_1 (E : XWK) : MS :=
    (mRet (mC (.int 0)))
def r_l_cell : MSp := mFn 2 2 false fun E =>
    (mSeq (mIfS (mTest (mOp kLt (mVar 1) (mCB kLen (mCons (mVar 0) mNil)))) (mRet (mOp kIx (mVar 0) (mVar 1))) mNext)
    (t_l_cell_1 E))
def m_l_cell : MSp := r_l_cell
def r_l_bag : MSp := mFn 1 1 false fun E =>
    (mRet (mLstM (mCons (mOp kMulS (mCB kAbs (mCons (mVar 0) mNil)) (mCB kInt (mCons (mOp kGe (mCB kAbs (mCons (mVar 0) mNil)) (mOp kPow (mC (.int 10)) (mC (.int 18)))) mNil))) (mCons (mOp kMod (mCB kAbs (mCons (mVar 0) mNil)) (mC (.int 2147483647))) mNil))))
def m_l_bag : MSp := r_l_bag
def t_l_draw_1 (E : XWK) : MS :=
    (mSeq (mAsg (mOp kMod (mOp kAddA (mOp kMul (mOp kIx (mVar 0) (mC (.int 1))) (mC (.int 48271))) (mC (.int 11))) (mC (.int 2147483647))) (nSub (mVar 0) (mC (.int 1)) sSetL))
    (mRet (mOp kMod (mOp kDiv (mOp kMod (mOp kMul (mOp kIx (mVar 0) (mC (.int 1))) (mOp kAddA (mOp kDiv (mOp kIx (mVar 0) (mC (.int 1))) (mC (.int 65536))) (mC (.int 7)))) (mC (.int 2147483629))) (mC (.int 32))) (mVar 1))))
def r_l_draw : MSp := mFn 2 3 false fun E =>
    (mSeq (mIfS (mTest (mOp kGt (mOp kIx (mVar 0) (mC (.int 0))) (mC (.int 0)))) (mSeq (mAsg (mOp kMod (mOp kIx (mVar 0) (mC (.int 0))) (mVar 1)) (nName 2))
    (mSeq (mAsg (mOp kDiv (mOp kIx (mVar 0) (mC (.int 0))) (mVar 1)) (nSub (mVar 0) (mC (.int 0)) sSetL))
    (mRet (mVar 2)))) mNext)
    (t_l_draw_1 E))
def m_l_draw : MSp := r_l_draw
def t_l_number_1 (E : XWK) : MS :=
    (mRet (mTup (mCons (mTup (mCons (mOp kMulA (mTup (mCons (mC (.int 0)) mNil)) (mVar 1)) (mCons (mVar 0) mNil))) mNil)))
def r_l_number : MSp := mFn 2 2 false fun E =>
    (mSeq (mIfS (mTest (mOp kEq (mVar 0) (mC (.int 0)))) (mRet (mTup mNil)) mNext)
    (t_l_number_1 E))
def m_l_number : MSp := r_l_number
def r_l_letter : MSp := mFn 2 2 false fun E =>
    (mRet (mTup (mCons (mTup (mCons (mCB kTuple (mCons (mLC ow1 [0] (nRng1 (mCons (mVar 1) mNil)) mYes (mCB kInt (mCons (mOp kEq (mVar 0) (mVar 1)) mNil))) mNil)) (mCons (mC (.int 1)) mNil))) mNil)))
def m_l_letter : MSp := r_l_letter
def t_law_9 (c_letter_count c_free_thing c_l_cell c_l_bag c_l_draw c_l_number c_l_letter : MSp) (E : XWK) : MS :=
    (mRet (mC (.bl true)))
def t_law_7 (c_letter_count c_free_thing c_l_cell c_l_bag c_l_draw c_l_number c_l_letter : MSp) (E : XWK) : MS :=
    (mSeq (mAsg (mLst (mCons (mTup (mCons (mC (.int 0)) (mCons (mC (.int 0)) (mCons (mC (.int 1)) mNil)))) (mCons (mTup (mCons (mC (.int 1)) (mCons (mC (.int 0)) (mCons (mC (.int 1)) mNil)))) (mCons (mTup (mCons (mC (.int 0)) (mCons (mC (.int 1)) (mCons (mC (.int 1)) mNil)))) (mCons (mTup (mCons (mC (.int 1)) (mCons (mC (.int 1)) (mCons (mC (.int 1)) mNil)))) mNil))))) (nName 7))
    (mSeq (mFor (nRng1 (mCons (mC (.int 2)) mNil)) (nName 8) (mFor (nRng1 (mCons (mCB kLen (mCons (mVar 3) mNil)) mNil)) (nName 9) (mSeq (mIfS (mTest (mOp kLt (mVar 9) (mC (.int 4)))) (mAsg (mCB kTuple (mCons (mLC ow1 [5] (nIt (mOp kIx (mVar 7) (mVar 9))) mYes (mCall c_l_number E (mCons (mVar 0) (mCons (mVar 1) mNil)))) mNil)) (nName 10)) (mAsg (mTup (mCons (mCall c_l_letter E (mCons (mOp kSub (mOp kMul (mC (.int 2)) (mVar 9)) (mC (.int 8))) (mCons (mVar 5) mNil))) (mCons (mCall c_l_letter E (mCons (mOp kSub (mOp kMul (mC (.int 2)) (mVar 9)) (mC (.int 7))) (mCons (mVar 5) mNil))) (mCons (mCall c_l_number E (mCons (mC (.int 1)) (mCons (mVar 5) mNil))) mNil)))) (nName 10)))
    (mSeq (mAsg (mCall c_free_thing E (mCons (mCB kList (mCons (mVar 2) mNil)) (mCons (mOp kIx (mVar 3) (mVar 9)) mNil))) (nName 11))
    (mIfS (mOr (mNot (mTru (mCB kIsi (mCons (mVar 11) (mCons (mC (.ty "tuple")) mNil))))) (mTest (mOp kNe (mVar 11) (mVar 10)))) (mRet (mC (.bl false))) mNext)))))
    (t_law_9 c_letter_count c_free_thing c_l_cell c_l_bag c_l_draw c_l_number c_l_letter E)))
def t_law_4 (c_letter_count c_free_thing c_l_cell c_l_bag c_l_draw c_l_number c_l_letter : MSp) (E : XWK) : MS :=
    (mSeq (mAsg (mOp kMul (mC (.int 2)) (mCB kMax (mCons (mC (.int 0)) (mCons (mOp kSub (mCB kLen (mCons (mVar 3) mNil)) (mC (.int 4))) mNil)))) (nName 5))
    (mSeq (mAsg (mCall c_letter_count E (mCons (mCB kList (mCons (mVar 2) mNil)) mNil)) (nName 6))
    (mSeq (mIfS (mOr (mNot (mTru (mCB kIsi (mCons (mVar 6) (mCons (mC (.ty "int")) mNil))))) (mOr (mTru (mCB kIsi (mCons (mVar 6) (mCons (mC (.ty "bool")) mNil)))) (mTest (mOp kNe (mVar 6) (mVar 5))))) (mRet (mC (.bl false))) mNext)
    (t_law_7 c_letter_count c_free_thing c_l_cell c_l_bag c_l_draw c_l_number c_l_letter E))))
def r_law (c_letter_count c_free_thing c_l_cell c_l_bag c_l_draw c_l_number c_l_letter : MSp) : MSp := mFn 1 12 false fun E =>
    (mSeq (mAsg (mCall c_l_bag E (mCons (mCall c_l_cell E (mCons (mVar 0) (mCons (mC (.int 0)) mNil))) mNil)) (nName 1))
    (mSeq (mAsg (mLstM (mCons (mTup (mCons (mC (.str "free")) mNil)) mNil)) (nName 2))
    (mSeq (mAsg (mLstM (mCons (mC (.int 0)) mNil)) (nName 3))
    (mSeq (mFor (nRng2 (mCons (mC (.int 1)) (mCons (mOp kAddA (mC (.int 1)) (mOp kMod (mCall c_l_cell E (mCons (mVar 0) (mCons (mC (.int 1)) mNil))) (mC (.int 24)))) mNil))) (nName 4) (mIfS (mAnd (mTest (mOp kLt (mCB kLen (mCons (mVar 3) mNil)) (mC (.int 7)))) (mTest (mOp kEq (mCall c_l_draw E (mCons (mVar 1) (mCons (mC (.int 3)) mNil))) (mC (.int 0))))) (mSeq (mDrop (mBMr kAppend (mVar 3) (mCons (mVar 4) mNil)))
    (mDrop (mBMr kAppend (mVar 2) (mCons (mTup (mCons (mC (.str "free")) mNil)) mNil)))) (mDrop (mBMr kAppend (mVar 2) (mCons (mTup (mCons (mC (.str "join")) (mCons (mOp kIx (mVar 3) (mCall c_l_draw E (mCons (mVar 1) (mCons (mCB kLen (mCons (mVar 3) mNil)) mNil)))) (mCons (mOp kIx (mVar 3) (mCall c_l_draw E (mCons (mVar 1) (mCons (mCB kLen (mCons (mVar 3) mNil)) mNil)))) mNil)))) mNil)))))
    (t_law_4 c_letter_count c_free_thing c_l_cell c_l_bag c_l_draw c_l_number c_l_letter E)))))
def m_law : MSp := r_law m_letter_count m_free_thing m_l_cell m_l_bag m_l_draw m_l_number m_l_letter
structure Ad where
  f_free_rows : Addr
  d_free_rows : FuncData
  f_number_sum : Addr
  d_number_sum : FuncData
  f_letter_sum : Addr
  d_letter_sum : FuncData
  f_letter_count : Addr
  d_letter_count : FuncData
  f_free_thing : Addr
  d_free_thing : FuncData
  f_l_cell : Addr
  d_l_cell : FuncData
  f_l_bag : Addr
  d_l_bag : FuncData
  f_l_draw : Addr
  d_l_draw : FuncData
  f_l_number : Addr
  d_l_number : FuncData
  f_l_letter : Addr
  d_l_letter : FuncData
  f_law : Addr
  d_law : FuncData
  a_CORNERS : Addr
structure Txt (K : PySem.W.Frag) (mg : Str → Option Value) (t : Ad) : Prop where
  F_free_rows : Fun K "free_rows" "free_rows" s_free_rows t.f_free_rows t.d_free_rows
  m_free_rows : mg "free_rows" = some (.ref t.f_free_rows)
  b_free_rows : Binds K t.d_free_rows ["rows"] []
  F_number_sum : Fun K "number_sum" "number_sum" s_number_sum t.f_number_sum t.d_number_sum
  m_number_sum : mg "number_sum" = some (.ref t.f_number_sum)
  b_number_sum : Binds K t.d_number_sum ["number", "letters"] []
  F_letter_sum : Fun K "letter_sum" "letter_sum" s_letter_sum t.f_letter_sum t.d_letter_sum
  m_letter_sum : mg "letter_sum" = some (.ref t.f_letter_sum)
  b_letter_sum : Binds K t.d_letter_sum ["letter", "letters"] []
  F_letter_count : Fun K "letter_count" "letter_count" s_letter_count t.f_letter_count t.d_letter_count
  m_letter_count : mg "letter_count" = some (.ref t.f_letter_count)
  b_letter_count : Binds K t.d_letter_count ["rows"] []
  F_free_thing : Fun K "free_thing" "free_thing" s_free_thing t.f_free_thing t.d_free_thing
  m_free_thing : mg "free_thing" = some (.ref t.f_free_thing)
  b_free_thing : Binds K t.d_free_thing ["rows", "k"] []
  F_l_cell : Fun K "_law_cell" "_law_cell" s_l_cell t.f_l_cell t.d_l_cell
  m_l_cell : mg "_law_cell" = some (.ref t.f_l_cell)
  b_l_cell : Binds K t.d_l_cell ["_law_script", "_law_k"] []
  F_l_bag : Fun K "_law_bag" "_law_bag" s_l_bag t.f_l_bag t.d_l_bag
  m_l_bag : mg "_law_bag" = some (.ref t.f_l_bag)
  b_l_bag : Binds K t.d_l_bag ["_law_cell_here"] []
  F_l_draw : Fun K "_law_draw" "_law_draw" s_l_draw t.f_l_draw t.d_l_draw
  m_l_draw : mg "_law_draw" = some (.ref t.f_l_draw)
  b_l_draw : Binds K t.d_l_draw ["_law_bag_here", "_law_many"] []
  F_l_number : Fun K "_law_number" "_law_number" s_l_number t.f_l_number t.d_l_number
  m_l_number : mg "_law_number" = some (.ref t.f_l_number)
  b_l_number : Binds K t.d_l_number ["_law_number_here", "_law_letters"] []
  F_l_letter : Fun K "_law_letter" "_law_letter" s_l_letter t.f_l_letter t.d_l_letter
  m_l_letter : mg "_law_letter" = some (.ref t.f_l_letter)
  b_l_letter : Binds K t.d_l_letter ["_law_letter_here", "_law_letters"] []
  F_law : Fun K "law" "law" s_law t.f_law t.d_law
  m_law : mg "law" = some (.ref t.f_law)
  b_law : Binds K t.d_law ["_law_script"] []
  z_abs : mg "abs" = none
  z_bool : mg "bool" = none
  z_int : mg "int" = none
  z_isinstance : mg "isinstance" = none
  z_len : mg "len" = none
  z_list : mg "list" = none
  z_max : mg "max" = none
  z_range : mg "range" = none
  z_tuple : mg "tuple" = none
  g_CORNERS : mg "CORNERS" = some (.ref t.a_CORNERS)
  r_CORNERS : ∀ H μ, Rep K H μ k_CORNERS (.ref t.a_CORNERS)
section
variable {P : Program} {w : World} {K : PySem.W.Frag} {mg : Str → Option Value} {base : Heap} {t : Ad}
set_option maxHeartbeats 4000000 in
theorem ok_free_rows (T : Txt K mg t) : FnOk P w K mg base CX0 1 t.f_free_rows t.d_free_rows ["rows"] (lift K m_free_rows) := by
  have nd := sc_free_rows.nd
  refine d_fn (k := 0) T.F_free_rows sc_free_rows fun cdv A outer s H E hr => ?_
  refine dss_one ?_
  exact (ds_ret (d_lc [0] (by rfl) (blk_of (by rfl)) own_1 (pgo_1 (blk_of (by rfl))) (di_range1 (by rfl) (by exact T.z_range) (da_cons (d_callB c_len (by rfl) (by exact T.z_len) PySem.boot_len (da_cons (dv 0 (pv 0)) da_nil (star_of (by rfl))) (by decide) (by decide) (star_of (by rfl)) (plain_of (by rfl))) da_nil (star_of (by rfl))) (star_1 (by rfl))) (fun _ _ _ _ => (dif_one (dt_cmp (o_eq (hu30 hr)) (d_ix (d_ix (dv 1 (pv 1)) (dv 0 (pv 0)) (by intro _ _; rfl)) d_int (by intro _ _; rfl)) d_str (nomark _)))) (fun _ _ _ _ => (dv 0 (pv 0)))))
set_option maxHeartbeats 4000000 in
theorem ok_number_sum (T : Txt K mg t) : FnOk P w K mg base CX0 1 t.f_number_sum t.d_number_sum ["number", "letters"] (lift K m_number_sum) := by
  have nd := sc_number_sum.nd
  refine d_fn (k := 0) T.F_number_sum sc_number_sum fun cdv A outer s H E hr => ?_
  refine dss_one ?_
  first
    | (with_reducible exact (ds_ret (d_if (dt_cmp (o_ne (by with_unfolding_all exact hu30 hr)) (dv 0 (by with_unfolding_all exact pv 0)) d_int (by with_unfolding_all exact nomark _)) (d_tup (da_cons (d_tup (da_cons (d_op o_mulA (d_tup (da_cons d_int da_nil (star_of (by with_unfolding_all rfl)))) (dv 1 (by with_unfolding_all exact pv 1))) (da_cons (dv 0 (by with_unfolding_all exact pv 0)) da_nil (star_of (by with_unfolding_all rfl))) (star_of (by with_unfolding_all rfl)))) da_nil (star_of (by with_unfolding_all rfl)))) (d_tup da_nil))))
    | (exact (ds_ret (d_if (dt_cmp (o_ne (hu30 hr)) (dv 0 (pv 0)) d_int (nomark _)) (d_tup (da_cons (d_tup (da_cons (d_op o_mulA (d_tup (da_cons d_int da_nil (star_of (by rfl)))) (dv 1 (pv 1))) (da_cons (dv 0 (pv 0)) da_nil (star_of (by rfl))) (star_of (by rfl)))) da_nil (star_of (by rfl)))) (d_tup da_nil))))
set_option maxHeartbeats 4000000 in
theorem ok_letter_sum (T : Txt K mg t) : FnOk P w K mg base CX0 1 t.f_letter_sum t.d_letter_sum ["letter", "letters"] (lift K m_letter_sum) := by
  have nd := sc_letter_sum.nd
  refine d_fn (k := 0) T.F_letter_sum sc_letter_sum fun cdv A outer s H E hr => ?_
  refine dss_one ?_
  first
    | (with_reducible exact (ds_ret (d_tup (da_cons (d_tup (da_cons (d_callTy c_tuple (by with_unfolding_all rfl) (by with_unfolding_all exact T.z_tuple) boot_tuple (da_cons (d_lc (hs := by with_unfolding_all (intro _; rfl)) [0] (by with_unfolding_all rfl) (by with_unfolding_all exact blk_of rfl) own_1 (pgo_1 (by with_unfolding_all exact blk_of rfl)) (di_range1 (by with_unfolding_all rfl) (by with_unfolding_all exact T.z_range) (da_cons (dv 1 (by with_unfolding_all exact pv 1)) da_nil (star_of (by with_unfolding_all rfl))) (star_1 (by with_unfolding_all rfl))) (fun _ _ _ _ => dif_nil) (fun _ _ _ _ => (d_if (dt_cmp (o_eq (by with_unfolding_all exact hu30 hr)) (dv 0 (by with_unfolding_all exact pv 0)) (dv 1 (by with_unfolding_all exact pv 1)) (by with_unfolding_all exact nomark _)) d_int d_int))) da_nil (star_of (by with_unfolding_all rfl))) (by decide) (by decide) (star_of (by with_unfolding_all rfl)) (plain_of (by with_unfolding_all rfl))) (da_cons d_int da_nil (star_of (by with_unfolding_all rfl))) (star_of (by with_unfolding_all rfl)))) da_nil (star_of (by with_unfolding_all rfl))))))
    | (exact (ds_ret (d_tup (da_cons (d_tup (da_cons (d_callTy c_tuple (by rfl) (by exact T.z_tuple) boot_tuple (da_cons (d_lc [0] (by rfl) (blk_of (by rfl)) own_1 (pgo_1 (blk_of (by rfl))) (di_range1 (by rfl) (by exact T.z_range) (da_cons (dv 1 (pv 1)) da_nil (star_of (by rfl))) (star_1 (by rfl))) (fun _ _ _ _ => dif_nil) (fun _ _ _ _ => (d_if (dt_cmp (o_eq (hu30 hr)) (dv 0 (pv 0)) (dv 1 (pv 1)) (nomark _)) d_int d_int))) da_nil (star_of (by rfl))) (by decide) (by decide) (star_of (by rfl)) (plain_of (by rfl))) (da_cons d_int da_nil (star_of (by rfl))) (star_of (by rfl)))) da_nil (star_of (by rfl))))))
set_option maxHeartbeats 4000000 in
theorem ok_letter_count (T : Txt K mg t) : FnOk P w K mg base CX0 2 t.f_letter_count t.d_letter_count ["rows"] (lift K m_letter_count) := by
  have nd := sc_letter_count.nd
  refine d_fn (k := 1) T.F_letter_count sc_letter_count fun cdv A outer s H E hr => ?_
  refine dss_one ?_
  exact (ds_ret (d_op o_mul d_int (d_callB (c_max (by rfl)) (by rfl) (by exact T.z_max) boot_max (da_cons (d_op o_sub (d_callB c_len (by rfl) (by exact T.z_len) PySem.boot_len (da_cons (d_call ((ok_free_rows T).mono (by decide)) hr (by rfl) (by exact T.m_free_rows) (by exact T.F_free_rows.kp) (by exact T.b_free_rows) (da_cons (dv 0 (pv 0)) da_nil (star_of (by rfl))) (by decide) (star_of (by rfl)) (plain_of (by rfl))) da_nil (star_of (by rfl))) (by decide) (by decide) (star_of (by rfl)) (plain_of (by rfl))) d_int) (da_cons d_int da_nil (star_of (by rfl))) (star_of (by rfl))) (by decide) (by decide) (star_of (by rfl)) (plain_of (by rfl)))))
set_option maxHeartbeats 4000000 in
theorem ok_free_thing (T : Txt K mg t) : FnOk P w K mg base CX0 3 t.f_free_thing t.d_free_thing ["rows", "k"] (lift K m_free_thing) := by
  have nd := sc_free_thing.nd
  refine d_fn (k := 2) T.F_free_thing sc_free_thing fun cdv A outer s H E hr => ?_
  refine dss_cons ?_ ?_
  · exact (ds_set (i := 2) nd (by rfl) (by exact Or.inr rfl) (d_call ((ok_letter_count T).mono (by decide)) hr (by rfl) (by exact T.m_letter_count) (by exact T.F_letter_count.kp) (by exact T.b_letter_count) (da_cons (dv 0 (pv 0)) da_nil (star_of (by rfl))) (by decide) (star_of (by rfl)) (plain_of (by rfl))))
  refine dss_cons ?_ ?_
  · exact (ds_set (i := 3) nd (by rfl) (by exact Or.inl rfl) (d_index (d_call ((ok_free_rows T).mono (by decide)) hr (by rfl) (by exact T.m_free_rows) (by exact T.F_free_rows.kp) (by exact T.b_free_rows) (da_cons (dv 0 (pv 0)) da_nil (star_of (by rfl))) (by decide) (star_of (by rfl)) (plain_of (by rfl))) (da_cons (dv 1 (pv 1)) da_nil (star_of (by rfl))) (by rfl) (few_1 (by rfl)) (by rfl) (star_of (by rfl)) (by rfl)))
  refine dss_cons ?_ ?_
  · exact (ds_if (dt_cmp o_lt (dv 3 (pv 3)) d_int (nomark _)) (dss_one (ds_ret (d_callTy c_tuple (by rfl) (by exact T.z_tuple) boot_tuple (da_cons (d_lc [2] (by rfl) (blk_of (by rfl)) own_1 (pgo_1 (blk_of (by rfl))) (di_seq (d_ix (dc (v := .ref t.a_CORNERS) (pe_glob (by rfl) T.g_CORNERS (by rfl)) T.r_CORNERS) (dv 3 (pv 3)) (by intro _ _; rfl))) (fun _ _ _ _ => dif_nil) (fun _ _ _ _ => (d_call ((ok_number_sum T).mono (by decide)) hr (by rfl) (by exact T.m_number_sum) (by exact T.F_number_sum.kp) (by exact T.b_number_sum) (da_cons (dv 0 (pv 0)) (da_cons (dv 1 (pv 1)) da_nil (star_of (by rfl))) (star_of (by rfl))) (by decide) (star_of (by rfl)) (plain_of (by rfl))))) da_nil (star_of (by rfl))) (by decide) (by decide) (star_of (by rfl)) (plain_of (by rfl))))) dss_nil)
  refine dss_cons ?_ ?_
  · exact (ds_set (i := 4) nd (by rfl) (by exact Or.inl rfl) (d_op o_mul d_int (d_op o_sub (dv 3 (pv 3)) d_int)))
  refine dss_one ?_
  exact (ds_ret (d_tup (da_cons (d_call ((ok_letter_sum T).mono (by decide)) hr (by rfl) (by exact T.m_letter_sum) (by exact T.F_letter_sum.kp) (by exact T.b_letter_sum) (da_cons (dv 4 (pv 4)) (da_cons (dv 2 (pv 2)) da_nil (star_of (by rfl))) (star_of (by rfl))) (by decide) (star_of (by rfl)) (plain_of (by rfl))) (da_cons (d_call ((ok_letter_sum T).mono (by decide)) hr (by rfl) (by exact T.m_letter_sum) (by exact T.F_letter_sum.kp) (by exact T.b_letter_sum) (da_cons (d_op o_addA (dv 4 (pv 4)) d_int) (da_cons (dv 2 (pv 2)) da_nil (star_of (by rfl))) (star_of (by rfl))) (by decide) (star_of (by rfl)) (plain_of (by rfl))) (da_cons (d_call ((ok_number_sum T).mono (by decide)) hr (by rfl) (by exact T.m_number_sum) (by exact T.F_number_sum.kp) (by exact T.b_number_sum) (da_cons d_int (da_cons (dv 2 (pv 2)) da_nil (star_of (by rfl))) (star_of (by rfl))) (by decide) (star_of (by rfl)) (plain_of (by rfl))) da_nil (star_of (by rfl))) (star_of (by rfl))) (star_of (by rfl)))))
set_option maxHeartbeats 4000000 in
theorem ok_l_cell (T : Txt K mg t) : FnOk P w K mg base CX0 1 t.f_l_cell t.d_l_cell ["_law_script", "_law_k"] (lift K m_l_cell) := by
  have nd := sc_l_cell.nd
  refine d_fn (k := 0) T.F_l_cell sc_l_cell fun cdv A outer s H E hr => ?_
  refine dss_cons ?_ ?_
  · exact (ds_if (dt_cmp o_lt (dv 1 (pv 1)) (d_callB c_len (by rfl) (by exact T.z_len) PySem.boot_len (da_cons (dv 0 (pv 0)) da_nil (star_of (by rfl))) (by decide) (by decide) (star_of (by rfl)) (plain_of (by rfl))) (nomark _)) (dss_one (ds_ret (d_ix (dv 0 (pv 0)) (dv 1 (pv 1)) (by intro _ _; rfl)))) dss_nil)
  refine dss_one ?_
  exact (ds_ret d_int)
set_option maxHeartbeats 4000000 in
theorem ok_l_bag (T : Txt K mg t) : FnOk P w K mg base CX0 1 t.f_l_bag t.d_l_bag ["_law_cell_here"] (lift K m_l_bag) := by
  have nd := sc_l_bag.nd
  refine d_fn (k := 0) T.F_l_bag sc_l_bag fun cdv A outer s H E hr => ?_
  refine dss_one ?_
  exact (ds_ret (d_lstM (da_cons (d_op o_mulS (d_callB c_abs (by rfl) (by exact T.z_abs) boot_abs (da_cons (dv 0 (pv 0)) da_nil (star_of (by rfl))) (by decide) (by decide) (star_of (by rfl)) (plain_of (by rfl))) (d_callTy c_int (by rfl) (by exact T.z_int) boot_int (da_cons (d_cmp o_ge (d_callB c_abs (by rfl) (by exact T.z_abs) boot_abs (da_cons (dv 0 (pv 0)) da_nil (star_of (by rfl))) (by decide) (by decide) (star_of (by rfl)) (plain_of (by rfl))) (d_op o_pow d_int d_int) (nomark _)) da_nil (star_of (by rfl))) (by decide) (by decide) (star_of (by rfl)) (plain_of (by rfl)))) (da_cons (d_op o_mod (d_callB c_abs (by rfl) (by exact T.z_abs) boot_abs (da_cons (dv 0 (pv 0)) da_nil (star_of (by rfl))) (by decide) (by decide) (star_of (by rfl)) (plain_of (by rfl))) d_int) da_nil (star_of (by rfl))) (star_of (by rfl)))))
set_option maxHeartbeats 4000000 in
theorem ok_l_draw (T : Txt K mg t) : FnOk P w K mg base CX0 1 t.f_l_draw t.d_l_draw ["_law_bag_here", "_law_many"] (lift K m_l_draw) := by
  have nd := sc_l_draw.nd
  refine d_fn (k := 0) T.F_l_draw sc_l_draw fun cdv A outer s H E hr => ?_
  refine dss_cons ?_ ?_
  · exact (ds_if (dt_cmp o_gt (d_ix (dv 0 (pv 0)) d_int (by intro _ _; rfl)) d_int (nomark _)) (dss_cons (ds_set (i := 2) nd (by rfl) (by exact Or.inl rfl) (d_op o_mod (d_ix (dv 0 (pv 0)) d_int (by intro _ _; rfl)) (dv 1 (pv 1))))
    (dss_cons (ds_asg (d_op o_div (d_ix (dv 0 (pv 0)) d_int (by intro _ _; rfl)) (dv 1 (pv 1))) (dg_sub (dv 0 (pv 0)) d_int set_list sim_setL))
    (dss_one (ds_ret (dv 2 (pv 2)))))) dss_nil)
  refine dss_cons ?_ ?_
  · exact (ds_asg (d_op o_mod (d_op o_addA (d_op o_mul (d_ix (dv 0 (pv 0)) d_int (by intro _ _; rfl)) d_int) d_int) d_int) (dg_sub (dv 0 (pv 0)) d_int set_list sim_setL))
  refine dss_one ?_
  exact (ds_ret (d_op o_mod (d_op o_div (d_op o_mod (d_op o_mul (d_ix (dv 0 (pv 0)) d_int (by intro _ _; rfl)) (d_op o_addA (d_op o_div (d_ix (dv 0 (pv 0)) d_int (by intro _ _; rfl)) d_int) d_int)) d_int) d_int) (dv 1 (pv 1))))
set_option maxHeartbeats 4000000 in
theorem ok_l_number (T : Txt K mg t) : FnOk P w K mg base CX0 1 t.f_l_number t.d_l_number ["_law_number_here", "_law_letters"] (lift K m_l_number) := by
  have nd := sc_l_number.nd
  refine d_fn (k := 0) T.F_l_number sc_l_number fun cdv A outer s H E hr => ?_
  refine dss_cons ?_ ?_
  · exact (ds_if (dt_cmp (o_eq (hu30 hr)) (dv 0 (pv 0)) d_int (nomark _)) (dss_one (ds_ret (d_tup da_nil))) dss_nil)
  refine dss_one ?_
  first
    | (with_reducible exact (ds_ret (d_tup (da_cons (d_tup (da_cons (d_op o_mulA (d_tup (da_cons d_int da_nil (star_of (by with_unfolding_all rfl)))) (dv 1 (by with_unfolding_all exact pv 1))) (da_cons (dv 0 (by with_unfolding_all exact pv 0)) da_nil (star_of (by with_unfolding_all rfl))) (star_of (by with_unfolding_all rfl)))) da_nil (star_of (by with_unfolding_all rfl))))))
    | (exact (ds_ret (d_tup (da_cons (d_tup (da_cons (d_op o_mulA (d_tup (da_cons d_int da_nil (star_of (by rfl)))) (dv 1 (pv 1))) (da_cons (dv 0 (pv 0)) da_nil (star_of (by rfl))) (star_of (by rfl)))) da_nil (star_of (by rfl))))))
set_option maxHeartbeats 4000000 in
theorem ok_l_letter (T : Txt K mg t) : FnOk P w K mg base CX0 1 t.f_l_letter t.d_l_letter ["_law_letter_here", "_law_letters"] (lift K m_l_letter) := by
  have nd := sc_l_letter.nd
  refine d_fn (k := 0) T.F_l_letter sc_l_letter fun cdv A outer s H E hr => ?_
  refine dss_one ?_
  first
    | (with_reducible exact (ds_ret (d_tup (da_cons (d_tup (da_cons (d_callTy c_tuple (by with_unfolding_all rfl) (by with_unfolding_all exact T.z_tuple) boot_tuple (da_cons (d_lc (hs := by with_unfolding_all (intro _; rfl)) [0] (by with_unfolding_all rfl) (by with_unfolding_all exact blk_of rfl) own_1 (pgo_1 (by with_unfolding_all exact blk_of rfl)) (di_range1 (by with_unfolding_all rfl) (by with_unfolding_all exact T.z_range) (da_cons (dv 1 (by with_unfolding_all exact pv 1)) da_nil (star_of (by with_unfolding_all rfl))) (star_1 (by with_unfolding_all rfl))) (fun _ _ _ _ => dif_nil) (fun _ _ _ _ => (d_callTy c_int (by with_unfolding_all rfl) (by with_unfolding_all exact T.z_int) boot_int (da_cons (d_cmp (o_eq (by with_unfolding_all exact hu30 hr)) (dv 0 (by with_unfolding_all exact pv 0)) (dv 1 (by with_unfolding_all exact pv 1)) (by with_unfolding_all exact nomark _)) da_nil (star_of (by with_unfolding_all rfl))) (by decide) (by decide) (star_of (by with_unfolding_all rfl)) (plain_of (by with_unfolding_all rfl))))) da_nil (star_of (by with_unfolding_all rfl))) (by decide) (by decide) (star_of (by with_unfolding_all rfl)) (plain_of (by with_unfolding_all rfl))) (da_cons d_int da_nil (star_of (by with_unfolding_all rfl))) (star_of (by with_unfolding_all rfl)))) da_nil (star_of (by with_unfolding_all rfl))))))
    | (exact (ds_ret (d_tup (da_cons (d_tup (da_cons (d_callTy c_tuple (by rfl) (by exact T.z_tuple) boot_tuple (da_cons (d_lc [0] (by rfl) (blk_of (by rfl)) own_1 (pgo_1 (blk_of (by rfl))) (di_range1 (by rfl) (by exact T.z_range) (da_cons (dv 1 (pv 1)) da_nil (star_of (by rfl))) (star_1 (by rfl))) (fun _ _ _ _ => dif_nil) (fun _ _ _ _ => (d_callTy c_int (by rfl) (by exact T.z_int) boot_int (da_cons (d_cmp (o_eq (hu30 hr)) (dv 0 (pv 0)) (dv 1 (pv 1)) (nomark _)) da_nil (star_of (by rfl))) (by decide) (by decide) (star_of (by rfl)) (plain_of (by rfl))))) da_nil (star_of (by rfl))) (by decide) (by decide) (star_of (by rfl)) (plain_of (by rfl))) (da_cons d_int da_nil (star_of (by rfl))) (star_of (by rfl)))) da_nil (star_of (by rfl))))))
set_option maxHeartbeats 4000000 in
theorem ok_law (T : Txt K mg t) : FnOk P w K mg base CX0 4 t.f_law t.d_law ["_law_script"] (lift K m_law) := by
  have nd := sc_law.nd
  refine d_fn (k := 3) T.F_law sc_law fun cdv A outer s H E hr => ?_
  refine dss_cons ?_ ?_
  · exact (ds_set (i := 1) nd (by rfl) (by exact Or.inl rfl) (d_call ((ok_l_bag T).mono (by decide)) hr (by rfl) (by exact T.m_l_bag) (by exact T.F_l_bag.kp) (by exact T.b_l_bag) (da_cons (d_call ((ok_l_cell T).mono (by decide)) hr (by rfl) (by exact T.m_l_cell) (by exact T.F_l_cell.kp) (by exact T.b_l_cell) (da_cons (dv 0 (pv 0)) (da_cons d_int da_nil (star_of (by rfl))) (star_of (by rfl))) (by decide) (star_of (by rfl)) (plain_of (by rfl))) da_nil (star_of (by rfl))) (by decide) (star_of (by rfl)) (plain_of (by rfl))))
  refine dss_cons ?_ ?_
  · first
    | (with_reducible exact (ds_set (hs := by with_unfolding_all rfl) (hf := by with_unfolding_all first | exact .inl rfl | exact .inr rfl) (i := 2) (by with_unfolding_all exact nd) (by with_unfolding_all rfl) (by with_unfolding_all exact Or.inl rfl) (d_lstM (da_cons (d_tup (da_cons d_str da_nil (star_of (by with_unfolding_all rfl)))) da_nil (star_of (by with_unfolding_all rfl))))))
    | (exact (ds_set (i := 2) nd (by rfl) (by exact Or.inl rfl) (d_lstM (da_cons (d_tup (da_cons d_str da_nil (star_of (by rfl)))) da_nil (star_of (by rfl))))))
  refine dss_cons ?_ ?_
  · exact (ds_set (i := 3) nd (by rfl) (by exact Or.inl rfl) (d_lstM (da_cons d_int da_nil (star_of (by rfl)))))
  refine dss_cons ?_ ?_
  · exact (ds_for PassesOwn.never (by rfl) (di_range2 (by rfl) (by exact T.z_range) (da_cons d_int (da_cons (d_op o_addA d_int (d_op o_mod (d_call ((ok_l_cell T).mono (by decide)) hr (by rfl) (by exact T.m_l_cell) (by exact T.F_l_cell.kp) (by exact T.b_l_cell) (da_cons (dv 0 (pv 0)) (da_cons d_int da_nil (star_of (by rfl))) (star_of (by rfl))) (by decide) (star_of (by rfl)) (plain_of (by rfl))) d_int)) da_nil (star_of (by rfl))) (star_of (by rfl)))) (dg_name (pg_name (i := 4) nd (by rfl) (by exact Or.inl rfl))) (dss_one (ds_if (dw_and (dt_cmp o_lt (d_callB c_len (by rfl) (by exact T.z_len) PySem.boot_len (da_cons (dv 3 (pv 3)) da_nil (star_of (by rfl))) (by decide) (by decide) (star_of (by rfl)) (plain_of (by rfl))) d_int (nomark _)) (dw_and1 (dt_cmp (o_eq (hu30 hr)) (d_call ((ok_l_draw T).mono (by decide)) hr (by rfl) (by exact T.m_l_draw) (by exact T.F_l_draw.kp) (by exact T.b_l_draw) (da_cons (dv 1 (pv 1)) (da_cons d_int da_nil (star_of (by rfl))) (star_of (by rfl))) (by decide) (star_of (by rfl)) (plain_of (by rfl))) d_int (nomark _)))).pt (dss_cons (ds_expr (d_append (dv 3 (pv 3)) (da_cons (dv 4 (pv 4)) da_nil (star_of (by rfl))) (by rfl) (few_1 (by rfl)) (by rfl) (star_of (by rfl)) (by rfl)))
    (dss_one (ds_expr (d_append (dv 2 (pv 2)) (da_cons (d_tup (da_cons d_str da_nil (star_of (by rfl)))) da_nil (star_of (by rfl))) (by rfl) (few_1 (by rfl)) (by rfl) (star_of (by rfl)) (by rfl))))) (dss_one (ds_expr (d_append (dv 2 (pv 2)) (da_cons (d_tup (da_cons d_str (da_cons (d_ix (dv 3 (pv 3)) (d_call ((ok_l_draw T).mono (by decide)) hr (by rfl) (by exact T.m_l_draw) (by exact T.F_l_draw.kp) (by exact T.b_l_draw) (da_cons (dv 1 (pv 1)) (da_cons (d_callB c_len (by rfl) (by exact T.z_len) PySem.boot_len (da_cons (dv 3 (pv 3)) da_nil (star_of (by rfl))) (by decide) (by decide) (star_of (by rfl)) (plain_of (by rfl))) da_nil (star_of (by rfl))) (star_of (by rfl))) (by decide) (star_of (by rfl)) (plain_of (by rfl))) (by intro _ _; rfl)) (da_cons (d_ix (dv 3 (pv 3)) (d_call ((ok_l_draw T).mono (by decide)) hr (by rfl) (by exact T.m_l_draw) (by exact T.F_l_draw.kp) (by exact T.b_l_draw) (da_cons (dv 1 (pv 1)) (da_cons (d_callB c_len (by rfl) (by exact T.z_len) PySem.boot_len (da_cons (dv 3 (pv 3)) da_nil (star_of (by rfl))) (by decide) (by decide) (star_of (by rfl)) (plain_of (by rfl))) da_nil (star_of (by rfl))) (star_of (by rfl))) (by decide) (star_of (by rfl)) (plain_of (by rfl))) (by intro _ _; rfl)) da_nil (star_of (by rfl))) (star_of (by rfl))) (star_of (by rfl)))) da_nil (star_of (by rfl))) (by rfl) (few_1 (by rfl)) (by rfl) (star_of (by rfl)) (by rfl)))))))
  refine dss_cons ?_ ?_
  · exact (ds_set (i := 5) nd (by rfl) (by exact Or.inr rfl) (d_op o_mul d_int (d_callB (c_max (by rfl)) (by rfl) (by exact T.z_max) boot_max (da_cons d_int (da_cons (d_op o_sub (d_callB c_len (by rfl) (by exact T.z_len) PySem.boot_len (da_cons (dv 3 (pv 3)) da_nil (star_of (by rfl))) (by decide) (by decide) (star_of (by rfl)) (plain_of (by rfl))) d_int) da_nil (star_of (by rfl))) (star_of (by rfl))) (by decide) (by decide) (star_of (by rfl)) (plain_of (by rfl)))))
  refine dss_cons ?_ ?_
  · exact (ds_set (i := 6) nd (by rfl) (by exact Or.inl rfl) (d_call ((ok_letter_count T).mono (by decide)) hr (by rfl) (by exact T.m_letter_count) (by exact T.F_letter_count.kp) (by exact T.b_letter_count) (da_cons (d_callTy c_list (by rfl) (by exact T.z_list) boot_list (da_cons (dv 2 (pv 2)) da_nil (star_of (by rfl))) (by decide) (by decide) (star_of (by rfl)) (plain_of (by rfl))) da_nil (star_of (by rfl))) (by decide) (star_of (by rfl)) (plain_of (by rfl))))
  refine dss_cons ?_ ?_
  · exact (ds_if (dw_or (dt_not (dt_tru (d_callB c_isi (by rfl) (by exact T.z_isinstance) boot_isinstance (da_cons (dv 6 (pv 6)) (da_cons (dc (pe_bltn (v := .ty "int") (by rfl) (by exact T.z_int) boot_int (by rfl)) (fun _ _ => by rw [Rep])) da_nil (star_of (by rfl))) (star_of (by rfl))) (by decide) (by decide) (star_of (by rfl)) (plain_of (by rfl))))) (dw_or (dt_tru (d_callB c_isi (by rfl) (by exact T.z_isinstance) boot_isinstance (da_cons (dv 6 (pv 6)) (da_cons (dc (pe_bltn (v := .ty "bool") (by rfl) (by exact T.z_bool) boot_bool (by rfl)) (fun _ _ => by rw [Rep])) da_nil (star_of (by rfl))) (star_of (by rfl))) (by decide) (by decide) (star_of (by rfl)) (plain_of (by rfl)))) (dw_or1 (dt_cmp (o_ne (hu30 hr)) (dv 6 (pv 6)) (dv 5 (pv 5)) (nomark _))))).pt (dss_one (ds_ret d_bl)) dss_nil)
  refine dss_cons ?_ ?_
  · first
    | (with_reducible exact (ds_set (hs := by with_unfolding_all rfl) (hf := by with_unfolding_all first | exact .inl rfl | exact .inr rfl) (i := 7) (by with_unfolding_all exact nd) (by with_unfolding_all rfl) (by with_unfolding_all exact Or.inl rfl) (d_lst (da_cons (d_tup (da_cons d_int (da_cons d_int (da_cons d_int da_nil (star_of (by with_unfolding_all rfl))) (star_of (by with_unfolding_all rfl))) (star_of (by with_unfolding_all rfl)))) (da_cons (d_tup (da_cons d_int (da_cons d_int (da_cons d_int da_nil (star_of (by with_unfolding_all rfl))) (star_of (by with_unfolding_all rfl))) (star_of (by with_unfolding_all rfl)))) (da_cons (d_tup (da_cons d_int (da_cons d_int (da_cons d_int da_nil (star_of (by with_unfolding_all rfl))) (star_of (by with_unfolding_all rfl))) (star_of (by with_unfolding_all rfl)))) (da_cons (d_tup (da_cons d_int (da_cons d_int (da_cons d_int da_nil (star_of (by with_unfolding_all rfl))) (star_of (by with_unfolding_all rfl))) (star_of (by with_unfolding_all rfl)))) da_nil (star_of (by with_unfolding_all rfl))) (star_of (by with_unfolding_all rfl))) (star_of (by with_unfolding_all rfl))) (star_of (by with_unfolding_all rfl))))))
    | (exact (ds_set (i := 7) nd (by rfl) (by exact Or.inl rfl) (d_lst (da_cons (d_tup (da_cons d_int (da_cons d_int (da_cons d_int da_nil (star_of (by rfl))) (star_of (by rfl))) (star_of (by rfl)))) (da_cons (d_tup (da_cons d_int (da_cons d_int (da_cons d_int da_nil (star_of (by rfl))) (star_of (by rfl))) (star_of (by rfl)))) (da_cons (d_tup (da_cons d_int (da_cons d_int (da_cons d_int da_nil (star_of (by rfl))) (star_of (by rfl))) (star_of (by rfl)))) (da_cons (d_tup (da_cons d_int (da_cons d_int (da_cons d_int da_nil (star_of (by rfl))) (star_of (by rfl))) (star_of (by rfl)))) da_nil (star_of (by rfl))) (star_of (by rfl))) (star_of (by rfl))) (star_of (by rfl))))))
  refine dss_cons ?_ ?_
  · exact (ds_for PassesOwn.never (by rfl) (di_range1 (by rfl) (by exact T.z_range) (da_cons d_int da_nil (star_of (by rfl))) (star_1 (by rfl))) (dg_name (pg_name (i := 8) nd (by rfl) (by exact Or.inl rfl))) (dss_one (ds_for PassesOwn.never (by rfl) (di_range1 (by rfl) (by exact T.z_range) (da_cons (d_callB c_len (by rfl) (by exact T.z_len) PySem.boot_len (da_cons (dv 3 (pv 3)) da_nil (star_of (by rfl))) (by decide) (by decide) (star_of (by rfl)) (plain_of (by rfl))) da_nil (star_of (by rfl))) (star_1 (by rfl))) (dg_name (pg_name (i := 9) nd (by rfl) (by exact Or.inl rfl))) (dss_cons (ds_if (dt_cmp o_lt (dv 9 (pv 9)) d_int (nomark _)) (dss_one (ds_set (i := 10) nd (by rfl) (by exact Or.inl rfl) (d_callTy c_tuple (by rfl) (by exact T.z_tuple) boot_tuple (da_cons (d_lc [5] (by rfl) (blk_of (by rfl)) own_1 (pgo_1 (blk_of (by rfl))) (di_seq (d_ix (dv 7 (pv 7)) (dv 9 (pv 9)) (by intro _ _; rfl))) (fun _ _ _ _ => dif_nil) (fun _ _ _ _ => (d_call ((ok_l_number T).mono (by decide)) hr (by rfl) (by exact T.m_l_number) (by exact T.F_l_number.kp) (by exact T.b_l_number) (da_cons (dv 0 (pv 0)) (da_cons (dv 1 (pv 1)) da_nil (star_of (by rfl))) (star_of (by rfl))) (by decide) (star_of (by rfl)) (plain_of (by rfl))))) da_nil (star_of (by rfl))) (by decide) (by decide) (star_of (by rfl)) (plain_of (by rfl))))) (dss_one (ds_set (i := 10) nd (by rfl) (by exact Or.inl rfl) (d_tup (da_cons (d_call ((ok_l_letter T).mono (by decide)) hr (by rfl) (by exact T.m_l_letter) (by exact T.F_l_letter.kp) (by exact T.b_l_letter) (da_cons (d_op o_sub (d_op o_mul d_int (dv 9 (pv 9))) d_int) (da_cons (dv 5 (pv 5)) da_nil (star_of (by rfl))) (star_of (by rfl))) (by decide) (star_of (by rfl)) (plain_of (by rfl))) (da_cons (d_call ((ok_l_letter T).mono (by decide)) hr (by rfl) (by exact T.m_l_letter) (by exact T.F_l_letter.kp) (by exact T.b_l_letter) (da_cons (d_op o_sub (d_op o_mul d_int (dv 9 (pv 9))) d_int) (da_cons (dv 5 (pv 5)) da_nil (star_of (by rfl))) (star_of (by rfl))) (by decide) (star_of (by rfl)) (plain_of (by rfl))) (da_cons (d_call ((ok_l_number T).mono (by decide)) hr (by rfl) (by exact T.m_l_number) (by exact T.F_l_number.kp) (by exact T.b_l_number) (da_cons d_int (da_cons (dv 5 (pv 5)) da_nil (star_of (by rfl))) (star_of (by rfl))) (by decide) (star_of (by rfl)) (plain_of (by rfl))) da_nil (star_of (by rfl))) (star_of (by rfl))) (star_of (by rfl)))))))
    (dss_cons (ds_set (i := 11) nd (by rfl) (by exact Or.inl rfl) (d_call ((ok_free_thing T).mono (by decide)) hr (by rfl) (by exact T.m_free_thing) (by exact T.F_free_thing.kp) (by exact T.b_free_thing) (da_cons (d_callTy c_list (by rfl) (by exact T.z_list) boot_list (da_cons (dv 2 (pv 2)) da_nil (star_of (by rfl))) (by decide) (by decide) (star_of (by rfl)) (plain_of (by rfl))) (da_cons (d_ix (dv 3 (pv 3)) (dv 9 (pv 9)) (by intro _ _; rfl)) da_nil (star_of (by rfl))) (star_of (by rfl))) (by decide) (star_of (by rfl)) (plain_of (by rfl))))
    (dss_one (ds_if (dw_or (dt_not (dt_tru (d_callB c_isi (by rfl) (by exact T.z_isinstance) boot_isinstance (da_cons (dv 11 (pv 11)) (da_cons (dc (pe_bltn (v := .ty "tuple") (by rfl) (by exact T.z_tuple) boot_tuple (by rfl)) (fun _ _ => by rw [Rep])) da_nil (star_of (by rfl))) (star_of (by rfl))) (by decide) (by decide) (star_of (by rfl)) (plain_of (by rfl))))) (dw_or1 (dt_cmp (o_ne (hu30 hr)) (dv 11 (pv 11)) (dv 10 (pv 10)) (nomark _)))).pt (dss_one (ds_ret d_bl)) dss_nil)))))))
  refine dss_one ?_
  exact (ds_ret d_bl)
end
theorem all_mk {l : PySem.W.OpenLaw} {w : World} {K : PySem.W.Frag} {h : Heap} {mg : Str → Option Value} {fa : Addr} (hlaw : ∀ ns : List Int, ns.length ≤ 63 → m_law [.kls (ns.map W.int)] g0 (fun w _ => w = .bl true) EF) (X : K.In h) (G : h.Ns mainGlobals mg) (hfa : mg "law" = some (.ref fa))
    {f0 : Addr} {od0 an0 : Option Addr} {sl0 : Array (Option Value)} {oc0 kV0 dc0 pm0 cd0 ct0 : Value}
    {f1 : Addr} {od1 an1 : Option Addr} {sl1 : Array (Option Value)} {oc1 kV1 dc1 pm1 cd1 ct1 : Value}
    {f2 : Addr} {od2 an2 : Option Addr} {sl2 : Array (Option Value)} {oc2 kV2 dc2 pm2 cd2 ct2 : Value}
    {f3 : Addr} {od3 an3 : Option Addr} {sl3 : Array (Option Value)} {oc3 kV3 dc3 pm3 cd3 ct3 : Value}
    {f4 : Addr} {od4 an4 : Option Addr} {sl4 : Array (Option Value)} {oc4 kV4 dc4 pm4 cd4 ct4 : Value}
    {f5 : Addr} {od5 an5 : Option Addr} {sl5 : Array (Option Value)} {oc5 kV5 dc5 pm5 cd5 ct5 : Value}
    {f6 : Addr} {od6 an6 : Option Addr} {sl6 : Array (Option Value)} {oc6 kV6 dc6 pm6 cd6 ct6 : Value}
    {f7 : Addr} {od7 an7 : Option Addr} {sl7 : Array (Option Value)} {oc7 kV7 dc7 pm7 cd7 ct7 : Value}
    {f8 : Addr} {od8 an8 : Option Addr} {sl8 : Array (Option Value)} {oc8 kV8 dc8 pm8 cd8 ct8 : Value}
    {f9 : Addr} {od9 an9 : Option Addr} {sl9 : Array (Option Value)} {oc9 kV9 dc9 pm9 cd9 ct9 : Value}
    {f10 : Addr} {od10 an10 : Option Addr} {sl10 : Array (Option Value)} {oc10 kV10 dc10 pm10 cd10 ct10 : Value}
    {k_CORNERS : Addr} {odk_CORNERS : Option Addr} {slk_CORNERS : Array (Option Value)} {nk_CORNERS : Nat} {k_CORNERS_0 : Addr} {odk_CORNERS_0 : Option Addr} {slk_CORNERS_0 : Array (Option Value)} {nk_CORNERS_0 : Nat} {t_CORNERS_0_0 : _} {t_CORNERS_0_1 : _} {t_CORNERS_0_2 : _} {k_CORNERS_1 : Addr} {odk_CORNERS_1 : Option Addr} {slk_CORNERS_1 : Array (Option Value)} {nk_CORNERS_1 : Nat} {t_CORNERS_1_0 : _} {t_CORNERS_1_1 : _} {t_CORNERS_1_2 : _} {k_CORNERS_2 : Addr} {odk_CORNERS_2 : Option Addr} {slk_CORNERS_2 : Array (Option Value)} {nk_CORNERS_2 : Nat} {t_CORNERS_2_0 : _} {t_CORNERS_2_1 : _} {t_CORNERS_2_2 : _} {k_CORNERS_3 : Addr} {odk_CORNERS_3 : Option Addr} {slk_CORNERS_3 : Array (Option Value)} {nk_CORNERS_3 : Nat} {t_CORNERS_3_0 : _} {t_CORNERS_3_1 : _} {t_CORNERS_3_2 : _}
    (a0 : PySem.W.nsIn K mainGlobals "free_rows" = some (some (.ref f0))) (l0 : K.lookup f0 = some ⟨oc0, od0, .func (PySem.W.fnOf "free_rows" "free_rows" (defArgs s_free_rows) (defBody s_free_rows) (defScope s_free_rows) .none kV0 dc0 pm0 an0 cd0 ct0), sl0⟩) (c0 : PySem.W.codeIn K cd0 "free_rows" = true) (k0 : PySem.W.keepIn K (.ref f0) = true)
    (a1 : PySem.W.nsIn K mainGlobals "number_sum" = some (some (.ref f1))) (l1 : K.lookup f1 = some ⟨oc1, od1, .func (PySem.W.fnOf "number_sum" "number_sum" (defArgs s_number_sum) (defBody s_number_sum) (defScope s_number_sum) .none kV1 dc1 pm1 an1 cd1 ct1), sl1⟩) (c1 : PySem.W.codeIn K cd1 "number_sum" = true) (k1 : PySem.W.keepIn K (.ref f1) = true)
    (a2 : PySem.W.nsIn K mainGlobals "letter_sum" = some (some (.ref f2))) (l2 : K.lookup f2 = some ⟨oc2, od2, .func (PySem.W.fnOf "letter_sum" "letter_sum" (defArgs s_letter_sum) (defBody s_letter_sum) (defScope s_letter_sum) .none kV2 dc2 pm2 an2 cd2 ct2), sl2⟩) (c2 : PySem.W.codeIn K cd2 "letter_sum" = true) (k2 : PySem.W.keepIn K (.ref f2) = true)
    (a3 : PySem.W.nsIn K mainGlobals "letter_count" = some (some (.ref f3))) (l3 : K.lookup f3 = some ⟨oc3, od3, .func (PySem.W.fnOf "letter_count" "letter_count" (defArgs s_letter_count) (defBody s_letter_count) (defScope s_letter_count) .none kV3 dc3 pm3 an3 cd3 ct3), sl3⟩) (c3 : PySem.W.codeIn K cd3 "letter_count" = true) (k3 : PySem.W.keepIn K (.ref f3) = true)
    (a4 : PySem.W.nsIn K mainGlobals "free_thing" = some (some (.ref f4))) (l4 : K.lookup f4 = some ⟨oc4, od4, .func (PySem.W.fnOf "free_thing" "free_thing" (defArgs s_free_thing) (defBody s_free_thing) (defScope s_free_thing) .none kV4 dc4 pm4 an4 cd4 ct4), sl4⟩) (c4 : PySem.W.codeIn K cd4 "free_thing" = true) (k4 : PySem.W.keepIn K (.ref f4) = true)
    (a5 : PySem.W.nsIn K mainGlobals "_law_cell" = some (some (.ref f5))) (l5 : K.lookup f5 = some ⟨oc5, od5, .func (PySem.W.fnOf "_law_cell" "_law_cell" (defArgs s_l_cell) (defBody s_l_cell) (defScope s_l_cell) .none kV5 dc5 pm5 an5 cd5 ct5), sl5⟩) (c5 : PySem.W.codeIn K cd5 "_law_cell" = true) (k5 : PySem.W.keepIn K (.ref f5) = true)
    (a6 : PySem.W.nsIn K mainGlobals "_law_bag" = some (some (.ref f6))) (l6 : K.lookup f6 = some ⟨oc6, od6, .func (PySem.W.fnOf "_law_bag" "_law_bag" (defArgs s_l_bag) (defBody s_l_bag) (defScope s_l_bag) .none kV6 dc6 pm6 an6 cd6 ct6), sl6⟩) (c6 : PySem.W.codeIn K cd6 "_law_bag" = true) (k6 : PySem.W.keepIn K (.ref f6) = true)
    (a7 : PySem.W.nsIn K mainGlobals "_law_draw" = some (some (.ref f7))) (l7 : K.lookup f7 = some ⟨oc7, od7, .func (PySem.W.fnOf "_law_draw" "_law_draw" (defArgs s_l_draw) (defBody s_l_draw) (defScope s_l_draw) .none kV7 dc7 pm7 an7 cd7 ct7), sl7⟩) (c7 : PySem.W.codeIn K cd7 "_law_draw" = true) (k7 : PySem.W.keepIn K (.ref f7) = true)
    (a8 : PySem.W.nsIn K mainGlobals "_law_number" = some (some (.ref f8))) (l8 : K.lookup f8 = some ⟨oc8, od8, .func (PySem.W.fnOf "_law_number" "_law_number" (defArgs s_l_number) (defBody s_l_number) (defScope s_l_number) .none kV8 dc8 pm8 an8 cd8 ct8), sl8⟩) (c8 : PySem.W.codeIn K cd8 "_law_number" = true) (k8 : PySem.W.keepIn K (.ref f8) = true)
    (a9 : PySem.W.nsIn K mainGlobals "_law_letter" = some (some (.ref f9))) (l9 : K.lookup f9 = some ⟨oc9, od9, .func (PySem.W.fnOf "_law_letter" "_law_letter" (defArgs s_l_letter) (defBody s_l_letter) (defScope s_l_letter) .none kV9 dc9 pm9 an9 cd9 ct9), sl9⟩) (c9 : PySem.W.codeIn K cd9 "_law_letter" = true) (k9 : PySem.W.keepIn K (.ref f9) = true)
    (a10 : PySem.W.nsIn K mainGlobals "law" = some (some (.ref f10))) (l10 : K.lookup f10 = some ⟨oc10, od10, .func (PySem.W.fnOf "law" "law" (defArgs s_law) (defBody s_law) (defScope s_law) .none kV10 dc10 pm10 an10 cd10 ct10), sl10⟩) (c10 : PySem.W.codeIn K cd10 "law" = true) (k10 : PySem.W.keepIn K (.ref f10) = true)
    (z_abs : PySem.W.nsIn K mainGlobals "abs" = some none)
    (z_bool : PySem.W.nsIn K mainGlobals "bool" = some none)
    (z_int : PySem.W.nsIn K mainGlobals "int" = some none)
    (z_isinstance : PySem.W.nsIn K mainGlobals "isinstance" = some none)
    (z_len : PySem.W.nsIn K mainGlobals "len" = some none)
    (z_list : PySem.W.nsIn K mainGlobals "list" = some none)
    (z_max : PySem.W.nsIn K mainGlobals "max" = some none)
    (z_range : PySem.W.nsIn K mainGlobals "range" = some none)
    (z_tuple : PySem.W.nsIn K mainGlobals "tuple" = some none)
    (gk_CORNERS : PySem.W.nsIn K mainGlobals "CORNERS" = some (some (.ref k_CORNERS)))
    (lk_CORNERS : K.lookup k_CORNERS = some ⟨.type "tuple", odk_CORNERS, .seq #[(.ref k_CORNERS_0), (.ref k_CORNERS_1), (.ref k_CORNERS_2), (.ref k_CORNERS_3)] nk_CORNERS, slk_CORNERS⟩)
    (lk_CORNERS_0 : K.lookup k_CORNERS_0 = some ⟨.type "tuple", odk_CORNERS_0, .seq #[(.int 0 t_CORNERS_0_0), (.int 0 t_CORNERS_0_1), (.int 1 t_CORNERS_0_2)] nk_CORNERS_0, slk_CORNERS_0⟩)
    (lk_CORNERS_1 : K.lookup k_CORNERS_1 = some ⟨.type "tuple", odk_CORNERS_1, .seq #[(.int 1 t_CORNERS_1_0), (.int 0 t_CORNERS_1_1), (.int 1 t_CORNERS_1_2)] nk_CORNERS_1, slk_CORNERS_1⟩)
    (lk_CORNERS_2 : K.lookup k_CORNERS_2 = some ⟨.type "tuple", odk_CORNERS_2, .seq #[(.int 0 t_CORNERS_2_0), (.int 1 t_CORNERS_2_1), (.int 1 t_CORNERS_2_2)] nk_CORNERS_2, slk_CORNERS_2⟩)
    (lk_CORNERS_3 : K.lookup k_CORNERS_3 = some ⟨.type "tuple", odk_CORNERS_3, .seq #[(.int 1 t_CORNERS_3_0), (.int 1 t_CORNERS_3_1), (.int 1 t_CORNERS_3_2)] nk_CORNERS_3, slk_CORNERS_3⟩)
    : ∃ fd : FuncData, (∀ (s : Shared) (v : Value), BindsTo s fd ⟨[v], []⟩ [("_law_script", v)]) ∧ ∀ base : Heap, K.In base → base.Ns mainGlobals mg → FnOk l.prog w K mg base CX0 4 fa fd ["_law_script"] (spLaw K) := by
  have e := hfa.symm.trans (PySem.W.mg_of X G a10)
  cases e
  have F0 := fun_mk (st := s_free_rows) l0 c0 k0
  have b0 := F0.binds (ps := ["rows"]) fun _ _ _ _ _ _ us hl => match us, hl with | [_], _ => rfl
  have F1 := fun_mk (st := s_number_sum) l1 c1 k1
  have b1 := F1.binds (ps := ["number", "letters"]) fun _ _ _ _ _ _ us hl => match us, hl with | [_, _], _ => rfl
  have F2 := fun_mk (st := s_letter_sum) l2 c2 k2
  have b2 := F2.binds (ps := ["letter", "letters"]) fun _ _ _ _ _ _ us hl => match us, hl with | [_, _], _ => rfl
  have F3 := fun_mk (st := s_letter_count) l3 c3 k3
  have b3 := F3.binds (ps := ["rows"]) fun _ _ _ _ _ _ us hl => match us, hl with | [_], _ => rfl
  have F4 := fun_mk (st := s_free_thing) l4 c4 k4
  have b4 := F4.binds (ps := ["rows", "k"]) fun _ _ _ _ _ _ us hl => match us, hl with | [_, _], _ => rfl
  have F5 := fun_mk (st := s_l_cell) l5 c5 k5
  have b5 := F5.binds (ps := ["_law_script", "_law_k"]) fun _ _ _ _ _ _ us hl => match us, hl with | [_, _], _ => rfl
  have F6 := fun_mk (st := s_l_bag) l6 c6 k6
  have b6 := F6.binds (ps := ["_law_cell_here"]) fun _ _ _ _ _ _ us hl => match us, hl with | [_], _ => rfl
  have F7 := fun_mk (st := s_l_draw) l7 c7 k7
  have b7 := F7.binds (ps := ["_law_bag_here", "_law_many"]) fun _ _ _ _ _ _ us hl => match us, hl with | [_, _], _ => rfl
  have F8 := fun_mk (st := s_l_number) l8 c8 k8
  have b8 := F8.binds (ps := ["_law_number_here", "_law_letters"]) fun _ _ _ _ _ _ us hl => match us, hl with | [_, _], _ => rfl
  have F9 := fun_mk (st := s_l_letter) l9 c9 k9
  have b9 := F9.binds (ps := ["_law_letter_here", "_law_letters"]) fun _ _ _ _ _ _ us hl => match us, hl with | [_, _], _ => rfl
  have F10 := fun_mk (st := s_law) l10 c10 k10
  have b10 := F10.binds (ps := ["_law_script"]) fun _ _ _ _ _ _ us hl => match us, hl with | [_], _ => rfl
  have T : Txt K mg ⟨f0, _, f1, _, f2, _, f3, _, f4, _, f5, _, f6, _, f7, _, f8, _, f9, _, fa, _, k_CORNERS⟩ := ⟨F0, PySem.W.mg_of X G a0, b0, F1, PySem.W.mg_of X G a1, b1, F2, PySem.W.mg_of X G a2, b2, F3, PySem.W.mg_of X G a3, b3, F4, PySem.W.mg_of X G a4, b4, F5, PySem.W.mg_of X G a5, b5, F6, PySem.W.mg_of X G a6, b6, F7, PySem.W.mg_of X G a7, b7, F8, PySem.W.mg_of X G a8, b8, F9, PySem.W.mg_of X G a9, b9, F10, PySem.W.mg_of X G a10, b10, PySem.W.mg_none_of X G z_abs, PySem.W.mg_none_of X G z_bool, PySem.W.mg_none_of X G z_int, PySem.W.mg_none_of X G z_isinstance, PySem.W.mg_none_of X G z_len, PySem.W.mg_none_of X G z_list, PySem.W.mg_none_of X G z_max, PySem.W.mg_none_of X G z_range, PySem.W.mg_none_of X G z_tuple, PySem.W.mg_of X G gk_CORNERS, fun _ _ => ((rep_tupK lk_CORNERS (by simp; decide) (.cons relR (.cons relR (.cons relR (.cons relR .nil)))) fun _ _ => (repsC ((rep_tupK lk_CORNERS_0 (by simp; decide) (.cons relI (.cons relI (.cons relI .nil))) fun _ _ => (repsC repI (repsC repI (repsC repI repsN)))) _ _) (repsC ((rep_tupK lk_CORNERS_1 (by simp; decide) (.cons relI (.cons relI (.cons relI .nil))) fun _ _ => (repsC repI (repsC repI (repsC repI repsN)))) _ _) (repsC ((rep_tupK lk_CORNERS_2 (by simp; decide) (.cons relI (.cons relI (.cons relI .nil))) fun _ _ => (repsC repI (repsC repI (repsC repI repsN)))) _ _) (repsC ((rep_tupK lk_CORNERS_3 (by simp; decide) (.cons relI (.cons relI (.cons relI .nil))) fun _ _ => (repsC repI (repsC repI (repsC repI repsN)))) _ _) repsN))))) _ _)⟩
  exact ⟨_, fun s v => .of_eq rfl, fun base _ _ => law_imp hlaw (ok_law T)⟩
theorem walk {l : PySem.W.OpenLaw} {q : Program} {loose : List Str} {XP : (Str → Option Value) → Heap → Prop} {YP : World → Heap → Prop} {d : DefRec} {K : Params → PySem.W.Frag} (hn : l.most = some 63) (hdf : d.params.defaults = [])
    (hY : ∀ (w : World) (h : Heap), YP w h → (K w.params).In h)
    (F : ∀ (w : World) (mg : Str → Option Value) (fa : Addr) (h : Heap), (K w.params).In h → h.Ns mainGlobals mg → mg d.name = some (.ref fa) →
      ∃ fd : FuncData, (∀ (s : Shared) (u : Value), BindsTo s fd ⟨[u], []⟩ [("_law_script", u)]) ∧ ∀ base : Heap, (K w.params).In base → base.Ns mainGlobals mg → FnOk l.prog w (K w.params) mg base CX0 4 fa fd ["_law_script"] (spLaw (K w.params))) :
    PySem.W.WalkO q loose XP YP l.row.toRowW d [] (fun f vs => PySem.call f vs) :=
  L2.walk_of (n := 63) (k := 4) (x := "_law_script") (CX := fun _ => CX0) (sp := fun w => spLaw (K w.params)) hn (by decide) hdf ⟨rfl, by decide, by decide⟩ hY F (fun _ _ a ns hl hO hS => ⟨a, ns, rfl, hS, hO, hl, fun _ => rfl⟩) fun _ _ _ _ _ z => z

local macro_rules | `(tactic| trivial) => `(tactic| with_reducible exact Sm.lit (by decide))
local macro_rules | `(tactic| trivial) => `(tactic| with_reducible exact Sm.zero)
local macro_rules | `(tactic| trivial) => `(tactic| with_reducible exact Sm.neg (by trivial))
local macro_rules | `(tactic| trivial) => `(tactic| with_reducible exact Sm.sub (by trivial) (by trivial))
local macro_rules | `(tactic| trivial) => `(tactic| with_reducible exact Sm.add (by trivial) (by trivial))
local macro_rules | `(tactic| trivial) => `(tactic| with_reducible exact Sm.mul (by trivial) (by trivial))
local macro_rules | `(tactic| trivial) => `(tactic| with_reducible assumption)

theorem set_c (h : Gh) (n : Nat) (c : Cell) : (h.set n c).c n = some c := by show (if n = n then some c else h.c n) = some c; rw [if_pos rfl]
theorem set_ne {h : Gh} {n m : Nat} {c : Cell} (e : m ≠ n) : (h.set n c).c m = h.c m := by show (if m = n then some c else h.c m) = _; rw [if_neg e]
theorem new_c (h : Gh) (c : Cell) : (h.new c).c h.nx = some c := by show (if h.nx = h.nx then some c else h.c h.nx) = some c; rw [if_pos rfl]
theorem new_ne {h : Gh} {m : Nat} {c : Cell} (e : m ≠ h.nx) : (h.new c).c m = h.c m := by show (if m = h.nx then some c else h.c m) = _; rw [if_neg e]
theorem view_loc {h : Gh} {n : Nat} {ws : List W} (e : h.c n = some (.lst ws)) : view h (.loc n) = some ws := by simp only [view, viewL, e]
def Oth (n : Nat) (h h' : Gh) : Prop := h'.nx = h.nx ∧ ∀ m, m ≠ n → h'.c m = h.c m
theorem Oth.set {n : Nat} {h : Gh} {c : Cell} : Oth n h (h.set n c) := ⟨rfl, fun _ e => set_ne e⟩
theorem fmod_pos {a b : Int} (h : 0 < b) : a.fmod b = a % b := Int.fmod_eq_emod_of_nonneg a (Int.le_of_lt h)
theorem fdiv_pos {a b : Int} (h : 0 < b) : a.fdiv b = a / b := Int.fdiv_eq_ediv_of_nonneg a (Int.le_of_lt h)
theorem by2_t {A B : Prop} {c : Bool} (e : c = true) (h : A) : by2 c A B := by subst e; exact h
theorem by2_f {A B : Prop} {c : Bool} (e : c = false) (h : B) : by2 c A B := by subst e; exact h
theorem for_inv {ws ws0 : List W} {g : MG} {b : MS} {D : MEnds} (I : Nat → Sw → Gh → Prop)
    (step : ∀ (i : Nat) (w : W) (σ : Sw) (h : Gh) (N : Sw → Gh → Prop), (∀ σ' h', I (i + 1) σ' h' → N σ' h') → ws[i]? = some w → I i σ h → g w σ h fun σ1 h1 => b { D with nx := N, ct := N, bk := D.nx } σ1 h1)
    (fin : ∀ σ h, I ws.length σ h → D.nx σ h) : ∀ {σ : Sw} {h : Gh}, I 0 σ h → mForL ⟨ws0, none⟩ g b D ws σ h := by
  induction ws generalizing I with
  | nil => intro σ h h0; exact fin σ h h0
  | cons w ws ih =>
    intro σ h h0
    refine step 0 w σ h _ (fun σ' h' q => ?_) rfl h0
    exact ih (fun i => I (i + 1)) (fun i w σ h N hN e hi => step (i + 1) w σ h N hN (by simpa using e) hi) (fun σ h q => fin σ h q) q
theorem lc_inv {ws ws0 : List W} {own : W → Option (List W)} {ix : List Nat} {tt : MT} {te : ME} {σ : Sw} {Q : WK} (I : Nat → List W → Gh → Prop)
    (step : ∀ (i : Nat) (w : W) (acc : List W) (h : Gh) (N : List W → Gh → Prop), (∀ acc' h', I (i + 1) acc' h' → N acc' h') → ws[i]? = some w → I i acc h →
      ∃ vs, own w = some vs ∧ tt (vs.map some ++ blkW ix σ) h fun c h1 => by2 c (te (vs.map some ++ blkW ix σ) h1 fun v h2 => N (acc ++ [v]) h2) (N acc h1))
    (fin : ∀ acc h, I ws.length acc h → Q (.lst acc) h) : ∀ {acc : List W} {h : Gh}, I 0 acc h → mLCL ⟨ws0, none⟩ own ix tt te σ Q ws acc h := by
  induction ws generalizing I with
  | nil => intro acc h h0; exact fin acc h h0
  | cons w ws ih =>
    intro acc h h0
    obtain ⟨vs, ev, q⟩ := step 0 w acc h _ (fun acc' h' q => ih (fun i => I (i + 1)) (fun i w acc h N hN e hi => step (i + 1) w acc h N hN (by simpa using e) hi) (fun acc h q => fin acc h q) q) rfl h0
    show (match own w with
      | some vs => _
      | none => False)
    rw [ev]
    exact q
theorem rngW_get {lo : Int} {n i : Nat} {w : W} (e : (rngW lo n)[i]? = some w) : i < n ∧ w = .int (lo + (i : Int)) := by
  have hi : i < n := by
    have := (List.getElem?_eq_some_iff.mp e).1
    simpa [rngW] using this
  unfold rngW at e
  rw [List.getElem?_map, List.getElem?_range hi] at e
  exact ⟨hi, (Option.some.inj e).symm⟩
theorem rngW_len {lo : Int} {n : Nat} : (rngW lo n).length = n := by simp [rngW]
theorem for_rng {ma : MA} {j : Int} {g : MG} {b : MS} {D : MEnds} {σ : Sw} {h : Gh} (hm : ∀ R, ma σ h R = R [.int j] h) (h1 : -(2 ^ 62) ≤ j) (h2 : j < 2 ^ 62) (I : Nat → Sw → Gh → Prop)
    (step : ∀ (i : Nat) (σ : Sw) (h : Gh) (N : Sw → Gh → Prop), (∀ σ' h', I (i + 1) σ' h' → N σ' h') → i < j.toNat → I i σ h → g (.int (i : Int)) σ h fun σ1 h1 => b { D with nx := N, ct := N, bk := D.nx } σ1 h1)
    (fin : ∀ σ h, I j.toNat σ h → D.nx σ h) (h0 : I 0 σ h) : mFor (nRng1 ma) g b D σ h := by
  unfold mFor nRng1
  rw [hm]
  refine rgOk.mk h1 h2 ?_
  refine for_inv I (fun i w σ h N hN e hi => ?_) (fun σ h q => fin σ h (by rw [rngW_len] at q; exact q)) h0
  obtain ⟨hlt, rfl⟩ := rngW_get e
  rw [Int.zero_add]
  exact step i σ h N hN hlt hi
theorem atI_ints {ns : List Int} {k : Int} (h0 : 0 ≤ k) (h1 : k < ((ns.map W.int).length : Int)) : atI (ns.map W.int) k = some (.int (ns.getD k.toNat 0)) := by
  have hk : k.toNat < ns.length := by rw [List.length_map] at h1; omega
  have e : (ns.map W.int)[k.toNat]? = some (.int (ns.getD k.toNat 0)) := by
    rw [List.getElem?_map, List.getElem?_eq_getElem hk, List.getD_eq_getElem?_getD, List.getElem?_eq_getElem hk]; rfl
  have := atI_nat e
  rwa [show ((k.toNat : Nat) : Int) = k by omega] at this
theorem eqW_int (a b : Int) : eqW (.int a) (.int b) = (a == b) := by rw [eqW]

theorem app_ok {h : Gh} {n : Nat} {us : List W} {w : W} {Q : WK} (e : h.c n = some (.lst us)) (hz : us.length < sizeLine) (k : Q .non (h.set n (.lst (us ++ [w])))) : kAppend (.loc n) [w] h Q := by
  show (match h.c n with
    | some (Cell.lst us) => _
    | _ => False)
  rw [e]
  exact ⟨hz, k⟩
theorem lc_rng {ma : MA} {j : Int} {own : W → Option (List W)} {ix : List Nat} {tt : MT} {te : ME} {σ : Sw} {h : Gh} {Q : WK} (hm : ∀ R, ma σ h R = R [.int j] h) (h1 : -(2 ^ 62) ≤ j) (h2 : j < 2 ^ 62) (hz : j.toNat ≤ sizeLine) (I : Nat → List W → Gh → Prop)
    (step : ∀ (i : Nat) (acc : List W) (h : Gh) (N : List W → Gh → Prop), (∀ acc' h', I (i + 1) acc' h' → N acc' h') → i < j.toNat → I i acc h →
      ∃ vs, own (.int (i : Int)) = some vs ∧ tt (vs.map some ++ blkW ix σ) h fun c h1 => by2 c (te (vs.map some ++ blkW ix σ) h1 fun v h2 => N (acc ++ [v]) h2) (N acc h1))
    (fin : ∀ acc h, I j.toNat acc h → Q (.lst acc) h) (h0 : I 0 [] h) : mLC own ix (nRng1 ma) tt te σ h Q := by
  unfold mLC nRng1
  rw [hm]
  refine rgOk.mk h1 h2 (szOk.mk (by rw [rngW_len]; exact hz) ?_)
  refine lc_inv I (fun i w acc h N hN e hi => ?_) (fun acc h q => fin acc h (by rw [rngW_len] at q; exact q)) h0
  obtain ⟨hlt, rfl⟩ := rngW_get e
  rw [Int.zero_add]
  exact step i acc h N hN hlt hi

theorem eqW_str (a b : Str) : eqW (.str a) (.str b) = (a == b) := by rw [eqW]
def Bag (h : Gh) (n : Nat) : Prop := ∃ a b, h.c n = some (.lst [.int a, .int b]) ∧ 0 ≤ b ∧ b < 2147483647
def DrawOk (c : MSp) : Prop := ∀ {h : Gh} {n : Nat} {many : Int} {Q : WK} {E : XWK}, Bag h n → 0 < many → Sm 60 many → (∀ d h', 0 ≤ d → d < many → Bag h' n → Oth n h h' → Q (.int d) h') → c [.loc n, .int many] h Q E
theorem w_draw : DrawOk r_l_draw := by
  intro h n many Q E hb hm hs k
  obtain ⟨a, b, e, b0, b1⟩ := hb
  have hm0 : many ≠ 0 := by omega
  have ev := view_loc e
  have bag : ∀ {h' : Gh} {a b : Int}, h'.c n = some (.lst [.int a, .int b]) → 0 ≤ b → b < 2147483647 → Bag h' n := fun e h0 h1 => ⟨_, _, e, h0, h1⟩
  show (match view h (.loc n) with
    | some ws => _
    | none => False)
  rw [ev]
  refine br_d (fun _ => ?_) (fun _ => ?_)
  · show (match view h (.loc n) with
      | some ws => _
      | none => False)
    rw [ev]
    refine And.intro hm0 ?_
    show (match view h (.loc n) with
      | some ws => _
      | none => False)
    rw [ev]
    refine And.intro ⟨hm0, 60, by decide, hs⟩ ?_
    show (match h.c n with
      | some (Cell.lst ws) => _
      | _ => False)
    rw [e]
    show Q (.int (a.fmod many)) (h.set n _)
    rw [fmod_pos hm]
    exact k _ _ (Int.emod_nonneg _ hm0) (Int.emod_lt_of_pos _ hm) (bag (set_c _ _ _) b0 b1) Oth.set
  · show (match view h (.loc n) with
      | some ws => _
      | none => False)
    rw [ev]
    refine And.intro (.of (m := 31) (n := 64) (sm_of (by omega) (by omega)) (.lit rfl) (by decide) (by decide)) ?_
    refine And.intro (show (2147483647 : Int) ≠ 0 by decide) ?_
    show (match h.c n with
      | some (Cell.lst ws) => _
      | _ => False)
    rw [e]
    have c0 : 0 ≤ (b * 48271 + 11).fmod 2147483647 := by rw [fmod_pos (by decide)]; exact Int.emod_nonneg _ (by decide)
    have c1 : (b * 48271 + 11).fmod 2147483647 < 2147483647 := by rw [fmod_pos (by decide)]; exact Int.emod_lt_of_pos _ (by decide)
    have e2 : (h.set n (.lst [.int a, .int ((b * 48271 + 11).fmod 2147483647)])).c n = some (.lst [.int a, .int ((b * 48271 + 11).fmod 2147483647)]) := set_c _ _ _
    have ev2 := view_loc e2
    have o2 : Oth n h (h.set n (.lst [.int a, .int ((b * 48271 + 11).fmod 2147483647)])) := Oth.set
    show (match view (h.set n (.lst [.int a, .int ((b * 48271 + 11).fmod 2147483647)])) (.loc n) with
      | some ws => _
      | none => False)
    rw [ev2]
    show (match view (h.set n (.lst [.int a, .int ((b * 48271 + 11).fmod 2147483647)])) (.loc n) with
      | some ws => _
      | none => False)
    rw [ev2]
    generalize (b * 48271 + 11).fmod 2147483647 = c at *
    refine And.intro ⟨by decide, 64, by decide, .lit rfl⟩ ?_
    have q0 : 0 ≤ c.fdiv 65536 := by rw [fdiv_pos (by decide)]; omega
    have q1 : c.fdiv 65536 < 2147483647 := by rw [fdiv_pos (by decide)]; omega
    refine And.intro (.of (m := 31) (n := 40) (sm_of (by omega) (by omega)) (sm_of (by omega) (by omega)) (by decide) (by decide)) ?_
    refine And.intro (show (2147483629 : Int) ≠ 0 by decide) ?_
    refine And.intro ⟨by decide, 64, by decide, .lit rfl⟩ ?_
    refine And.intro hm0 ?_
    show Q (.int (Int.fmod _ many)) (h.set n (.lst [.int a, .int c]))
    rw [fmod_pos hm]
    exact k _ _ (Int.emod_nonneg _ hm0) (Int.emod_lt_of_pos _ hm) (bag e2 c0 c1) o2
def CellOk2 (c : MSp) : Prop := ∀ {h : Gh} {ns : List Int} {k : Int} {Q : WK} {E : XWK}, 0 ≤ k → Q (.int (ns.getD k.toNat 0)) h → c [.kls (ns.map .int), .int k] h Q E
theorem w_cell : CellOk2 r_l_cell := by
  intro h ns k Q E h0 q
  show br (decide (k < ((ns.map W.int).length : Int))) _ _
  refine br_d (fun hk => ?_) (fun hk => ?_)
  · conv => whnf
    rw [atI_ints h0 hk]
    exact q
  · have e : ns.getD k.toNat 0 = 0 := by
      rw [List.getD_eq_getElem?_getD, List.getElem?_eq_none (by rw [List.length_map] at hk; omega)]; rfl
    rw [e] at q
    exact q

def fr : W → Bool
  | .tup (.str s :: _) => s == "free"
  | _ => false
def RowW (w : W) : Prop := ∃ s r, w = .tup (.str s :: r)
def freeN (ws : List W) : List Nat := (List.range ws.length).filter fun j => fr (ws.getD j .non)
def freeIx (ws : List W) : List Int := (freeN ws).map fun j => ((j : Nat) : Int)
theorem freeN_app (ws : List W) (w : W) : freeN (ws ++ [w]) = freeN ws ++ (if fr w then [ws.length] else []) := by
  unfold freeN
  rw [List.length_append, List.length_singleton, List.range_succ, List.filter_append]
  congr 1
  · refine List.filter_congr fun j hj => ?_
    have hj : j < ws.length := List.mem_range.mp hj
    rw [List.getD_eq_getElem?_getD, List.getD_eq_getElem?_getD, List.getElem?_append_left hj]
  · have : (ws ++ [w]).getD ws.length .non = w := by
      rw [List.getD_eq_getElem?_getD, List.getElem?_append_right (Nat.le_refl _)]
      simp
    rw [List.filter_cons, this]
    cases fr w <;> simp
theorem freeN_nodup (ws : List W) : (freeN ws).Nodup := List.Pairwise.filter _ List.nodup_range
def FreeRowsOk (c0 : MSp) : Prop := ∀ {h : Gh} {ws : List W} {Q : WK} {E : XWK}, ws.length ≤ 100 → (∀ w ∈ ws, RowW w) → Q (.lst ((freeIx ws).map .int)) h → c0 [.lst ws] h Q E
theorem w_free_rows : FreeRowsOk r_free_rows := by
  intro h ws Q E hl hr q
  show mLC ow1 [0] (nRng1 (mCons (mCB kLen (mCons (mVar 0) mNil)) mNil)) (mTest (mOp kEq (mOp kIx (mOp kIx (mVar 1) (mVar 0)) (mC (.int 0))) (mC (.str "free")))) (mVar 0) [some (.lst ws)] h _
  have p62 : (2 : Int) ^ 62 = 4611686018427387904 := by decide
  refine lc_rng (j := (ws.length : Int)) (fun _ => rfl) (by omega) (by omega) (Nat.le_trans (show (ws.length : Int).toNat ≤ 100 by omega) (by decide)) (fun i acc h' => h' = h ∧ acc = (((List.range i).filter fun j => fr (ws.getD j .non)).map fun j => ((j : Nat) : Int)).map W.int) ?_ ?_ ⟨rfl, rfl⟩
  · rintro i acc h' N hN hlt ⟨rfl, rfl⟩
    have hi : i < ws.length := by omega
    refine ⟨[.int (i : Int)], rfl, ?_⟩
    have ea : atI ws (i : Int) = some ws[i] := atI_nat (List.getElem?_eq_getElem hi)
    obtain ⟨s, r, ew⟩ := hr ws[i] (List.getElem_mem hi)
    have ed : fr (ws.getD i .non) = (s == "free") := by
      rw [List.getD_eq_getElem?_getD, List.getElem?_eq_getElem hi]
      show fr ws[i] = _
      rw [ew]; rfl
    show (match atI ws (i : Int) with
      | some w => _
      | none => False)
    rw [ea, ew]
    have e0 : atI (W.str s :: r) ((0 : Nat) : Int) = some (.str s) := atI_nat rfl
    show (match atI (W.str s :: r) ((0 : Nat) : Int) with
      | some w => _
      | none => False)
    rw [e0]
    show by2 (eqW (.str s) (.str "free")) (N (_ ++ [W.int (i : Int)]) h') (N _ h')
    rw [eqW_str]
    cases es : (s == "free") with
    | true =>
      refine by2_t rfl (hN _ _ ⟨rfl, ?_⟩)
      rw [List.range_succ, List.filter_append, List.filter_cons, ed, es]
      simp
    | false =>
      refine by2_f rfl (hN _ _ ⟨rfl, ?_⟩)
      rw [List.range_succ, List.filter_append, List.filter_cons, ed, es]
      simp
  · rintro acc h' ⟨rfl, rfl⟩
    rw [Int.toNat_natCast]
    exact q
def letN (ps : List Int) : Int := 2 * (if 0 > (ps.length : Int) - 4 then 0 else (ps.length : Int) - 4)
def CountOk (c0 : MSp) : Prop := ∀ {h : Gh} {ws : List W} {Q : WK} {E : XWK}, ws.length ≤ 100 → (∀ w ∈ ws, RowW w) → Q (.int (letN (freeIx ws))) h → c0 [.lst ws] h Q E
theorem freeIx_len (ws : List W) : (freeIx ws).length ≤ ws.length := by
  unfold freeIx freeN
  rw [List.length_map]
  refine Nat.le_trans (List.length_filter_le ..) ?_
  rw [List.length_range]; exact Nat.le_refl _
theorem w_count {fr' : MSp} (hfr : FreeRowsOk fr') : CountOk (r_letter_count fr') := by
  intro h ws Q E hl hr q
  have := freeIx_len ws
  show fr' [.lst ws] h _ _
  refine hfr hl hr ?_
  have lm : (((freeIx ws).map W.int).length : Int) = (freeIx ws).length := by rw [List.length_map]
  refine And.intro (.of (m := 64) (n := 20) (.lit rfl) (sm_of (by rw [lm]; split <;> omega) (by rw [lm]; split <;> omega)) (by decide) (by decide)) ?_
  show Q (.int (2 * (if 0 > (((freeIx ws).map W.int).length : Int) - 4 then 0 else (((freeIx ws).map W.int).length : Int) - 4))) h
  rw [lm]
  exact q
def zs (L : Int) : List Int := List.replicate L.toNat 0
def numW (n L : Int) : W := if n = 0 then .tup [] else .tup [.tup [.tup ((zs L).map .int), .int n]]
def letL (l L : Int) : List Int := (List.range L.toNat).map fun (i : Nat) => if (i : Int) = l then 1 else 0
def letW (l L : Int) : W := .tup [.tup [.tup ((letL l L).map .int), .int 1]]
theorem flat_zero (k : Nat) : (List.replicate k [W.int 0]).flatten = (List.replicate k (0 : Int)).map W.int := by
  induction k with
  | zero => rfl
  | succ k ih => rw [List.replicate_succ, List.flatten_cons, ih, List.replicate_succ, List.map_cons]; rfl
def NumOk (c0 : MSp) : Prop := ∀ {h : Gh} {n L : Int} {Q : WK} {E : XWK}, 0 ≤ L → L ≤ 100 → Q (numW n L) h → c0 [.int n, .int L] h Q E
theorem w_num : NumOk r_number_sum := by
  intro h n L Q E l0 l1 q
  show br (!eqW (.int n) (.int 0)) _ _
  rw [eqW_int]
  by_cases e : n = 0
  · refine br_f (by simp [e]) ?_
    unfold numW at q
    rw [if_pos e] at q
    exact q
  · refine br_t (by simp [e]) ?_
    unfold numW at q
    rw [if_neg e] at q
    refine And.intro ⟨l0, by omega, by show 1 * L.toNat ≤ 1000; omega⟩ ?_
    show Q (.tup [.tup [.tup (List.replicate L.toNat [W.int 0]).flatten, .int n]]) h
    rw [flat_zero]
    exact q
theorem w_lnum : NumOk r_l_number := by
  intro h n L Q E l0 l1 q
  show br (eqW (.int n) (.int 0)) _ _
  rw [eqW_int]
  by_cases e : n = 0
  · refine br_t (by simp [e]) ?_
    unfold numW at q
    rw [if_pos e] at q
    exact q
  · refine br_f (by simp [e]) ?_
    unfold numW at q
    rw [if_neg e] at q
    refine And.intro ⟨l0, by omega, by show 1 * L.toNat ≤ 1000; omega⟩ ?_
    show Q (.tup [.tup [.tup (List.replicate L.toNat [W.int 0]).flatten, .int n]]) h
    rw [flat_zero]
    exact q
def LetOk (c0 : MSp) : Prop := ∀ {h : Gh} {l L : Int} {Q : WK} {E : XWK}, 0 ≤ L → L ≤ 100 → Q (letW l L) h → c0 [.int l, .int L] h Q E
theorem w_let : LetOk r_letter_sum := by
  intro h l L Q E l0 l1 q
  have p62 : (2 : Int) ^ 62 = 4611686018427387904 := by decide
  show mLC ow1 [0] (nRng1 (mCons (mVar 1) mNil)) mYes (mIf (mTest (mOp kEq (mVar 0) (mVar 1))) (mC (.int 1)) (mC (.int 0))) [some (.int l), some (.int L)] h _
  refine lc_rng (j := L) (fun _ => rfl) (by omega) (by omega) (Nat.le_trans (show L.toNat ≤ 100 by omega) (by decide)) (fun i acc h' => h' = h ∧ acc = ((List.range i).map fun (i : Nat) => if (i : Int) = l then (1 : Int) else 0).map W.int) ?_ ?_ ⟨rfl, rfl⟩
  · rintro i acc h' N hN hlt ⟨rfl, rfl⟩
    refine ⟨[.int (i : Int)], rfl, ?_⟩
    show br (eqW (.int (i : Int)) (.int l)) (N (_ ++ [W.int 1]) h') (N (_ ++ [W.int 0]) h')
    rw [eqW_int]
    by_cases e : (i : Int) = l
    · refine br_t (by simp [e]) (hN _ _ ⟨rfl, ?_⟩)
      rw [List.range_succ, List.map_append, List.map_append]
      simp [e]
    · refine br_f (by simp [e]) (hN _ _ ⟨rfl, ?_⟩)
      rw [List.range_succ, List.map_append, List.map_append]
      simp [e]
  · rintro acc h' ⟨rfl, rfl⟩
    exact q
theorem w_llet : LetOk r_l_letter := by
  intro h l L Q E l0 l1 q
  have p62 : (2 : Int) ^ 62 = 4611686018427387904 := by decide
  show mLC ow1 [0] (nRng1 (mCons (mVar 1) mNil)) mYes (mCB kInt (mCons (mOp kEq (mVar 0) (mVar 1)) mNil)) [some (.int l), some (.int L)] h _
  refine lc_rng (j := L) (fun _ => rfl) (by omega) (by omega) (Nat.le_trans (show L.toNat ≤ 100 by omega) (by decide)) (fun i acc h' => h' = h ∧ acc = ((List.range i).map fun (i : Nat) => if (i : Int) = l then (1 : Int) else 0).map W.int) ?_ ?_ ⟨rfl, rfl⟩
  · rintro i acc h' N hN hlt ⟨rfl, rfl⟩
    refine ⟨[.int (i : Int)], rfl, ?_⟩
    show N (_ ++ [W.int (if eqW (.int (i : Int)) (.int l) then 1 else 0)]) h'
    rw [eqW_int]
    by_cases e : (i : Int) = l
    · refine hN _ _ ⟨rfl, ?_⟩
      rw [List.range_succ, List.map_append, List.map_append]
      simp [e]
    · refine hN _ _ ⟨rfl, ?_⟩
      rw [List.range_succ, List.map_append, List.map_append]
      simp [e]
  · rintro acc h' ⟨rfl, rfl⟩
    exact q

theorem plW_ints (n : Nat) (ns : List Int) : plW (n + 1) (.tup (ns.map W.int)) = true := by
  show (ns.map W.int).all (plW n) = true
  rw [List.all_map, List.all_eq_true]
  intro x _
  cases n <;> rfl
theorem eqs_ints : ∀ ns ms : List Int, eqWs (ns.map W.int) (ms.map W.int) = decide (ns = ms)
  | [], [] => rfl
  | [], _ :: _ => rfl
  | _ :: _, [] => rfl
  | a :: ns, b :: ms => by
    rw [List.map_cons, List.map_cons, eqWs, eqW_int, eqs_ints ns ms]
    by_cases e : a = b <;> by_cases e' : ns = ms <;> simp [e, e']
theorem eq_ints (ns : List Int) : eqW (.tup (ns.map W.int)) (.tup (ns.map W.int)) = true := by rw [eqW, eqs_ints]; simp
def thingW (at' : Nat) (L : Int) : W := match at' with
  | 0 => .tup [numW 0 L, numW 0 L, numW 1 L]
  | 1 => .tup [numW 1 L, numW 0 L, numW 1 L]
  | 2 => .tup [numW 0 L, numW 1 L, numW 1 L]
  | 3 => .tup [numW 1 L, numW 1 L, numW 1 L]
  | n + 4 => .tup [letW (2 * (n : Int)) L, letW (2 * (n : Int) + 1) L, numW 1 L]
theorem eq_num (n L : Int) : eqW (numW n L) (numW n L) = true := by
  unfold numW
  split
  · rw [eqW, eqWs]
  · rw [eqW, eqWs, eqWs, eqW, eqWs, eqWs, eqWs, eq_ints, eqW_int]; simp
theorem eq_let (n L : Int) : eqW (letW n L) (letW n L) = true := by
  unfold letW
  rw [eqW, eqWs, eqWs, eqW, eqWs, eqWs, eqWs, eq_ints, eqW_int]; simp
theorem pl_num (k : Nat) (n L : Int) : plW (k + 4) (numW n L) = true := by
  unfold numW
  split
  · rfl
  · show ([W.tup [.tup ((zs L).map .int), .int n]]).all (plW (k + 3)) = true
    rw [List.all_cons, List.all_nil, Bool.and_true]
    show ([W.tup ((zs L).map .int), .int n]).all (plW (k + 2)) = true
    rw [List.all_cons, plW_ints, List.all_cons, List.all_nil]; rfl
theorem pl_let (k : Nat) (n L : Int) : plW (k + 4) (letW n L) = true := by
  unfold letW
  show ([W.tup [.tup ((letL n L).map .int), .int 1]]).all (plW (k + 3)) = true
  rw [List.all_cons, List.all_nil, Bool.and_true]
  show ([W.tup ((letL n L).map .int), .int 1]).all (plW (k + 2)) = true
  rw [List.all_cons, plW_ints, List.all_cons, List.all_nil]; rfl
theorem thing3 (at' : Nat) (L : Int) : ∃ a b c, thingW at' L = .tup [a, b, c] ∧ (eqW a a = true ∧ eqW b b = true ∧ eqW c c = true) ∧ (plW 29 a = true ∧ plW 29 b = true ∧ plW 29 c = true) := by
  match at' with
  | 0 => exact ⟨_, _, _, rfl, ⟨eq_num _ _, eq_num _ _, eq_num _ _⟩, ⟨pl_num 25 _ _, pl_num 25 _ _, pl_num 25 _ _⟩⟩
  | 1 => exact ⟨_, _, _, rfl, ⟨eq_num _ _, eq_num _ _, eq_num _ _⟩, ⟨pl_num 25 _ _, pl_num 25 _ _, pl_num 25 _ _⟩⟩
  | 2 => exact ⟨_, _, _, rfl, ⟨eq_num _ _, eq_num _ _, eq_num _ _⟩, ⟨pl_num 25 _ _, pl_num 25 _ _, pl_num 25 _ _⟩⟩
  | 3 => exact ⟨_, _, _, rfl, ⟨eq_num _ _, eq_num _ _, eq_num _ _⟩, ⟨pl_num 25 _ _, pl_num 25 _ _, pl_num 25 _ _⟩⟩
  | n + 4 => exact ⟨_, _, _, rfl, ⟨eq_let _ _, eq_let _ _, eq_num _ _⟩, ⟨pl_let 25 _ _, pl_let 25 _ _, pl_num 25 _ _⟩⟩
theorem kNe_thing {at' : Nat} {L : Int} {h : Gh} {Q : WK} (k : Q (.bl false) h) : kNe (thingW at' L) (thingW at' L) h Q := by
  obtain ⟨a, b, c, e, ⟨e1, e2, e3⟩, p1, p2, p3⟩ := thing3 at' L
  rw [e]
  show by2 (plW 30 (.tup [a, b, c]) && plW 30 (.tup [a, b, c])) (Q (.bl (!eqW (.tup [a, b, c]) (.tup [a, b, c]))) h) False
  have ep : plW 30 (.tup [a, b, c]) = true := by
    show ([a, b, c]).all (plW 29) = true
    rw [List.all_cons, List.all_cons, List.all_cons, List.all_nil, p1, p2, p3]; rfl
  rw [ep, eqW, eqWs, eqWs, eqWs, eqWs, e1, e2, e3]
  exact k
def ThingOk (c0 : MSp) : Prop := ∀ {h : Gh} {ws : List W} {at' : Nat} {k : Int} {Q : WK} {E : XWK}, ws.length ≤ 100 → (∀ w ∈ ws, RowW w) → (freeIx ws).length ≤ 7 → (freeIx ws)[at']? = some k → Q (thingW at' (letN (freeIx ws))) h → c0 [.lst ws, .int k] h Q E
theorem free_first {ws : List W} {at' : Nat} {k : Int} (h : (freeIx ws)[at']? = some k) : ∀ m, m < at' → (freeIx ws)[m]? ≠ some k := by
  intro m hm e
  unfold freeIx at h e
  rw [List.getElem?_map] at h e
  cases h1 : (freeN ws)[at']? with
  | none => rw [h1] at h; cases h
  | some a =>
    cases h2 : (freeN ws)[m]? with
    | none => rw [h2] at e; cases e
    | some b =>
      rw [h1] at h
      rw [h2] at e
      have ea : ((a : Nat) : Int) = k := Option.some.inj h
      have eb : ((b : Nat) : Int) = k := Option.some.inj e
      have hlt1 := (List.getElem?_eq_some_iff.mp h1)
      have hlt2 := (List.getElem?_eq_some_iff.mp h2)
      have := List.pairwise_iff_getElem.mp (freeN_nodup ws) m at' hlt2.1 hlt1.1 hm
      refine this ?_
      rw [hlt2.2, hlt1.2]
      omega
theorem letN_bd {ps : List Int} (h : ps.length ≤ 7) : 0 ≤ letN ps ∧ letN ps ≤ 100 := by
  unfold letN
  split <;> omega
theorem w_thing {fr' nm lt ct : MSp} (hfr : FreeRowsOk fr') (hnm : NumOk nm) (hlt : LetOk lt) (hct : CountOk ct) : ThingOk (r_free_thing fr' nm lt ct) := by
  intro h ws at' k Q E hl hr h7 hat q
  obtain ⟨l0, l1⟩ := letN_bd h7
  have hlt7 : at' < 7 := by have := (List.getElem?_eq_some_iff.mp hat).1; omega
  show ct [.lst ws] h _ _
  refine hct hl hr ?_
  show fr' [.lst ws] h _ _
  refine hfr hl hr ?_
  refine ⟨freeIx ws, at', rfl, hat, free_first hat, ?_⟩
  generalize letN (freeIx ws) = L at *
  show br (decide ((at' : Int) < 4)) _ _
  match at', hlt7, q with
  | 0, _, q =>
    refine br_t (by decide) ?_
    show nm [.int 0, .int L] h _ _
    refine hnm l0 l1 ?_
    show nm [.int 0, .int L] h _ _
    refine hnm l0 l1 ?_
    show nm [.int 1, .int L] h _ _
    exact hnm l0 l1 q
  | 1, _, q =>
    refine br_t (by decide) ?_
    show nm [.int 1, .int L] h _ _
    refine hnm l0 l1 ?_
    show nm [.int 0, .int L] h _ _
    refine hnm l0 l1 ?_
    show nm [.int 1, .int L] h _ _
    exact hnm l0 l1 q
  | 2, _, q =>
    refine br_t (by decide) ?_
    show nm [.int 0, .int L] h _ _
    refine hnm l0 l1 ?_
    show nm [.int 1, .int L] h _ _
    refine hnm l0 l1 ?_
    show nm [.int 1, .int L] h _ _
    exact hnm l0 l1 q
  | 3, _, q =>
    refine br_t (by decide) ?_
    show nm [.int 1, .int L] h _ _
    refine hnm l0 l1 ?_
    show nm [.int 1, .int L] h _ _
    refine hnm l0 l1 ?_
    show nm [.int 1, .int L] h _ _
    exact hnm l0 l1 q
  | n + 4, hn, q =>
    refine br_f (decide_eq_false (by omega)) ?_
    have e : ((n + 4 : Nat) : Int) - 4 = n := by omega
    refine And.intro (.of (m := 64) (n := 10) (.lit rfl) (sm_of (by omega) (by omega)) (by decide) (by decide)) ?_
    show lt [.int (2 * (((n + 4 : Nat) : Int) - 4)), .int L] h _ _
    rw [e]
    refine hlt l0 l1 ?_
    show lt [.int (2 * (n : Int) + 1), .int L] h _ _
    refine hlt l0 l1 ?_
    show nm [.int 1, .int L] h _ _
    exact hnm l0 l1 q
def BagOk (c0 : MSp) : Prop := ∀ {h : Gh} {a : Int} {Q : WK} {E : XWK}, (∀ h', Bag h' h.nx → h'.nx = h.nx + 1 → (∀ m, m ≠ h.nx → h'.c m = h.c m) → Q (.loc h.nx) h') → c0 [.int a] h Q E
theorem w_bag : BagOk r_l_bag := by
  intro h a Q E k
  refine And.intro ⟨by decide, by decide, by decide⟩ ?_
  refine And.intro (.inr (.inr ?_)) ?_
  · have g : ∀ b : Bool, Sm 64 (if b = true then (1 : Int) else 0) := fun b => by
      cases b
      · exact Sm.zero
      · exact .lit rfl
    exact g _
  refine And.intro (show (2147483647 : Int) ≠ 0 by decide) ?_
  refine k _ ⟨_, _, new_c _ _, ?_, ?_⟩ rfl fun m hm => new_ne hm
  · rw [fmod_pos (by decide)]; exact Int.emod_nonneg _ (by decide)
  · rw [fmod_pos (by decide)]; exact Int.emod_lt_of_pos _ (by decide)

structure St70 (h : Gh) (B R P : Nat) (ws : List W) : Prop where
  br : B ≠ R
  bp : B ≠ P
  rp : R ≠ P
  r : h.c R = some (.lst ws)
  p : h.c P = some (.lst ((freeIx ws).map .int))
  b : Bag h B
  ok : ∀ w ∈ ws, RowW w
  one : 1 ≤ (freeIx ws).length
  few : (freeIx ws).length ≤ 7
theorem St70.draw {h h' : Gh} {B R P : Nat} {ws : List W} (s : St70 h B R P ws) (o : Oth B h h') (b : Bag h' B) : St70 h' B R P ws :=
  ⟨s.br, s.bp, s.rp, by rw [o.2 R (Ne.symm s.br)]; exact s.r, by rw [o.2 P (Ne.symm s.bp)]; exact s.p, b, s.ok, s.one, s.few⟩
theorem Bag.set {h : Gh} {B n : Nat} {c : Cell} (b : Bag h B) (ne : B ≠ n) : Bag (h.set n c) B := by
  obtain ⟨x, y, e, h0, h1⟩ := b
  exact ⟨x, y, by rw [set_ne ne]; exact e, h0, h1⟩
theorem freeIx_free (ws : List W) : freeIx (ws ++ [.tup [.str "free"]]) = freeIx ws ++ [(ws.length : Int)] := by
  unfold freeIx
  rw [freeN_app, show fr (.tup [.str "free"]) = true by decide, if_pos rfl, List.map_append]
  rfl
theorem freeIx_join (ws : List W) (x y : W) : freeIx (ws ++ [.tup [.str "join", x, y]]) = freeIx ws := by
  unfold freeIx
  rw [freeN_app, show fr (.tup [.str "join", x, y]) = false by rfl, if_neg (by decide), List.append_nil]
theorem w_else {dr : MSp} (hdr : DrawOk dr) {E : XWK} {D : MEnds} {h : Gh} {B R P : Nat} {ws : List W} {s0 s4 s5 s6 s7 s8 s9 s10 s11 : Option W} (S : St70 h B R P ws) (hl : ws.length < 100)
    (hN : ∀ x y h', St70 h' B R P (ws ++ [.tup [.str "join", x, y]]) → D.nx [s0, some (.loc B), some (.loc R), some (.loc P), s4, s5, s6, s7, s8, s9, s10, s11] h') :
    (mDrop (mBMr kAppend (mVar 2) (mCons (mTup (mCons (mC (.str "join")) (mCons (mOp kIx (mVar 3) (mCall dr E (mCons (mVar 1) (mCons (mCB kLen (mCons (mVar 3) mNil)) mNil)))) (mCons (mOp kIx (mVar 3) (mCall dr E (mCons (mVar 1) (mCons (mCB kLen (mCons (mVar 3) mNil)) mNil)))) mNil)))) mNil))) D [s0, some (.loc B), some (.loc R), some (.loc P), s4, s5, s6, s7, s8, s9, s10, s11] h := by
  have vp := view_loc S.p
  have lm : (((freeIx ws).map W.int).length : Int) = (freeIx ws).length := by rw [List.length_map]
  have one := S.one
  have few := S.few
  have sm : Sm 60 (((freeIx ws).map W.int).length : Int) := by rw [lm]; exact (sm_of (n := 10) (by omega) (by omega)).mono (by decide)
  show (match h.c R with
    | some (Cell.lst us) => _
    | _ => False)
  rw [S.r]
  show (match view h (.loc P) with
    | some xs => _
    | none => False)
  rw [vp]
  show dr [.loc B, .int (((freeIx ws).map W.int).length : Int)] h _ _
  refine hdr (n := B) S.b (by rw [lm]; omega) sm fun d h1 d0 d1 b1 o1 => ?_
  have S1 := S.draw o1 b1
  have vp1 := view_loc S1.p
  show (match view h1 (.loc P) with
    | some xs => _
    | none => False)
  rw [vp1]
  show (match atI ((freeIx ws).map W.int) d with
    | some w => _
    | none => False)
  rw [atI_ints d0 d1]
  show (match view h1 (.loc P) with
    | some xs => _
    | none => False)
  rw [vp1]
  show dr [.loc B, .int (((freeIx ws).map W.int).length : Int)] h1 _ _
  refine hdr (n := B) S1.b (by rw [lm]; omega) sm fun e h2 e0 e1 b2 o2 => ?_
  have S2 := S1.draw o2 b2
  have vp2 := view_loc S2.p
  show (match view h2 (.loc P) with
    | some xs => _
    | none => False)
  rw [vp2]
  show (match atI ((freeIx ws).map W.int) e with
    | some w => _
    | none => False)
  rw [atI_ints e0 e1]
  show kAppend (.loc R) [.tup [.str "join", .int ((freeIx ws).getD d.toNat 0), .int ((freeIx ws).getD e.toNat 0)]] h2 (fun _ h1 => D.nx [s0, some (.loc B), some (.loc R), some (.loc P), s4, s5, s6, s7, s8, s9, s10, s11] h1)
  refine app_ok S2.r (Nat.lt_of_lt_of_le hl (by decide)) ?_
  refine hN _ _ _ ⟨S.br, S.bp, S.rp, set_c _ _ _, ?_, S2.b.set S.br, fun w hw => ?_, ?_, ?_⟩
  · rw [set_ne (Ne.symm S.rp), freeIx_join]; exact S2.p
  · rcases List.mem_append.mp hw with hw | hw
    · exact S.ok w hw
    · rw [List.mem_singleton.mp hw]; exact ⟨_, _, rfl⟩
  · rw [freeIx_join]; exact one
  · rw [freeIx_join]; exact few
theorem w_due {nm lt : MSp} (hnm : NumOk nm) (hlt : LetOk lt) {E : XWK} {D : MEnds} {h : Gh} {at' : Nat} {L : Int} {s0 s1 s2 s3 s4 s6 s8 s10 s11 : Option W} (l0 : 0 ≤ L) (l1 : L ≤ 100) (ha : at' < 7)
    (k : D.nx [s0, s1, s2, s3, s4, some (.int L), s6, some (.lst [.tup [.int 0, .int 0, .int 1], .tup [.int 1, .int 0, .int 1], .tup [.int 0, .int 1, .int 1], .tup [.int 1, .int 1, .int 1]]), s8, some (.int (at' : Int)), some (thingW at' L), s11] h) :
    (mIfS (mTest (mOp kLt (mVar 9) (mC (.int 4)))) (mAsg (mCB kTuple (mCons (mLC ow1 [5] (nIt (mOp kIx (mVar 7) (mVar 9))) mYes (mCall nm E (mCons (mVar 0) (mCons (mVar 1) mNil)))) mNil)) (nName 10)) (mAsg (mTup (mCons (mCall lt E (mCons (mOp kSub (mOp kMul (mC (.int 2)) (mVar 9)) (mC (.int 8))) (mCons (mVar 5) mNil))) (mCons (mCall lt E (mCons (mOp kSub (mOp kMul (mC (.int 2)) (mVar 9)) (mC (.int 7))) (mCons (mVar 5) mNil))) (mCons (mCall nm E (mCons (mC (.int 1)) (mCons (mVar 5) mNil))) mNil)))) (nName 10))) D [s0, s1, s2, s3, s4, some (.int L), s6, some (.lst [.tup [.int 0, .int 0, .int 1], .tup [.int 1, .int 0, .int 1], .tup [.int 0, .int 1, .int 1], .tup [.int 1, .int 1, .int 1]]), s8, some (.int (at' : Int)), s10, s11] h := by
  show br (decide ((at' : Int) < 4)) _ _
  match at', ha, k with
  | 0, _, k =>
    refine br_t (by decide) ?_
    show nm [.int 0, .int L] h _ _
    refine hnm l0 l1 ?_
    show nm [.int 0, .int L] h _ _
    refine hnm l0 l1 ?_
    show nm [.int 1, .int L] h _ _
    exact hnm l0 l1 k
  | 1, _, k =>
    refine br_t (by decide) ?_
    show nm [.int 1, .int L] h _ _
    refine hnm l0 l1 ?_
    show nm [.int 0, .int L] h _ _
    refine hnm l0 l1 ?_
    show nm [.int 1, .int L] h _ _
    exact hnm l0 l1 k
  | 2, _, k =>
    refine br_t (by decide) ?_
    show nm [.int 0, .int L] h _ _
    refine hnm l0 l1 ?_
    show nm [.int 1, .int L] h _ _
    refine hnm l0 l1 ?_
    show nm [.int 1, .int L] h _ _
    exact hnm l0 l1 k
  | 3, _, k =>
    refine br_t (by decide) ?_
    show nm [.int 1, .int L] h _ _
    refine hnm l0 l1 ?_
    show nm [.int 1, .int L] h _ _
    refine hnm l0 l1 ?_
    show nm [.int 1, .int L] h _ _
    exact hnm l0 l1 k
  | n + 4, hn, k =>
    refine br_f (decide_eq_false (by omega)) ?_
    have e8 : 2 * ((n + 4 : Nat) : Int) - 8 = 2 * (n : Int) := by omega
    have e7 : 2 * ((n + 4 : Nat) : Int) - 7 = 2 * (n : Int) + 1 := by omega
    have cm : CMulB 2 ((n + 4 : Nat) : Int) := .of (m := 64) (n := 10) (.lit rfl) (sm_of (by omega) (by omega)) (by decide) (by decide)
    refine And.intro cm ?_
    show lt [.int (2 * ((n + 4 : Nat) : Int) - 8), .int L] h _ _
    rw [e8]
    refine hlt l0 l1 ?_
    refine And.intro cm ?_
    show lt [.int (2 * ((n + 4 : Nat) : Int) - 7), .int L] h _ _
    rw [e7]
    refine hlt l0 l1 ?_
    show nm [.int 1, .int L] h _ _
    exact hnm l0 l1 k
theorem ne_thing {i j : Nat} {σ : Sw} {h : Gh} {Q : Bool → Gh → Prop} {at' : Nat} {L : Int} (hi : σ[i]? = some (some (thingW at' L))) (hj : σ[j]? = some (some (thingW at' L))) (k : Q false h) : mTest (mOp kNe (mVar i) (mVar j)) σ h Q := by
  unfold mTest mOp mVar
  rw [hi]
  dsimp only
  rw [hj]
  exact kNe_thing k
theorem w_t7 {ct ft cl bg dr nm lt : MSp} (hft : ThingOk ft) (hnm : NumOk nm) (hlt : LetOk lt) {E : XWK} {D : MEnds} {h : Gh} {B R P : Nat} {ws : List W} {s0 s4 s6 : Option W} (S : St70 h B R P ws) (hl : ws.length ≤ 100) (hD : ∀ h, D.rt (.bl true) h) :
    t_law_7 ct ft cl bg dr nm lt E D [s0, some (.loc B), some (.loc R), some (.loc P), s4, some (.int (letN (freeIx ws))), s6, none, none, none, none, none] h := by
  have few := S.few
  obtain ⟨l0, l1⟩ := letN_bd few
  have vp := view_loc S.p
  have vr := view_loc S.r
  have lm : (((freeIx ws).map W.int).length : Int) = (freeIx ws).length := by rw [List.length_map]
  have p62 : (2 : Int) ^ 62 = 4611686018427387904 := by decide
  suffices key : mFor (nRng1 (mCons (mC (.int 2)) mNil)) (nName 8) (mFor (nRng1 (mCons (mCB kLen (mCons (mVar 3) mNil)) mNil)) (nName 9) (mSeq (mIfS (mTest (mOp kLt (mVar 9) (mC (.int 4)))) (mAsg (mCB kTuple (mCons (mLC ow1 [5] (nIt (mOp kIx (mVar 7) (mVar 9))) mYes (mCall nm E (mCons (mVar 0) (mCons (mVar 1) mNil)))) mNil)) (nName 10)) (mAsg (mTup (mCons (mCall lt E (mCons (mOp kSub (mOp kMul (mC (.int 2)) (mVar 9)) (mC (.int 8))) (mCons (mVar 5) mNil))) (mCons (mCall lt E (mCons (mOp kSub (mOp kMul (mC (.int 2)) (mVar 9)) (mC (.int 7))) (mCons (mVar 5) mNil))) (mCons (mCall nm E (mCons (mC (.int 1)) (mCons (mVar 5) mNil))) mNil)))) (nName 10)))
    (mSeq (mAsg (mCall ft E (mCons (mCB kList (mCons (mVar 2) mNil)) (mCons (mOp kIx (mVar 3) (mVar 9)) mNil))) (nName 11))
    (mIfS (mOr (mNot (mTru (mCB kIsi (mCons (mVar 11) (mCons (mC (.ty "tuple")) mNil))))) (mTest (mOp kNe (mVar 11) (mVar 10)))) (mRet (mC (.bl false))) mNext))))
      { D with nx := t_law_9 ct ft cl bg dr nm lt E D } [s0, some (.loc B), some (.loc R), some (.loc P), s4, some (.int (letN (freeIx ws))), s6, some (.lst [.tup [.int 0, .int 0, .int 1], .tup [.int 1, .int 0, .int 1], .tup [.int 0, .int 1, .int 1], .tup [.int 1, .int 1, .int 1]]), none, none, none, none] h from key
  refine for_rng (j := 2) (fun _ => rfl) (by decide) (by decide) (fun i σ h' => h' = h ∧ ∃ o8 o9 o10 o11, σ = [s0, some (.loc B), some (.loc R), some (.loc P), s4, some (.int (letN (freeIx ws))), s6, some (.lst [.tup [.int 0, .int 0, .int 1], .tup [.int 1, .int 0, .int 1], .tup [.int 0, .int 1, .int 1], .tup [.int 1, .int 1, .int 1]]), o8, o9, o10, o11]) ?_ ?_ ⟨rfl, _, _, _, _, rfl⟩
  · rintro i σ h' N hN hi ⟨rfl, o8, o9, o10, o11, rfl⟩
    refine for_rng (j := (((freeIx ws).map W.int).length : Int)) (fun Rr => ?_) (by omega) (by omega) (fun i2 σ h2 => h2 = h' ∧ ∃ o9 o10 o11, σ = [s0, some (.loc B), some (.loc R), some (.loc P), s4, some (.int (letN (freeIx ws))), s6, some (.lst [.tup [.int 0, .int 0, .int 1], .tup [.int 1, .int 0, .int 1], .tup [.int 0, .int 1, .int 1], .tup [.int 1, .int 1, .int 1]]), some (.int (i : Int)), o9, o10, o11]) ?_ ?_ ⟨rfl, _, _, _, rfl⟩
    · show (match view h' (.loc P) with
        | some xs => Rr [.int (xs.length : Int)] h'
        | none => False) = _
      rw [vp]
    · rintro a σ h2 N2 hN2 ha ⟨rfl, o9, o10, o11, rfl⟩
      have ha : a < (freeIx ws).length := by rw [lm] at ha; omega
      refine w_due hnm hlt l0 l1 (by omega) ?_
      show (match view h2 (.loc R) with
        | some us => _
        | none => False)
      rw [vr]
      show (match view h2 (.loc P) with
        | some xs => _
        | none => False)
      rw [vp]
      have ea : atI ((freeIx ws).map W.int) (a : Int) = some (.int (freeIx ws)[a]) := atI_nat (by rw [List.getElem?_map, List.getElem?_eq_getElem ha]; rfl)
      show (match atI ((freeIx ws).map W.int) (a : Int) with
        | some w => _
        | none => False)
      rw [ea]
      show ft [.lst ws, .int (freeIx ws)[a]] h2 _ _
      refine hft hl S.ok few (List.getElem?_eq_getElem ha) ?_
      obtain ⟨x, y, z, et, _, _⟩ := thing3 a (letN (freeIx ws))
      have isT : isiW h2 (thingW a (letN (freeIx ws))) "tuple" = some true := by rw [et]; rfl
      show (match isiW h2 (thingW a (letN (freeIx ws))) "tuple" with
        | some b => _
        | none => False)
      rw [isT]
      refine br_f rfl ?_
      refine ne_thing (at' := a) (L := letN (freeIx ws)) rfl rfl ?_
      refine br_f rfl ?_
      exact hN2 _ _ ⟨rfl, _, _, _, rfl⟩
    · rintro σ h2 ⟨rfl, o9, o10, o11, rfl⟩
      exact hN _ _ ⟨rfl, _, _, _, _, rfl⟩
  · rintro σ h' ⟨rfl, o8, o9, o10, o11, rfl⟩
    exact hD _
theorem w_t4 {ct ft cl bg dr nm lt : MSp} (hct : CountOk ct) (hft : ThingOk ft) (hnm : NumOk nm) (hlt : LetOk lt) {E : XWK} {D : MEnds} {h : Gh} {B R P : Nat} {ws : List W} {s0 s4 : Option W} (S : St70 h B R P ws) (hl : ws.length ≤ 100) (hD : ∀ h, D.rt (.bl true) h) :
    t_law_4 ct ft cl bg dr nm lt E D [s0, some (.loc B), some (.loc R), some (.loc P), s4, none, none, none, none, none, none, none] h := by
  have few := S.few
  have vp := view_loc S.p
  have vr := view_loc S.r
  have lm : (((freeIx ws).map W.int).length : Int) = (freeIx ws).length := by rw [List.length_map]
  show (match view h (.loc P) with
    | some xs => _
    | none => False)
  rw [vp]
  refine And.intro (.of (m := 64) (n := 20) (.lit rfl) (sm_of (by rw [lm]; split <;> omega) (by rw [lm]; split <;> omega)) (by decide) (by decide)) ?_
  show (match view h (.loc R) with
    | some us => _
    | none => False)
  rw [vr]
  show ct [.lst ws] h _ _
  refine hct hl S.ok ?_
  refine br_f rfl ?_
  refine br_f rfl ?_
  have e : (2 : Int) * (if (((freeIx ws).map W.int).length : Int) - 4 > 0 then (((freeIx ws).map W.int).length : Int) - 4 else 0) = letN (freeIx ws) := by
    unfold letN
    rw [lm]
    split <;> split <;> omega
  show br (!eqW (.int (letN (freeIx ws))) (.int (2 * (if (((freeIx ws).map W.int).length : Int) - 4 > 0 then (((freeIx ws).map W.int).length : Int) - 4 else 0)))) _ _
  rw [e, eqW_int]
  refine br_f (by simp) ?_
  exact w_t7 hft hnm hlt S hl hD
theorem w_law {ct ft cl bg dr nm lt : MSp} (hct : CountOk ct) (hft : ThingOk ft) (hcl : CellOk2 cl) (hbg : BagOk bg) (hdr : DrawOk dr) (hnm : NumOk nm) (hlt : LetOk lt) (ns : List Int) {h : Gh} : r_law ct ft cl bg dr nm lt [.kls (ns.map .int)] h (fun w _ => w = .bl true) EF := by
  show cl [.kls (ns.map .int), .int 0] h _ _
  refine hcl (by decide) ?_
  show bg [.int (ns.getD 0 0)] h _ _
  refine hbg fun h1 b1 nx1 oth1 => ?_
  have nR : ((h1.new (.lst [.tup [.str "free"]])).new (.lst [.int 0])).c h1.nx = some (.lst [.tup [.str "free"]]) := by
    rw [new_ne (show h1.nx ≠ (h1.new (.lst [.tup [.str "free"]])).nx from Nat.ne_of_lt (Nat.lt_succ_self _)), new_c]
  have nP : ((h1.new (.lst [.tup [.str "free"]])).new (.lst [.int 0])).c (h1.nx + 1) = some (.lst [.int 0]) := new_c (h1.new (.lst [.tup [.str "free"]])) _
  have nB : Bag ((h1.new (.lst [.tup [.str "free"]])).new (.lst [.int 0])) h.nx := by
    obtain ⟨x, y, e, h0, hh⟩ := b1
    refine ⟨x, y, ?_, h0, hh⟩
    rw [new_ne (show h.nx ≠ (h1.new (.lst [.tup [.str "free"]])).nx by show h.nx ≠ h1.nx + 1; omega), new_ne (by omega)]
    exact e
  have S0 : St70 ((h1.new (.lst [.tup [.str "free"]])).new (.lst [.int 0])) h.nx h1.nx (h1.nx + 1) [.tup [.str "free"]] :=
    ⟨by omega, by omega, by omega, nR, nP, nB, fun w hw => by rw [List.mem_singleton.mp hw]; exact ⟨_, _, rfl⟩, by decide, by decide⟩
  generalize hg : (h1.new (.lst [.tup [.str "free"]])).new (.lst [.int 0]) = g at S0
  show cl [.kls (ns.map .int), .int 1] ((h1.new (.lst [.tup [.str "free"]])).new (.lst [.int 0])) _ _
  rw [hg]
  refine hcl (by decide) ?_
  generalize ns.getD (1 : Int).toNat 0 = c
  refine And.intro (show (24 : Int) ≠ 0 by decide) ?_
  have m0 : 0 ≤ c.fmod 24 := by rw [fmod_pos (by decide)]; exact Int.emod_nonneg _ (by decide)
  have m1 : c.fmod 24 < 24 := by rw [fmod_pos (by decide)]; exact Int.emod_lt_of_pos _ (by decide)
  have p62 : (2 : Int) ^ 62 = 4611686018427387904 := by decide
  refine rgOk.mk (by omega) (by omega) ?_
  refine for_inv (fun i σ h' => ∃ ws o4, ws.length = i + 1 ∧ St70 h' h.nx h1.nx (h1.nx + 1) ws ∧ σ = [some (.kls (ns.map .int)), some (.loc h.nx), some (.loc h1.nx), some (.loc (h1.nx + 1)), o4, none, none, none, none, none, none, none]) ?_ ?_ ⟨_, none, rfl, S0, rfl⟩
  · rintro i w σ h' N hN e ⟨ws, o4, hl, S, rfl⟩
    obtain ⟨hlt', rfl⟩ := rngW_get e
    have hl100 : ws.length < 100 := by omega
    have vp := view_loc S.p
    have lm : (((freeIx ws).map W.int).length : Int) = (freeIx ws).length := by rw [List.length_map]
    have els : ∀ h2, St70 h2 h.nx h1.nx (h1.nx + 1) ws → (mDrop (mBMr kAppend (mVar 2) (mCons (mTup (mCons (mC (.str "join")) (mCons (mOp kIx (mVar 3) (mCall dr EF (mCons (mVar 1) (mCons (mCB kLen (mCons (mVar 3) mNil)) mNil)))) (mCons (mOp kIx (mVar 3) (mCall dr EF (mCons (mVar 1) (mCons (mCB kLen (mCons (mVar 3) mNil)) mNil)))) mNil)))) mNil))) { nx := N, ct := N, bk := fun _ _ => True, rt := fun w _ => w = .bl true } [some (.kls (ns.map .int)), some (.loc h.nx), some (.loc h1.nx), some (.loc (h1.nx + 1)), some (.int (1 + (i : Int))), none, none, none, none, none, none, none] h2 := fun h2 S2 =>
      w_else hdr S2 hl100 fun x y h3 S3 => hN _ _ ⟨_, _, by simp [hl], S3, rfl⟩
    show (match view h' (.loc (h1.nx + 1)) with
      | some xs => _
      | none => False)
    rw [vp]
    show br (decide ((((freeIx ws).map W.int).length : Int) < 7)) _ _
    refine br_d (fun h7 => ?_) (fun h7 => ?_)
    · show dr [.loc h.nx, .int 3] h' _ _
      refine hdr (n := h.nx) S.b (by decide) (by unfold Sm; decide +kernel) fun d h2 d0 d1 b2 o2 => ?_
      have S2 := S.draw o2 b2
      refine ⟨fun _ => ?_, fun _ => els h2 S2⟩
      show (match h2.c (h1.nx + 1) with
        | some (Cell.lst us) => _
        | _ => False)
      rw [S2.p]
      show (match h2.c (h1.nx + 1) with
        | some (Cell.lst us) => _
        | _ => False)
      rw [S2.p]
      refine ⟨by rw [List.length_map]; have := S.few; exact Nat.lt_of_le_of_lt this (by decide), ?_⟩
      show (match (h2.set (h1.nx + 1) (.lst ((freeIx ws).map W.int ++ [.int (1 + (i : Int))]))).c h1.nx with
        | some (Cell.lst us) => _
        | _ => False)
      have er : (h2.set (h1.nx + 1) (.lst ((freeIx ws).map W.int ++ [.int (1 + (i : Int))]))).c h1.nx = some (.lst ws) := by rw [set_ne S.rp]; exact S2.r
      rw [er]
      show (match (h2.set (h1.nx + 1) (.lst ((freeIx ws).map W.int ++ [.int (1 + (i : Int))]))).c h1.nx with
        | some (Cell.lst us) => _
        | _ => False)
      rw [er]
      refine ⟨Nat.lt_of_lt_of_le hl100 (by decide), ?_⟩
      refine hN _ _ ⟨ws ++ [.tup [.str "free"]], _, by simp [hl], ⟨S.br, S.bp, S.rp, set_c _ _ _, ?_, (S2.b.set S.bp).set S.br, fun w hw => ?_, ?_, ?_⟩, rfl⟩
      · rw [set_ne (Ne.symm S.rp), set_c, freeIx_free, List.map_append, show 1 + (i : Int) = (ws.length : Int) by omega]; rfl
      · rcases List.mem_append.mp hw with hw | hw
        · exact S.ok w hw
        · rw [List.mem_singleton.mp hw]; exact ⟨_, _, rfl⟩
      · rw [freeIx_free, List.length_append]; simp
      · rw [freeIx_free, List.length_append, List.length_singleton]; omega
    · exact br_f rfl (els h' S)
  · rintro σ h' ⟨ws, o4, hl, S, rfl⟩
    rw [rngW_len] at hl
    exact w_t4 hct hft hnm hlt S (by omega) fun _ => rfl
theorem law_ok (ns : List Int) (_ : ns.length ≤ 63) : m_law [.kls (ns.map W.int)] g0 (fun w _ => w = .bl true) EF :=
  w_law (w_count w_free_rows) (w_thing w_free_rows w_num w_let (w_count w_free_rows)) w_cell w_bag w_draw w_lnum w_llet ns
end My
open PySem PySem.W PyProof.Rows
set_option maxRecDepth 100000 in
set_option maxHeartbeats 0 in
theorem PySem.Challenge.cw_easelroom_k70_letter_things_holds : PySem.Challenge.rw_easelroom_k70_letter_things.Holds := by
  w_on; o_law; k_head; (case hw => w_witness2)
  k_fill
  refine My.walk (l := PySem.Challenge.rw_easelroom_k70_letter_things) rfl rfl (fun w h Y => PySem.W.kIn_of Y) ?F
  case F =>
    intro w mg fa h KX G hmg
    refine' My.all_mk My.law_ok KX G hmg ?a0 ?l0 ?c0 ?k0 ?a1 ?l1 ?c1 ?k1 ?a2 ?l2 ?c2 ?k2 ?a3 ?l3 ?c3 ?k3 ?a4 ?l4 ?c4 ?k4 ?a5 ?l5 ?c5 ?k5 ?a6 ?l6 ?c6 ?k6 ?a7 ?l7 ?c7 ?k7 ?a8 ?l8 ?c8 ?k8 ?a9 ?l9 ?c9 ?k9 ?a10 ?l10 ?c10 ?k10 ?z_abs ?z_bool ?z_int ?z_isinstance ?z_len ?z_list ?z_max ?z_range ?z_tuple ?gk_CORNERS ?lk_CORNERS ?lk_CORNERS_0 ?lk_CORNERS_1 ?lk_CORNERS_2 ?lk_CORNERS_3
    (case a0 => k_is)
    (case l0 => k_is)
    (case c0 => k_is)
    (case k0 => k_is)
    (case a1 => k_is)
    (case l1 => k_is)
    (case c1 => k_is)
    (case k1 => k_is)
    (case a2 => k_is)
    (case l2 => k_is)
    (case c2 => k_is)
    (case k2 => k_is)
    (case a3 => k_is)
    (case l3 => k_is)
    (case c3 => k_is)
    (case k3 => k_is)
    (case a4 => k_is)
    (case l4 => k_is)
    (case c4 => k_is)
    (case k4 => k_is)
    (case a5 => k_is)
    (case l5 => k_is)
    (case c5 => k_is)
    (case k5 => k_is)
    (case a6 => k_is)
    (case l6 => k_is)
    (case c6 => k_is)
    (case k6 => k_is)
    (case a7 => k_is)
    (case l7 => k_is)
    (case c7 => k_is)
    (case k7 => k_is)
    (case a8 => k_is)
    (case l8 => k_is)
    (case c8 => k_is)
    (case k8 => k_is)
    (case a9 => k_is)
    (case l9 => k_is)
    (case c9 => k_is)
    (case k9 => k_is)
    (case a10 => k_is)
    (case l10 => k_is)
    (case c10 => k_is)
    (case k10 => k_is)
    (case z_abs => k_is)
    (case z_bool => k_is)
    (case z_int => k_is)
    (case z_isinstance => k_is)
    (case z_len => k_is)
    (case z_list => k_is)
    (case z_max => k_is)
    (case z_range => k_is)
    (case z_tuple => k_is)
    (case gk_CORNERS => k_is)
    (case lk_CORNERS => k_is)
    (case lk_CORNERS_0 => k_is)
    (case lk_CORNERS_1 => k_is)
    (case lk_CORNERS_2 => k_is)
    (case lk_CORNERS_3 => k_is)
