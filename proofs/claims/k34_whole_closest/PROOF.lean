import PyProof.Rows.All
import Wide.All
import OpenK.AllK
import Wide.FinOn
import Lean
import PyProof.EqAt
import PyProof.EqKinds
import PyProof.TupleCall
import PySem.Challenge.RW_endless_k34_whole_closest
set_option Elab.async false
set_option linter.all false
set_option maxRecDepth 100000

namespace L2
open PySem PySem.Spec PyProof.Rows

/-- a key: an int or a str -/
abbrev Key := Sum Int Str
def keyIs : Key → Value → Bool
  | .inl k, v => Value.isInt k v
  | .inr x, v => Value.isStrOf x v
def keyH (w : World) : Key → Int
  | .inl k => hashInt k
  | .inr x => hashStr w x
theorem keyIs_shape : ∀ {k : Key} {v : Value}, keyIs k v = true → (∃ i t, k = Sum.inl i ∧ v = Value.int i t) ∨ (∃ x t, k = Sum.inr x ∧ v = Value.str x t)
  | .inl i, v, h => by
    obtain ⟨t, e⟩ := Value.isInt_shape (k := i) (v := v) h
    exact .inl ⟨i, t, rfl, e⟩
  | .inr x, v, h => by
    obtain ⟨t, e⟩ := Value.isStrOf_shape (x := x) (v := v) h
    exact .inr ⟨x, t, rfl, e⟩
theorem key_ll (a b : Int) : decide ((Sum.inl a : Key) = Sum.inl b) = (a == b) := by
  by_cases e : a = b
  · subst e; simp
  · have h : ¬ (Sum.inl a : Key) = Sum.inl b := fun q => e (Sum.inl.inj q)
    rw [decide_eq_false h]
    exact (beq_eq_false_iff_ne.mpr e).symm
theorem key_rr (a b : Str) : decide ((Sum.inr a : Key) = Sum.inr b) = decide (a = b) := by
  by_cases e : a = b
  · subst e; simp
  · have h : ¬ (Sum.inr a : Key) = Sum.inr b := fun q => e (Sum.inr.inj q)
    rw [decide_eq_false h, decide_eq_false e]
theorem key_lr (a : Int) (b : Str) : decide ((Sum.inl a : Key) = Sum.inr b) = false := decide_eq_false (fun q => nomatch q)
theorem key_rl (a : Str) (b : Int) : decide ((Sum.inr a : Key) = Sum.inl b) = false := decide_eq_false (fun q => nomatch q)

def mixKind (prog : Program) (w : World) : PySem.KeyKind prog w Key where
  is := keyIs
  hash := keyH w
  inj := fun v a b ha hb => by
    rcases keyIs_shape ha with ⟨i, t, rfl, rfl⟩ | ⟨x, t, rfl, rfl⟩
    · rcases keyIs_shape hb with ⟨j, u, rfl, e⟩ | ⟨y, u, rfl, e⟩
      · injection e with e1 _; rw [e1]
      · exact nomatch e
    · rcases keyIs_shape hb with ⟨j, u, rfl, e⟩ | ⟨y, u, rfl, e⟩
      · exact nomatch e
      · injection e with e1 _; rw [e1]
  byValue := fun k v h => by
    rcases keyIs_shape h with ⟨i, t, rfl, rfl⟩ | ⟨x, t, rfl, rfl⟩ <;> rfl
  pyHash := fun hv h => by
    rcases keyIs_shape hv with ⟨i, t, rfl, rfl⟩ | ⟨x, t, rfl, rfl⟩
    · exact wpAny_pyHash_int h
    · exact wpAny_pyHash_str h
  eqBool := fun hu hv h => by
    rcases keyIs_shape hu with ⟨i, t, rfl, rfl⟩ | ⟨x, t, rfl, rfl⟩
    · rcases keyIs_shape hv with ⟨j, u, rfl, rfl⟩ | ⟨y, u, rfl, rfl⟩
      · rw [key_ll] at h; exact wpAny_eqBool_int h
      · rw [key_lr] at h; exact SeqAt.EqAt.int_str i t y u _ _ _ _ h
    · rcases keyIs_shape hv with ⟨j, u, rfl, rfl⟩ | ⟨y, u, rfl, rfl⟩
      · rw [key_rl] at h; exact SeqAt.EqAt.str_int x t j u _ _ _ _ h
      · rw [key_rr] at h; exact wpAny_eqBool_str h
  «strs» := fun k x t v h => by
    rcases keyIs_shape h with ⟨i, u, rfl, e⟩ | ⟨y, u, rfl, e⟩
    · exact nomatch e
    · injection e with e1 _
      subst e1
      cases v <;> rfl

end L2

namespace L2
open PySem PySem.Spec PyProof.Rows

/-- a value, without the heap -/
inductive V where
  | non | bl (b : Bool) | int (i : Int) | str (x : Str) | byt (b : Array UInt8) | flt (b : UInt64) | ref (a : Addr) | ty (n : String)
  deriving DecidableEq

def RelV : V → Value → Prop
  | .non, u => u = Value.none
  | .bl b, u => u = Value.bool b
  | .int i, u => ∃ t, u = Value.int i t
  | .str x, u => ∃ t, u = Value.str x t
  | .byt b, u => ∃ t, u = Value.bytes b t
  | .flt b, u => ∃ t, u = Value.float b t
  | .ref a, u => u = Value.ref a
  | .ty n, u => u = Value.type n

abbrev Vals : List V → List Value → Prop := Paired RelV
theorem Vals.length {xs : List V} {us : List Value} (r : Vals xs us) : xs.length = us.length := Paired.length r
theorem Vals.get : ∀ {xs : List V} {us : List Value} {i : Nat} {x : V}, Vals xs us → xs[i]? = some x → ∃ u, us[i]? = some u ∧ RelV x u
  | _, _, _, _, .nil, e => by simp at e
  | _, _, 0, _, .cons r _, e => by simp at e; subst e; exact ⟨_, rfl, r⟩
  | _, _, i + 1, x, .cons _ t, e => by
    obtain ⟨u, h1, h2⟩ := Vals.get (i := i) (x := x) t (by simpa using e)
    exact ⟨u, by simpa using h1, h2⟩
theorem Vals.set {x : V} {u : Value} (r : RelV x u) : ∀ {xs : List V} {us : List Value} (i : Nat), Vals xs us → Vals (xs.set i x) (us.set i u)
  | _, _, _, .nil => .nil
  | _, _, 0, .cons _ t => .cons r t
  | _, _, i + 1, .cons q t => .cons q (Vals.set r i t)
theorem Vals.append : ∀ {xs ys : List V} {us ws : List Value}, Vals xs us → Vals ys ws → Vals (xs ++ ys) (us ++ ws)
  | _, _, _, _, .nil, s => s
  | _, _, _, _, .cons r t, s => .cons r (Vals.append t s)
theorem Vals.take : ∀ {xs : List V} {us : List Value} (n : Nat), Vals xs us → Vals (xs.take n) (us.take n)
  | _, _, 0, _ => .nil
  | _, _, _ + 1, .nil => .nil
  | _, _, n + 1, .cons r t => .cons r (Vals.take n t)
theorem Vals.drop : ∀ {xs : List V} {us : List Value} (n : Nat), Vals xs us → Vals (xs.drop n) (us.drop n)
  | _, _, 0, r => r
  | _, _, _ + 1, .nil => .nil
  | _, _, n + 1, .cons _ t => Vals.drop n t
def RelO : Option V → Option Value → Prop
  | some v, some u => RelV v u
  | none, none => True
  | _, _ => False
def KV {κ : Type} : List (κ × V) → List (κ × Value) → Prop := Paired fun (p : κ × V) (q : κ × Value) => p.1 = q.1 ∧ RelV p.2 q.2

/-- a key of a dict (00_mix): an int or a text -/
def kV : Key → V
  | .inl i => .int i
  | .inr x => .str x

/-- what stands at a tracked address -/
inductive HO where
  /-- a list -/
  | lst (xs : List V)
  /-- a tuple (never changes) -/
  | tup (xs : List V)
  /-- a dict whose keys are ints and texts; one whose keys are tuples of ints and texts (the empty one is both) -/
  | dK (kvs : List (Key × V)) | dT (kvs : List (List Key × V))
  /-- a set of ints: its members, its size -/
  | set (S : Int → Bool) (n : Nat)
  /-- an instance of the class at C, its dict at dx, its attributes -/
  | ins (C dx : Addr) (fs : List (Str × V))
  /-- the dict of the instance at x -/
  | own (x : Addr)
  /-- the dict of an exception -/
  | xd (fs : List (Str × V))
  /-- a bound method, f of x -/
  | met (f x : Addr)
  /-- a range object lo, lo + 1, .. below hi -/
  | rng (lo hi : Int)
  /-- a thing that is known to the object (the script; a dict while a loop walks it): read, never written while it is so -/
  | frz (o : Obj) (u : HO)
  /-- a code object's table -/
  | tbl (ps : Array Value)
  /-- any other thing, by what is true of its one object (a def of one's own: SetO a S n := HO.ext fun h => ..) -/
  | ext (φ : Heap → Prop)

abbrev Hp := Addr → Option HO
def upd (H : Hp) (a : Addr) (o : HO) : Hp := fun b => if b = a then some o else H b
theorem upd_same {H : Hp} {a : Addr} {o : HO} : upd H a o a = some o := by unfold upd; rw [if_pos rfl]
theorem upd_ne {H : Hp} {a b : Addr} {o : HO} (h : b ≠ a) : upd H a o b = H b := by unfold upd; rw [if_neg h]
/-- two objects of different content stand apart -/
theorem ne_of {H : Hp} {a b : Addr} {o u : HO} (h : H a = some o) (h' : H b = some u) (d : o ≠ u) : a ≠ b := by
  intro e; subst e; rw [h] at h'; exact d (Option.some.inj h')
theorem ne_of_none {H : Hp} {a b : Addr} {o : HO} (h : H a = some o) (h' : H b = none) : a ≠ b := by
  intro e; subst e; rw [h] at h'; cases h'

section
variable (P : Program) (w : World)
def ObjOk (H : Hp) (h : Heap) (a : Addr) : HO → Prop
  | .lst xs => xs.length ≤ sizeLine ∧ ∃ (its : List Value) (n : Nat), Vals xs its ∧ h.get? a = some { cls := .type "list", data := .seq its.toArray n }
  | .tup xs => xs.length ≤ sizeLine ∧ ∃ its : List Value, Vals xs its ∧ IsTup h a its.toArray
  | .dK kvs => kvs.length ≤ sizeLine ∧ (a == sysModules) = false ∧ ∃ vs, KV kvs vs ∧ h.DictOf (mixKind P w) a vs
  | .dT kvs => kvs.length ≤ sizeLine ∧ (a == sysModules) = false ∧ ∃ xs : List (List Key × Addr × Value),
      Paired (fun (p : List Key × V) (q : List Key × Addr × Value) => p.1 = q.1 ∧ H q.2.1 = some (.tup (p.1.map kV)) ∧ RelV p.2 q.2.2) kvs xs ∧
      ∃ o es ep, h.get? a = some o ∧ o.ExactDict ∧ o.data = .dict es ep ∧ es.toList = xs.map (entryOfKey (tupleKind (mixKind P w))) ∧ (xs.map (·.1)).Nodup
  | .set S n => h.SetOf (intKind P w) a S n
  | .ins C dx fs => H dx = some (.own a) ∧ fs.length ≤ 1000 ∧ dx ≠ a ∧ h.get? a = some (PySem.W.instObj C dx) ∧
      ∃ mA, h.Ns1 dx mA ∧ (∀ f, RelO (fs.lookup f) (mA f)) ∧ PySem.Within mA (fs.map (·.1))
  | .own _ => ∃ o, h.get? a = some o
  | .xd fs => ∃ mA, h.Ns1 a mA ∧ ∀ f, RelO (fs.lookup f) (mA f)
  | .rng lo hi => ∃ t u v, h.get? a = some { cls := .type "range", data := .fields #[.int lo t, .int hi u, .int 1 v] }
  | .frz o u => h.get? a = some o ∧ ObjOk H h a u
  | .tbl ps => h.get? a = some { cls := .none, data := .fields ps }
  | .met f x => h.get? a = some (PySem.W.methodObj (.ref f) (.ref x))
  | .ext φ => φ h ∧ (∃ o, h.get? a = some o) ∧ ∀ h1 h2 : Heap, φ h1 → (∀ o, h1.get? a = some o → h2.get? a = some o) → φ h2
/-- the abstract heap is held -/
def HOk (H : Hp) (h : Heap) : Prop := ∀ a o, H a = some o → ObjOk P w H h a o
end

section
variable {P : Program} {w : World} {H H' : Hp} {h h' : Heap} {a : Addr} {o : HO}
theorem ObjOk.lt (x : ObjOk P w H h a o) : a < h.objs.size := by
  cases o with
  | lst xs => obtain ⟨_, _, _, _, e⟩ := x; exact Heap.lt_size e
  | tup xs => obtain ⟨_, _, _, p⟩ := x; exact p.lt
  | dK kvs => obtain ⟨_, _, _, _, o, _, _, e, _⟩ := x; exact Heap.lt_size e
  | dT kvs => obtain ⟨_, _, _, _, o, _, _, e, _⟩ := x; exact Heap.lt_size e
  | set S n => obtain ⟨o, _, _, _, e, _⟩ := x; exact Heap.lt_size e
  | ins C dx fs => obtain ⟨_, _, _, e, _⟩ := x; exact Heap.lt_size e
  | own y => obtain ⟨_, e⟩ := x; exact Heap.lt_size e
  | xd fs => obtain ⟨_, ⟨_, _, _, e, _⟩, _⟩ := x; exact Heap.lt_size e
  | rng lo hi => obtain ⟨_, _, _, e⟩ := x; exact Heap.lt_size e
  | frz ob u => obtain ⟨e, _⟩ := x; exact Heap.lt_size e
  | tbl ps => exact Heap.lt_size (show h.get? a = some _ from x)
  | met f y => exact Heap.lt_size (show h.get? a = some _ from x)
  | ext φ => obtain ⟨_, ⟨_, e⟩, _⟩ := x; exact Heap.lt_size e
theorem Paired.mapP {α β : Type} {F G : α → β → Prop} : ∀ {l₁ : List α} {l₂ : List β}, Paired F l₁ l₂ → (∀ a b, F a b → G a b) → Paired G l₁ l₂
  | _, _, .nil, _ => .nil
  | _, _, .cons r t, f => .cons (f _ _ r) (Paired.mapP t f)
/-- what an object's description leans on: its own object, its own dict, the tuples -/
theorem ObjOk.stay (x : ObjOk P w H h a o) (k : ∀ b u, (b = a ∨ H b = some (.own a)) → h.get? b = some u → h'.get? b = some u)
    (ho : ∀ b, H b = some (.own a) → H' b = some (.own a)) (ht : ∀ b xs, H b = some (.tup xs) → H' b = some (.tup xs)) : ObjOk P w H' h' a o := by
  induction o with
  | lst xs => obtain ⟨z, its, n, r, e⟩ := x; exact ⟨z, its, n, r, k _ _ (.inl rfl) e⟩
  | tup xs => obtain ⟨z, its, r, ob, e, c⟩ := x; exact ⟨z, its, r, ob, k _ _ (.inl rfl) e, c⟩
  | dK kvs => obtain ⟨z, y, vs, r, ob, es, ep, e, c⟩ := x; exact ⟨z, y, vs, r, ob, es, ep, k _ _ (.inl rfl) e, c⟩
  | dT kvs =>
    obtain ⟨z, y, xs, r, ob, es, ep, e, c⟩ := x
    exact ⟨z, y, xs, Paired.mapP r fun p q z => ⟨z.1, ht _ _ z.2.1, z.2.2⟩, ob, es, ep, k _ _ (.inl rfl) e, c⟩
  | set S n => obtain ⟨ob, es, ep, t, e, c⟩ := x; exact ⟨ob, es, ep, t, k _ _ (.inl rfl) e, c⟩
  | ins C dx fs =>
    obtain ⟨d, z, ne, e, mA, ⟨od, es, ep, e2, c⟩, r⟩ := x
    exact ⟨ho _ d, z, ne, k _ _ (.inl rfl) e, mA, ⟨od, es, ep, k _ _ (.inr d) e2, c⟩, r⟩
  | own y => obtain ⟨ob, e⟩ := x; exact ⟨ob, k _ _ (.inl rfl) e⟩
  | xd fs => obtain ⟨mA, ⟨od, es, ep, e, c⟩, r⟩ := x; exact ⟨mA, ⟨od, es, ep, k _ _ (.inl rfl) e, c⟩, r⟩
  | rng lo hi => obtain ⟨t, u, v, e⟩ := x; exact ⟨t, u, v, k _ _ (.inl rfl) e⟩
  | frz ob u ih => obtain ⟨e, q⟩ := x; exact ⟨k _ _ (.inl rfl) e, ih q⟩
  | tbl ps =>
    have e : h.get? a = some { cls := .none, data := .fields ps } := x
    show h'.get? a = some { cls := .none, data := .fields ps }
    exact k a _ (.inl rfl) e
  | met f y =>
    have e : h.get? a = some (PySem.W.methodObj (.ref f) (.ref y)) := x
    show h'.get? a = some (PySem.W.methodObj (.ref f) (.ref y))
    exact k a _ (.inl rfl) e
  | ext φ => obtain ⟨p, ⟨o, e⟩, st⟩ := x; exact ⟨st _ _ p fun o q => k _ _ (.inl rfl) q, ⟨o, k _ _ (.inl rfl) e⟩, st⟩
theorem HOk.lt (x : HOk P w H h) (e : H a = some o) : a < h.objs.size := (x a o e).lt
theorem HOk.fresh (x : HOk P w H h) (e : h.objs.size ≤ a) : H a = none := by
  cases q : H a with
  | none => rfl
  | some u => exact absurd (Nat.lt_of_lt_of_le (x.lt q) e) (Nat.lt_irrefl _)
/-- every object of the heap is kept -/
theorem HOk.kept (x : HOk P w H h) (k : ∀ b u, h.get? b = some u → h'.get? b = some u) : HOk P w H h' := fun a o e =>
  (x a o e).stay (fun b u _ q => k b u q) (fun _ q => q) fun _ _ q => q
/-- a new object is laid and tracked -/
theorem HOk.laid (x : HOk P w H h) (k : ∀ b u, h.get? b = some u → h'.get? b = some u) (hp : h.objs.size ≤ a) (new : ObjOk P w (upd H a o) h' a o) : HOk P w (upd H a o) h' := fun b u e => by
  have hn := x.fresh hp
  by_cases hb : b = a
  · subst hb; rw [upd_same] at e; cases e; exact new
  · rw [upd_ne hb] at e
    exact (x b u e).stay (fun c v _ q => k c v q) (fun c q => by rw [upd_ne (ne_of_none q hn)]; exact q) fun c xs q => by rw [upd_ne (ne_of_none q hn)]; exact q
end

/-- what may be read as u: it is u, or a known u -/
def Rd (H : Hp) (a : Addr) (u : HO) : Prop := H a = some u ∨ ∃ o, H a = some (.frz o u)
theorem Rd.ok {P : Program} {w : World} {H : Hp} {h : Heap} {a : Addr} {u : HO} (r : Rd H a u) (x : HOk P w H h) : ObjOk P w H h a u := by
  rcases r with r | ⟨o, r⟩
  · exact x a u r
  · obtain ⟨_, q⟩ := x a _ r
    exact q
/-- what may be written -/
def Mut : Option HO → Prop
  | some (.lst _) => True
  | some (.dK _) => True
  | some (.dT _) => True
  | some (.set _ _) => True
  | some (.ins _ _ _) => True
  | some (.ext _) => True
  | _ => False
section
variable {P : Program} {w : World} {H : Hp} {h h' : Heap} {x e : Addr} {o' : HO}
/-- the object at e is changed: x itself, or the dict of the instance x -/
theorem HOk.write (ok : HOk P w H h) (mu : Mut (H x)) (he : e = x ∨ H e = some (.own x)) (k : ∀ b u, b ≠ e → h.get? b = some u → h'.get? b = some u) (heo : ∃ u, h'.get? e = some u)
    (new : ObjOk P w (upd H x o') h' x o') : HOk P w (upd H x o') h' := fun b u q => by
  have nown : ∀ c y, H c = some (.own y) → c ≠ x := fun c y r z => by subst z; rw [r] at mu; exact mu
  have ntup : ∀ c xs, H c = some (.tup xs) → c ≠ x := fun c xs r z => by subst z; rw [r] at mu; exact mu
  by_cases hb : b = x
  · subst hb; rw [upd_same] at q; cases q; exact new
  · rw [upd_ne hb] at q
    by_cases hbe : b = e
    · have q' : H b = some (.own x) := by
        rcases he with z | z
        · exact absurd (hbe.trans z) hb
        · rw [hbe]; exact z
      rw [q] at q'; cases q'
      obtain ⟨v, hv⟩ := heo
      exact ⟨v, by rw [hbe]; exact hv⟩
    · refine (ok b u q).stay (fun c v hc r => k c v ?_ r) (fun c r => by rw [upd_ne (nown c b r)]; exact r) fun c xs r => by rw [upd_ne (ntup c xs r)]; exact r
      rcases hc with rfl | hc
      · exact hbe
      · rintro rfl
        rcases he with z | z
        · exact nown c b hc z
        · rw [hc] at z; cases z; exact hb rfl
end

/-! ### kept unless tracked; of the frames at fs (the callers') the slots may change (an exception that passes writes there); of the records at ex (iterators) nothing is said -/
structure Un (fs ex : List Addr) (H H' : Hp) (h h' : Heap) : Prop where
  keep : ∀ b o, h.get? b = some o → H b = none → b ∉ fs → b ∉ ex → h'.get? b = some o
  slot : ∀ b o, h.get? b = some o → H b = none → b ∈ fs → b ∉ ex → ∃ sl, h'.get? b = some { o with slots := sl }
  free : ∀ b o, h.get? b = some o → H b = none → b ∉ ex → H' b = none
  there : ∀ b o, h.get? b = some o → b ∉ ex → ∃ o', h'.get? b = some o'
  tups : ∀ b xs, H b = some (.tup xs) → H' b = some (.tup xs)
  frzs : ∀ b o u, H b = some (.frz o u) → H' b = some (.frz o u)
  tbls : ∀ b ps, H b = some (.tbl ps) → ∃ more, H' b = some (.tbl (ps ++ more))
section
variable {fs fs' ex ex' : List Addr} {H H1 H2 : Hp} {h h1 h2 h' : Heap} {a x e : Addr} {o : HO}
theorem Un.any (u : Un fs ex H H1 h h1) {b : Addr} {ob : Obj} (q : h.get? b = some ob) (n : H b = none) (hx : b ∉ ex) : ∃ sl, h1.get? b = some { ob with slots := sl } := by
  by_cases hb : b ∈ fs
  · exact u.slot b ob q n hb hx
  · exact ⟨ob.slots, u.keep b ob q n hb hx⟩
theorem Un.kept (k : ∀ b u, h.get? b = some u → h'.get? b = some u) : Un fs ex H H h h' :=
  ⟨fun b ob q _ _ _ => k b ob q, fun b ob q _ _ _ => ⟨ob.slots, k b ob q⟩, fun _ _ _ n _ => n, fun b ob q _ => ⟨ob, k b ob q⟩, fun _ _ q => q, fun _ _ _ q => q, fun _ ps q => ⟨#[], by rw [q]; simp⟩⟩
theorem Un.refl : Un fs ex H H h h := Un.kept fun _ _ q => q
theorem Un.laid (k : ∀ b u, h.get? b = some u → h'.get? b = some u) (hp : h.objs.size ≤ a) (hn : H a = none) : Un fs ex H (upd H a o) h h' where
  keep := fun b u q _ _ _ => k b u q
  slot := fun b u q _ _ _ => ⟨u.slots, k b u q⟩
  free := fun b u q n _ => by rw [upd_ne (Nat.ne_of_lt (Nat.lt_of_lt_of_le (Heap.lt_size q) hp))]; exact n
  there := fun b u q _ => ⟨u, k b u q⟩
  tups := fun b xs q => by rw [upd_ne (ne_of_none q hn)]; exact q
  frzs := fun b u xs q => by rw [upd_ne (ne_of_none q hn)]; exact q
  tbls := fun b ps q => ⟨#[], by rw [upd_ne (ne_of_none q hn), q]; simp⟩
theorem Un.write (mu : Mut (H x)) (he : e = x ∨ H e = some (.own x)) (k : ∀ b u, b ≠ e → h.get? b = some u → h'.get? b = some u) (heo : ∃ u, h'.get? e = some u) : Un fs ex H (upd H x o) h h' := by
  have hx : ∀ b, H b = none → b ≠ x := fun b n z => by subst z; rw [n] at mu; exact mu
  have hb : ∀ b, H b = none → b ≠ e := fun b n z => by
    subst z
    rcases he with r | r
    · exact hx b n r
    · rw [n] at r; cases r
  have hm : ∀ b u, H b = some u → ¬ Mut (some u) → b ≠ x := fun b u q nm z => by subst z; rw [q] at mu; exact nm mu
  refine ⟨fun b u q n _ _ => k b u (hb b n) q, fun b u q n _ _ => ⟨u.slots, k b u (hb b n) q⟩, fun b u q n _ => by rw [upd_ne (hx b n)]; exact n, fun b u q _ => ?_,
    fun b xs q => by rw [upd_ne (hm b _ q fun z => z)]; exact q, fun b u xs q => by rw [upd_ne (hm b _ q fun z => z)]; exact q, fun b ps q => ⟨#[], by rw [upd_ne (hm b _ q fun z => z), q]; simp⟩⟩
  by_cases hbe : b = e
  · subst hbe; exact heo
  · exact ⟨u, k b u hbe q⟩
end

/-! ### the heap without what is tracked -/
def trk (h : Heap) (H : Hp) : List Addr := (List.range h.objs.size).filter fun a => (H a).isSome
def hidT (h : Heap) (H : Hp) : Heap := PySem.W.hideAll h (trk h H)
theorem hidT_size (h : Heap) (H : Hp) : (hidT h H).objs.size = h.objs.size := PySem.W.hideAll_size _ _
theorem hidT_get {h : Heap} {H : Hp} {b : Addr} {o : Obj} (e : h.get? b = some o) (n : H b = none) : (hidT h H).get? b = some o :=
  PySem.W.hideAll_get _ e fun hm => by
    have q : (H b).isSome = true := (List.mem_filter.mp hm).2
    rw [n] at q; simp at q
theorem of_hidT {h : Heap} {H : Hp} {b : Addr} {o : Obj} (e : (hidT h H).get? b = some o) : h.get? b = some o ∧ H b = none := by
  have e' : h.get? b = some o := PySem.W.of_hideAll (trk h H) e
  refine ⟨e', ?_⟩
  cases q : H b with
  | none => rfl
  | some x =>
    have hm : b ∈ trk h H := List.mem_filter.mpr ⟨List.mem_range.mpr (Heap.lt_size e'), by simp [q]⟩
    have z : (hidT h H).get? b = none := PySem.W.hideAll_none (trk h H) hm
    rw [z] at e; cases e

/-! ### OpenK's ledger, filled with every new object but one -/
def allNews (g h : Heap) (L : Addr) : List (Addr × Obj) := (List.range h.objs.size).filterMap fun a => if a = L ∨ (g.get? a).isSome = true then none else (h.get? a).map fun o => (a, o)
def rest (g h : Heap) (L d : Addr) : List (Addr × Obj) := (allNews g h L).filter fun p => decide (p.1 ≠ d)
end L2

namespace L2
open PySem PySem.Spec PyProof.Rows

/-- the module's facts, over the base: the heap at the law's entry without what is tracked there -/
structure Mod (K : PySem.W.Frag) (mg : Str → Option Value) (base : Heap) : Prop where
  kin : K.In base
  glob : base.Ns mainGlobals mg
  blt : ∃ mb, base.Ns builtinsNs mb ∧ ∀ x : Str, x ≠ "__name__" → mb x = bootBuiltins x
  nolimit : base.NoLimit

/-- the context: a def's body (or a comprehension's block) running. base: fixed through the whole law; s₀, H₀: the entry; outer: the frames whose slots others may change (a def's callers); stack: all frames that run;
   ex: iterators that were made ahead of the entry and are walked here (a comprehension's); fn: the names whose cells were made at the entry (a def: all; a comprehension's block: its own); calm: not within an except suite; pn: pins that every state bears; xe: what is wanted of an exception that leaves the code -/
structure Cx where
  prog : Program
  w : World
  K : PySem.W.Frag
  mg : Str → Option Value
  base : Heap
  A : Around
  N : List Str
  s₀ : Shared
  H₀ : Hp
  env : Env
  outer : List Env
  stack : List Env
  ex : List Addr
  fn : Str → Bool
  calm : Bool
  pn : List (Addr × Obj)
  xe : Value → Shared → Prop
/-- the callers' frames -/
def frs (l : List Env) : List Addr := l.filterMap (·.frame)
abbrev Cx.fs (X : Cx) : List Addr := frs X.outer

def Vis (sc : Scope) (x : Str) : Prop := sc.names.lookup x = some .local ∨ sc.names.lookup x = some .cell ∨ sc.names.lookup x = some .free
def Loc (sc : Scope) (x : Str) : Prop := sc.names.lookup x = some .local ∨ sc.names.lookup x = some .cell
def Look (env : Env) (h : Heap) (m : Str → Option Value) (x : Str) (u : Value) : Prop :=
  (env.kindOf x = some .local ∧ m x = some u) ∨ ((env.kindOf x = some .cell ∨ env.kindOf x = some .free) ∧ ∃ c, env.cells.lookup x = some c ∧ h.IsCell c (some u))

structure Cx.Ok (X : Cx) : Prop where
  mod : Mod X.K X.mg X.base
  kind : X.env.scope.kind = .function
  glob : X.env.globals = mainGlobals
  blt : X.env.builtins = builtinsNs
  above : X.s₀.heap.objs.size ≤ X.env.locals
  inj : ∀ x y c, X.env.cells.lookup x = some c → X.env.cells.lookup y = some c → x = y
  has : ∀ x, (X.env.kindOf x = some .cell ∨ X.env.kindOf x = some .free) → ∃ c, X.env.cells.lookup x = some c
  cab : ∀ x c, X.fn x = true → X.env.cells.lookup x = some c → X.s₀.heap.objs.size ≤ c
  hd : X.calm = true → X.A.handled = none
  frames : X.A.frames = some X.stack
  stk : X.stack = X.outer ∨ (X.stack = X.env :: X.outer ∧ X.env.frame = some X.env.locals)
  exf : ∀ b ∈ X.ex, b ≠ X.env.locals ∧ ∀ x c, X.env.cells.lookup x = some c → c ≠ b
  bs : ∀ b o, X.base.get? b = some o → X.s₀.heap.get? b = some o ∧ X.H₀ b = none
  bsz : X.base.objs.size ≤ X.s₀.heap.objs.size
  noex : ∀ b o, X.base.get? b = some o → b ∉ X.ex
  exfs : ∀ b ∈ X.ex, b ∉ X.fs
  funs : X.s₀.heap.FunFrames X.base X.outer
  frf : ∀ b ∈ X.fs, X.H₀ b = none

structure Inv (X : Cx) (pins : List (Addr × Obj)) (σ : List (Option V)) (H : Hp) (s : Shared) : Prop where
  ok : X.Ok
  os : s.os = X.s₀.os
  bare : AllBare s.gens
  base : Un X.fs X.ex X.H₀ H X.s₀.heap s.heap
  loc : ∃ m, s.heap.Ns X.env.locals m ∧ ∀ (i : Nat) (x : Str) (v : V), X.N[i]? = some x → σ[i]? = some (some v) → Vis X.env.scope x → ∃ u, RelV v u ∧ Look X.env s.heap m x u
  cell : ∀ x c, X.env.cells.lookup x = some c → ∃ v, s.heap.IsCell c v
  free : H X.env.locals = none
  freeC : ∀ x c, X.env.cells.lookup x = some c → H c = none
  pin : ∀ p ∈ X.pn ++ pins, s.heap.get? p.1 = some p.2 ∧ H p.1 = none ∧ p.1 ≠ X.env.locals ∧ p.1 ∉ X.fs ∧ ∀ v, p.2.data ≠ .cell v
  hok : HOk X.prog X.w H s.heap
  len : σ.length = X.N.length

section
variable {X : Cx} {pins : List (Addr × Obj)} {σ : List (Option V)} {H H' : Hp} {s : Shared} {h' : Heap}

theorem Cx.Ok.nofr (ok : X.Ok) {b : Addr} {o : Obj} (e : X.base.get? b = some o) : b ∉ X.fs := fun hb => by
  have := (ok.funs.mem hb).1
  rw [e] at this; cases this
theorem Inv.bs (I : Inv X pins σ H s) : ∀ b o, X.base.get? b = some o → s.heap.get? b = some o ∧ H b = none := fun b o e =>
  ⟨I.base.keep b o (I.ok.bs b o e).1 (I.ok.bs b o e).2 (I.ok.nofr e) (I.ok.noex b o e), I.base.free b o (I.ok.bs b o e).1 (I.ok.bs b o e).2 (I.ok.noex b o e)⟩
theorem Inv.bk (I : Inv X pins σ H s) : ∀ b o, X.base.get? b = some o → s.heap.get? b = some o := fun b o e => (I.bs b o e).1
theorem Inv.mod (I : Inv X pins σ H s) : Mod X.K X.mg X.base := I.ok.mod
theorem Inv.kIn (I : Inv X pins σ H s) : X.K.In s.heap := I.ok.mod.kin.keeps I.bk
theorem Inv.lt (I : Inv X pins σ H s) : X.env.locals < s.heap.objs.size := let ⟨_, hn, _⟩ := I.loc; hn.lt
theorem Inv.sz (I : Inv X pins σ H s) : X.s₀.heap.objs.size ≤ s.heap.objs.size := Nat.le_trans I.ok.above (Nat.le_of_lt I.lt)
theorem Inv.nofs (I : Inv X pins σ H s) {a : Addr} (h : s.heap.objs.size ≤ a) : a ∉ X.fs := fun hb => by
  obtain ⟨_, o, ho, _⟩ := I.ok.funs.mem hb
  exact absurd (Nat.lt_of_lt_of_le (Heap.lt_size ho) (Nat.le_trans I.sz h)) (Nat.lt_irrefl _)
theorem Inv.cne (I : Inv X pins σ H s) : ∀ x c, X.env.cells.lookup x = some c → c ≠ X.env.locals := fun x c e z => by
  obtain ⟨v, o, ho, hd⟩ := I.cell x c e
  obtain ⟨m, ⟨o', es, ep, ho', hd', _⟩, _⟩ := I.loc
  rw [z, ho'] at ho; cases ho; rw [hd'] at hd; cases hd
theorem Inv.funs (I : Inv X pins σ H s) : s.heap.FunFrames X.base X.outer := by
  have all : ∀ (l : List Env), (∀ b ∈ frs l, b ∈ X.fs) → X.s₀.heap.FunFrames X.base l → s.heap.FunFrames X.base l := by
    intro l
    induction l with
    | nil => intro _ _; trivial
    | cons env r ih =>
      intro hs hl
      obtain ⟨hk, ⟨L, o, hf, hn, ho, hd⟩, hr⟩ := hl
      have hL : L ∈ X.fs := hs L (by unfold frs; rw [List.filterMap_cons, hf]; exact List.mem_cons_self)
      obtain ⟨sl, e⟩ := I.base.slot L o ho (I.ok.frf L hL) hL fun z => I.ok.exfs L z hL
      exact ⟨hk, ⟨L, _, hf, hn, e, hd⟩, ih (fun b hb => hs b (by unfold frs; rw [List.filterMap_cons, hf]; exact List.mem_cons_of_mem _ hb)) hr⟩
  exact all X.outer (fun _ hb => hb) I.ok.funs

/-- the frames that run, for a call -/
theorem Inv.stack (I : Inv X pins σ H s) : s.heap.FunFrames X.base X.stack := by
  rcases I.ok.stk with e | ⟨e, hf⟩
  · rw [e]; exact I.funs
  · rw [e]
    obtain ⟨m, hn, _⟩ := I.loc
    refine .cons (by rw [I.ok.kind]; decide) hf hn ?_ I.funs
    exact Heap.get?_none_of_le (Nat.le_trans I.ok.bsz I.ok.above)
theorem Inv.stkSub (I : Inv X pins σ H s) : ∀ b ∈ frs X.stack, b ∈ X.env.locals :: X.fs := fun b hb => by
  rcases I.ok.stk with e | ⟨e, hf⟩
  · rw [e] at hb; exact List.mem_cons_of_mem _ hb
  · rw [e] at hb
    unfold frs at hb
    rw [List.filterMap_cons, hf] at hb
    exact hb
theorem Inv.stkFree (I : Inv X pins σ H s) : ∀ b ∈ frs X.stack, H b = none := fun b hb => by
  rcases List.mem_cons.mp (I.stkSub b hb) with e | hb
  · rw [e]; exact I.free
  · obtain ⟨_, o, ho, _⟩ := I.ok.funs.mem hb
    exact I.base.free b o ho (I.ok.frf b hb) fun z => I.ok.exfs b z hb

/-- THE STEP: the untracked objects but the frame and the records at ch are kept (the callers' frames up to slots), the frame's map is kept, the new abstract heap is held -/
theorem Inv.step {g' : Array GenState} {t' : Nat} {d' : Drawn} {ch : List Addr} (I : Inv X pins σ H s)
    (hch : ∀ b ∈ ch, (b ∈ X.ex ∨ X.s₀.heap.objs.size ≤ b) ∧ b ≠ X.env.locals ∧ (∀ x c, X.env.cells.lookup x = some c → c ≠ b) ∧ ∀ p ∈ X.pn ++ pins, p.1 ≠ b)
    (keep : ∀ b o, b ≠ X.env.locals → b ∉ X.fs → b ∉ ch → s.heap.get? b = some o → H b = none → h'.get? b = some o)
    (slot : ∀ b o, b ≠ X.env.locals → b ∈ X.fs → b ∉ ch → s.heap.get? b = some o → H b = none → ∃ sl, h'.get? b = some { o with slots := sl }) (free : ∀ b o, b ∉ ch → s.heap.get? b = some o → H b = none → H' b = none)
    (there : ∀ b o, b ∉ ch → s.heap.get? b = some o → ∃ o', h'.get? b = some o')
    (tups : ∀ b xs, H b = some (.tup xs) → H' b = some (.tup xs)) (frzs : ∀ b o u, H b = some (.frz o u) → H' b = some (.frz o u)) (tbls : ∀ b ps, H b = some (.tbl ps) → ∃ more, H' b = some (.tbl (ps ++ more)))
    (ns : ∀ m, s.heap.Ns X.env.locals m → h'.Ns X.env.locals m) (hok : HOk X.prog X.w H' h') (hg : AllBare g') :
    Inv X pins σ H' { s with heap := h', gens := g', drawn := d', toks := t' } := by
  have neL : ∀ b o, X.s₀.heap.get? b = some o → b ≠ X.env.locals := fun b o e => Nat.ne_of_lt (Nat.lt_of_lt_of_le (Heap.lt_size e) I.ok.above)
  have neC : ∀ b o, X.s₀.heap.get? b = some o → b ∉ X.ex → b ∉ ch := fun b o e hx hb => by
    rcases (hch b hb).1 with z | z
    · exact hx z
    · exact absurd (Nat.lt_of_lt_of_le (Heap.lt_size e) z) (Nat.lt_irrefl _)
  have cellK : ∀ x c, X.env.cells.lookup x = some c → ∀ v, s.heap.IsCell c v → h'.IsCell c v := fun x c e v ⟨o, ho, hd⟩ => by
    have nch : c ∉ ch := fun z => (hch c z).2.2.1 x c e rfl
    by_cases hc : c ∈ X.fs
    · obtain ⟨sl, q⟩ := slot c o (I.cne x c e) hc nch ho (I.freeC x c e)
      exact ⟨_, q, hd⟩
    · exact ⟨o, keep c o (I.cne x c e) hc nch ho (I.freeC x c e), hd⟩
  refine ⟨I.ok, I.os, hg, ⟨fun b o e n hb hx => ?_, fun b o e n hb hx => ?_, fun b o e n hx => ?_, fun b o e hx => ?_, fun b xs e => tups b xs (I.base.tups b xs e), fun b o xs e => frzs b o xs (I.base.frzs b o xs e), fun b ps e => ?_⟩, ?_, fun x c e => ?_, ?_, fun x c e => ?_, fun p hp => ?_, hok, I.len⟩
  · exact keep b o (neL b o e) hb (neC b o e hx) (I.base.keep b o e n hb hx) (I.base.free b o e n hx)
  · obtain ⟨sl, e1⟩ := I.base.slot b o e n hb hx
    obtain ⟨sl', e2⟩ := slot b _ (neL b o e) hb (neC b o e hx) e1 (I.base.free b o e n hx)
    exact ⟨sl', e2⟩
  · obtain ⟨o', e1⟩ := I.base.there b o e hx
    exact free b o' (neC b o e hx) e1 (I.base.free b o e n hx)
  · obtain ⟨o', e1⟩ := I.base.there b o e hx
    exact there b o' (neC b o e hx) e1
  · obtain ⟨m1, e1⟩ := I.base.tbls b ps e
    obtain ⟨m2, e2⟩ := tbls b _ e1
    exact ⟨m1 ++ m2, by rw [e2, Array.append_assoc]⟩
  · obtain ⟨m, hn, hl⟩ := I.loc
    refine ⟨m, ns m hn, fun i x v e1 e2 e3 => ?_⟩
    obtain ⟨u, r, l⟩ := hl i x v e1 e2 e3
    refine ⟨u, r, ?_⟩
    rcases l with l | ⟨k, c, e, z⟩
    · exact .inl l
    · exact .inr ⟨k, c, e, cellK x c e _ z⟩
  · obtain ⟨v, z⟩ := I.cell x c e
    exact ⟨v, cellK x c e v z⟩
  · obtain ⟨m, ⟨o, _, _, ho, _⟩, _⟩ := I.loc
    exact free _ o (fun z => (hch _ z).2.1 rfl) ho I.free
  · obtain ⟨v, o, ho, hd⟩ := I.cell x c e
    exact free c o (fun z => (hch c z).2.2.1 x c e rfl) ho (I.freeC x c e)
  · obtain ⟨e, n, ne, nf, d⟩ := I.pin p hp
    have nch : p.1 ∉ ch := fun z => (hch p.1 z).2.2.2 p hp rfl
    exact ⟨keep p.1 p.2 ne nf nch e n, free p.1 p.2 nch e n, ne, nf, d⟩
/-- .. where the frame's own object is kept too -/
theorem Inv.un {t' : Nat} (I : Inv X pins σ H s) (u : Un X.fs [] H H' s.heap h') (hok : HOk X.prog X.w H' h') : Inv X pins σ H' { s with heap := h', toks := t' } := by
  obtain ⟨m, ⟨o, es, ep, ho, r⟩, _⟩ := id I.loc
  obtain ⟨sl, hL⟩ := u.any ho I.free (by simp)
  exact I.step (g' := s.gens) (d' := s.drawn) (ch := []) (fun _ z => nomatch z) (fun b o _ hb _ e n => u.keep b o e n hb (by simp)) (fun b o _ hb _ e n => u.slot b o e n hb (by simp)) (fun b o _ e n => u.free b o e n (by simp)) (fun b o _ e => u.there b o e (by simp)) u.tups u.frzs u.tbls (fun m' hm => by
    obtain ⟨o', es', ep', ho', r'⟩ := hm
    rw [ho] at ho'; cases ho'
    exact ⟨_, es', ep', hL, r'⟩) hok I.bare
/-- behind a call (or a comprehension's block): the slots of this frame may have changed too, the records at ch may have turned -/
theorem Inv.call {g' : Array GenState} {t' : Nat} {d' : Drawn} {ch : List Addr} (I : Inv X pins σ H s) (u : Un (frs X.stack) ch H H' s.heap h') (hok : HOk X.prog X.w H' h') (hg : AllBare g')
    (hch : ∀ b ∈ ch, (b ∈ X.ex ∨ X.s₀.heap.objs.size ≤ b) ∧ b ≠ X.env.locals ∧ (∀ x c, X.env.cells.lookup x = some c → c ≠ b) ∧ ∀ p ∈ X.pn ++ pins, p.1 ≠ b) :
    Inv X pins σ H' { s with heap := h', gens := g', drawn := d', toks := t' } := by
  obtain ⟨m, ⟨o, es, ep, ho, r⟩, _⟩ := id I.loc
  obtain ⟨sl, hL⟩ := u.any ho I.free fun z => (hch _ z).2.1 rfl
  exact I.step (ch := ch) hch (fun b o hL hb hc e n => u.keep b o e n (fun z => (List.mem_cons.mp (I.stkSub b z)).elim hL hb) hc) (fun b o _ _ hc e n => u.any e n hc) (fun b o hc e n => u.free b o e n hc) (fun b o hc e => u.there b o e hc) u.tups u.frzs u.tbls (fun m' hm => by
    obtain ⟨o', es', ep', ho', r'⟩ := hm
    rw [ho] at ho'; cases ho'
    exact ⟨_, es', ep', hL, r'⟩) hok hg
/-- an untracked record of ours (an iterator) has turned -/
theorem Inv.turned {t' : Nat} {it : Addr} (I : Inv X pins σ H s) (k : ∀ b o, b ≠ it → s.heap.get? b = some o → h'.get? b = some o) (hn : H it = none) (hL : it ≠ X.env.locals)
    (h1 : it ∈ X.ex ∨ X.s₀.heap.objs.size ≤ it) (h2 : ∀ x c, X.env.cells.lookup x = some c → c ≠ it) (h3 : ∀ p ∈ X.pn ++ pins, p.1 ≠ it) : Inv X pins σ H { s with heap := h', toks := t' } := by
  have nit : ∀ b u, H b = some u → b ≠ it := fun b u e z => by rw [z, hn] at e; cases e
  refine I.step (g' := s.gens) (d' := s.drawn) (ch := [it]) (fun b hb => ?_) (fun b o _ _ hc e _ => k b o (fun z => hc (by simp [z])) e) (fun b o _ _ hc e _ => ⟨o.slots, k b o (fun z => hc (by simp [z])) e⟩) (fun _ _ _ _ n => n)
    (fun b o hc e => ⟨o, k b o (fun z => hc (by simp [z])) e⟩) (fun _ _ e => e) (fun _ _ _ e => e) (fun b ps e => ⟨#[], by rw [e]; simp⟩) (fun m hm => ?_) (fun b u e => ?_) I.bare
  · have e : b = it := by simpa using hb
    subst e
    exact ⟨h1, hL, h2, h3⟩
  · obtain ⟨o, es, ep, ho, r⟩ := hm
    exact ⟨o, es, ep, k _ o (Ne.symm hL) ho, r⟩
  · refine (I.hok b u e).stay (fun c v hc q => k c v ?_ q) (fun _ q => q) fun _ _ q => q
    rcases hc with z | z
    · rw [z]; exact nit b u e
    · exact nit c _ z
theorem Inv.tok (I : Inv X pins σ H s) (t : Nat) : Inv X pins σ H { s with toks := t } := I.un (h' := s.heap) (t' := t) Un.refl I.hok
/-- all objects kept -/
theorem Inv.kept {t' : Nat} (I : Inv X pins σ H s) (k : ∀ b u, s.heap.get? b = some u → h'.get? b = some u) : Inv X pins σ H { s with heap := h', toks := t' } := I.un (Un.kept k) (I.hok.kept k)
/-- a new object laid and tracked -/
theorem Inv.laid {a : Addr} {o : HO} {t' : Nat} (I : Inv X pins σ H s) (k : ∀ b u, s.heap.get? b = some u → h'.get? b = some u) (hp : s.heap.objs.size ≤ a) (new : ObjOk X.prog X.w (upd H a o) h' a o) :
    Inv X pins σ (upd H a o) { s with heap := h', toks := t' } := I.un (Un.laid k hp (I.hok.fresh hp)) (I.hok.laid k hp new)
/-- an object written -/
theorem Inv.write {x e : Addr} {o : HO} {t' : Nat} (I : Inv X pins σ H s) (mu : Mut (H x)) (he : e = x ∨ H e = some (.own x)) (k : ∀ b u, b ≠ e → s.heap.get? b = some u → h'.get? b = some u) (heo : ∃ u, h'.get? e = some u)
    (new : ObjOk X.prog X.w (upd H x o) h' x o) : Inv X pins σ (upd H x o) { s with heap := h', toks := t' } := I.un (Un.write mu he k heo) (I.hok.write mu he k heo new)
theorem Inv.pins_of {pins' : List (Addr × Obj)} (I : Inv X pins σ H s) (h : ∀ p ∈ pins', s.heap.get? p.1 = some p.2 ∧ H p.1 = none ∧ p.1 ≠ X.env.locals ∧ p.1 ∉ X.fs ∧ ∀ v, p.2.data ≠ .cell v) : Inv X pins' σ H s :=
  ⟨I.ok, I.os, I.bare, I.base, I.loc, I.cell, I.free, I.freeC, fun p hp => (List.mem_append.mp hp).elim (fun z => I.pin p (List.mem_append_left _ z)) (h p), I.hok, I.len⟩

theorem nodup_ix {N : List Str} (hN : N.Nodup) {i j : Nat} {x : Str} (a : N[i]? = some x) (b : N[j]? = some x) : i = j := by
  obtain ⟨h1, e1⟩ := List.getElem?_eq_some_iff.mp a
  obtain ⟨h2, e2⟩ := List.getElem?_eq_some_iff.mp b
  exact (List.getElem_inj hN).mp (e1.trans e2.symm)

/-- a name is stored; what changed -/
theorem store_ok2 {M : Model} {A : Around} {E : Value → Shared → Prop} {i : Nat} {x : Str} {v : V} {u : Value} {Q : Unit → Shared → Prop} (I : Inv X pins σ H s) (hN : X.N.Nodup) (hi : X.N[i]? = some x) (hx : Loc X.env.scope x) (r : RelV v u)
    (h : ∀ s', Inv X pins (σ.set i (some v)) H s' → (∃ a, Heap.SameBut a s.heap s'.heap ∧ (a = X.env.locals ∨ X.env.cells.lookup x = some a)) → Q () s') (hf : X.fn x = true ∨ X.env.scope.names.lookup x = some .local := by first | exact .inl rfl | exact .inr rfl | assumption) : wpAny M A (storeName X.env x u) Q E s := by
  obtain ⟨m, hn, hl⟩ := id I.loc
  have hcls : (X.env.scope.kind == .class || (X.env.scope.kind == .module && X.env.locals != X.env.globals)) = false := by rw [I.ok.kind]; rfl
  have hiσ : i < σ.length := by rw [I.len]; exact (List.getElem?_eq_some_iff.mp hi).1
  have cne := I.cne
  have tracked : ∀ {a : Addr} {h' : Heap}, (∃ o, s.heap.get? a = some o ∧ H a = none) → Heap.SameBut a s.heap h' → HOk X.prog X.w H h' := fun {a h'} ha hs b ob e => by
    obtain ⟨_, _, hfree⟩ := ha
    refine (I.hok b ob e).stay (fun c w' hc q => (hs.2 c ?_).trans q) (fun _ q => q) fun _ _ q => q
    rintro rfl
    rcases hc with rfl | hc
    · rw [hfree] at e; cases e
    · rw [hfree] at hc; cases hc
  rcases hx with hk | hk
  · refine wpAny_storeName_local hk hn (fun h' hn' hs => ?_) hcls
    obtain ⟨oL, _, _, hoL, _⟩ := id hn
    refine h _ ⟨I.ok, I.os, I.bare, ⟨fun b o e n hb hx => ?_, fun b o e n hb hx => ?_, I.base.free, fun b o e hx => ?_, I.base.tups, I.base.frzs, I.base.tbls⟩, ⟨_, hn', fun j y v' e1 e2 e3 => ?_⟩, fun y c e => ?_, I.free, I.freeC, fun p hp => ?_, tracked ⟨oL, hoL, I.free⟩ hs, by simpa using I.len⟩ ⟨_, hs, .inl rfl⟩
    · exact (hs.2 b (Nat.ne_of_lt (Nat.lt_of_lt_of_le (Heap.lt_size e) I.ok.above))).trans (I.base.keep b o e n hb hx)
    · obtain ⟨sl, e1⟩ := I.base.slot b o e n hb hx
      exact ⟨sl, (hs.2 b (Nat.ne_of_lt (Nat.lt_of_lt_of_le (Heap.lt_size e) I.ok.above))).trans e1⟩
    · obtain ⟨o', e1⟩ := I.base.there b o e hx
      exact ⟨o', (hs.2 b (Nat.ne_of_lt (Nat.lt_of_lt_of_le (Heap.lt_size e) I.ok.above))).trans e1⟩
    · by_cases hj : j = i
      · subst hj
        rw [hi] at e1; cases e1
        rw [List.getElem?_set_self hiσ] at e2
        cases e2
        exact ⟨u, r, .inl ⟨hk, by simp⟩⟩
      · rw [List.getElem?_set_ne (Ne.symm hj)] at e2
        obtain ⟨u', r', q⟩ := hl j y v' e1 e2 e3
        refine ⟨u', r', ?_⟩
        rcases q with ⟨k, e⟩ | ⟨k, c, e, z⟩
        · refine .inl ⟨k, ?_⟩
          have : y ≠ x := fun e => hj (nodup_ix hN e1 (e ▸ hi))
          simp [this, e]
        · exact .inr ⟨k, c, e, z.sameBut hs (cne y c e)⟩
    · obtain ⟨w', z⟩ := I.cell y c e
      exact ⟨w', z.sameBut hs (cne y c e)⟩
    · obtain ⟨e, n, ne, nf, d⟩ := I.pin p hp
      exact ⟨(hs.2 p.1 ne).trans e, n, ne, nf, d⟩
  · have hfn : X.fn x = true := by
      rcases hf with z | z
      · exact z
      · rw [z] at hk; cases hk
    obtain ⟨c, hc⟩ := I.ok.has x (.inl hk)
    obtain ⟨w', z⟩ := I.cell x c hc
    refine wpAny_storeName_cell I.ok.kind hk hc z (fun h' hc' hs => ?_)
    obtain ⟨oc, hoc, hocd⟩ := id z
    refine h { s with heap := h' } ⟨I.ok, I.os, I.bare, ⟨fun b o e n hb hx => ?_, fun b o e n hb hx => ?_, I.base.free, fun b o e hx => ?_, I.base.tups, I.base.frzs, I.base.tbls⟩, ⟨m, hn.sameBut hs (Ne.symm (cne x c hc)), fun j y v' e1 e2 e3 => ?_⟩, fun y c' e => ?_, I.free, I.freeC, fun p hp => ?_, tracked ⟨oc, hoc, I.freeC x c hc⟩ hs, by simpa using I.len⟩ ⟨c, hs, .inr hc⟩
    · exact (hs.2 b (Nat.ne_of_lt (Nat.lt_of_lt_of_le (Heap.lt_size e) (I.ok.cab x c hfn hc)))).trans (I.base.keep b o e n hb hx)
    · obtain ⟨sl, e1⟩ := I.base.slot b o e n hb hx
      exact ⟨sl, (hs.2 b (Nat.ne_of_lt (Nat.lt_of_lt_of_le (Heap.lt_size e) (I.ok.cab x c hfn hc)))).trans e1⟩
    · obtain ⟨o', e1⟩ := I.base.there b o e hx
      exact ⟨o', (hs.2 b (Nat.ne_of_lt (Nat.lt_of_lt_of_le (Heap.lt_size e) (I.ok.cab x c hfn hc)))).trans e1⟩
    · by_cases hj : j = i
      · subst hj
        rw [hi] at e1; cases e1
        rw [List.getElem?_set_self hiσ] at e2
        cases e2
        exact ⟨u, r, .inr ⟨.inl hk, c, hc, hc'⟩⟩
      · rw [List.getElem?_set_ne (Ne.symm hj)] at e2
        obtain ⟨u', r', q⟩ := hl j y v' e1 e2 e3
        refine ⟨u', r', ?_⟩
        rcases q with q | ⟨k, c', e, z'⟩
        · exact .inl q
        · refine .inr ⟨k, c', e, z'.sameBut hs ?_⟩
          rintro rfl
          exact hj (nodup_ix hN e1 (I.ok.inj _ _ _ e hc ▸ hi))
    · by_cases hcc : c' = c
      · subst hcc; exact ⟨_, hc'⟩
      · obtain ⟨w2, z2⟩ := I.cell y c' e
        exact ⟨w2, z2.sameBut hs hcc⟩
    · obtain ⟨e, n, ne, nf, d⟩ := I.pin p hp
      refine ⟨(hs.2 p.1 ?_).trans e, n, ne, nf, d⟩
      intro q
      rw [q, hoc] at e
      have q' : oc = p.2 := Option.some.inj e
      exact d w' (by rw [← q']; exact hocd)
theorem store_ok {M : Model} {A : Around} {E : Value → Shared → Prop} {i : Nat} {x : Str} {v : V} {u : Value} {Q : Unit → Shared → Prop} (I : Inv X pins σ H s) (hN : X.N.Nodup) (hi : X.N[i]? = some x) (hx : Loc X.env.scope x) (r : RelV v u)
    (h : ∀ s', Inv X pins (σ.set i (some v)) H s' → Q () s') (hf : X.fn x = true ∨ X.env.scope.names.lookup x = some .local := by first | exact .inl rfl | exact .inr rfl | assumption) : wpAny M A (storeName X.env x u) Q E s :=
  store_ok2 I hN hi hx r (fun s' I' _ => h s' I') hf
/-- behind a call or a block, the state as it is -/
theorem Inv.call' {s' : Shared} {ch : List Addr} (I : Inv X pins σ H s) (ho : s'.os = s.os) (u : Un (frs X.stack) ch H H' s.heap s'.heap) (hok : HOk X.prog X.w H' s'.heap) (hg : AllBare s'.gens)
    (hch : ∀ b ∈ ch, (b ∈ X.ex ∨ X.s₀.heap.objs.size ≤ b) ∧ b ≠ X.env.locals ∧ (∀ x c, X.env.cells.lookup x = some c → c ≠ b) ∧ ∀ p ∈ X.pn ++ pins, p.1 ≠ b) : Inv X pins σ H' s' := by
  obtain ⟨h', g', d', t', o'⟩ := s'
  have e : o' = s.os := ho
  subst e
  exact I.call (g' := g') (t' := t') (d' := d') u hok hg hch
end

/-! ### the judgements -/
/-- an exception: its class, its own dict's address (where it has one), the abstract heap behind it -/
abbrev XK := Value → Option Addr → Hp → Prop
abbrev St := List (Option V)
abbrev VK := V → Hp → Prop
/-- an expression's reading; a test's; an argument list's -/
abbrev TE := St → Hp → VK → Prop
abbrev TT := St → Hp → (Bool → Hp → Prop) → Prop
abbrev TA := St → Hp → (List V → Hp → Prop) → Prop
/-- what is wanted behind a statement -/
structure Ends where
  nx : St → Hp → Prop
  rt : VK
  bk : St → Hp → Prop := fun _ _ => False
  ct : St → Hp → Prop := fun _ _ => False
abbrev TS := Ends → St → Hp → Prop

def EP (X : Cx) (pins : List (Addr × Obj)) (σ : St) (Q : VK) (u : Value) (s' : Shared) : Prop := ∃ v H', Inv X pins σ H' s' ∧ RelV v u ∧ Q v H'
def TP (X : Cx) (pins : List (Addr × Obj)) (σ : St) (Q : Bool → Hp → Prop) (b : Bool) (s' : Shared) : Prop := ∃ H', Inv X pins σ H' s' ∧ Q b H'
def AP (X : Cx) (pins : List (Addr × Obj)) (σ : St) (Q : List V → Hp → Prop) (us : List Value) (s' : Shared) : Prop := ∃ vs H', Inv X pins σ H' s' ∧ Vals vs us ∧ Q vs H'
def SP (X : Cx) (pins : List (Addr × Obj)) (D : Ends) (f : Flow) (s' : Shared) : Prop :=
  match f with
  | .next => ∃ σ' H', Inv X pins σ' H' s' ∧ D.nx σ' H'
  | .brk => ∃ σ' H', Inv X pins σ' H' s' ∧ D.bk σ' H'
  | .cont => ∃ σ' H', Inv X pins σ' H' s' ∧ D.ct σ' H'
  | .ret u => ∃ v σ' H', Inv X pins σ' H' s' ∧ RelV v u ∧ D.rt v H'

def PE (X : Cx) (e : Expr) (t : TE) : Prop :=
  ∀ (pins : List (Addr × Obj)) (s : Shared) (σ : St) (H : Hp) (Q : VK), Inv X pins σ H s → t σ H Q → wpAny (model X.prog X.w) X.A (eval e X.env) (EP X pins σ Q) X.xe s
def PT (X : Cx) (e : Expr) (t : TT) : Prop :=
  ∀ (pins : List (Addr × Obj)) (s : Shared) (σ : St) (H : Hp) (Q : Bool → Hp → Prop), Inv X pins σ H s → t σ H Q → wpAny (model X.prog X.w) X.A (isTrue e X.env (eval e X.env)) (TP X pins σ Q) X.xe s
/-- a test whatever its 'whole' is (and, or) -/
def PW (X : Cx) (e : Expr) (t : TT) : Prop :=
  ∀ (whole : Sem Value) (pins : List (Addr × Obj)) (s : Shared) (σ : St) (H : Hp) (Q : Bool → Hp → Prop), Inv X pins σ H s → t σ H Q → wpAny (model X.prog X.w) X.A (isTrue e X.env whole) (TP X pins σ Q) X.xe s
theorem PW.pt {X : Cx} {e : Expr} {t : TT} (h : PW X e t) : PT X e t := h _
/-- an argument list (no star), from the left -/
def PA (X : Cx) (es : List Expr) (t : TA) : Prop :=
  ∀ (pos : Pos) (pins : List (Addr × Obj)) (s : Shared) (σ : St) (H : Hp) (Q : List V → Hp → Prop), Inv X pins σ H s → t σ H Q → wpAny (model X.prog X.w) X.A (spliced (backTo pos (starEach es X.env))) (AP X pins σ Q) X.xe s
def PS (X : Cx) (st : Stmt) (t : TS) : Prop :=
  ∀ (pins : List (Addr × Obj)) (s : Shared) (σ : St) (H : Hp) (D : Ends), Inv X pins σ H s → t D σ H → wpAny (model X.prog X.w) X.A (exec st X.env) (SP X pins D) X.xe s
def PSs (X : Cx) (st : List Stmt) (t : TS) : Prop :=
  ∀ (pins : List (Addr × Obj)) (s : Shared) (σ : St) (H : Hp) (D : Ends), Inv X pins σ H s → t D σ H → wpAny (model X.prog X.w) X.A (execs st X.env) (SP X pins D) X.xe s
/-- weaken the end -/
theorem thn {α : Type} {t : Sem α} {Q Q' : α → Shared → Prop} {M : Model} {A : Around} {E : Value → Shared → Prop} {s : Shared} (h : wpAny M A t Q E s) (hQ : ∀ a s, Q a s → Q' a s) : wpAny M A t Q' E s := wpAny_mono h hQ fun _ _ x => x
end L2

namespace L2
open PySem PySem.Spec PyProof.Rows
section
variable {X : Cx}

/-! ### names and constants -/
def tVar (i : Nat) : TE := fun σ H Q => ∃ v, σ[i]? = some (some v) ∧ Q v H
def tC (v : V) : TE := fun _ H Q => Q v H
theorem pe_var {i : Nat} {x : Str} {pos : Pos} (hN : X.N[i]? = some x) (hv : Vis X.env.scope x) (hd : (x == ("__debug__" : Str)) = false := by decide) (hcd : (x == ("__classdict__" : Str)) = false := by decide) : PE X (.Name x pos) (tVar i) := by
  intro pins s σ H Q I h
  obtain ⟨v, e, h⟩ := h
  obtain ⟨m, hn, hl⟩ := I.loc
  obtain ⟨u, r, l⟩ := hl i x v hN e hv
  have fin : EP X pins σ Q u s := ⟨v, H, I, r, h⟩
  rcases l with ⟨hk, hm⟩ | ⟨hk, c, hc, hcell⟩
  · exact wpAny_Name (wpAny_loadName_local I.ok.kind hk hn hm fin) hd
  · rcases hk with hk | hk
    · exact wpAny_Name (wpAny_loadName_cell I.ok.kind hk hc hcell fin) hd
    · exact wpAny_Name (wpAny_loadName_free I.ok.kind hk hc hcell fin hcd) hd
theorem pe_int {i j pos} : PE X (.Constant (.int i) j pos) (tC (.int i)) := fun _ _ _ H _ I h => wpAny_Constant_int ⟨.int i, H, I.tok _, ⟨_, rfl⟩, h⟩
theorem pe_bl {b j pos} : PE X (.Constant (.bool b) j pos) (tC (.bl b)) := fun _ _ _ H _ I h => Constant_bool ⟨.bl b, H, I, rfl, h⟩
theorem pe_non {j pos} : PE X (.Constant .none j pos) (tC .non) := fun _ _ _ H _ I h => Constant_none ⟨.non, H, I, rfl, h⟩
theorem pe_str {x j pos} : PE X (.Constant (.str x) j pos) (tC (.str x)) := fun _ _ _ H _ I h => Calls.Constant_str ⟨.str x, H, I.tok _, ⟨_, rfl⟩, h⟩

/-- a global name of the def -/
def Gl (X : Cx) (x : Str) : Prop := X.env.kindOf x = some .globalImplicit
theorem ld_glob {E : Value → Shared → Prop} {pins : List (Addr × Obj)} {s : Shared} {σ : St} {H : Hp} {x : Str} {u : Value} {pos : Pos} {Q : Value → Shared → Prop} (I : Inv X pins σ H s) (hg : Gl X x) (hm : X.mg x = some u) (h : Q u s)
    (hd : (x == ("__debug__" : Str)) = false := by decide) : wpAny (model X.prog X.w) X.A (eval (.Name x pos) X.env) Q E s :=
  Calls.Name_function_global I.ok.kind hg (Calls.loadGlobal_global (by rw [I.ok.glob]; exact I.mod.glob.keeps I.bk) hm h) hd
theorem ld_blt {E : Value → Shared → Prop} {pins : List (Addr × Obj)} {s : Shared} {σ : St} {H : Hp} {x : Str} {u : Value} {pos : Pos} {Q : Value → Shared → Prop} (I : Inv X pins σ H s) (hg : Gl X x) (hm : X.mg x = none) (hv : bootBuiltins x = some u) (h : Q u s)
    (hn : x ≠ "__name__" := by decide) (hd : (x == ("__debug__" : Str)) = false := by decide) : wpAny (model X.prog X.w) X.A (eval (.Name x pos) X.env) Q E s := by
  obtain ⟨mb, h1, h2⟩ := I.mod.blt
  exact Calls.Name_function_global I.ok.kind hg (Calls.loadGlobal_builtin (by rw [I.ok.glob]; exact I.mod.glob.keeps I.bk) hm (by rw [I.ok.blt]; exact h1.keeps I.bk) ((h2 x hn).trans hv) h) hd
/-- a module's constant, a class, a function, as a value -/
theorem pe_glob {x : Str} {v : V} {u : Value} {pos : Pos} (hg : Gl X x) (hm : X.mg x = some u) (r : RelV v u) (hd : (x == ("__debug__" : Str)) = false := by decide) : PE X (.Name x pos) (tC v) :=
  fun _ _ _ H _ I h => ld_glob I hg hm ⟨v, H, I, r, h⟩ hd
theorem pe_bltn {x : Str} {v : V} {u : Value} {pos : Pos} (hg : Gl X x) (hm : X.mg x = none) (hv : bootBuiltins x = some u) (r : RelV v u) (hn : x ≠ "__name__" := by decide) (hd : (x == ("__debug__" : Str)) = false := by decide) : PE X (.Name x pos) (tC v) :=
  fun _ _ _ H _ I h => ld_blt I hg hm hv ⟨v, H, I, r, h⟩ hn hd

/-! ### arithmetic -/
/-- two ints -/
def t2I (ta tb : TE) (k : Int → Int → Hp → Prop) : St → Hp → Prop := fun σ H => ta σ H fun x H1 => tb σ H1 fun y H2 => ∃ i j, x = .int i ∧ y = .int j ∧ k i j H2
def tAdd (ta tb : TE) : TE := fun σ H Q => t2I ta tb (fun i j H2 => Q (.int (i + j)) H2) σ H
def tSub (ta tb : TE) : TE := fun σ H Q => t2I ta tb (fun i j H2 => Q (.int (i - j)) H2) σ H
/-- the left factor below 2^64 -/
def tMul (ta tb : TE) : TE := fun σ H Q => t2I ta tb (fun i j H2 => (-(2 ^ 64) < i ∧ i < 2 ^ 64) ∧ Q (.int (i * j)) H2) σ H
variable {a b : Expr} {ta tb : TE} {pos : Pos}
/-! ### comparisons -/
def PC (X : Cx) (op : CmpOp) (a b : Expr) (t : TE) : Prop :=
  ∀ (pins : List (Addr × Obj)) (s : Shared) (σ : St) (H : Hp) (Q : VK), Inv X pins σ H s → t σ H Q →
    wpAny (model X.prog X.w) X.A (eval a X.env) (fun v s₁ => wpAny (model X.prog X.w) X.A (eval b X.env) (fun u s₂ => wpAny (model X.prog X.w) X.A (compareOp op v u) (EP X pins σ Q) X.xe s₂) X.xe s₁) X.xe s
def tCmp (p : Int → Int → Bool) (ta tb : TE) : TE := fun σ H Q => t2I ta tb (fun i j H2 => Q (.bl (p i j)) H2) σ H
abbrev tLt : TE → TE → TE := tCmp fun i j => decide (i < j)
abbrev tLe : TE → TE → TE := tCmp fun i j => decide (i ≤ j)
abbrev tGt : TE → TE → TE := tCmp fun i j => decide (j < i)
abbrev tGe : TE → TE → TE := tCmp fun i j => decide (j ≤ i)
abbrev tEqI : TE → TE → TE := tCmp fun i j => decide (i = j)
abbrev tNeI : TE → TE → TE := tCmp fun i j => !decide (i = j)
/-- is None -/
def tIsN (ta : TE) : TE := fun σ H Q => ta σ H fun x H1 => Q (.bl (decide (x = .non))) H1
def tNotN (ta : TE) : TE := fun σ H Q => ta σ H fun x H1 => Q (.bl (!decide (x = .non))) H1
/-- a comparison as a value, as a test -/
def tB (t : TE) : TT := fun σ H Q => t σ H fun x H1 => ∃ c, x = .bl c ∧ Q c H1
/-- an expression whose value is a bool, as a test -/
theorem pt_val {e : Expr} {t : TE} (h : PE X e t) (he : ∀ whole, isTrue e X.env whole = (do let v ← whole; standAt e.pos; holding [v] (truthy v)) := by intro _; rfl) : PT X e (tB t) := by
  intro pins s σ H Q I hw
  refine isTrue_plain (thn (h pins s σ H _ I hw) fun v s1 ⟨x, H1, I1, r1, q1⟩ => ?_) (he _)
  obtain ⟨d, rfl, q⟩ := q1
  cases r1
  exact wpAny_truthy_bool ⟨H1, I1, q⟩

/-! ### and, or, not -/
variable {tA tB' : TT} {rest : List Expr}
def tAnd (t u : TT) : TT := fun σ H Q => t σ H fun c H1 => if c = true then u σ H1 Q else Q false H1
def tOr (t u : TT) : TT := fun σ H Q => t σ H fun c H1 => if c = true then Q true H1 else u σ H1 Q
def tNot (t : TT) : TT := fun σ H Q => t σ H fun c H1 => Q (!c) H1
theorem pw_and1 (ha : PT X a tA) : PW X (.BoolOp .And [a] pos) tA := by
  intro wh pins s σ H Q I h
  refine isTrue_and (thn (ha pins s σ H Q I h) fun c s1 e => ?_)
  cases c with
  | true => exact isTrue_and_nil e
  | false => exact e
theorem pw_or1 (ha : PT X a tA) : PW X (.BoolOp .Or [a] pos) tA := by
  intro wh pins s σ H Q I h
  refine isTrue_or (thn (ha pins s σ H Q I h) fun c s1 e => ?_)
  cases c with
  | false => exact isTrue_or_nil e
  | true => exact e
theorem pw_and (ha : PT X a tA) (hb : PW X (.BoolOp .And (b :: rest) pos) tB') : PW X (.BoolOp .And (a :: b :: rest) pos) (tAnd tA tB') := by
  intro wh pins s σ H Q I h
  refine isTrue_and (thn (ha pins s σ H _ I h) fun c s1 ⟨H1, I1, q1⟩ => ?_)
  cases c with
  | true => exact hb wh pins s1 σ H1 Q I1 q1
  | false => exact ⟨H1, I1, q1⟩
theorem pw_or (ha : PT X a tA) (hb : PW X (.BoolOp .Or (b :: rest) pos) tB') : PW X (.BoolOp .Or (a :: b :: rest) pos) (tOr tA tB') := by
  intro wh pins s σ H Q I h
  refine isTrue_or (thn (ha pins s σ H _ I h) fun c s1 ⟨H1, I1, q1⟩ => ?_)
  cases c with
  | true => exact ⟨H1, I1, q1⟩
  | false => exact hb wh pins s1 σ H1 Q I1 q1
theorem pt_not (ha : PT X a tA) : PT X (.UnaryOp .Not a pos) (tNot tA) := by
  intro pins s σ H Q I h
  exact isTrue_not (ha pins s σ H (fun c H1 => Q (!c) H1) I h)
/-- .. as values (bools) -/
def tAndV (ta tb : TE) : TE := fun σ H Q => ta σ H fun x H1 => ∃ c, x = .bl c ∧ if c = true then tb σ H1 Q else Q (.bl false) H1
def tOrV (ta tb : TE) : TE := fun σ H Q => ta σ H fun x H1 => ∃ c, x = .bl c ∧ if c = true then Q (.bl true) H1 else tb σ H1 Q
def tNotV (ta : TE) : TE := fun σ H Q => ta σ H fun x H1 => ∃ c, x = .bl c ∧ Q (.bl (!c)) H1
theorem pe_one {op} {t : TE} (h : PE X a t) : PE X (.BoolOp op [a] pos) t := fun pins s σ H Q I hw => BoolOp_one (h pins s σ H Q I hw)
theorem pe_and (ha : PE X a ta) (hb : PE X (.BoolOp .And (b :: rest) pos) tb) : PE X (.BoolOp .And (a :: b :: rest) pos) (tAndV ta tb) := by
  intro pins s σ H Q I h
  refine BoolOp_and (thn (ha pins s σ H _ I h) fun v s1 ⟨x, H1, I1, r1, q1⟩ => ?_)
  obtain ⟨c, rfl, q1⟩ := q1
  cases r1
  refine wpAny_truthy_bool ?_
  cases c with
  | true => exact hb pins s1 σ H1 Q I1 q1
  | false => exact ⟨.bl false, H1, I1, rfl, q1⟩
theorem pe_or (ha : PE X a ta) (hb : PE X (.BoolOp .Or (b :: rest) pos) tb) : PE X (.BoolOp .Or (a :: b :: rest) pos) (tOrV ta tb) := by
  intro pins s σ H Q I h
  refine BoolOp_or (thn (ha pins s σ H _ I h) fun v s1 ⟨x, H1, I1, r1, q1⟩ => ?_)
  obtain ⟨c, rfl, q1⟩ := q1
  cases r1
  refine wpAny_truthy_bool ?_
  cases c with
  | false => exact hb pins s1 σ H1 Q I1 q1
  | true => exact ⟨.bl true, H1, I1, rfl, q1⟩
/-- a if t else b -/
def tIf (t : TT) (ta tb : TE) : TE := fun σ H Q => t σ H fun c H1 => if c = true then ta σ H1 Q else tb σ H1 Q
theorem pe_ifExp {c : Expr} (hc : PT X c tA) (ha : PE X a ta) (hb : PE X b tb) : PE X (.IfExp c a b pos) (tIf tA ta tb) := by
  intro pins s σ H Q I h
  refine wpAny_IfExp (thn (hc pins s σ H _ I h) fun d s1 ⟨H1, I1, q1⟩ => ?_)
  cases d with
  | true => exact ha pins s1 σ H1 Q I1 q1
  | false => exact hb pins s1 σ H1 Q I1 q1
end
end L2

namespace L2
open PySem PySem.Spec PyProof.Rows

/-! ### a list, a tuple that is read: tracked, frozen, or an object of the module -/
def SqL (K : PySem.W.Frag) (H : Hp) (a : Addr) (xs : List V) : Prop :=
  Rd H a (.lst xs) ∨
    ∃ (o : Obj) (its : Array Value) (n : Nat), K.lookup a = some o ∧ o.cls = .type "list" ∧ o.dict = none ∧ o.data = .seq its n ∧ its.size ≤ sizeLine ∧ Vals xs its.toList
def SqT (K : PySem.W.Frag) (H : Hp) (a : Addr) (xs : List V) : Prop :=
  Rd H a (.tup xs) ∨
    ∃ (o : Obj) (its : Array Value) (n : Nat), K.lookup a = some o ∧ o.cls = .type "tuple" ∧ o.data = .seq its n ∧ its.size ≤ sizeLine ∧ Vals xs its.toList
def absV : Value → Option V
  | .none => some .non
  | .bool b => some (.bl b)
  | .int i _ => some (.int i)
  | .str x _ => some (.str x)
  | .bytes b _ => some (.byt b)
  | .float b _ => some (.flt b)
  | .ref a => some (.ref a)
  | .type n => some (.ty n)
  | _ => none
theorem RelV.abs {x : V} {u : Value} (r : RelV x u) : absV u = some x := by
  cases x with
  | non => cases r; rfl
  | bl _ => cases r; rfl
  | int _ => obtain ⟨t, rfl⟩ := r; rfl
  | str _ => obtain ⟨t, rfl⟩ := r; rfl
  | byt _ => obtain ⟨t, rfl⟩ := r; rfl
  | flt _ => obtain ⟨t, rfl⟩ := r; rfl
  | ref _ => cases r; rfl
  | ty _ => cases r; rfl
theorem RelV.inj {x y : V} {u : Value} (r : RelV x u) (q : RelV y u) : x = y := Option.some.inj (r.abs.symm.trans q.abs)
theorem Vals.inj : ∀ {xs ys : List V} {us : List Value}, Vals xs us → Vals ys us → xs = ys
  | _, _, _, .nil, .nil => rfl
  | _, _, _, .cons r t, .cons r' t' => by rw [r.inj r', Vals.inj t t']
section
variable {X : Cx} {pins : List (Addr × Obj)} {σ : St} {H : Hp} {s : Shared} {a : Addr} {xs ys : List V}
theorem SqL.of {K : PySem.W.Frag} (h : H a = some (.lst xs)) : SqL K H a xs := .inl (.inl h)
theorem SqT.of {K : PySem.W.Frag} (h : H a = some (.tup xs)) : SqT K H a xs := .inl (.inl h)
theorem Inv.list (I : Inv X pins σ H s) (h : SqL X.K H a xs) : ∃ its : List Value, Vals xs its ∧ PlainL s.heap a its.toArray ∧ xs.length ≤ sizeLine := by
  rcases h with h | ⟨o, its, n, hk, hc, hd, hs, hz, r⟩
  · obtain ⟨z, its, n, r, e⟩ := h.ok I.hok
    exact ⟨its, r, ⟨_, n, e, rfl, rfl, rfl⟩, z⟩
  · refine ⟨its.toList, r, ⟨o, n, I.kIn a o hk, hc, hd, by simpa using hs⟩, ?_⟩
    have e := r.length
    simp only [Array.length_toList] at e
    omega
theorem Inv.tuple (I : Inv X pins σ H s) (h : SqT X.K H a xs) : ∃ its : List Value, Vals xs its ∧ IsTup s.heap a its.toArray ∧ xs.length ≤ sizeLine := by
  rcases h with h | ⟨o, its, n, hk, hc, hs, hz, r⟩
  · obtain ⟨z, its, r, p⟩ := h.ok I.hok
    exact ⟨its, r, p, z⟩
  · refine ⟨its.toList, r, ⟨o, I.kIn a o hk, hc, n, by simpa using hs⟩, ?_⟩
    have e := r.length
    simp only [Array.length_toList] at e
    omega
theorem Inv.list_inj (I : Inv X pins σ H s) (h : SqL X.K H a xs) (h' : SqL X.K H a ys) : xs = ys := by
  obtain ⟨its, r, ⟨o, n, e, _, _, d⟩, _⟩ := I.list h
  obtain ⟨its', r', ⟨o', n', e', _, _, d'⟩, _⟩ := I.list h'
  rw [e] at e'; cases e'
  rw [d] at d'
  injection d' with d1 _
  have : its = its' := by simpa using congrArg Array.toList d1
  subst this
  exact r.inj r'
theorem Inv.tuple_inj (I : Inv X pins σ H s) (h : SqT X.K H a xs) (h' : SqT X.K H a ys) : xs = ys := by
  obtain ⟨its, r, ⟨o, e, _, n, d⟩, _⟩ := I.tuple h
  obtain ⟨its', r', ⟨o', e', _, n', d'⟩, _⟩ := I.tuple h'
  rw [e] at e'; cases e'
  rw [d] at d'
  injection d' with d1 _
  have : its = its' := by simpa using congrArg Array.toList d1
  subst this
  exact r.inj r'
end

/-! ### another wish about exceptions -/
abbrev Cx.wish (X : Cx) (E : Value → Shared → Prop) : Cx := { X with xe := E }
/-- no exception leaves -/
abbrev Cx.nox (X : Cx) : Cx := X.wish fun _ _ => False
theorem Cx.Ok.wish {X : Cx} (ok : X.Ok) (E : Value → Shared → Prop) : (X.wish E).Ok :=
  ⟨ok.mod, ok.kind, ok.glob, ok.blt, ok.above, ok.inj, ok.has, ok.cab, ok.hd, ok.frames, ok.stk, ok.exf, ok.bs, ok.bsz, ok.noex, ok.exfs, ok.funs, ok.frf⟩
theorem Cx.Ok.unwish {X : Cx} {E : Value → Shared → Prop} (ok : (X.wish E).Ok) : X.Ok :=
  ⟨ok.mod, ok.kind, ok.glob, ok.blt, ok.above, ok.inj, ok.has, ok.cab, ok.hd, ok.frames, ok.stk, ok.exf, ok.bs, ok.bsz, ok.noex, ok.exfs, ok.funs, ok.frf⟩
section
variable {X : Cx} {pins : List (Addr × Obj)} {σ : St} {H : Hp} {s : Shared} {E : Value → Shared → Prop}
theorem Inv.wish (I : Inv X pins σ H s) (E : Value → Shared → Prop) : Inv (X.wish E) pins σ H s := ⟨I.ok.wish E, I.os, I.bare, I.base, I.loc, I.cell, I.free, I.freeC, I.pin, I.hok, I.len⟩
theorem Inv.unwish (I : Inv (X.wish E) pins σ H s) : Inv X pins σ H s := ⟨I.ok.unwish, I.os, I.bare, I.base, I.loc, I.cell, I.free, I.freeC, I.pin, I.hok, I.len⟩
theorem SP.unwish {D : Ends} {f : Flow} {s' : Shared} (h : SP (X.wish E) pins D f s') : SP X pins D f s' := by
  cases f with
  | next => obtain ⟨σ', H', I, q⟩ := h; exact ⟨σ', H', I.unwish, q⟩
  | brk => obtain ⟨σ', H', I, q⟩ := h; exact ⟨σ', H', I.unwish, q⟩
  | cont => obtain ⟨σ', H', I, q⟩ := h; exact ⟨σ', H', I.unwish, q⟩
  | ret u => obtain ⟨v, σ', H', I, r, q⟩ := h; exact ⟨v, σ', H', I.unwish, r, q⟩
theorem PSs.nox {st : List Stmt} {t : TS} (h : PSs X.nox st t) : PSs X st t := fun pins s σ H D I hw =>
  wpAny_mono (h pins s σ H D (I.wish _) hw) (fun _ _ q => q.unwish) fun _ _ z => False.elim z
end

/-! ### blocks and small statements -/
section
variable {X : Cx} {st : Stmt} {rest : List Stmt} {t u : TS} {e : Expr} {te : TE} {pos : Pos}
def tNext : TS := fun D σ H => D.nx σ H
def tSeq (t u : TS) : TS := fun D σ H => t { D with nx := u D } σ H
theorem pss_nil : PSs X [] tNext := fun _ _ σ H _ I h => wpAny_execs_nil ⟨σ, H, I, h⟩
theorem pss_cons (h1 : PS X st t) (h2 : PSs X rest u) : PSs X (st :: rest) (tSeq t u) := by
  intro pins s σ H D I h
  refine wpAny_execs_cons (thn (h1 pins s σ H { D with nx := u D } I h) fun f s1 q => ?_)
  cases f with
  | next =>
    obtain ⟨σ', H', I', q⟩ := q
    exact h2 pins s1 σ' H' D I' q
  | ret v => exact q
  | brk => exact q
  | cont => exact q
theorem pss_one (h1 : PS X st t) : PSs X [st] t := by
  intro pins s σ H D I h
  refine wpAny_execs_cons (thn (h1 pins s σ H D I h) fun f s1 q => ?_)
  cases f with
  | next => exact wpAny_execs_nil q
  | ret v => exact q
  | brk => exact q
  | cont => exact q
def tBreak : TS := fun D σ H => D.bk σ H
def tCont : TS := fun D σ H => D.ct σ H
/-- in a def's body nothing is shown -/
theorem Inv.quiet {pins : List (Addr × Obj)} {σ : St} {H : Hp} {s : Shared} (I : Inv X pins σ H s) : interactive X.env = false := by simp [interactive, I.ok.kind]
/-- an expression whose value is dropped -/
def tDrop (te : TE) : TS := fun D σ H => te σ H fun _ H1 => D.nx σ H1
theorem ps_expr (he : PE X e te) (hs : swapsWith e none pos.line X.env = pure false := by rfl) : PS X (.Expr e pos) (tDrop te) := by
  intro pins s σ H D I h
  exact wpAny_Expr_any (thn (he pins s σ H _ I h) fun v s1 ⟨x, H1, I1, r1, q1⟩ => ⟨σ, H1, I1, q1⟩) I.quiet hs
def tRet (te : TE) : TS := fun D σ H => te σ H D.rt
theorem ps_ret (he : PE X e te) : PS X (.Return (some e) pos) (tRet te) := by
  intro pins s σ H D I h
  exact wpAny_Return_some (thn (he pins s σ H _ I h) fun v s1 ⟨x, H1, I1, r1, q1⟩ => ⟨x, σ, H1, I1, r1, q1⟩)
def tRetN : TS := fun D _ H => D.rt .non H
def tIfS (c : TT) (t u : TS) : TS := fun D σ H => c σ H fun b H1 => if b = true then t D σ H1 else u D σ H1
theorem ps_if {c : Expr} {a b : List Stmt} {tc : TT} (hc : PT X c tc) (ha : PSs X a t) (hb : PSs X b u) : PS X (.If c a b pos) (tIfS tc t u) := by
  intro pins s σ H D I h
  refine wpAny_If (thn (hc pins s σ H _ I h) fun d s1 ⟨H1, I1, q1⟩ => ?_)
  cases d with
  | true => exact ha pins s1 σ H1 D I1 q1
  | false => exact hb pins s1 σ H1 D I1 q1
/-- code that the proof never comes to -/
def tNever : TS := fun _ _ _ => False
end

/-! ### targets -/
abbrev TG := V → St → Hp → (St → Hp → Prop) → Prop
abbrev TGs := List V → St → Hp → (St → Hp → Prop) → Prop
def PG (X : Cx) (target : Expr) (t : TG) : Prop :=
  ∀ (pins : List (Addr × Obj)) (s : Shared) (σ : St) (H : Hp) (v : V) (u : Value) (Q : St → Hp → Prop), Inv X pins σ H s → RelV v u → t v σ H Q →
    wpAny (model X.prog X.w) X.A (assign target X.env u) (fun _ s' => ∃ σ' H', Inv X pins σ' H' s' ∧ Q σ' H') X.xe s
/-- several targets, one after another -/
def PGs (X : Cx) (ts : List Expr) (t : TGs) : Prop :=
  ∀ (pins : List (Addr × Obj)) (s : Shared) (σ : St) (H : Hp) (vs : List V) (us : List Value) (Q : St → Hp → Prop), Inv X pins σ H s → Vals vs us → t vs σ H Q →
    wpAny (model X.prog X.w) X.A (assignInOrder ((assignEach ts X.env).map (·.2)) us) (fun _ s' => ∃ σ' H', Inv X pins σ' H' s' ∧ Q σ' H') X.xe s
/-- o[i] = v, by values -/
abbrev TSet := V → V → V → Hp → (Hp → Prop) → Prop
def PSet (X : Cx) (t : TSet) : Prop :=
  ∀ (pins : List (Addr × Obj)) (s : Shared) (σ : St) (H : Hp) (o i v : V) (ov iv u : Value) (Q : Hp → Prop), Inv X pins σ H s → RelV o ov → RelV i iv → RelV v u → t o i v H Q →
    wpAny (model X.prog X.w) X.A (setItem ov iv u) (fun _ s' => ∃ H', Inv X pins σ H' s' ∧ Q H') X.xe s
/-- a op= b, by values -/
abbrev TIp := V → V → Hp → VK → Prop
def PIp (X : Cx) (op : Operator) (t : TIp) : Prop :=
  ∀ (pins : List (Addr × Obj)) (s : Shared) (σ : St) (H : Hp) (x y : V) (v u : Value) (Q : VK), Inv X pins σ H s → RelV x v → RelV y u → t x y H Q →
    wpAny (model X.prog X.w) X.A (inplaceOp op v u) (EP X pins σ Q) X.xe s
section
variable {X : Cx} {pos : Pos}
def gName (i : Nat) : TG := fun v σ H Q => Q (σ.set i (some v)) H
theorem pg_name {i : Nat} {x : Str} (hN : X.N.Nodup) (hi : X.N[i]? = some x) (hx : Loc X.env.scope x) (hf : X.fn x = true ∨ X.env.scope.names.lookup x = some .local := by first | exact .inl rfl | exact .inr rfl | assumption) : PG X (.Name x pos) (gName i) := by
  intro pins s σ H v u Q I r h
  exact wpAny_assign_Name (store_ok I hN hi hx r (fun s' I' => ⟨_, H, I', h⟩) hf)
def gNil : TGs := fun vs σ H Q => vs = [] ∧ Q σ H
def gCons (t : TG) (u : TGs) : TGs := fun vs σ H Q => ∃ v r, vs = v :: r ∧ t v σ H fun σ' H' => u r σ' H' Q
theorem pgs_nil : PGs X [] gNil := by
  intro pins s σ H vs us Q I r h
  obtain ⟨e, h⟩ := h
  subst e
  cases r
  exact assignInOrder_nil ⟨σ, H, I, h⟩
theorem pgs_cons {e : Expr} {es : List Expr} {t : TG} {u : TGs} (h1 : PG X e t) (h2 : PGs X es u)
    (hs : (assignEach (e :: es) X.env).map (·.2) = assign e X.env :: (assignEach es X.env).map (·.2) := by rfl) : PGs X (e :: es) (gCons t u) := by
  intro pins s σ H vs us Q I r h
  obtain ⟨v, vr, e1, h⟩ := h
  subst e1
  cases r with
  | cons r rr =>
    rw [hs]
    refine assignInOrder_cons (thn (h1 pins s σ H _ _ _ I r h) fun _ s1 ⟨σ1, H1, I1, q1⟩ => ?_)
    exact h2 pins s1 σ1 H1 _ _ Q I1 rr q1
/-- (a, b, ..) = a tuple of that length -/
def gTup (K : PySem.W.Frag) (n : Nat) (t : TGs) : TG := fun v σ H Q => ∃ a xs, v = .ref a ∧ SqT K H a xs ∧ xs.length = n ∧ t xs σ H Q
theorem pg_tup {es : List Expr} {k : Nat} {t : TGs} {n : Nat} (hc : X.calm = true) (h : PGs X es t)
    (hn : (assignEach es X.env).length = n := by rfl) (hst : (assignEach es X.env).findIdx? (·.1) = none := by rfl) : PG X (.Tuple es k pos) (gTup X.K n t) := by
  intro pins s σ H v u Q I r hw
  obtain ⟨a, xs, e1, hq, hl, hw⟩ := hw
  subst e1
  cases r
  obtain ⟨its, rv, ht, hz⟩ := I.tuple hq
  refine assign_Tuple_tuple (I.ok.hd hc) ht (by simp [hn, ← hl, rv.length]) hst fun h' hx => ?_
  have I1 : Inv X pins σ H { s with heap := h' } := I.kept (t' := s.toks) fun b o e => hx b o (Nat.ne_of_lt (Heap.lt_size e)) e
  exact h pins _ σ H xs _ Q I1 (by simpa using rv) hw
/-- o[i] = .. -/
def gSub (to ti : TE) (t : TSet) : TG := fun v σ H Q => to σ H fun o H1 => ti σ H1 fun i H2 => t o i v H2 fun H3 => Q σ H3
/-- target = value -/
def tAsg (te : TE) (g : TG) : TS := fun D σ H => te σ H fun x H1 => g x σ H1 D.nx
theorem ps_asg {tg e : Expr} {te : TE} {g : TG} (he : PE X e te) (hg : PG X tg g) (hs : swapsWithSole [tg] e pos.line X.env = pure false := by rfl) (hw : swappedStores [tg] e X.env = pure none := by rfl)
    (h1 : (assignEach [tg] X.env).map (·.2) = [assign tg X.env] := by rfl) : PS X (.Assign [tg] e pos) (tAsg te g) := by
  intro pins s σ H D I h
  refine wpAny_Assign_stores (thn (he pins s σ H _ I h) fun v s1 ⟨x, H1, I1, r1, q1⟩ => ?_) hs hw
  rw [h1]
  exact thn (hg pins s1 σ H1 x v _ I1 r1 q1) fun _ s2 q => q
/-- name = value -/
theorem ps_set {i : Nat} {x : Str} {e : Expr} {te : TE} {pos' : Pos} (hN : X.N.Nodup) (hi : X.N[i]? = some x) (hx : Loc X.env.scope x) (he : PE X e te) (hs : swapsWith e (some (.Name x pos')) pos.line X.env = pure false := by rfl) (hf : X.fn x = true ∨ X.env.scope.names.lookup x = some .local := by first | exact .inl rfl | exact .inr rfl | assumption) :
    PS X (.Assign [.Name x pos'] e pos) (tAsg te (gName i)) := by
  intro pins s σ H D I h
  refine wpAny_Assign_Name (thn (he pins s σ H _ I h) fun v s1 ⟨y, H1, I1, r1, q1⟩ => ?_) hs
  exact store_ok I1 hN hi hx r1 (fun s2 I2 => ⟨_, H1, I2, q1⟩) hf
/-- a, b = x, y with plain local names: stored from the right; the pair itself is not tracked (the opening rows as in PyProof/Rows/TupAssign.lean:23) -/
def tPar (i j : Nat) (ta : TA) : TS := fun D σ H => ta σ H fun vs H1 => ∃ v w, vs = [v, w] ∧ D.nx ((σ.set i (some v)).set j (some w)) H1
theorem ps_par {i j : Nat} {x y : Str} {a b : Expr} {ta : TA} {px py pt : Pos} {kt k2 pt2} (hc : X.calm = true) (hN : X.N.Nodup) (hi : X.N[i]? = some x) (hj : X.N[j]? = some y) (hij : i ≠ j)
    (hx : X.env.scope.names.lookup x = some .local) (hy : X.env.scope.names.lookup y = some .local) (ha : PA X [a, b] ta)
    (hw : swappedStores [.Tuple [.Name x px, .Name y py] kt pt] (.Tuple [a, b] k2 pt2) X.env = pure (some [x, y]))
    (hs : swapsWithSole [.Tuple [.Name x px, .Name y py] kt pt] (.Tuple [a, b] k2 pt2) pos.line X.env = pure false := by rfl) :
    PS X (.Assign [.Tuple [.Name x px, .Name y py] kt pt] (.Tuple [a, b] k2 pt2) pos) (tPar i j ta) := by
  intro pins s σ H D I h
  rw [exec_Assign_arm]
  refine wpAny_bind (wpAny_standAt ?_)
  rw [hs]
  refine wpAny_bind (wpAny_pure ?_)
  rw [if_neg (by decide)]
  refine wpAny_bind (Tuple_ (thn (ha _ pins s σ H _ I h) fun us s1 ⟨vs, H1, I1, r1, q1⟩ => ?_))
  obtain ⟨v, w, e1, q1⟩ := q1
  subst e1
  obtain ⟨u1, u2, rfl, rv, rw'⟩ : ∃ u1 u2, us = [u1, u2] ∧ RelV v u1 ∧ RelV w u2 := by
    cases r1 with
    | cons p q =>
      cases q with
      | cons p' q' =>
        cases q'
        exact ⟨_, _, rfl, p, p'⟩
  refine wpAny_newObj_type ?_ (by show 2 ≤ sizeLine; decide)
  have I2 : Inv X pins σ H1 { s1 with heap := s1.heap.push { cls := .type "tuple", data := .seq [u1, u2].toArray } } := I1.kept (t' := s1.toks) fun b o e => Heap.get?_push_of_some _ e
  rw [hw]
  refine wpAny_bind (wpAny_pure ?_)
  show wpAny (model X.prog X.w) X.A (do rule "assign.swapped-stores"; let items ← unpackItems (.ref s1.heap.objs.size) 2 none; assignInOrder [fun v => bindName X.env y v, fun v => bindName X.env x v] items.reverse; pure Flow.next) _ _ _
  refine wpAny_bind (wpAny_rule (wpAny_bind (unpackItems_tuple (items := #[u1, u2]) (I.ok.hd hc) (IsTup.new s1.heap _) fun h' hx' => ?_)))
  have I3 := I2.kept (h' := h') (t' := s1.toks) fun b o e => hx' b o (Nat.ne_of_lt (Heap.lt_size e)) e
  show wpAny _ _ (assignInOrder [fun v => bindName X.env y v, fun v => bindName X.env x v] [u2, u1] >>= fun _ => pure Flow.next) _ _ _
  refine wpAny_bind (assignInOrder_cons (wpAny_bindName (store_ok I3 hN hj (.inl hy) rw' (fun s2 I4 => ?_) (.inr hy))))
  refine assignInOrder_cons (wpAny_bindName (store_ok I4 hN hi (.inl hx) rv (fun s3 I5 => assignInOrder_nil (wpAny_pure ?_)) (.inr hx)))
  rw [List.set_comm _ _ (Ne.symm hij)] at I5
  exact ⟨_, H1, I5, q1⟩
/-- name op= e -/
def tAug (i : Nat) (te : TE) (ti : TIp) : TS := fun D σ H => ∃ x, σ[i]? = some (some x) ∧ te σ H fun y H1 => ti x y H1 fun z H2 => D.nx (σ.set i (some z)) H2
theorem ps_aug {i : Nat} {x : Str} {e : Expr} {te : TE} {op : Operator} {ti : TIp} {pos' : Pos} (hN : X.N.Nodup) (hi : X.N[i]? = some x) (hx : Loc X.env.scope x) (he : PE X e te) (ho : PIp X op ti) (hf : X.fn x = true ∨ X.env.scope.names.lookup x = some .local := by first | exact .inl rfl | exact .inr rfl | assumption) :
    PS X (.AugAssign (.Name x pos') op e pos) (tAug i te ti) := by
  intro pins s σ H D I h
  obtain ⟨v, e1, h⟩ := h
  obtain ⟨m, hn, hl⟩ := I.loc
  have vis : Vis X.env.scope x := by rcases hx with k | k; exact .inl k; exact .inr (.inl k)
  obtain ⟨u, r, l⟩ := hl i x v hi e1 vis
  refine wpAny_AugAssign_Name ?_
  have go : wpAny (model X.prog X.w) X.A (eval e X.env) (fun w s₂ => wpAny (model X.prog X.w) X.A (inplaceOp op u w) (fun r s₃ => wpAny (model X.prog X.w) X.A (storeName X.env x r) (fun _ => SP X pins D .next) X.xe s₃) X.xe s₂) X.xe s := by
    refine thn (he pins s σ H _ I h) fun w s1 ⟨y, H1, I1, r1, q1⟩ => ?_
    refine thn (ho pins s1 σ H1 v y u w _ I1 r r1 q1) fun z s2 ⟨zv, H2, I2, r2, q2⟩ => ?_
    exact store_ok I2 hN hi hx r2 (fun s3 I3 => ⟨_, H2, I3, q2⟩) hf
  rcases l with ⟨hk, hm⟩ | ⟨hk, c, hc, hcell⟩
  · exact wpAny_loadName_local I.ok.kind hk hn hm go
  · rcases hk with hk | hk
    · exact wpAny_loadName_cell I.ok.kind hk hc hcell go
    · rcases hx with k | k
      · have : X.env.scope.names.lookup x = some .free := hk
        rw [k] at this; cases this
      · have : X.env.scope.names.lookup x = some .free := hk
        rw [k] at this; cases this
/-- o[i] op= e -/
def tAugS (to ti te : TE) (tget : V → V → Hp → VK → Prop) (tip : TIp) (tset : TSet) : TS := fun D σ H => to σ H fun o H1 => ti σ H1 fun i H2 => tget o i H2 fun x H3 => te σ H3 fun y H4 => tip x y H4 fun z H5 => tset o i z H5 fun H6 => D.nx σ H6
/-- o[i], by values -/
def PGet (X : Cx) (t : V → V → Hp → VK → Prop) : Prop :=
  ∀ (pins : List (Addr × Obj)) (s : Shared) (σ : St) (H : Hp) (o i : V) (ov iv : Value) (Q : VK), Inv X pins σ H s → RelV o ov → RelV i iv → t o i H Q →
    wpAny (model X.prog X.w) X.A (getItem ov iv) (EP X pins σ Q) X.xe s
theorem ps_augS {o i e : Expr} {to ti te : TE} {tget : V → V → Hp → VK → Prop} {tip : TIp} {tset : TSet} {op : Operator} {tpos : Pos} (ho : PE X o to) (hi : PE X i ti) (hg : PGet X tget) (he : PE X e te) (hp : PIp X op tip) (hs : PSet X tset)
    (ha : ∀ ov iv new, augStore i ov iv new = (do holding [new, ov, iv] (setItem ov iv new); release [new, ov, iv] []; pure .next) := by intros; rfl) : PS X (.AugAssign (.Subscript o i tpos) op e pos) (tAugS to ti te tget tip tset) := by
  intro pins s σ H D I h
  refine wpAny_AugAssign_SubscriptAny (thn (ho pins s σ H _ I h) fun ov s1 ⟨x1, H1, I1, r1, q1⟩ => ?_) ha
  refine thn (hi pins s1 σ H1 _ I1 q1) fun iv s2 ⟨x2, H2, I2, r2, q2⟩ => ?_
  refine thn (hg pins s2 σ H2 x1 x2 ov iv _ I2 r1 r2 q2) fun old s3 ⟨x3, H3, I3, r3, q3⟩ => ?_
  refine thn (he pins s3 σ H3 _ I3 q3) fun v s4 ⟨x4, H4, I4, r4, q4⟩ => ?_
  refine thn (hp pins s4 σ H4 x3 x4 old v _ I4 r3 r4 q4) fun new s5 ⟨x5, H5, I5, r5, q5⟩ => ?_
  exact thn (hs pins s5 σ H5 x1 x2 x5 ov iv new _ I5 r1 r2 r5 q5) fun _ s6 ⟨H6, I6, q6⟩ => ⟨σ, H6, I6, q6⟩
/-- ints -/
def ipI (f : Int → Int → Int) : TIp := fun x y H Q => ∃ i j, x = .int i ∧ y = .int j ∧ Q (.int (f i j)) H
theorem ip_add : PIp X .Add (ipI fun i j => i + j) := by
  intro pins s σ H x y v u Q I r1 r2 h
  obtain ⟨i, j, e1, e2, q⟩ := h
  subst e1; subst e2
  obtain ⟨t, rfl⟩ := r1
  obtain ⟨t', rfl⟩ := r2
  exact iadd_int ⟨.int _, H, I.tok _, ⟨_, rfl⟩, q⟩
theorem ip_sub : PIp X .Sub (ipI fun i j => i - j) := by
  intro pins s σ H x y v u Q I r1 r2 h
  obtain ⟨i, j, e1, e2, q⟩ := h
  subst e1; subst e2
  obtain ⟨t, rfl⟩ := r1
  obtain ⟨t', rfl⟩ := r2
  exact isub_int ⟨.int _, H, I.tok _, ⟨_, rfl⟩, q⟩
end

/-! ### while -/
section
variable {X : Cx} {pos : Pos}
/-- the invariant W with its measure -/
def tWhile (c : TT) (tb : TS) : TS := fun D σ H => ∃ W : Nat → St → Hp → Prop, (∃ m, W m σ H) ∧ ∀ m σ H, W m σ H →
  c σ H fun b H1 => if b = true then ∃ N : St → Hp → Prop, (∀ σ' H', N σ' H' → ∃ m', m' < m ∧ W m' σ' H') ∧ tb { D with nx := N, ct := N, bk := D.nx } σ H1 else D.nx σ H1
theorem ps_while {c : Expr} {body : List Stmt} {tc : TT} {tb : TS} (hp : PassesOwn (model X.prog X.w) X.A X.env X.xe) (hc : PT X c tc) (hb : PSs X body tb) : PS X (.While c body [] pos) (tWhile tc tb) := by
  intro pins s σ H D I h
  obtain ⟨W, ⟨m0, w0⟩, turn⟩ := h
  refine wpAny_While (codeAny_whileLoop (fun n s' => ∃ σ' H', Inv X pins σ' H' s' ∧ W n σ' H') ?_ m0 ⟨σ, H, I, w0⟩)
  rintro n s1 ⟨σ1, H1, I1, w1⟩
  refine wpAny_passesOwn hp (thn (hc pins s1 σ1 H1 _ I1 (turn n σ1 H1 w1)) fun b s2 ⟨H2, I2, q2⟩ => ?_)
  cases b with
  | true =>
    obtain ⟨N, hN, q2⟩ := q2
    rw [if_pos rfl]
    refine wpAny_passesOwn hp (thn (hb pins s2 σ1 H2 _ I2 q2) fun f s3 q3 => ?_)
    cases f with
    | next =>
      obtain ⟨σ3, H3, I3, n3⟩ := q3
      obtain ⟨m', hm, w3⟩ := hN σ3 H3 n3
      exact ⟨m', hm, σ3, H3, I3, w3⟩
    | cont =>
      obtain ⟨σ3, H3, I3, n3⟩ := q3
      obtain ⟨m', hm, w3⟩ := hN σ3 H3 n3
      exact ⟨m', hm, σ3, H3, I3, w3⟩
    | brk => exact q3
    | ret v => exact q3
  | false =>
    rw [if_neg Bool.false_ne_true]
    exact wpAny_execs_nil ⟨σ1, H2, I2, q2⟩
end

/-! ### what a loop or a comprehension walks -/
/-- at turn i: it yields x (the heap may grow), or it stops -/
structure It where
  go : Nat → Hp → Prop
  yld : Nat → Hp → V → Hp → Prop
  stop : Nat → Hp → Prop
/-- the iterator's own objects may turn: they are not the frame's, not pinned, younger than the entry (or a comprehension's own) -/
def FpOk (X : Cx) (pins : List (Addr × Obj)) (H : Hp) (b : Addr) : Prop :=
  H b = none ∧ b ≠ X.env.locals ∧ b ∉ X.fs ∧ (b ∈ X.ex ∨ X.s₀.heap.objs.size ≤ b) ∧ (∀ x c, X.env.cells.lookup x = some c → c ≠ b) ∧ ∀ p ∈ X.pn ++ pins, p.1 ≠ b
theorem Inv.fpOk {X : Cx} {pins : List (Addr × Obj)} {σ : St} {H H' : Hp} {s : Shared} {b : Addr} (I : Inv X pins σ H s) (hb : s.heap.objs.size ≤ b) (hn : H' b = none) : FpOk X pins H' b := by
  refine ⟨hn, Nat.ne_of_gt (Nat.lt_of_lt_of_le I.lt hb), I.nofs hb, .inr (Nat.le_trans I.sz hb), fun x c e z => ?_, fun p hp z => ?_⟩
  · obtain ⟨v, q⟩ := I.cell x c e
    exact absurd (Nat.lt_of_lt_of_le q.lt (by rw [z]; exact hb)) (Nat.lt_irrefl _)
  · exact absurd (Nat.lt_of_lt_of_le (Heap.lt_size (I.pin p hp).1) (by rw [z]; exact hb)) (Nat.lt_irrefl _)
structure Turn (P : Program) (w : World) (K : PySem.W.Frag) (tg : Expr) (J : It) (fp : List Addr) (it : Addr) (tn : Nat → Heap → Prop) : Prop where
  mem : it ∈ fp
  obj : ∀ i h, tn i h → ∀ b ∈ fp, ∃ o, h.get? b = some o ∧ ∀ v, o.data ≠ .cell v
  keep : ∀ i h h', tn i h → (∀ b ∈ fp, ∀ o, h.get? b = some o → h'.get? b = some o) → tn i h'
  item : ∀ (X : Cx), X.prog = P → X.w = w → X.K = K → X.calm = true → ∀ (i : Nat) (pins : List (Addr × Obj)) (s : Shared) (σ : St) (H : Hp) (E : Value → Shared → Prop), Inv X pins σ H s → (∀ b ∈ fp, FpOk X pins H b) → tn i s.heap → J.go i H →
    wpAny (model P w) X.A (pyNext (.ref it)) (fun r s1 => ∃ u, r = some u ∧
      wpAny (model P w) X.A (letOwnedTupleGo tg (.ref it) u) (fun _ s2 => ∃ x H', Inv X pins σ H' s2 ∧ RelV x u ∧ J.yld i H x H' ∧ tn (i + 1) s2.heap ∧ ∀ b ∈ fp, H' b = none) E s1) E s
  done : ∀ (X : Cx), X.prog = P → X.w = w → X.K = K → X.calm = true → ∀ (i : Nat) (pins : List (Addr × Obj)) (s : Shared) (σ : St) (H : Hp) (E : Value → Shared → Prop), Inv X pins σ H s → (∀ b ∈ fp, FpOk X pins H b) → tn i s.heap → J.stop i H →
    wpAny (model P w) X.A (pyNext (.ref it)) (fun r s1 => r = none ∧ Inv X pins σ H s1) E s
  self : ∀ (A : Around) (i : Nat) (s : Shared) (Q : Value → Shared → Prop) (E : Value → Shared → Prop), tn i s.heap → Q (.ref it) s → wpAny (model P w) A (pyIter (.ref it)) Q E s
abbrev TI := St → Hp → (It → Hp → Prop) → Prop
/-- an iterator has come -/
def PIE (X : Cx) (pins : List (Addr × Obj)) (σ : St) (tg : Expr) (R : It → Hp → Prop) (itv : Value) (s2 : Shared) : Prop :=
  ∃ (it : Addr) (fp : List Addr) (tn : Nat → Heap → Prop) (J : It) (H' : Hp), itv = .ref it ∧ Inv X pins σ H' s2 ∧ Turn X.prog X.w X.K tg J fp it tn ∧ tn 0 s2.heap ∧ (∀ b ∈ fp, FpOk X pins H' b) ∧ R J H'
def PI (X : Cx) (tg iter : Expr) (wi : TI) : Prop :=
  ∀ (pins : List (Addr × Obj)) (s : Shared) (σ : St) (H : Hp) (R : It → Hp → Prop), Inv X pins σ H s → wi σ H R →
    wpAny (model X.prog X.w) X.A (eval iter X.env) (fun v s1 => wpAny (model X.prog X.w) X.A (pyIter v) (PIE X pins σ tg R) X.xe s1) X.xe s

/-- the step ahead of the store is nothing for an iterator that keeps no tuple -/
theorem go_of {M : Model} {A : Around} {E : Value → Shared → Prop} {s : Shared} {tg : Expr} {it : Addr} {u : Value} {o : Obj} {n : String} {vs : Array Value} {Q : Unit → Shared → Prop} (ho : s.heap.get? it = some o) (hc : o.cls = .type n) (hd : o.data = .fields vs)
    (hn : ["enumerate", "zip", "dict_itemiterator", "dict_reverseitemiterator", "odict_iterator", "itertools.zip_longest", "itertools.pairwise"].contains n = false) (hQ : Q () s) : wpAny M A (letOwnedTupleGo tg (.ref it) u) Q E s := by
  unfold letOwnedTupleGo
  cases tg <;> first
    | exact wpAny_pure hQ
    | (cases u <;> first
        | exact wpAny_pure hQ
        | (refine wpAny_bind (wpAny_load ho ?_)
           rw [hc, hd]
           show wpAny M A (if (["enumerate", "zip", "dict_itemiterator", "dict_reverseitemiterator", "odict_iterator", "itertools.zip_longest", "itertools.pairwise"].contains n && vs[0]? == some (rawInt _)) = true then _ else _) Q E s
           rw [if_neg (by intro h; rw [hn, Bool.false_and] at h; cases h)]
           exact wpAny_pure hQ))

/-- the list at a, as it stands at each turn (a loop may append to it) -/
def Itl (K : PySem.W.Frag) (a : Addr) : It :=
  ⟨fun i H => ∃ xs x, SqL K H a xs ∧ xs[i]? = some x, fun i H x H' => H' = H ∧ ∀ xs, SqL K H a xs → xs[i]? = some x, fun i H => ∃ xs, SqL K H a xs ∧ xs.length ≤ i⟩
def Itt (K : PySem.W.Frag) (a : Addr) : It :=
  ⟨fun i H => ∃ xs x, SqT K H a xs ∧ xs[i]? = some x, fun i H x H' => H' = H ∧ ∀ xs, SqT K H a xs → xs[i]? = some x, fun i H => ∃ xs, SqT K H a xs ∧ xs.length ≤ i⟩
/-- lo, lo + 1, .. (n of them) -/
def Itr (lo : Int) (n : Nat) : It := ⟨fun i _ => i < n, fun i H x H' => H' = H ∧ x = .int (lo + i), fun i _ => n ≤ i⟩
theorem turn_list {P : Program} {w : World} {K : PySem.W.Frag} {tg : Expr} (a it : Addr) : Turn P w K tg (Itl K a) [it] it (fun i h => h.IsListIter it a i) where
  mem := by simp
  obj := fun i h st b hb => by
    have e : b = it := by simpa using hb
    subst e
    obtain ⟨o, e, c, d⟩ := st
    exact ⟨o, e, fun v z => by rw [d] at z; cases z⟩
  keep := fun i h h' st k => st.at fun o e => k it (by simp) o e
  item := by
    intro X hP hw hK hc i pins s σ H E I hf st hg
    subst hP hw hK
    obtain ⟨xs, x, hq, hx⟩ := hg
    obtain ⟨its, rv, p, hz⟩ := I.list hq
    obtain ⟨u, hu, ru⟩ := rv.get hx
    obtain ⟨f0, f1, f2, f3, f4, f5⟩ := hf it (by simp)
    refine wpAny_pyNext_list_item st p.isList (x := u) (by simpa using hu) fun h' st' sb => ?_
    have I1 : Inv X pins σ H { s with heap := h' } := I.turned (t' := s.toks) (fun b o hb e => (sb.2 b hb).trans e) f0 f1 f3 f4 f5
    obtain ⟨o, e, c, d⟩ := id st'
    exact ⟨u, rfl, go_of (s := { s with heap := h' }) e c d (by decide) ⟨x, H, I1, ru, ⟨rfl, fun ys hy => by rw [I.list_inj hy hq]; exact hx⟩, st', fun b hb => (hf b hb).1⟩⟩
  done := by
    intro X hP hw hK hc i pins s σ H E I hf st hg
    subst hP hw hK
    obtain ⟨xs, hq, hx⟩ := hg
    obtain ⟨its, rv, p, hz⟩ := I.list hq
    obtain ⟨f0, f1, f2, f3, f4, f5⟩ := hf it (by simp)
    have hl := rv.length
    exact wpAny_pyNext_list_end (I.ok.hd hc) st p.isList (by simp; omega) fun h' eb => ⟨rfl, I.turned (t' := s.toks) (fun b o hb e => eb b o hb e) f0 f1 f3 f4 f5⟩
  self := fun _ _ _ _ _ st h => wpAny_pyIter_listiter st h
theorem turn_tuple {P : Program} {w : World} {K : PySem.W.Frag} {tg : Expr} (a it : Addr) : Turn P w K tg (Itt K a) [it] it (fun i h => h.IsTupleIter it a i) where
  mem := by simp
  obj := fun i h st b hb => by
    have e : b = it := by simpa using hb
    subst e
    obtain ⟨o, e, c, d⟩ := st
    exact ⟨o, e, fun v z => by rw [d] at z; cases z⟩
  keep := fun i h h' st k => st.at fun o e => k it (by simp) o e
  item := by
    intro X hP hw hK hc i pins s σ H E I hf st hg
    subst hP hw hK
    obtain ⟨xs, x, hq, hx⟩ := hg
    obtain ⟨its, rv, p, hz⟩ := I.tuple hq
    obtain ⟨u, hu, ru⟩ := rv.get hx
    obtain ⟨f0, f1, f2, f3, f4, f5⟩ := hf it (by simp)
    refine wpAny_pyNext_tuple_item st (show s.heap.IsTuple a its.toArray from p) (x := u) (by simpa using hu) fun h' st' sb => ?_
    have I1 : Inv X pins σ H { s with heap := h' } := I.turned (t' := s.toks) (fun b o hb e => (sb.2 b hb).trans e) f0 f1 f3 f4 f5
    obtain ⟨o, e, c, d⟩ := id st'
    exact ⟨u, rfl, go_of (s := { s with heap := h' }) e c d (by decide) ⟨x, H, I1, ru, ⟨rfl, fun ys hy => by rw [I.tuple_inj hy hq]; exact hx⟩, st', fun b hb => (hf b hb).1⟩⟩
  done := by
    intro X hP hw hK hc i pins s σ H E I hf st hg
    subst hP hw hK
    obtain ⟨xs, hq, hx⟩ := hg
    obtain ⟨its, rv, p, hz⟩ := I.tuple hq
    obtain ⟨f0, f1, f2, f3, f4, f5⟩ := hf it (by simp)
    have hl := rv.length
    exact wpAny_pyNext_tuple_end (I.ok.hd hc) st (show s.heap.IsTuple a its.toArray from p) (by simp; omega) fun h' eb => ⟨rfl, I.turned (t' := s.toks) (fun b o hb e => eb b o hb e) f0 f1 f3 f4 f5⟩
  self := fun _ _ _ _ _ st h => wpAny_pyIter_tupleiter st h
theorem turn_range {P : Program} {w : World} {K : PySem.W.Frag} {tg : Expr} (it : Addr) (lo : Int) (n : Nat) : Turn P w K tg (Itr lo n) [it] it (fun i h => IsRangeIter h it (lo + (i : Nat) * 1) ((n : Int) - (i : Nat)) 1) where
  mem := by simp
  obj := fun i h st b hb => by
    have e : b = it := by simpa using hb
    subst e
    exact ⟨_, st, fun v z => by
      have z' : Data.fields _ = Data.cell v := z
      cases z'⟩
  keep := fun i h h' st k => k it (by simp) _ st
  item := by
    intro X hP hw hK hc i pins s σ H E I hf st hg
    subst hP hw hK
    obtain ⟨f0, f1, f2, f3, f4, f5⟩ := hf it (by simp)
    have W := Walks.range (prog := X.prog) (w := X.w) (I.ok.hd hc) it lo 1 n
    refine W.item i s _ _ hg st fun v h' tk hv st' kk => ?_
    obtain ⟨t, rfl⟩ := hv
    have I1 : Inv X pins σ H { s with heap := h', toks := tk } := I.turned (fun b o hb e => kk b o (by simpa using hb) e) f0 f1 f3 f4 f5
    refine ⟨_, rfl, go_of (s := { s with heap := h', toks := tk }) (n := "range_iterator") st' rfl rfl (by decide) ⟨.int (lo + i), H, I1, ⟨t, ?_⟩, ⟨rfl, rfl⟩, st', fun b hb => (hf b hb).1⟩⟩
    rw [Int.mul_one]
  done := by
    intro X hP hw hK hc i pins s σ H E I hf st hg
    subst hP hw hK
    obtain ⟨f0, f1, f2, f3, f4, f5⟩ := hf it (by simp)
    exact wpAny_pyNext_range_end (I.ok.hd hc) st (by have : n ≤ i := hg; omega) fun h' eb => ⟨rfl, I.turned (t' := s.toks) (fun b o hb e => eb b o hb e) f0 f1 f3 f4 f5⟩
  self := fun _ _ _ _ _ st h => wpAny_pyIter_rangeiter st h
end L2

namespace L2
open PySem PySem.Spec PyProof.Rows
section
variable {X : Cx} {tg : Expr}
def iList (K : PySem.W.Frag) (tl : TE) : TI := fun σ H R => tl σ H fun x H1 => ∃ a, x = .ref a ∧ (∃ xs, SqL K H1 a xs) ∧ R (Itl K a) H1
def iTup (K : PySem.W.Frag) (tl : TE) : TI := fun σ H R => tl σ H fun x H1 => ∃ a, x = .ref a ∧ (∃ xs, SqT K H1 a xs) ∧ R (Itt K a) H1
theorem pi_list {l : Expr} {tl : TE} (hl : PE X l tl) : PI X tg l (iList X.K tl) := by
  intro pins s σ H R I h
  refine thn (hl pins s σ H _ I h) fun v s1 ⟨x, H1, I1, r1, q1⟩ => ?_
  obtain ⟨a, e, ⟨xs, hq⟩, q⟩ := q1
  subst e
  cases r1
  obtain ⟨its, rv, p, hz⟩ := I1.list hq
  refine wpAny_pyIter_list p.isList ?_
  refine ⟨s1.heap.objs.size, [s1.heap.objs.size], _, _, H1, rfl, I1.kept (t' := s1.toks) fun b o e => Heap.get?_push_of_some _ e, turn_list a _, ⟨_, Heap.get?_push_size _ rfl, rfl, rfl⟩, fun b hb => ?_, q⟩
  have e : b = s1.heap.objs.size := by simpa using hb
  subst e
  exact I1.fpOk (Nat.le_refl _) (I1.hok.fresh (Nat.le_refl _))
theorem pi_tup {l : Expr} {tl : TE} (hl : PE X l tl) : PI X tg l (iTup X.K tl) := by
  intro pins s σ H R I h
  refine thn (hl pins s σ H _ I h) fun v s1 ⟨x, H1, I1, r1, q1⟩ => ?_
  obtain ⟨a, e, ⟨xs, hq⟩, q⟩ := q1
  subst e
  cases r1
  obtain ⟨its, rv, p, hz⟩ := I1.tuple hq
  refine wpAny_pyIter_tuple (show s1.heap.IsTuple a its.toArray from p) ?_
  refine ⟨s1.heap.objs.size, [s1.heap.objs.size], _, _, H1, rfl, I1.kept (t' := s1.toks) fun b o e => Heap.get?_push_of_some _ e, turn_tuple a _, ⟨_, Heap.get?_push_size _ rfl, rfl, rfl⟩, fun b hb => ?_, q⟩
  have e : b = s1.heap.objs.size := by simpa using hb
  subst e
  exact I1.fpOk (Nat.le_refl _) (I1.hok.fresh (Nat.le_refl _))
/-- a range object just made, walked -/
theorem range_it {pins : List (Addr × Obj)} {σ : St} {H : Hp} {s : Shared} {R : It → Hp → Prop} {E : Value → Shared → Prop} {lo hi : Int} {t u v : Tok} {tk : Nat} (I : Inv X pins σ H s) (h1 : -(2 ^ 62) ≤ lo) (h2 : lo < 2 ^ 62) (h3 : -(2 ^ 62) ≤ hi) (h4 : hi < 2 ^ 62)
    (q : R (Itr lo (hi - lo).toNat) H) : wpAny (model X.prog X.w) X.A (pyIter (.ref s.heap.objs.size)) (PIE X pins σ tg R) E { s with heap := s.heap.push { cls := .type "range", data := .fields #[.int lo t, .int hi u, .int 1 v] }, toks := tk } := by
  refine wpAny_pyIter_range (IsRange.new ..) (small_one h1 h2 h3 h4) ?_
  have I1 : Inv X pins σ H { s with heap := s.heap.push { cls := .type "range", data := .fields #[.int lo t, .int hi u, .int 1 v] }, toks := tk } := I.kept fun b o e => Heap.get?_push_of_some _ e
  refine ⟨(s.heap.push { cls := .type "range", data := .fields #[.int lo t, .int hi u, .int 1 v] }).objs.size, [(s.heap.push { cls := .type "range", data := .fields #[.int lo t, .int hi u, .int 1 v] }).objs.size], _, _, H, rfl,
    I1.kept (t' := tk) fun b o e => Heap.get?_push_of_some _ e, turn_range _ lo (hi - lo).toNat, ?_, fun b hb => ?_, q⟩
  · have e1 : lo + ((0 : Nat) : Int) * 1 = lo := by simp
    have e2 : (((hi - lo).toNat : Nat) : Int) - ((0 : Nat) : Int) = Builtin.Range.rangeSize lo hi 1 := by rw [rangeSize_one]; split <;> omega
    show IsRangeIter _ _ (lo + ((0 : Nat) : Int) * 1) ((((hi - lo).toNat : Nat) : Int) - ((0 : Nat) : Int)) 1
    rw [e1, e2]
    exact Heap.get?_push_size _ rfl
  · have e : b = (s.heap.push { cls := .type "range", data := .fields #[.int lo t, .int hi u, .int 1 v] }).objs.size := by simpa using hb
    subst e
    exact I1.fpOk (Nat.le_refl _) (I1.hok.fresh (Nat.le_refl _))
def iRng1 (ta : TA) : TI := fun σ H R => ta σ H fun vs H1 => ∃ j : Int, vs = [.int j] ∧ -(2 ^ 62) ≤ j ∧ j < 2 ^ 62 ∧ R (Itr 0 j.toNat) H1
def iRng2 (ta : TA) : TI := fun σ H R => ta σ H fun vs H1 => ∃ i j : Int, vs = [.int i, .int j] ∧ (-(2 ^ 62) ≤ i ∧ i < 2 ^ 62 ∧ -(2 ^ 62) ≤ j ∧ j < 2 ^ 62) ∧ R (Itr i (j - i).toNat) H1
theorem pi_range1 {a : Expr} {ta : TA} {p pos : Pos} (hg : Gl X "range") (hm : X.mg "range" = none) (ha : PA X [a] ta) (hs : starEach [a] X.env = [(false, eval a X.env)] := by rfl) : PI X tg (.Call (.Name "range" p) [a] [] pos) (iRng1 ta) := by
  intro pins s σ H R I h
  refine Call_ (ld_blt I hg hm boot_range (PyProof.Rows.callWith_type1 (thn (ha pos pins s σ H _ I h) fun us s1 ⟨vs, H1, I1, r1, q1⟩ => ?_) hs rfl))
  obtain ⟨j, e, q1, q2, q⟩ := q1
  subst e
  cases r1 with
  | cons r rr =>
    cases rr
    obtain ⟨t, rfl⟩ := r
    exact call_range_1 (range_it I1 (by omega) (by omega) q1 q2 (by simpa using q))
theorem pi_range2 {a b : Expr} {ta : TA} {p pos : Pos} (hg : Gl X "range") (hm : X.mg "range" = none) (ha : PA X [a, b] ta) (hs : starEach [a, b] X.env = [(false, eval a X.env), (false, eval b X.env)] := by rfl) (hs2 : starEach [b] X.env = [(false, eval b X.env)] := by rfl) :
    PI X tg (.Call (.Name "range" p) [a, b] [] pos) (iRng2 ta) := by
  intro pins s σ H R I h
  refine Call_ (ld_blt I hg hm boot_range (PyProof.Rows.callWith_type1 (thn (ha pos pins s σ H _ I h) fun us s1 ⟨vs, H1, I1, r1, q1⟩ => ?_) (by rw [hs, hs2]) (by rw [hs2]; rfl)))
  obtain ⟨i, j, e, ⟨q1, q2, q3, q4⟩, q⟩ := q1
  subst e
  cases r1 with
  | cons r rr =>
    cases rr with
    | cons r' rr =>
      cases rr
      obtain ⟨t, rfl⟩ := r
      obtain ⟨t', rfl⟩ := r'
      exact call_range_2 (range_it I1 q1 q2 q3 q4 q)

/-! ### for -/
/-- W: the invariant by the turn and a measure; N: what the body is to reach -/
def tFor (wi : TI) (g : TG) (tb : TS) : TS := fun D σ H => wi σ H fun J H1 => ∃ W : Nat → Nat → St → Hp → Prop, (∃ m, W 0 m σ H1) ∧ ∀ i m σ H, W i m σ H →
  (J.stop i H ∧ D.nx σ H) ∨ (J.go i H ∧ ∃ N : St → Hp → Prop, (∀ σ' H', N σ' H' → ∃ m', m' < m ∧ W (i + 1) m' σ' H') ∧ ∀ x H', J.yld i H x H' → g x σ H' fun σ2 H2 => tb { D with nx := N, ct := N, bk := D.nx } σ2 H2)
/-- the records at fp as they stand -/
def pinsAt (fp : List Addr) (h : Heap) : List (Addr × Obj) := fp.filterMap fun b => (h.get? b).map fun o => (b, o)
theorem mem_pinsAt {fp : List Addr} {h : Heap} {b : Addr} {o : Obj} (hb : b ∈ fp) (e : h.get? b = some o) : (b, o) ∈ pinsAt fp h := List.mem_filterMap.mpr ⟨b, hb, by rw [e]; rfl⟩
theorem of_pinsAt {fp : List Addr} {h : Heap} {p : Addr × Obj} (hp : p ∈ pinsAt fp h) : p.1 ∈ fp ∧ h.get? p.1 = some p.2 := by
  obtain ⟨b, hb, e⟩ := List.mem_filterMap.mp hp
  cases q : h.get? b with
  | none => rw [q] at e; cases e
  | some o =>
    rw [q] at e
    have e' : (b, o) = p := Option.some.inj e
    subst e'
    exact ⟨hb, q⟩
theorem Inv.pinned {pins : List (Addr × Obj)} {σ : St} {H : Hp} {s : Shared} {fp : List Addr} (I : Inv X pins σ H s) (hf : ∀ b ∈ fp, FpOk X pins H b) (ho : ∀ b ∈ fp, ∃ o, s.heap.get? b = some o ∧ ∀ v, o.data ≠ .cell v) : Inv X (pins ++ pinsAt fp s.heap) σ H s :=
  I.pins_of fun p hp => (List.mem_append.mp hp).elim (fun z => I.pin p (List.mem_append_right _ z)) fun z => by
    obtain ⟨hb, e⟩ := of_pinsAt z
    obtain ⟨f0, f1, f2, _⟩ := hf p.1 hb
    obtain ⟨o, e', d⟩ := ho p.1 hb
    rw [e] at e'; cases e'
    exact ⟨e, f0, f1, f2, d⟩
theorem Inv.unpinned {pins pl : List (Addr × Obj)} {σ : St} {H : Hp} {s : Shared} (I : Inv X (pins ++ pl) σ H s) : Inv X pins σ H s := I.pins_of fun p hp => I.pin p (List.mem_append_right _ (List.mem_append_left _ hp))
theorem ps_for {iter : Expr} {body : List Stmt} {wi : TI} {g : TG} {tb : TS} {pos : Pos} (hp : PassesOwn (model X.prog X.w) X.A X.env X.xe) (hc : X.calm = true) (hi : PI X tg iter wi) (hg : PG X tg g) (hb : PSs X body tb)
    (hs : ∀ x, foldedSetIterable iter X.env x = pure x := by intro _; rfl) : PS X (.For tg iter body [] pos) (tFor wi g tb) := by
  intro pins s σ H D I h
  refine wpAny_For (thn (hi pins s σ H _ I h) fun v s1 h1 => thn h1 fun itv s2 h2 => ?_) hs
  obtain ⟨it, fp, tn, J, H2, e, I2, T, st2, f2, W, ⟨m0, w0⟩, turn⟩ := h2
  subst e
  -- what stays true of the iterator's objects through the loop
  have stat : ∀ {H' : Hp}, (∀ b ∈ fp, H' b = none) → ∀ b ∈ fp, FpOk X pins H' b := fun hn b hb => ⟨hn b hb, (f2 b hb).2⟩
  refine codeAny_forLoop_any (fun n s' => ∃ i σ' H', Inv X pins σ' H' s' ∧ tn i s'.heap ∧ (∀ b ∈ fp, H' b = none) ∧ W i n σ' H') ?_ m0 ⟨0, σ, H2, I2, st2, fun b hb => (f2 b hb).1, w0⟩
  rintro n s3 ⟨i, σ3, H3, I3, st3, fr3, w3⟩
  rcases turn i n σ3 H3 w3 with ⟨stop, qn⟩ | ⟨go, N, hN, step⟩
  · refine wpAny_passesOwn hp (thn (T.done X rfl rfl rfl hc i pins s3 σ3 H3 X.xe I3 (stat fr3) st3 stop) fun r s4 ⟨hr, I4⟩ => ?_)
    subst hr
    exact wpAny_execs_nil ⟨σ3, H3, I4, qn⟩
  · refine wpAny_passesOwn hp (thn (T.item X rfl rfl rfl hc i pins s3 σ3 H3 X.xe I3 (stat fr3) st3 go) fun r s4 ⟨u, hr, h4⟩ => ?_)
    subst hr
    refine wpAny_passesOwn hp (thn h4 fun _ s5 ⟨x, H5, I5, r5, y5, st5, fr5⟩ => ?_)
    have I5' := I5.pinned (stat fr5) (T.obj _ _ st5)
    refine wpAny_passesOwn hp (thn (hg _ s5 σ3 H5 x u _ I5' r5 (step x H5 y5)) fun _ s6 ⟨σ6, H6, I6, q6⟩ => ?_)
    refine wpAny_passesOwn hp (thn (hb _ s6 σ6 H6 _ I6 q6) fun f s7 q7 => ?_)
    have again : ∀ {σ7 : St} {H7 : Hp}, Inv X (pins ++ pinsAt fp s5.heap) σ7 H7 s7 → N σ7 H7 → ∃ m, m < n ∧ ∃ i σ' H', Inv X pins σ' H' s7 ∧ tn i s7.heap ∧ (∀ b ∈ fp, H' b = none) ∧ W i m σ' H' := fun {σ7 H7} I7 n7 => by
      obtain ⟨m', hm, w7⟩ := hN σ7 H7 n7
      refine ⟨m', hm, i + 1, σ7, H7, I7.unpinned, T.keep _ _ _ st5 fun b hb o e => (I7.pin (b, o) (List.mem_append_right _ (List.mem_append_right _ (mem_pinsAt hb e)))).1, fun b hb => ?_, w7⟩
      obtain ⟨o, e, d⟩ := T.obj _ _ st5 b hb
      exact (I7.pin (b, o) (List.mem_append_right _ (List.mem_append_right _ (mem_pinsAt hb e)))).2.1
    cases f with
    | next => obtain ⟨σ7, H7, I7, n7⟩ := q7; exact again I7 n7
    | cont => obtain ⟨σ7, H7, I7, n7⟩ := q7; exact again I7 n7
    | brk => obtain ⟨σ7, H7, I7, q7⟩ := q7; exact ⟨σ7, H7, I7.unpinned, q7⟩
    | ret v => obtain ⟨x7, σ7, H7, I7, r7, q7⟩ := q7; exact ⟨x7, σ7, H7, I7.unpinned, r7, q7⟩
end

/-! ### the forms one uses -/
/-- over a list that the body leaves as it is -/
theorem for_list {K : PySem.W.Frag} {a : Addr} {xs : List V} {g : TG} {tb : TS} {D : Ends} {σ : St} {H : Hp} (Pv : Nat → St → Hp → Prop) (h0 : Pv 0 σ H) (hl : ∀ i σ H, i ≤ xs.length → Pv i σ H → SqL K H a xs)
    (hs : ∀ i x σ H, xs[i]? = some x → Pv i σ H → g x σ H fun σ2 H2 => tb { D with nx := Pv (i + 1), ct := Pv (i + 1), bk := D.nx } σ2 H2) (hd : ∀ σ H, Pv xs.length σ H → D.nx σ H) :
    ∃ W : Nat → Nat → St → Hp → Prop, (∃ m, W 0 m σ H) ∧ ∀ i m σ H, W i m σ H →
      ((Itl K a).stop i H ∧ D.nx σ H) ∨ ((Itl K a).go i H ∧ ∃ N : St → Hp → Prop, (∀ σ' H', N σ' H' → ∃ m', m' < m ∧ W (i + 1) m' σ' H') ∧ ∀ x H', (Itl K a).yld i H x H' → g x σ H' fun σ2 H2 => tb { D with nx := N, ct := N, bk := D.nx } σ2 H2) := by
  refine ⟨fun i m σ H => m = xs.length - i ∧ i ≤ xs.length ∧ Pv i σ H, ⟨xs.length, by simp, Nat.zero_le _, h0⟩, ?_⟩
  rintro i m σ H ⟨rfl, hi, p⟩
  have q := hl i σ H hi p
  by_cases hlt : i < xs.length
  · refine .inr ⟨⟨xs, xs[i], q, by simp [hlt]⟩, Pv (i + 1), fun σ' H' p' => ⟨xs.length - (i + 1), by omega, rfl, hlt, p'⟩, fun x H' y => ?_⟩
    obtain ⟨e, y⟩ := y
    subst e
    exact hs i x σ _ (y xs q) p
  · have e : i = xs.length := by omega
    subst e
    exact .inl ⟨⟨xs, q, Nat.le_refl _⟩, hd σ H p⟩
theorem for_tup {K : PySem.W.Frag} {a : Addr} {xs : List V} {g : TG} {tb : TS} {D : Ends} {σ : St} {H : Hp} (Pv : Nat → St → Hp → Prop) (h0 : Pv 0 σ H) (hl : ∀ i σ H, i ≤ xs.length → Pv i σ H → SqT K H a xs)
    (hs : ∀ i x σ H, xs[i]? = some x → Pv i σ H → g x σ H fun σ2 H2 => tb { D with nx := Pv (i + 1), ct := Pv (i + 1), bk := D.nx } σ2 H2) (hd : ∀ σ H, Pv xs.length σ H → D.nx σ H) :
    ∃ W : Nat → Nat → St → Hp → Prop, (∃ m, W 0 m σ H) ∧ ∀ i m σ H, W i m σ H →
      ((Itt K a).stop i H ∧ D.nx σ H) ∨ ((Itt K a).go i H ∧ ∃ N : St → Hp → Prop, (∀ σ' H', N σ' H' → ∃ m', m' < m ∧ W (i + 1) m' σ' H') ∧ ∀ x H', (Itt K a).yld i H x H' → g x σ H' fun σ2 H2 => tb { D with nx := N, ct := N, bk := D.nx } σ2 H2) := by
  refine ⟨fun i m σ H => m = xs.length - i ∧ i ≤ xs.length ∧ Pv i σ H, ⟨xs.length, by simp, Nat.zero_le _, h0⟩, ?_⟩
  rintro i m σ H ⟨rfl, hi, p⟩
  have q := hl i σ H hi p
  by_cases hlt : i < xs.length
  · refine .inr ⟨⟨xs, xs[i], q, by simp [hlt]⟩, Pv (i + 1), fun σ' H' p' => ⟨xs.length - (i + 1), by omega, rfl, hlt, p'⟩, fun x H' y => ?_⟩
    obtain ⟨e, y⟩ := y
    subst e
    exact hs i x σ _ (y xs q) p
  · have e : i = xs.length := by omega
    subst e
    exact .inl ⟨⟨xs, q, Nat.le_refl _⟩, hd σ H p⟩
theorem for_range {lo : Int} {n : Nat} {g : TG} {tb : TS} {D : Ends} {σ : St} {H : Hp} (Pv : Nat → St → Hp → Prop) (h0 : Pv 0 σ H)
    (hs : ∀ i σ H, i < n → Pv i σ H → g (.int (lo + i)) σ H fun σ2 H2 => tb { D with nx := Pv (i + 1), ct := Pv (i + 1), bk := D.nx } σ2 H2) (hd : ∀ σ H, Pv n σ H → D.nx σ H) :
    ∃ W : Nat → Nat → St → Hp → Prop, (∃ m, W 0 m σ H) ∧ ∀ i m σ H, W i m σ H →
      ((Itr lo n).stop i H ∧ D.nx σ H) ∨ ((Itr lo n).go i H ∧ ∃ N : St → Hp → Prop, (∀ σ' H', N σ' H' → ∃ m', m' < m ∧ W (i + 1) m' σ' H') ∧ ∀ x H', (Itr lo n).yld i H x H' → g x σ H' fun σ2 H2 => tb { D with nx := N, ct := N, bk := D.nx } σ2 H2) := by
  refine ⟨fun i m σ H => m = n - i ∧ i ≤ n ∧ Pv i σ H, ⟨n, by simp, Nat.zero_le _, h0⟩, ?_⟩
  rintro i m σ H ⟨rfl, hi, p⟩
  by_cases hlt : i < n
  · refine .inr ⟨hlt, Pv (i + 1), fun σ' H' p' => ⟨n - (i + 1), by omega, rfl, hlt, p'⟩, fun x H' y => ?_⟩
    obtain ⟨e, y⟩ := y
    subst e y
    exact hs i σ _ hlt p
  · have e : i = n := by omega
    subst e
    exact .inl ⟨Nat.le_refl _, hd σ H p⟩
/-- while, by a word and a measure of the state -/
theorem while_by {c : TT} {tb : TS} {D : Ends} {σ : St} {H : Hp} (Pv : St → Hp → Prop) (μ : St → Hp → Nat) (h0 : Pv σ H)
    (hs : ∀ σ H, Pv σ H → c σ H fun b H1 => if b = true then tb { D with nx := fun σ' H' => Pv σ' H' ∧ μ σ' H' < μ σ H, ct := fun σ' H' => Pv σ' H' ∧ μ σ' H' < μ σ H, bk := D.nx } σ H1 else D.nx σ H1)
    (mono : ∀ σ H Q Q', (∀ b H1, Q b H1 → Q' b H1) → c σ H Q → c σ H Q') : tWhile c tb D σ H := by
  refine ⟨fun m σ H => m = μ σ H ∧ Pv σ H, ⟨_, rfl, h0⟩, ?_⟩
  rintro m σ H ⟨rfl, p⟩
  refine mono σ H _ _ (fun b H1 q => ?_) (hs σ H p)
  cases b with
  | true => exact ⟨_, fun σ' H' ⟨p', l⟩ => ⟨_, l, rfl, p'⟩, q⟩
  | false => exact q
end L2

namespace L2
open PySem PySem.Spec PyProof.Rows

abbrev R2 := V → V → Hp → VK → Prop
/-- a two-place operation on values: f is binaryOp op, inplaceOp op or compareOp op -/
def OpR (X : Cx) (f : Value → Value → Sem Value) (r : R2) : Prop :=
  ∀ (pins : List (Addr × Obj)) (s : Shared) (σ : St) (H : Hp) (x y : V) (v u : Value) (Q : VK), Inv X pins σ H s → RelV x v → RelV y u → r x y H Q →
    wpAny (model X.prog X.w) X.A (f v u) (EP X pins σ Q) X.xe s
/-- a one-place operation -/
def UnR (X : Cx) (f : Value → Sem Value) (r : V → Hp → VK → Prop) : Prop :=
  ∀ (pins : List (Addr × Obj)) (s : Shared) (σ : St) (H : Hp) (x : V) (v : Value) (Q : VK), Inv X pins σ H s → RelV x v → r x H Q →
    wpAny (model X.prog X.w) X.A (f v) (EP X pins σ Q) X.xe s
/-- a call of a value that is known (a builtin, a type) with values -/
def CallR (X : Cx) (f : Value) (r : List V → Hp → VK → Prop) : Prop :=
  ∀ (pins : List (Addr × Obj)) (s : Shared) (σ : St) (H : Hp) (xs : List V) (us : List Value) (Q : VK), Inv X pins σ H s → Vals xs us → r xs H Q →
    wpAny (model X.prog X.w) X.A (call f us) (EP X pins σ Q) X.xe s
/-- a value's truth -/
def TruR (X : Cx) (r : V → Hp → (Bool → Hp → Prop) → Prop) : Prop :=
  ∀ (pins : List (Addr × Obj)) (s : Shared) (σ : St) (H : Hp) (x : V) (v : Value) (Q : Bool → Hp → Prop), Inv X pins σ H s → RelV x v → r x H Q →
    wpAny (model X.prog X.w) X.A (truthy v) (TP X pins σ Q) X.xe s

def tOp (r : R2) (ta tb : TE) : TE := fun σ H Q => ta σ H fun x H1 => tb σ H1 fun y H2 => r x y H2 Q
def tUn (r : V → Hp → VK → Prop) (ta : TE) : TE := fun σ H Q => ta σ H fun x H1 => r x H1 Q
/-- ints in, under C, and a value out -/
def rI (C : Int → Int → Prop) (g : Int → Int → V) : R2 := fun x y H Q => ∃ i j, x = .int i ∧ y = .int j ∧ C i j ∧ Q (g i j) H
def rI0 (g : Int → Int → V) : R2 := fun x y H Q => ∃ i j, x = .int i ∧ y = .int j ∧ Q (g i j) H
def rU (g : Int → V) : V → Hp → VK → Prop := fun x H Q => ∃ i, x = .int i ∧ Q (g i) H

section
variable {X : Cx} {a b c : Expr} {ta tb tc : TE} {pos : Pos}

theorem binT (ha : PE X a ta) (hb : PE X b tb) {pins : List (Addr × Obj)} {s : Shared} {σ : St} {H : Hp} {R : V → V → Hp → Prop} (I : Inv X pins σ H s)
    (h : ta σ H fun x H1 => tb σ H1 fun y H2 => R x y H2) {Q : Value → Shared → Prop} {f : Value → Value → Sem Value}
    (hf : ∀ v u s2 x y H2, Inv X pins σ H2 s2 → RelV x v → RelV y u → R x y H2 → wpAny (model X.prog X.w) X.A (f v u) Q X.xe s2) :
    wpAny (model X.prog X.w) X.A (eval a X.env) (fun v s₁ => wpAny (model X.prog X.w) X.A (eval b X.env) (fun u s₂ => wpAny (model X.prog X.w) X.A (f v u) Q X.xe s₂) X.xe s₁) X.xe s := by
  refine thn (ha pins s σ H _ I h) fun v s1 ⟨x, H1, I1, r1, q1⟩ => ?_
  refine thn (hb pins s1 σ H1 _ I1 q1) fun u s2 ⟨y, H2, I2, r2, q2⟩ => ?_
  exact hf v u s2 x y H2 I2 r1 r2 q2

theorem pe_op {op : Operator} {r : R2} (ho : OpR X (binaryOp op) r) (ha : PE X a ta) (hb : PE X b tb) : PE X (.BinOp a op b pos) (tOp r ta tb) := by
  intro pins s σ H Q I h
  exact wpAny_BinOp (binT ha hb I h fun v u s2 x y H2 I2 rx ry q => ho pins s2 σ H2 x y v u Q I2 rx ry q)
theorem pe_un {op : UnaryOp} {r : V → Hp → VK → Prop} (ho : UnR X (unaryOp op) r) (ha : PE X a ta) : PE X (.UnaryOp op a pos) (tUn r ta) := by
  intro pins s σ H Q I h
  exact UnaryOp_ (thn (ha pins s σ H _ I h) fun v s1 ⟨x, H1, I1, r1, q1⟩ => ho pins s1 σ H1 x v Q I1 r1 q1)
/-! ### ints -/
theorem opI {f : Value → Value → Sem Value} {C : Int → Int → Prop} {g : Int → Int → Int}
    (rule : ∀ (i j : Int) (t u : Tok) (s : Shared) (Q : Value → Shared → Prop) (E : Value → Shared → Prop), C i j → Q (.int (g i j) s.toks) { s with toks := s.toks + 1 } → wpAny (model X.prog X.w) X.A (f (.int i t) (.int j u)) Q E s) :
    OpR X f (rI C fun i j => .int (g i j)) := by
  intro pins s σ H x y v u Q I rx ry h
  obtain ⟨i, j, rfl, rfl, hc, q⟩ := h
  obtain ⟨t, rfl⟩ := rx
  obtain ⟨t', rfl⟩ := ry
  exact rule i j t t' s _ _ hc ⟨.int (g i j), H, I.tok _, ⟨_, rfl⟩, q⟩
theorem opI0 {f : Value → Value → Sem Value} {g : Int → Int → Int}
    (rule : ∀ (i j : Int) (t u : Tok) (s : Shared) (Q : Value → Shared → Prop) (E : Value → Shared → Prop), Q (.int (g i j) s.toks) { s with toks := s.toks + 1 } → wpAny (model X.prog X.w) X.A (f (.int i t) (.int j u)) Q E s) :
    OpR X f (rI0 fun i j => .int (g i j)) := by
  intro pins s σ H x y v u Q I rx ry h
  obtain ⟨i, j, rfl, rfl, q⟩ := h
  obtain ⟨t, rfl⟩ := rx
  obtain ⟨t', rfl⟩ := ry
  exact rule i j t t' s _ _ ⟨.int (g i j), H, I.tok _, ⟨_, rfl⟩, q⟩
theorem opB0 {f : Value → Value → Sem Value} {g : Int → Int → Bool}
    (rule : ∀ (i j : Int) (t u : Tok) (s : Shared) (Q : Value → Shared → Prop) (E : Value → Shared → Prop), Q (.bool (g i j)) s → wpAny (model X.prog X.w) X.A (f (.int i t) (.int j u)) Q E s) :
    OpR X f (rI0 fun i j => .bl (g i j)) := by
  intro pins s σ H x y v u Q I rx ry h
  obtain ⟨i, j, rfl, rfl, q⟩ := h
  obtain ⟨t, rfl⟩ := rx
  obtain ⟨t', rfl⟩ := ry
  exact rule i j t t' s _ _ ⟨.bl (g i j), H, I, rfl, q⟩

def CDiv (i j : Int) : Prop := 0 < j ∧ j < 1073741824
def CDivN (i j : Int) : Prop := j ≠ 0 ∧ j.natAbs < 1073741824
def CPow (i j : Int) : Prop := 0 ≤ j ∧ j ≤ 1000000 ∧ i.natAbs < 2 ^ 64
def CMul (i j : Int) : Prop := (-(2 ^ 64) < i ∧ i < 2 ^ 64) ∨ (-(2 ^ 64) < j ∧ j < 2 ^ 64)
theorem CMul.ok {i j : Int} (h : CMul i j) : IntMulOk i j := by
  rcases h with ⟨h1, h2⟩ | ⟨h1, h2⟩
  · exact .of_left (intBits_le_64 h1 h2)
  · exact .of_right (intBits_le_64 h1 h2)
theorem two_pow_nn (k : Nat) : (0 : Int) ≤ 2 ^ k := by
  rw [two_pow_cast]
  exact Int.natCast_nonneg _

theorem op_add : OpR X (binaryOp .Add) (rI0 fun i j => .int (i + j)) := opI0 fun _ _ _ _ _ _ _ q => add_int q
theorem op_sub : OpR X (binaryOp .Sub) (rI0 fun i j => .int (i - j)) := opI0 fun _ _ _ _ _ _ _ q => sub_int q
theorem op_mul : OpR X (binaryOp .Mult) (rI CMul fun i j => .int (i * j)) := opI fun _ _ _ _ _ _ _ hc q => mul_int q hc.ok
/-- // by a positive divisor -/
theorem op_fdiv : OpR X (binaryOp .FloorDiv) (rI CDiv fun i j => .int (i / j)) := opI fun i j _ _ _ _ _ hc q => by
  have h1 : (0 : Int) < j := hc.1
  have h2 : j < 1073741824 := hc.2
  exact floordiv_int (by omega) (by rw [Int.fdiv_eq_ediv_of_nonneg i (by omega)]; exact q) (.inl (PyProof.noPylong_small (by omega)))
/-- % by a positive divisor of any size -/
theorem op_mod : OpR X (binaryOp .Mod) (rI (fun _ j => 0 < j) fun i j => .int (i % j)) := opI fun i j _ _ _ _ _ hc q => by
  have h1 : (0 : Int) < j := hc
  exact mod_int' (by omega) (by rw [Int.fmod_eq_emod_of_nonneg i (by omega)]; exact q)
theorem op_modN : OpR X (binaryOp .Mod) (rI (fun _ j => j ≠ 0) fun i j => .int (i.fmod j)) := opI fun _ _ _ _ _ _ _ hc q => mod_int' hc q
theorem op_shl : OpR X (binaryOp .LShift) (rI CPow fun i j => .int (i * 2 ^ j.toNat)) := opI fun _ _ _ _ _ _ _ hc q => lshift_int_small hc.1 hc.2.1 hc.2.2 q
theorem op_shr : OpR X (binaryOp .RShift) (rI (fun _ j => 0 ≤ j) fun i j => .int (i / 2 ^ j.toNat)) := opI fun i j _ _ _ _ _ hc q =>
  rshift_int hc (by rw [Int.fdiv_eq_ediv_of_nonneg i (two_pow_nn _)]; exact q)
theorem op_and : OpR X (binaryOp .BitAnd) (rI0 fun i j => .int (Builtin.bitAnd i j)) := opI0 fun _ _ _ _ _ _ _ q => and_int q
theorem unI {f : Value → Sem Value} {g : Int → Int}
    (rule : ∀ (i : Int) (t : Tok) (s : Shared) (Q : Value → Shared → Prop) (E : Value → Shared → Prop), Q (.int (g i) s.toks) { s with toks := s.toks + 1 } → wpAny (model X.prog X.w) X.A (f (.int i t)) Q E s) :
    UnR X f (rU fun i => .int (g i)) := by
  intro pins s σ H x v Q I rx h
  obtain ⟨i, rfl, q⟩ := h
  obtain ⟨t, rfl⟩ := rx
  exact rule i t s _ _ ⟨.int (g i), H, I.tok _, ⟨_, rfl⟩, q⟩
theorem un_neg : UnR X (unaryOp .USub) (rU fun i => .int (-i)) := unI fun _ _ _ _ _ q => neg_int q
/-! ### bools among ints: n += (a < b) -/
end

/-! ### comparisons -/
/-- the scalars that == tells apart as data does -/
def scal : V → V → Bool
  | .non, .non => true | .non, .int _ => true | .int _, .non => true | .non, .bl _ => true | .bl _, .non => true | .non, .str _ => true | .str _, .non => true
  | .int _, .int _ => true | .bl _, .bl _ => true | .str _, .str _ => true | .byt _, .byt _ => true
  | .int _, .str _ => true | .str _, .int _ => true | .bl _, .str _ => true | .str _, .bl _ => true
  | _, _ => false
def rEq : R2 := fun x y H Q => scal x y = true ∧ Q (.bl (decide (x = y))) H
def rNe : R2 := fun x y H Q => scal x y = true ∧ Q (.bl (!decide (x = y))) H

theorem dec_int {i j : Int} : decide (V.int i = V.int j) = (i == j) := by
  rw [Bool.eq_iff_iff]
  simp
theorem dec_bl {i j : Bool} : decide (V.bl i = V.bl j) = (i == j) := by
  rw [Bool.eq_iff_iff]
  simp
theorem dec_str {i j : Str} : decide (V.str i = V.str j) = (i == j) := by
  rw [Bool.eq_iff_iff]
  simp
theorem dec_byt {i j : Array UInt8} : decide (V.byt i = V.byt j) = (i.toList == j.toList) := by
  rw [Bool.eq_iff_iff]
  cases i
  cases j
  simp

section
variable {X : Cx} {a b c : Expr} {ta tb tc : TE} {pos : Pos}
theorem fin_bl {pins : List (Addr × Obj)} {σ : St} {H : Hp} {s : Shared} {Q : VK} {k k' : Bool} (I : Inv X pins σ H s) (q : Q (.bl k) H) (e : k = k') : EP X pins σ Q (.bool k') s := by
  subst e
  exact ⟨.bl k, H, I, rfl, q⟩
theorem op_eq : OpR X (compareOp .Eq) rEq := by
  intro pins s σ H x y v u Q I rx ry h
  obtain ⟨hs, q⟩ := h
  cases x with
  | non =>
    cases rx
    cases y with
    | non => cases ry; exact PySem.EqNone.eq_none_none (fin_bl I q (by simp))
    | bl j => cases ry; exact PySem.EqNone.eq_none_bool (fin_bl I q (by simp))
    | int j => obtain ⟨t', rfl⟩ := ry; exact PySem.EqNone.eq_none_int (fin_bl I q (by simp))
    | str j => obtain ⟨t', rfl⟩ := ry; exact PySem.EqNone.eq_none_str (fin_bl I q (by simp))
    | _ => exact absurd (show false = true from hs) Bool.false_ne_true
  | bl i =>
    cases rx
    cases y with
    | non => cases ry; exact PySem.EqNone.eq_bool_none (fin_bl I q (by simp))
    | bl j => cases ry; exact eq_bool (fin_bl I q dec_bl)
    | str j => obtain ⟨t', rfl⟩ := ry; exact PySem.EqMixed.eq_bool_str (fin_bl I q (by simp))
    | _ => exact absurd (show false = true from hs) Bool.false_ne_true
  | int i =>
    obtain ⟨t, rfl⟩ := rx
    cases y with
    | non => cases ry; exact PySem.EqNone.eq_int_none (fin_bl I q (by simp))
    | int j => obtain ⟨t', rfl⟩ := ry; exact eq_int (fin_bl I q dec_int)
    | str j => obtain ⟨t', rfl⟩ := ry; exact PySem.EqMixed.eq_int_str (fin_bl I q (by simp))
    | _ => exact absurd (show false = true from hs) Bool.false_ne_true
  | str i =>
    obtain ⟨t, rfl⟩ := rx
    cases y with
    | non => cases ry; exact PySem.EqNone.eq_str_none (fin_bl I q (by simp))
    | bl j => cases ry; exact PySem.EqMixed.eq_str_bool (fin_bl I q (by simp))
    | int j => obtain ⟨t', rfl⟩ := ry; exact PySem.EqMixed.eq_str_int (fin_bl I q (by simp))
    | str j => obtain ⟨t', rfl⟩ := ry; exact eq_str (fin_bl I q dec_str)
    | _ => exact absurd (show false = true from hs) Bool.false_ne_true
  | byt i =>
    obtain ⟨t, rfl⟩ := rx
    cases y with
    | byt j => obtain ⟨t', rfl⟩ := ry; exact PySem.W.eq_bytes (fin_bl I q dec_byt)
    | _ => exact absurd (show false = true from hs) Bool.false_ne_true
  | _ => cases y <;> exact absurd (show false = true from hs) Bool.false_ne_true
theorem op_ne : OpR X (compareOp .NotEq) rNe := by
  intro pins s σ H x y v u Q I rx ry h
  obtain ⟨hs, q⟩ := h
  cases x with
  | non =>
    cases rx
    cases y with
    | non => cases ry; exact PySem.EqNone.ne_none_none (fin_bl I q (by simp))
    | bl j => cases ry; exact PySem.EqNone.ne_none_bool (fin_bl I q (by simp))
    | int j => obtain ⟨t', rfl⟩ := ry; exact PySem.EqNone.ne_none_int (fin_bl I q (by simp))
    | str j => obtain ⟨t', rfl⟩ := ry; exact PySem.EqNone.ne_none_str (fin_bl I q (by simp))
    | _ => exact absurd (show false = true from hs) Bool.false_ne_true
  | bl i =>
    cases rx
    cases y with
    | non => cases ry; exact PySem.EqNone.ne_bool_none (fin_bl I q (by simp))
    | bl j => cases ry; exact ne_bool (fin_bl I q (congrArg not dec_bl))
    | str j => obtain ⟨t', rfl⟩ := ry; exact PySem.EqMixed.ne_bool_str (fin_bl I q (by simp))
    | _ => exact absurd (show false = true from hs) Bool.false_ne_true
  | int i =>
    obtain ⟨t, rfl⟩ := rx
    cases y with
    | non => cases ry; exact PySem.EqNone.ne_int_none (fin_bl I q (by simp))
    | int j => obtain ⟨t', rfl⟩ := ry; exact ne_int (fin_bl I q (congrArg not dec_int))
    | str j => obtain ⟨t', rfl⟩ := ry; exact PySem.EqMixed.ne_int_str (fin_bl I q (by simp))
    | _ => exact absurd (show false = true from hs) Bool.false_ne_true
  | str i =>
    obtain ⟨t, rfl⟩ := rx
    cases y with
    | non => cases ry; exact PySem.EqNone.ne_str_none (fin_bl I q (by simp))
    | bl j => cases ry; exact PySem.EqMixed.ne_str_bool (fin_bl I q (by simp))
    | int j => obtain ⟨t', rfl⟩ := ry; exact PySem.EqMixed.ne_str_int (fin_bl I q (by simp))
    | str j => obtain ⟨t', rfl⟩ := ry; exact ne_str (fin_bl I q (congrArg not dec_str))
    | _ => exact absurd (show false = true from hs) Bool.false_ne_true
  | byt i =>
    obtain ⟨t, rfl⟩ := rx
    cases y with
    | byt j => obtain ⟨t', rfl⟩ := ry; exact PySem.W.ne_bytes (fin_bl I q (congrArg not dec_byt))
    | _ => exact absurd (show false = true from hs) Bool.false_ne_true
  | _ => cases y <;> exact absurd (show false = true from hs) Bool.false_ne_true

theorem op_lt : OpR X (compareOp .Lt) (rI0 fun i j => .bl (decide (i < j))) := opB0 fun _ _ _ _ _ _ _ q => lt_int q
theorem op_le : OpR X (compareOp .LtE) (rI0 fun i j => .bl (decide (i ≤ j))) := opB0 fun _ _ _ _ _ _ _ q => le_int q
theorem op_gt : OpR X (compareOp .Gt) (rI0 fun i j => .bl (decide (j < i))) := opB0 fun _ _ _ _ _ _ _ q => gt_int q
/-- is None, is not None: the right side a value none -/
theorem op_isN : OpR X (compareOp .Is) (fun x y H Q => y = .non ∧ Q (.bl (decide (x = .non))) H) := by
  intro pins s σ H x y v u Q I rx ry h
  obtain ⟨rfl, q⟩ := h
  cases ry
  refine is_none_gen (fin_bl I q ?_)
  cases x <;> first
    | (cases rx; rfl)
    | (obtain ⟨t, rfl⟩ := rx; rfl)
/-- is, is not of two objects that are tracked lists or instances -/
def isObj : HO → Bool
  | .lst _ => true
  | .ins _ _ _ => true
  | _ => false
theorem nomark (b : Expr) {op : CmpOp} (h : op ≠ .In := by decide) (h2 : op ≠ .NotIn := by decide) : behindInMarks op b = false := by
  have e1 : (op == CmpOp.In) = false := by cases op <;> first | rfl | exact absurd rfl h
  have e2 : (op == CmpOp.NotIn) = false := by cases op <;> first | rfl | exact absurd rfl h2
  cases b <;> simp [behindInMarks, e1, e2]
/-- a comparison as a value; hm: nomark b, or (for in, not in) by with_unfolding_all rfl -/
theorem pe_cmpR {op : CmpOp} {r : R2} (ho : OpR X (compareOp op) r) (ha : PE X a ta) (hb : PE X b tb) (hm : behindInMarks op b = false) : PE X (.Compare a [op] [b] pos) (tOp r ta tb) := by
  intro pins s σ H Q I h
  exact wpAny_Compare1 (binT ha hb I h fun v u s2 x y H2 I2 rx ry q => ho pins s2 σ H2 x y v u Q I2 rx ry q) hm
/-- a reading of a value as a test -/
def tTest (t : TE) : TT := fun σ H Q => t σ H fun x H' => ∃ k, x = .bl k ∧ Q k H'
theorem pt_cmpR {op : CmpOp} {r : R2} (ho : OpR X (compareOp op) r) (ha : PE X a ta) (hb : PE X b tb) (hm : behindInMarks op b = false) : PT X (.Compare a [op] [b] pos) (tTest (tOp r ta tb)) := by
  intro pins s σ H Q I h
  refine wpAny_isTrue_Compare1 (thn (ha pins s σ H _ I h) fun v s1 ⟨x, H1, I1, r1, q1⟩ => thn (hb pins s1 σ H1 _ I1 q1) fun u s2 ⟨y, H2, I2, r2, q2⟩ =>
    thn (ho pins s2 σ H2 x y v u _ I2 r1 r2 q2) fun c s3 ⟨z, H3, I3, r3, k, e, q3⟩ => ?_) hm
  subst e
  cases r3
  exact wpAny_truthy_bool ⟨H3, I3, q3⟩
/-- a op1 b op2 c -/
def tChain (r r' : R2) (ta tb tc : TE) : TE := fun σ H Q => ta σ H fun x H1 => tb σ H1 fun y H2 => r x y H2 fun z H3 => ∃ k, z = .bl k ∧
  (if k = true then tc σ H3 fun w' H4 => r' y w' H4 Q else Q (.bl false) H3)
/-! ### truth -/
/-- a value's truth by the abstract heap -/
def TruV (K : PySem.W.Frag) (x : V) (H : Hp) (k : Bool) : Prop :=
  match x with
  | .non => k = false
  | .bl b => k = b
  | .int i => k = (i != 0)
  | .str y => y.length ≤ sizeLine ∧ k = ((y.length : Int) != 0)
  | .byt y => y.size ≤ sizeLine ∧ k = ((y.size : Int) != 0)
  | .ref p => (∃ xs, SqL K H p xs ∧ k = !xs.isEmpty) ∨ (∃ xs, SqT K H p xs ∧ k = !xs.isEmpty) ∨ ∃ kvs, H p = some (.dK kvs) ∧ k = !kvs.isEmpty
  | _ => False
theorem line63 : (sizeLine : Nat) < 2 ^ 63 := by rw [sizeLine_eq]; decide
/-! ### strs and bytes -/
def PlainIxT (b : Expr) : Prop := ∀ o i, subscripted b false o i = operate [o, i] (getItem o i)
/-! ### scalar builtins, by CallR -/
theorem vals1 {x : V} {us : List Value} (r : Vals [x] us) : ∃ u, us = [u] ∧ RelV x u := by
  cases r with
  | cons r1 r2 => cases r2; exact ⟨_, rfl, r1⟩
theorem vals2 {x y : V} {us : List Value} (r : Vals [x, y] us) : ∃ u w', us = [u, w'] ∧ RelV x u ∧ RelV y w' := by
  cases r with
  | cons r1 r2 =>
    cases r2 with
    | cons r3 r4 => cases r4; exact ⟨_, _, rfl, r1, r3⟩
theorem call_abs : CallR X (.builtin "abs") (fun xs H Q => ∃ i, xs = [.int i] ∧ Q (.int (if i < 0 then -i else i)) H) := by
  intro pins s σ H xs us Q I r h
  obtain ⟨i, rfl, q⟩ := h
  obtain ⟨u, rfl, t, rfl⟩ := vals1 r
  exact call_abs_int fun u tk => ⟨.int (if i < 0 then -i else i), H, I.tok _, ⟨_, rfl⟩, q⟩
theorem call_max2 (hc : X.calm = true) : CallR X (.builtin "max") (fun xs H Q => ∃ i j, xs = [.int i, .int j] ∧ Q (.int (if j > i then j else i)) H) := by
  intro pins s σ H xs us Q I r h
  obtain ⟨i, j, rfl, q⟩ := h
  obtain ⟨u, w', rfl, ⟨t, rfl⟩, ⟨t', rfl⟩⟩ := vals2 r
  refine max_two_ints (I.ok.hd hc) fun h' tk k => ⟨_, H, I.kept k, ?_, q⟩
  by_cases hj : j > i
  · rw [if_pos hj, if_pos hj]; exact ⟨_, rfl⟩
  · rw [if_neg hj, if_neg hj]; exact ⟨_, rfl⟩
theorem call_min2 (hc : X.calm = true) : CallR X (.builtin "min") (fun xs H Q => ∃ i j, xs = [.int i, .int j] ∧ Q (.int (if j < i then j else i)) H) := by
  intro pins s σ H xs us Q I r h
  obtain ⟨i, j, rfl, q⟩ := h
  obtain ⟨u, w', rfl, ⟨t, rfl⟩, ⟨t', rfl⟩⟩ := vals2 r
  refine min_two_ints (I.ok.hd hc) fun h' tk k => ⟨_, H, I.kept k, ?_, q⟩
  by_cases hj : j < i
  · rw [if_pos hj, if_pos hj]; exact ⟨_, rfl⟩
  · rw [if_neg hj, if_neg hj]; exact ⟨_, rfl⟩
theorem call_int1 : CallR X (.type "int") (fun xs H Q => (∃ i, xs = [.int i] ∧ Q (.int i) H) ∨ ∃ k, xs = [.bl k] ∧ Q (.int (if k then 1 else 0)) H) := by
  intro pins s σ H xs us Q I r h
  rcases h with ⟨i, rfl, q⟩ | ⟨k, rfl, q⟩
  · obtain ⟨u, rfl, t, rfl⟩ := vals1 r
    exact call_int_int ⟨.int i, H, I, ⟨_, rfl⟩, q⟩
  · obtain ⟨u, rfl, r1⟩ := vals1 r
    cases r1
    exact call_int_bool ⟨.int (if k then 1 else 0), H, I.tok _, ⟨_, rfl⟩, q⟩
/-- len of a str, a bytes, a list, a tuple -/
def LenV (K : PySem.W.Frag) (x : V) (H : Hp) (n : Nat) : Prop :=
  match x with
  | .str y => y.length ≤ sizeLine ∧ n = y.length
  | .byt y => y.size ≤ sizeLine ∧ n = y.size
  | .ref p => (∃ xs, SqL K H p xs ∧ n = xs.length) ∨ ∃ xs, SqT K H p xs ∧ n = xs.length
  | _ => False
end
end L2

namespace L2
open PySem PySem.Spec PyProof.Rows

/-! ### an instance, its attributes a map -/
structure ObjM (h : Heap) (x dx C : Addr) (mA : Str → Option Value) : Prop where
  obj : h.get? x = some (PySem.W.instObj C dx)
  ns : h.Ns1 dx mA
  ne : dx ≠ x

theorem lookIn_ns {h : Heap} {dx : Addr} {mA : Str → Option Value} (n : h.Ns1 dx mA) : ∃ od, h.get? dx = some od ∧ ∀ name, PySem.W.lookIn name od = some (mA name) := by
  obtain ⟨o, es, ep, ho, hd, hk, _, hm⟩ := n
  refine ⟨o, ho, fun name => ?_⟩
  have e := hm name
  unfold nsFind findBy at e
  rw [← Array.find?_toList] at e
  unfold PySem.W.lookIn
  rw [hd]
  dsimp only
  split
  · rename_i y q
    rw [q] at e
    exact congrArg some e
  · rename_i q
    rw [q] at e
    have a : es.toList.any (·.refKey) = false := by
      rw [List.any_eq_false]
      intro y hy
      obtain ⟨z, t, hkey⟩ := hk y (Array.mem_toList_iff.mp hy)
      simp [DictEntry.refKey, hkey]
    have a' : ¬ es.toList.any (·.refKey) = true := by rw [a]; exact Bool.false_ne_true
    rw [if_neg a']
    exact congrArg some e

theorem ObjM.look {h : Heap} {x dx C : Addr} {mA : Str → Option Value} (I : ObjM h x dx C mA) : ∃ od, PySem.W.InstAt h x (PySem.W.instObj C dx) C (some od) ∧ ∀ name, PySem.W.lookIn name od = some (mA name) :=
  let ⟨od, ho, hl⟩ := lookIn_ns I.ns
  ⟨od, ⟨I.obj, rfl, rfl, ho⟩, hl⟩

section
variable {prog : Program} {w : World} {A : Around} {E : Value → Shared → Prop} {s : Shared} {K : PySem.W.Frag} {x dx C f : Addr} {mA : Str → Option Value} {name : Str} {v : Value}

end

/-! ### the attributes as a list of pairs -/
def putF (f : Str) (v : V) : List (Str × V) → List (Str × V)
  | [] => [(f, v)]
  | (g, x) :: r => if g = f then (g, v) :: r else (g, x) :: putF f v r
section
variable {P : Program} {w : World} {H H' : Hp} {h h' : Heap} {a C dx : Addr} {fs fs' : List (Str × V)}
theorem ins_get (hok : HOk P w H h) (e : H a = some (.ins C dx fs)) : ∃ mA, ObjM h a dx C mA ∧ (∀ f, RelO (fs.lookup f) (mA f)) ∧ PySem.Within mA (fs.map (·.1)) ∧ fs.length ≤ 1000 ∧ H dx = some (.own a) := by
  obtain ⟨d, z, ne, ob, mA, n, r, q⟩ := (show ObjOk P w H h a (.ins C dx fs) from hok a _ e)
  exact ⟨mA, ⟨ob, n, ne⟩, r, q, z, d⟩
end

/-! ### what of the text a class must have -/
structure Cls (K : PySem.W.Frag) (C : Addr) : Prop where
  pg : PySem.W.plainGet K C Str.empty = true
  hd : PySem.W.hasDictIn K C = true
  po : PySem.W.plainOver K C = true
  sa : PySem.W.findIn K (.ref C) "__setattr__" = some (some (.builtin "object.__setattr__"))
theorem Cls.get {K : PySem.W.Frag} {C : Addr} (c : Cls K C) (f : Str) : PySem.W.plainGet K C f = true := c.pg
/-- no class of it has the name -/
def NoAttr (K : PySem.W.Frag) (C : Addr) (f : Str) : Prop := PySem.W.findIn K (.ref C) f = some none
/-- a constant of the class -/
structure Con (K : PySem.W.Frag) (C : Addr) (f : Str) (v : V) (u : Value) : Prop where
  at_ : PySem.W.findIn K (.ref C) f = some (some u)
  rel : RelV v u
  get : PySem.W.specialIn K u "__get__" = some none
  cp : PySem.W.copiedNames.contains f = false
/-- a method: a plain def of the class or of one above it -/
structure Meth (K : PySem.W.Frag) (C : Addr) (m : Str) (f : Addr) : Prop where
  at_ : PySem.W.findIn K (.ref C) m = some (some (.ref f))
  fn : PySem.W.isFn K (.ref f) = true
  kp : PySem.W.keepIn K (.ref f) = true

section
variable {X : Cx} {pins : List (Addr × Obj)} {σ : St} {H : Hp} {s : Shared} {a C dx : Addr} {fs : List (Str × V)} {f : Str} {v : V} {A : Around} {E : Value → Shared → Prop}

end

/-! ### readings and rules -/
/-- e.f, an attribute of the instance -/
def tFld (K : PySem.W.Frag) (ta : TE) (f : Str) : TE := fun σ H Q => ta σ H fun x H1 => ∃ a C dx fs v, x = .ref a ∧ H1 a = some (.ins C dx fs) ∧ Cls K C ∧ NoAttr K C f ∧ fs.lookup f = some v ∧ Q v H1
/-- e.f, a constant of the class -/
def tCon (K : PySem.W.Frag) (ta : TE) (f : Str) : TE := fun σ H Q => ta σ H fun x H1 => ∃ a C dx fs v u, x = .ref a ∧ H1 a = some (.ins C dx fs) ∧ Cls K C ∧ Con K C f v u ∧ fs.lookup f = none ∧ Q v H1
/-- e.f = value -/
def sFld (K : PySem.W.Frag) (ta tv : TE) (f : Str) : TS := fun D σ H => tv σ H fun y H1 => ta σ H1 fun x H2 => ∃ a C dx fs, x = .ref a ∧ H2 a = some (.ins C dx fs) ∧ Cls K C ∧ NoAttr K C f ∧ fs.length < 1000 ∧
  D.nx σ (upd H2 a (.ins C dx (putF f y fs)))
/-- an augmented operator on two values -/
def InOp (X : Cx) (op : Operator) (rd : V → V → Hp → VK → Prop) : Prop :=
  ∀ (pins : List (Addr × Obj)) (s : Shared) (σ : St) (H : Hp) (x y : V) (u v : Value) (Q : VK), Inv X pins σ H s → RelV x u → RelV y v → rd x y H Q → wpAny (model X.prog X.w) X.A (inplaceOp op u v) (EP X pins σ Q) X.xe s
/-- e.f op= value -/
def sFldAug (K : PySem.W.Frag) (ta tv : TE) (rd : V → V → Hp → VK → Prop) (f : Str) : TS := fun D σ H => ta σ H fun x H1 => ∃ a C dx fs v, x = .ref a ∧ H1 a = some (.ins C dx fs) ∧ Cls K C ∧ NoAttr K C f ∧ fs.lookup f = some v ∧
  tv σ H1 fun y H2 => rd v y H2 fun z H3 => ∃ dx' fs', H3 a = some (.ins C dx' fs') ∧ fs'.length < 1000 ∧ D.nx σ (upd H3 a (.ins C dx' (putF f z fs')))

section
variable {X : Cx} {o e value : Expr} {f : Str} {pos pos' tpos : Pos} {ta tv : TE}
def rAdd : V → V → Hp → VK → Prop := fun x y H Q => ∃ i j, x = .int i ∧ y = .int j ∧ Q (.int (i + j)) H
def rSub : V → V → Hp → VK → Prop := fun x y H Q => ∃ i j, x = .int i ∧ y = .int j ∧ Q (.int (i - j)) H
end

/-! ### isinstance -/
section
variable {X : Cx} {pins : List (Addr × Obj)} {σ : St} {H : Hp} {s : Shared} {A : Around} {E : Value → Shared → Prop} {Q : Value → Shared → Prop} {c : Value} {b : Bool}
/-- the type of a value, as the fragment's deciders take it; for an instance its class -/
inductive TyOf (K : PySem.W.Frag) (H : Hp) : V → Value → Prop where
  | non : TyOf K H .non (.type "NoneType")
  | bl (x : Bool) : TyOf K H (.bl x) (.type "bool")
  | int (i : Int) : TyOf K H (.int i) (.type "int")
  | str (x : Str) : TyOf K H (.str x) (.type "str")
  | flt (x : UInt64) : TyOf K H (.flt x) (.type "float")
  | lst {a : Addr} {xs : List V} (e : H a = some (.lst xs)) : TyOf K H (.ref a) (.type "list")
  | frz {a : Addr} {o : Obj} {xs : List V} (e : H a = some (.frz o (.lst xs))) : TyOf K H (.ref a) (.type "list")
  | tup {a : Addr} {xs : List V} (e : H a = some (.tup xs)) : TyOf K H (.ref a) (.type "tuple")
  | dK {a : Addr} {kvs : List (Key × V)} (e : H a = some (.dK kvs)) : TyOf K H (.ref a) (.type "dict")
  | dT {a : Addr} {kvs : List (List Key × V)} (e : H a = some (.dT kvs)) : TyOf K H (.ref a) (.type "dict")
  | ins {a C dx : Addr} {fs : List (Str × V)} (e : H a = some (.ins C dx fs)) (cl : Cls K C) (ha : PySem.W.findIn K (.ref C) "__class__" = some (some (.builtin "object.__class__")))
      (hn : PySem.W.specialIn K (.builtin "object.__class__") "__get__" = some (some (.builtin "getset_descriptor.__get__"))) (htk : PySem.W.takesIn K (.builtin "object.__class__") = some true)
      (hm : PySem.W.mroIn K C (.type "object") = some true) : TyOf K H (.ref a) (.ref C)
/-- isinstance(x, c) for one class c, a built-in or an own one: kitOne's answer -/
theorem isinst_ok {x : V} {u t : Value} (I : Inv X pins σ H s) (rx : RelV x u) (ty : TyOf X.K H x t) (e : PySem.W.kitOne X.K t c = some b) (h : ∀ tk, Q (.bool b) { s with toks := tk }) :
    wpAny (model X.prog X.w) A (call (.builtin "isinstance") [u, c]) Q E s := by
  cases ty with
  | non => cases (show u = Value.none from rx); exact PySem.W.kia_one PySem.W.kitx_none I.kIn True.intro e (fun z => nomatch z) h
  | bl y => cases (show u = Value.bool y from rx); exact PySem.W.kia_one PySem.W.kitx_bool I.kIn True.intro e (fun z => nomatch z) h
  | int i => obtain ⟨t, q⟩ := (show ∃ t, u = Value.int i t from rx); cases q; exact PySem.W.kia_one PySem.W.kitx_int I.kIn True.intro e (fun z => nomatch z) h
  | str y => obtain ⟨t, q⟩ := (show ∃ t, u = Value.str y t from rx); cases q; exact PySem.W.kia_one PySem.W.kitx_str I.kIn True.intro e (fun z => nomatch z) h
  | flt y => obtain ⟨t, q⟩ := (show ∃ t, u = Value.float y t from rx); cases q; exact PySem.W.kia_one PySem.W.kitx_float I.kIn True.intro e (fun z => nomatch z) h
  | @lst a xs ea =>
    cases (show u = Value.ref a from rx)
    obtain ⟨_, _, n, _, h1⟩ := (show ObjOk X.prog X.w H s.heap a (.lst xs) from I.hok a _ ea)
    exact PySem.W.kia_one PySem.W.kitx_list I.kIn ⟨_, h1, rfl⟩ e (fun z => nomatch z) h
  | @frz a ob xs ea =>
    cases (show u = Value.ref a from rx)
    obtain ⟨_, _, _, n, _, h1⟩ := (show ObjOk X.prog X.w H s.heap a (.frz ob (.lst xs)) from I.hok a _ ea)
    exact PySem.W.kia_one PySem.W.kitx_list I.kIn ⟨_, h1, rfl⟩ e (fun z => nomatch z) h
  | @tup a xs ea =>
    cases (show u = Value.ref a from rx)
    obtain ⟨_, _, _, p⟩ := (show ObjOk X.prog X.w H s.heap a (.tup xs) from I.hok a _ ea)
    obtain ⟨o, h1, h2, _⟩ := p
    exact PySem.W.kia_one PySem.W.kitx_tuple I.kIn ⟨o, h1, h2⟩ e (fun z => nomatch z) h
  | @dK a kvs ea =>
    cases (show u = Value.ref a from rx)
    obtain ⟨_, _, vs, _, p⟩ := (show ObjOk X.prog X.w H s.heap a (.dK kvs) from I.hok a _ ea)
    obtain ⟨o, es, ep, h1, h2, _⟩ := p
    exact PySem.W.kia_one PySem.W.kitx_dict I.kIn ⟨o, h1, h2.1⟩ e (fun z => nomatch z) h
  | @dT a kvs ea =>
    cases (show u = Value.ref a from rx)
    obtain ⟨_, _, xs, _, o, es, ep, h1, h2, _⟩ := (show ObjOk X.prog X.w H s.heap a (.dT kvs) from I.hok a _ ea)
    exact PySem.W.kia_one PySem.W.kitx_dict I.kIn ⟨o, h1, h2.1⟩ e (fun z => nomatch z) h
  | @ins a C dx fs ea cl ha hn htk hm =>
    cases (show u = Value.ref a from rx)
    obtain ⟨mA, O, _⟩ := ins_get I.hok ea
    obtain ⟨od, J, _⟩ := O.look
    exact PySem.W.kia_one (PySem.W.kitx_own (cl.get _) cl.hd ha hn htk hm) I.kIn J e (fun z => nomatch z) h
end
end L2

namespace L2
open PySem PySem.Spec PyProof.Rows

/-! ### room -/
structure Room (k : Nat) (A : Around) : Prop where
  hd : A.handled = none
  dp : A.depth + 3 * k + 5 < recursionLimit
  un : A.units + 16 * k + 200 < cLine
theorem Room.mono {j k : Nat} {A : Around} (r : Room k A) (h : j ≤ k) : Room j A := ⟨r.hd, by have := r.dp; omega, by have := r.un; omega⟩
theorem Room.deeper {k : Nat} {A : Around} (r : Room (k + 1) A) (env : Env) : Room k (A.deeper env) :=
  ⟨r.hd, by have := r.dp; show A.depth + 1 + 3 * k + 5 < _; omega, by have := r.un; show A.units + 3 + 16 * k + 200 < _; omega⟩
theorem Room.depth {k : Nat} {A : Around} (r : Room k A) : A.depth < recursionLimit := by have := r.dp; omega
theorem Room.units {k : Nat} {A : Around} (r : Room k A) : A.units + 64 < cLine := by have := r.un; omega
/-! ### argument lists and displays -/
def tNil : TA := fun _ H Q => Q [] H
def tCons (ta : TE) (tr : TA) : TA := fun σ H Q => ta σ H fun x H1 => tr σ H1 fun xs H2 => Q (x :: xs) H2
section
variable {X : Cx} {e : Expr} {es : List Expr} {te : TE} {t : TA} {pos : Pos}
theorem pa_nil : PA X [] tNil := fun _ _ _ _ H Q I h => Calls.spliced_nil ⟨[], H, I, .nil, h⟩
theorem pa_cons (ha : PE X e te) (hr : PA X es t) (hs : starEach (e :: es) X.env = (false, eval e X.env) :: starEach es X.env := by rfl) : PA X (e :: es) (tCons te t) := by
  intro pos pins s σ H Q I h
  rw [hs]
  show wpAny _ _ (spliced ((false, eval e X.env) :: backTo pos (starEach es X.env))) _ _ s
  refine Calls.spliced_cons (thn (ha pins s σ H _ I h) fun u s1 ⟨x, H1, I1, r1, q1⟩ => ?_)
  exact thn (hr pos pins s1 σ H1 _ I1 q1) fun us s2 ⟨xs, H2, I2, r2, q2⟩ => ⟨x :: xs, H2, I2, .cons r1 r2, q2⟩

/-- a tuple, a list of written items -/
def tTup (t : TA) : TE := fun σ H Q => t σ H fun xs H1 => xs.length ≤ sizeLine ∧ ∀ p, H1 p = none → Q (.ref p) (upd H1 p (.tup xs))
def tLst (t : TA) : TE := fun σ H Q => t σ H fun xs H1 => xs.length ≤ sizeLine ∧ ∀ p, H1 p = none → Q (.ref p) (upd H1 p (.lst xs))
theorem pe_tup {x1} (h : PA X es t) : PE X (.Tuple es x1 pos) (tTup t) := by
  intro pins s σ H Q I hq
  refine wpAny_Tuple_spliced (thn (h pos pins s σ H _ I hq) fun us s1 ⟨xs, H1, I1, r, z, q⟩ => ⟨by rw [← r.length]; exact z, ?_⟩)
  have hf : H1 s1.heap.objs.size = none := I1.hok.fresh (Nat.le_refl _)
  refine ⟨.ref s1.heap.objs.size, upd H1 s1.heap.objs.size (.tup xs), I1.laid (t' := s1.toks) (fun b u e => Heap.get?_push_of_some _ e) (Nat.le_refl _) ?_, rfl, q _ hf⟩
  exact ⟨z, us, r, ⟨_, Heap.get?_push_size _ rfl, rfl, _, rfl⟩⟩
theorem pe_lst (h : PA X es t) : PE X (.List es pos) (tLst t) := by
  intro pins s σ H Q I hq
  refine wpAny_List_spliced (thn (h pos pins s σ H _ I hq) fun us s1 ⟨xs, H1, I1, r, z, q⟩ => ⟨by rw [← r.length]; exact z, ?_⟩)
  have hf : H1 s1.heap.objs.size = none := I1.hok.fresh (Nat.le_refl _)
  refine ⟨.ref s1.heap.objs.size, upd H1 s1.heap.objs.size (.lst xs), I1.laid (t' := s1.toks) (fun b u e => Heap.get?_push_of_some _ e) (Nat.le_refl _) ?_, rfl, q _ hf⟩
  exact ⟨z, us, 0, r, Heap.get?_push_size _ rfl⟩
end

/-! ### what a def promises -/
/-- a def's promise: the bound arguments in the parameters' order, the heap, the wanted end, the wanted exception -/
abbrev Sp := List V → Hp → VK → XK → Prop
/-- how an exception lies behind a call (file 08 gives it): the callers' frames, abstract heap and state ahead of the call, the wish, the exception, the state -/
abbrev CXT := List Env → Hp → Shared → XK → Value → Shared → Prop

/-- the state at a call -/
structure Env0 (P : Program) (w : World) (K : PySem.W.Frag) (mg : Str → Option Value) (base : Heap) (A : Around) (outer : List Env) (s : Shared) (H : Hp) : Prop where
  frames : A.frames = some outer
  mod : Mod K mg base
  bs : ∀ b o, base.get? b = some o → s.heap.get? b = some o ∧ H b = none
  bsz : base.objs.size ≤ s.heap.objs.size
  funs : s.heap.FunFrames base outer
  frf : ∀ b ∈ frs outer, H b = none
  hok : HOk P w H s.heap
  bare : AllBare s.gens
/-- a call's end -/
def CE (outer : List Env) (P : Program) (w : World) (H : Hp) (s : Shared) (Q : VK) (u : Value) (s' : Shared) : Prop :=
  ∃ v H', s'.os = s.os ∧ AllBare s'.gens ∧ Un (frs outer) [] H H' s.heap s'.heap ∧ HOk P w H' s'.heap ∧ RelV v u ∧ Q v H'
def CR (CX : CXT) (outer : List Env) (P : Program) (w : World) (H : Hp) (s : Shared) (Q : VK) (E : XK) (r : Result) (s' : Shared) : Prop :=
  match r with
  | .ok (.ret u) => CE outer P w H s Q u s'
  | .ok _ => False
  | .error e => CX outer H s E e s'
structure FnOk (P : Program) (w : World) (K : PySem.W.Frag) (mg : Str → Option Value) (base : Heap) (CX : CXT) (k : Nat) (f : Addr) (fd : FuncData) (ps : List Str) (sp : Sp) : Prop where
  len : ∀ vs H Q E, sp vs H Q E → vs.length = ps.length
  run : ∀ (A : Around) (outer : List Env) (s : Shared) (H : Hp) (args : Args) (us : List Value) (vs : List V) (Q : VK) (E : XK), Room k A → Env0 P w K mg base A outer s H → BindsTo s fd args (ps.zip us) → Vals vs us → sp vs H Q E →
    codeAny (model P w) A (.call (.ref f) args) (CR CX outer P w H s Q E) s
section
variable {X : Cx} {pins : List (Addr × Obj)} {σ : St} {H : Hp} {s s' : Shared}
/-- from a body: what a callee wants -/
theorem Inv.env0 (I : Inv X pins σ H s) : Env0 X.prog X.w X.K X.mg X.base X.A X.stack s H :=
  ⟨I.ok.frames, I.ok.mod, I.bs, Nat.le_trans I.ok.bsz I.sz, I.stack, I.stkFree, I.hok, I.bare⟩
/-- behind a call -/
theorem Inv.after {Q : VK} {u : Value} (I : Inv X pins σ H s) (h : CE X.stack X.prog X.w H s Q u s') : EP X pins σ Q u s' := by
  obtain ⟨v, H', os, bare, un, hok, r, q⟩ := h
  obtain ⟨hh, g, d, t, os'⟩ := s'
  obtain rfl : os' = s.os := os
  exact ⟨v, H', I.call (h' := hh) (g' := g) (d' := d) (t' := t) (ch := []) un hok bare (fun b z => absurd z (by simp)), r, q⟩
end

/-! ### calls -/
/-- f(..): the written arguments, then the defaults dvs; E: what is wanted of an exception -/
def tCall (sp : Sp) (dvs : List V) (E : XK) (t : TA) : TE := fun σ H Q => t σ H fun vs H1 => sp (vs ++ dvs) H1 Q E
/-- o.m(..) of an instance of the class at C -/
def tMeth (C : Addr) (m : Str) (sp : Sp) (dvs : List V) (E : XK) (ta : TE) (t : TA) : TE := fun σ H Q => ta σ H fun x H1 => ∃ a dx fs, x = .ref a ∧ H1 a = some (.ins C dx fs) ∧ fs.lookup m = none ∧
  t σ H1 fun vs H2 => sp (x :: (vs ++ dvs)) H2 Q E
/-- C(..): a new instance and its dict, then __init__ -/
def tMake (C : Addr) (sp : Sp) (dvs : List V) (E : XK) (t : TA) : TE := fun σ H Q => t σ H fun vs H1 => ∀ x dx, H1 x = none → H1 dx = none → dx ≠ x →
  sp (.ref x :: (vs ++ dvs)) (upd (upd H1 dx (.own x)) x (.ins C dx [])) (fun v H2 => v = .non ∧ Q (.ref x) H2) E

/-- how the parameters are bound: us the positional arguments, kw the keywords' values by name, ds the defaults that fill up -/
def Binds (K : PySem.W.Frag) (fd : FuncData) (ps : List Str) (ds : List Value) : Prop :=
  ∀ (s : Shared) (us : List Value), K.In s.heap → (us ++ ds).length = ps.length → BindsTo s fd ⟨us, []⟩ (ps.zip (us ++ ds))
/-- every parameter is given -/
theorem Binds.all {K : PySem.W.Frag} {fd : FuncData} {ps : List Str} (h : ∀ us : List Value, us.length = ps.length → bindArgs fd ⟨us, []⟩ = pure (ps.zip us)) : Binds K fd ps [] := fun s us _ hl => by
  rw [List.append_nil] at hl ⊢
  exact .of_eq (h us hl)

/-- an exception of a callee reaches what this body wants of exceptions -/
def Passes (CX : CXT) (X : Cx) (E : XK) : Prop := ∀ (pins : List (Addr × Obj)) (σ : St) (H : Hp) (s : Shared) (e : Value) (s' : Shared), Inv X pins σ H s → CX X.stack H s E e s' → X.xe e s'

section
variable {X : Cx} {CX : CXT} {k : Nat} {f C : Addr} {fd : FuncData} {ps : List Str} {sp : Sp} {dvs : List V} {ds : List Value} {E : XK} {x m : Str} {p pos apos : Pos} {e o : Expr} {es : List Expr} {ta : TE} {t : TA}

/-- the callee runs -/
theorem run_fn {pins : List (Addr × Obj)} {σ : St} {H : Hp} {s : Shared} {Q : VK} {us : List Value} {vs : List V} (F : FnOk X.prog X.w X.K X.mg X.base CX k f fd ps sp) (hr : Room k X.A) (hb : Binds X.K fd ps ds) (hd : Vals dvs ds) (hx : Passes CX X E)
    (I : Inv X pins σ H s) (r : Vals vs us) (h : sp (vs ++ dvs) H Q E) : wpAny (model X.prog X.w) X.A (call (.ref f) us) (EP X pins σ Q) X.xe s := by
  have r2 : Vals (vs ++ dvs) (us ++ ds) := r.append hd
  have hl : (us ++ ds).length = ps.length := by rw [← r2.length]; exact F.len _ _ _ _ h
  refine wpAny_call (codeAny_mono (F.run X.A X.stack s H ⟨us, []⟩ (us ++ ds) (vs ++ dvs) Q E hr I.env0 (hb s us I.kIn hl) r2 h) fun r s' hq => ?_)
  cases r with
  | error e => exact hx pins σ H s e s' I hq
  | ok fl =>
    cases fl with
    | ret u => exact I.after hq
    | next => exact False.elim hq
    | brk => exact False.elim hq
    | cont => exact False.elim hq

theorem pe_call (F : FnOk X.prog X.w X.K X.mg X.base CX k f fd ps sp) (hr : Room k X.A) (hg : Gl X x) (hm : X.mg x = some (.ref f)) (hk : PySem.W.keepIn X.K (.ref f) = true) (hb : Binds X.K fd ps ds) (hd : Vals dvs ds) (hx : Passes CX X E)
    (ha : PA X (e :: es) t) (hdb : (x == ("__debug__" : Str)) = false := by decide) (he : starEach (e :: es) X.env = (false, eval e X.env) :: starEach es X.env := by rfl) (hpl : (backTo pos (starEach es X.env)).any (·.1) = false := by rfl) :
    PE X (.Call (.Name x p) (e :: es) [] pos) (tCall sp dvs E t) := by
  intro pins s σ H Q I h
  refine wpAny_Call_Name_kw (ld_glob I hg hm ?_ hdb)
  refine PySem.W.callWith_K (h₀ := X.base) I.ok.mod.kin hk (thn (ha pos pins s σ H _ I h) fun us s1 ⟨vs, H1, I1, r, q⟩ => ⟨I1.kIn, ?_⟩) he hpl
  exact run_fn F hr hb hd hx I1 r q
/-- what a class must have to be made -/
structure Mk (K : PySem.W.Frag) (C f : Addr) : Prop where
  makes : PySem.W.makesIn K C = true
  init : PySem.W.findIn K (.ref C) "__init__" = some (some (.ref f))
  fn : PySem.W.isFn K (.ref f) = true
  kp : PySem.W.keepIn K (.ref C) = true

end

/-! ### keywords -/
/-- the values of the keywords, from the left -/
def PK (X : Cx) (kws : List Keyword) (t : TA) : Prop :=
  ∀ (pos : Pos) (pins : List (Addr × Obj)) (s : Shared) (σ : St) (H : Hp) (Q : List V → Hp → Prop), Inv X pins σ H s → t σ H Q → wpAny (model X.prog X.w) X.A (evalAll ((backToKw pos (keywordEach kws X.env)).map (·.2))) (AP X pins σ Q) X.xe s
section
variable {X : Cx} {CX : CXT} {k : Nat} {f C : Addr} {fd : FuncData} {ps ks : List Str} {sp : Sp} {E : XK} {x m : Str} {p pos apos kpos : Pos} {e o : Expr} {es : List Expr} {kws : List Keyword} {te ta : TE} {t tk : TA} {nm : Option Str}
/-- how a call with keywords binds: g puts the positional values us and the keywords' values ws (names ks) in the parameters' order, defaults among them -/
structure KBinds (K : PySem.W.Frag) (fd : FuncData) (ps ks : List Str) (g : List Value → List Value → List Value) (gV : List V → List V → List V) : Prop where
  to : ∀ (s : Shared) (us ws : List Value), K.In s.heap → (g us ws).length = ps.length → BindsTo s fd ⟨us, ks.zip ws⟩ (ps.zip (g us ws))
  rel : ∀ {vs : List V} {us : List Value} {zs : List V} {ws : List Value}, Vals vs us → Vals zs ws → Vals (gV vs zs) (g us ws)
def tCallK (sp : Sp) (gV : List V → List V → List V) (E : XK) (t tk : TA) : TE := fun σ H Q => t σ H fun vs H1 => tk σ H1 fun zs H2 => sp (gV vs zs) H2 Q E
variable {g : List Value → List Value → List Value} {gV : List V → List V → List V}
end

/-! ### a def's body keeps its promise -/
/-- names: the parameters first -/
structure FnScope (N P : List Str) (sc : Scope) : Prop where
  kind : sc.kind = .function
  co : sc.isCoroutine = false
  gen : sc.isGenerator = false
  nd : N.Nodup
  pre : N.take P.length = P
  par : ∀ x ∈ P, sc.names.lookup x = some .local ∨ sc.names.lookup x = some .cell
  nofree : ∀ y ∈ sc.names, y.2 ≠ .free

theorem bindL_out {kindOf : Str → Option NameKind} {x : Str} : ∀ {binds : List (Str × Value)} {m : Str → Option Value}, (∀ v, (x, v) ∉ binds) → bindL kindOf binds m x = m x
  | [], _, _ => rfl
  | (n, v) :: r, m, h => by
    unfold bindL
    rw [bindL_out fun w hw => h w (List.mem_cons_of_mem _ hw)]
    split
    · have : x ≠ n := by rintro rfl; exact h v List.mem_cons_self
      simp [this]
    · rfl
theorem bindC_out {kindOf : Str → Option NameKind} {x : Str} : ∀ {binds : List (Str × Value)} {m : Str → Option Value}, (∀ v, (x, v) ∉ binds) → bindC kindOf binds m x = m x
  | [], _, _ => rfl
  | (n, v) :: r, m, h => by
    unfold bindC
    rw [bindC_out fun w hw => h w (List.mem_cons_of_mem _ hw)]
    split
    · rfl
    · have : x ≠ n := by rintro rfl; exact h v List.mem_cons_self
      simp [this]
theorem bindL_get {kindOf : Str → Option NameKind} {x : Str} {v : Value} : ∀ {P : List Str} {vs : List Value} {i : Nat} {m : Str → Option Value}, P.Nodup → P[i]? = some x → vs[i]? = some v → kindOf x = some .local →
    bindL kindOf (P.zip vs) m x = some v
  | [], _, _, _, _, h, _, _ => by simp at h
  | _ :: _, [], _, _, _, _, h, _ => by simp at h
  | p :: P, w :: vs, 0, m, nd, h1, h2, hk => by
    simp at h1 h2; subst h1; subst h2
    show bindL kindOf ((p, w) :: P.zip vs) m p = _
    unfold bindL
    rw [bindL_out fun v hv => (List.nodup_cons.mp nd).1 (List.of_mem_zip hv).1, if_pos hk]
    simp
  | p :: P, w :: vs, i + 1, m, nd, h1, h2, hk => by
    show bindL kindOf ((p, w) :: P.zip vs) m x = _
    unfold bindL
    exact bindL_get (i := i) (List.nodup_cons.mp nd).2 (by simpa using h1) (by simpa using h2) hk
theorem bindC_get {kindOf : Str → Option NameKind} {x : Str} {v : Value} : ∀ {P : List Str} {vs : List Value} {i : Nat} {m : Str → Option Value}, P.Nodup → P[i]? = some x → vs[i]? = some v → kindOf x ≠ some .local →
    bindC kindOf (P.zip vs) m x = some v
  | [], _, _, _, _, h, _, _ => by simp at h
  | _ :: _, [], _, _, _, _, h, _ => by simp at h
  | p :: P, w :: vs, 0, m, nd, h1, h2, hk => by
    simp at h1 h2; subst h1; subst h2
    show bindC kindOf ((p, w) :: P.zip vs) m p = _
    unfold bindC
    rw [bindC_out fun v hv => (List.nodup_cons.mp nd).1 (List.of_mem_zip hv).1, if_neg hk]
    simp
  | p :: P, w :: vs, i + 1, m, nd, h1, h2, hk => by
    show bindC kindOf ((p, w) :: P.zip vs) m x = _
    unfold bindC
    exact bindC_get (i := i) (List.nodup_cons.mp nd).2 (by simpa using h1) (by simpa using h2) hk

/-- the names' values at the entry -/
def start (N : List Str) (vs : List V) : St := vs.map some ++ List.replicate (N.length - vs.length) none

/-- the context of a def's body, at its entry; an exception leaves the frame, then lies as CX says -/
def cxOf (CX : CXT) (P : Program) (w : World) (K : PySem.W.Frag) (mg : Str → Option Value) (base : Heap) (N : List Str) (qual : Str) (scope : Scope) (f : Addr) (cd : Value) (A : Around) (outer : List Env) (s : Shared) (H : Hp) (E : XK) : Cx where
  prog := P
  w := w
  K := K
  mg := mg
  base := base
  A := A.deeper (envOfC qual scope s.heap.objs.size f cd)
  N := N
  s₀ := s
  H₀ := H
  env := envOfC qual scope s.heap.objs.size f cd
  outer := outer
  stack := envOfC qual scope s.heap.objs.size f cd :: outer
  ex := []
  calm := true
  fn := fun _ => true
  pn := []
  xe := fun e s' => wpAny (model P w) (A.deeper (envOfC qual scope s.heap.objs.size f cd)) (leaving (envOfC qual scope s.heap.objs.size f cd) e) (fun _ s'' => CX outer H s E e s'') (fun e' s'' => CX outer H s E e' s'') s'

theorem cell_has {sc : Scope} {n : Nat} {x : Str} (h : sc.names.lookup x = some .cell) : ∃ c, (cellsFrom n sc.names []).lookup x = some c := by
  have q := PySem.W.cellsFrom_some sc.names n [] (.inl h)
  exact Option.isSome_iff_exists.mp q

theorem inv_start {CX : CXT} {P : Program} {w : World} {K : PySem.W.Frag} {mg : Str → Option Value} {base : Heap} {N ps : List Str} {qual : Str} {scope : Scope} {f : Addr} {cd : Value} {A : Around} {outer : List Env} {s s1 : Shared} {H : Hp} {E : XK} {us : List Value} {vs : List V}
    (S : FnScope N ps scope) (hd : A.handled = none) (e0 : Env0 P w K mg base A outer s H) (hl : vs.length = ps.length) (r : Vals vs us)
    (x : InCallC s s.heap.objs.size (bindL (envOfC qual scope s.heap.objs.size f cd).kindOf (ps.zip us) fun _ => none) (cellsFrom (s.heap.objs.size + 1) scope.names []) (bindC (envOfC qual scope s.heap.objs.size f cd).kindOf (ps.zip us) fun _ => none) s1) :
    Inv (cxOf CX P w K mg base N qual scope f cd A outer s H E) [] (start N vs) H s1 := by
  have hpl : ps.length ≤ N.length := by have := congrArg List.length S.pre; rw [List.length_take] at this; omega
  obtain ⟨h1, tk, rfl, hk⟩ := x.done
  have noA : ∀ b : Addr, b ∉ (cxOf CX P w K mg base N qual scope f cd A outer s H E).ex := fun b z => absurd (show b ∈ ([] : List Addr) from z) (by simp)
  refine ⟨⟨e0.mod, S.kind, rfl, rfl, Nat.le_refl _, fun y z c h1 h2 => ?_, fun y hy => ?_, fun y c _ h => ?_, fun _ => hd, Around.frames_deeper e0.frames, .inr ⟨rfl, rfl⟩, fun b z => absurd z (noA b), e0.bs, e0.bsz, fun b _ _ => noA b, fun b z => absurd z (noA b), e0.funs, e0.frf⟩,
    rfl, e0.bare, Un.kept hk, ⟨_, x.toInCall.ns, fun i y v h1 h2 h3 => ?_⟩, fun y c h => ⟨_, x.cell y c h⟩, e0.hok.fresh (Nat.le_refl _), fun y c h => ?_, fun p hp => absurd (show p ∈ ([] : List (Addr × Obj)) from hp) (by simp), e0.hok.kept hk, ?_⟩
  · exact name_of_addr x.apart (PySem.mem_of_lookup h1) (PySem.mem_of_lookup h2)
  · have hy : scope.names.lookup y = some .cell ∨ scope.names.lookup y = some .free := hy
    rcases hy with hy | hy
    · exact cell_has hy
    · exact absurd rfl (S.nofree _ (PySem.mem_of_lookup hy))
  · exact Nat.le_of_lt (x.above y c (PySem.mem_of_lookup h))
  · have hi : i < vs.length := by
      unfold start at h2
      by_cases hi : i < vs.length
      · exact hi
      · rw [List.getElem?_append_right (by simpa using hi)] at h2
        rw [List.getElem?_replicate] at h2
        split at h2 <;> cases h2
    have ha : vs[i]? = some v := by
      unfold start at h2
      rw [List.getElem?_append_left (by simpa using hi), List.getElem?_map] at h2
      cases e : vs[i]? with
      | none => rw [e] at h2; cases h2
      | some a => rw [e] at h2; cases h2; rfl
    obtain ⟨u, hu, rv⟩ := r.get ha
    have hp : ps[i]? = some y := by
      rw [← S.pre, List.getElem?_take_of_lt (by omega)]; exact h1
    have ndP : ps.Nodup := by rw [← S.pre]; exact S.nd.sublist (List.take_sublist _ _)
    refine ⟨u, rv, ?_⟩
    rcases S.par y (List.mem_of_getElem? hp) with k | k
    · exact .inl ⟨k, bindL_get ndP hp hu k⟩
    · obtain ⟨c, e⟩ := cell_has (n := s.heap.objs.size + 1) k
      refine .inr ⟨.inl k, c, e, ?_⟩
      have q := x.cell y c e
      rw [bindC_get ndP hp hu (by show scope.names.lookup y ≠ _; rw [k]; decide)] at q
      exact q
  · exact e0.hok.fresh (Nat.le_of_lt (x.above y c (PySem.mem_of_lookup h)))
  · unfold start
    show _ = N.length
    rw [List.length_append, List.length_map, List.length_replicate]
    omega

/-- THE RULE: a def (or a method) of the text, by its body. The body's reading t is chosen for each entry; it is run at the parameters' values -/
theorem fn_of {CX : CXT} {P : Program} {w : World} {K : PySem.W.Frag} {mg : Str → Option Value} {base : Heap} {k : Nat} {f : Addr} {name qual : Str} {params : Arguments} {body : List Stmt} {scope : Scope} {dV kV doc pm cdv ct oc : Value} {an od : Option Addr}
    {osl : Array (Option Value)} {N ps : List Str} {sp : Sp} (lk : K.lookup f = some ⟨oc, od, .func (PySem.W.fnOf name qual params body scope dV kV doc pm an cdv ct), osl⟩) (hcd : PySem.W.codeIn K cdv qual = true) (S : FnScope N ps scope)
    (len : ∀ vs H Q E, sp vs H Q E → vs.length = ps.length)
    (hbody : ∀ (A : Around) (outer : List Env) (s : Shared) (H : Hp) (vs : List V) (Q : VK) (E : XK), Room k (A.deeper (envOfC qual scope s.heap.objs.size f cdv)) → sp vs H Q E →
      ∃ t, PSs (cxOf CX P w K mg base N qual scope f cdv A outer s H E) body t ∧ t { nx := fun _ H' => Q .non H', rt := Q } (start N vs) H) :
    FnOk P w K mg base CX (k + 1) f (PySem.W.fnOf name qual params body scope dV kV doc pm an cdv ct) ps sp := by
  refine ⟨len, fun A outer s H args us vs Q E hr e0 hb r hsp => ?_⟩
  have hl := len _ _ _ _ hsp
  have KX : K.In s.heap := e0.mod.kin.keeps fun b o e => (e0.bs b o e).1
  have lim : s.heap.NoLimit := e0.mod.nolimit.keeps fun b o e => (e0.bs b o e).1
  have hkind : ∀ y ∈ ps.zip us, scope.names.lookup y.1 = some .local ∨ (scope.names.lookup y.1 = some .cell ∧ ((cellsFrom (s.heap.objs.size + 1) scope.names []).lookup y.1).isSome = true) := fun ⟨n, v⟩ hy => by
    rcases S.par n (List.of_mem_zip hy).1 with q | q
    · exact .inl q
    · exact .inr ⟨q, PySem.W.cellsFrom_some _ _ _ (.inl q)⟩
  refine codeAny_call_function hr.depth (KX _ _ lk) rfl S.co S.gen rfl (PySem.W.codeRec_of KX hcd) (hb _ _ _ _ ?_)
  refine wpAny_newFunctionEnv_cells S.kind hkind fun env he s1 x => ?_
  subst he
  refine ⟨lim.keeps x.toInCall.keep, codeAny_func ?_⟩
  obtain ⟨t, ht, hq⟩ := hbody A outer s H vs Q E (hr.deeper _) hsp
  have I : Inv (cxOf CX P w K mg base N qual scope f cdv A outer s H E) [] (start N vs) H s1 := inv_start S hr.hd e0 hl r x
  refine wpAny_mono (ht [] s1 (start N vs) H _ I hq) (fun fl s' hs => ?_) fun e s' hs => hs
  have fin : ∀ {σ' : St} {H' : Hp} {v : V} {u : Value}, Inv (cxOf CX P w K mg base N qual scope f cdv A outer s H E) [] σ' H' s' → RelV v u → Q v H' → CE outer P w H s Q u s' :=
    fun {σ' H' v u} J rv q => ⟨v, H', J.os, J.bare, J.base, J.hok, rv, q⟩
  cases fl with
  | ret u =>
    obtain ⟨v, σ', H', J, rv, q⟩ := hs
    exact fin J rv q
  | next =>
    obtain ⟨σ', H', J, q⟩ := hs
    exact fin (v := V.non) (u := Value.none) J rfl q
  | brk =>
    obtain ⟨_, _, _, q⟩ := hs
    exact False.elim q
  | cont =>
    obtain ⟨_, _, _, q⟩ := hs
    exact False.elim q
end L2

namespace L2
open PySem PySem.Spec PyProof.Rows
section
variable {X : Cx} {x : Str} {p pos : Pos} {e : Expr} {es : List Expr} {t : TA} {id T : String} {r : List V → Hp → VK → Prop}

def tCB (r : List V → Hp → VK → Prop) (t : TA) : TE := fun σ H Q => t σ H fun vs H1 => r vs H1 Q
/-- f(e, ..), f a built-in function -/
theorem pe_callB (hc : CallR X (.builtin id) r) (hg : Gl X x) (hm : X.mg x = none) (hv : bootBuiltins x = some (.builtin id)) (ha : PA X (e :: es) t) (hn : x ≠ "__name__" := by decide) (hdb : (x == ("__debug__" : Str)) = false := by decide)
    (he : starEach (e :: es) X.env = (false, eval e X.env) :: starEach es X.env := by rfl) (hpl : (backTo pos (starEach es X.env)).any (·.1) = false := by rfl) : PE X (.Call (.Name x p) (e :: es) [] pos) (tCB r t) := by
  intro pins s σ H Q I h
  refine wpAny_Call_Name_kw (ld_blt I hg hm hv ?_ hn hdb)
  exact PyProof.Rows.callWith_builtin1 (thn (ha pos pins s σ H _ I h) fun us s1 ⟨vs, H1, I1, r1, q1⟩ => hc pins s1 σ H1 vs us Q I1 r1 q1) he hpl
/-- T(e, ..), T a built-in type -/
theorem pe_callTy (hc : CallR X (.type T) r) (hg : Gl X x) (hm : X.mg x = none) (hv : bootBuiltins x = some (.type T)) (ha : PA X (e :: es) t) (hn : x ≠ "__name__" := by decide) (hdb : (x == ("__debug__" : Str)) = false := by decide)
    (he : starEach (e :: es) X.env = (false, eval e X.env) :: starEach es X.env := by rfl) (hpl : (backTo pos (starEach es X.env)).any (·.1) = false := by rfl) : PE X (.Call (.Name x p) (e :: es) [] pos) (tCB r t) := by
  intro pins s σ H Q I h
  refine wpAny_Call_Name_kw (ld_blt I hg hm hv ?_ hn hdb)
  exact PyProof.Rows.callWith_type1 (thn (ha pos pins s σ H _ I h) fun us s1 ⟨vs, H1, I1, r1, q1⟩ => hc pins s1 σ H1 vs us Q I1 r1 q1) he hpl
end
end L2

namespace HT
open PySem PyProof.Rows

/-- t < u of tuples of ints -/
def lexLt : List Int → List Int → Bool
  | [], [] => false
  | [], _ :: _ => true
  | _ :: _, [] => false
  | x :: xs, y :: ys => if x = y then lexLt xs ys else decide (x < y)
section
open PySem.SeqAt
open PySem.AutoSeq1 (wpAny_loadPart')
open PySem.MeetsSeq PySem.MeetsSeq2 PySem.MeetsSeq3

end

section
variable {prog : Program} {w : World} {A : Around} {E : Value → Shared → Prop} {s : Shared}

/-- t + u, t not empty -/
theorem cat_tup {t b : Addr} {vs ws : List Value} {Q : Value → Shared → Prop} (ht : IsTup s.heap t vs.toArray) (hb : IsTup s.heap b ws.toArray) (hv : vs ≠ [])
    (h1 : ws = [] → Q (.ref t) s) (h2 : ws ≠ [] → Q (.ref s.heap.objs.size) { s with heap := s.heap.push { cls := .type "tuple", data := .seq (vs ++ ws).toArray } })
    (hsz : vs.length + ws.length ≤ sizeLine) : wpAny (model prog w) A (binaryOp .Add (.ref t) (.ref b)) Q E s := by
  obtain ⟨⟨cls, dd, data, sl⟩, ho, hc, n, hd⟩ := id ht
  obtain ⟨⟨cls2, dd2, data2, sl2⟩, ho2, hc2, n2, hd2⟩ := id hb
  simp only at hc hd hc2 hd2
  subst hc hd hc2 hd2
  have e : vs.toArray ++ ws.toArray = (vs ++ ws).toArray := by simp
  by_cases hw : ws = []
  · exact concat_meets ⟨_, ho, rfl⟩ ⟨_, ho2, rfl⟩ noFill_tuple_add seq_tuple_add PySem.F.slot_tuple_add PySem.F.entry_tuple_add (PySem.F.args_tuple_add_2 _ _)
      (tuple_addW1 t b vs.toArray ws.toArray n n2 dd dd2 sl sl2 (by simpa using hv) (by simp [hw])) ⟨ho, ho2, h1 hw⟩
  · refine concat_meets ⟨_, ho, rfl⟩ ⟨_, ho2, rfl⟩ noFill_tuple_add seq_tuple_add PySem.F.slot_tuple_add PySem.F.entry_tuple_add (PySem.F.args_tuple_add_2 _ _)
      (tuple_addW2 t b vs.toArray ws.toArray n n2 dd dd2 sl sl2 (by simpa using hv) (by simpa using hw) (by rw [List.size_toArray, List.size_toArray]; exact hsz)) ⟨ho, ho2, ?_⟩
    rw [e]
    exact h2 hw

/-! ### t[a:b], not the whole -/
/-- a slice's bound as a place among n (d where it is left out) -/
def sIx (n d : Nat) : Option Int → Nat
  | none => d
  | some v => if v < 0 then (v + (n : Int)).toNat else min v.toNat n
theorem sIx_none (n d : Nat) : sIx n d none = d := rfl
theorem sIx_nat (n d k : Nat) : sIx n d (some (k : Int)) = min k n := by
  show (if (k : Int) < 0 then ((k : Int) + (n : Int)).toNat else min (k : Int).toNat n) = min k n
  rw [if_neg (by omega), Int.toNat_natCast]
theorem sIx_le (n d : Nat) (hd : d ≤ n) (o : Option Int) : sIx n d o ≤ n := by
  cases o with
  | none => exact hd
  | some v =>
    show (if v < 0 then (v + (n : Int)).toNat else min v.toNat n) ≤ n
    by_cases hv : v < 0
    · rw [if_pos hv]; omega
    · rw [if_neg hv]; exact Nat.min_le_right _ _
theorem clip_eq (v : Int) (n d : Nat) : (if v < 0 then max (v + (n : Int)) 0 else min v (n : Int)) = ((sIx n d (some v) : Nat) : Int) := by
  show (if v < 0 then max (v + (n : Int)) 0 else min v (n : Int)) = (((if v < 0 then (v + (n : Int)).toNat else min v.toNat n) : Nat) : Int)
  by_cases hv : v < 0
  · simp only [if_pos hv]; omega
  · simp only [if_neg hv]; omega
theorem adjust_gen (lo hi : Option Int) (n : Nat) : Builtin.Slice.sliceAdjust lo hi 1 (n : Int) = (((sIx n 0 lo : Nat) : Int), ((sIx n n hi : Nat) : Int)) := by
  have h1 : ¬ ((1 : Int) < 0) := by omega
  unfold Builtin.Slice.sliceAdjust
  simp only [h1, if_false]
  refine Prod.ext ?_ ?_
  · cases lo with
    | none => rfl
    | some v => exact clip_eq v n 0
  · cases hi with
    | none => rfl
    | some v => exact clip_eq v n n
theorem places_gen (i j : Nat) : Builtin.Slice.slicePlaces (i : Int) (j : Int) 1 = j - i := by
  unfold Builtin.Slice.slicePlaces
  have h1 : (1 : Int) > 0 := by omega
  simp only [h1, if_true, Int.ediv_one]
  split <;> omega
theorem slicePart_ {v : Value} {o : Option Int} {Q : Option Int → Shared → Prop} (p : IsPart v o) (h : Q o s) : wpAny (model prog w) A (Builtin.Slice.slicePartIndex v) Q E s := by
  cases p with
  | none => exact slicePart_none h
  | int i t => exact slicePart_int h
theorem sliceApplied_gen {sl : Addr} {vl vu : Value} {lo hi : Option Int} {n : Nat} {Q : Int × Int × Nat → Shared → Prop} (hs : s.heap.IsSliceOf sl vl vu .none) (pl : IsPart vl lo) (pu : IsPart vu hi)
    (h : Q (((sIx n 0 lo : Nat) : Int), 1, sIx n n hi - sIx n 0 lo) s) : wpAny (model prog w) A (Builtin.Slice.sliceApplied (.ref sl) (pure (n : Int))) Q E s := by
  obtain ⟨os, hos, hcs, hds⟩ := id hs
  unfold Builtin.Slice.sliceApplied Builtin.Slice.sliceFields
  refine wpAny_bind (wpAny_bind (wpAny_field hos hds (x := vl) rfl (wpAny_bind (wpAny_field hos hds (x := vu) rfl (wpAny_bind (wpAny_field hos hds (x := .none) rfl (wpAny_pure ?_)))))))
  refine wpAny_bind (slicePart_none ?_)
  show wpAny _ _ (if ((1 : Int) == 0) = true then _ else _) _ _ s
  rw [if_neg (by decide)]
  refine wpAny_bind (slicePart_ pl (wpAny_bind (slicePart_ pu (wpAny_bind (wpAny_pure ?_)))))
  show wpAny _ _ (match Builtin.Slice.sliceAdjust lo hi 1 (n : Int) with | (lo, hi) => pure (lo, (1 : Int), Builtin.Slice.slicePlaces lo hi 1)) _ _ s
  rw [adjust_gen lo hi n]
  show wpAny _ _ (pure (((sIx n 0 lo : Nat) : Int), (1 : Int), Builtin.Slice.slicePlaces ((sIx n 0 lo : Nat) : Int) ((sIx n n hi : Nat) : Int) 1)) _ _ s
  rw [places_gen]
  exact wpAny_pure h
theorem pick_gen (xs : Array Value) (i k : Nat) : ((List.range k).filterMap fun (m : Nat) => xs[((i : Int) + (m : Int) * 1).toNat]?).toArray = ((xs.toList.drop i).take k).toArray := by
  have e : (fun (m : Nat) => xs[((i : Int) + (m : Int) * 1).toNat]?) = fun m => xs[i + m]? := by
    funext m
    have : ((i : Int) + (m : Int) * 1).toNat = i + m := by omega
    rw [this]
  rw [e]
  have := pick_run xs i k
  rw [List.filterMap_map] at this
  have e2 : ((fun x => xs[x]?) ∘ fun x => i + x) = fun m => xs[i + m]? := rfl
  rw [e2] at this
  rw [this]

theorem getItem_tuple_cut {t sl : Addr} {items : Array Value} {vl vu : Value} {lo hi : Option Int} {Q : Value → Shared → Prop} (ht : IsTup s.heap t items) (hs : s.heap.IsSliceOf sl vl vu .none) (pl : IsPart vl lo) (pu : IsPart vu hi)
    (hw : ¬ (sIx items.size 0 lo = 0 ∧ sIx items.size items.size hi = items.size))
    (h : Q (.ref s.heap.objs.size) { s with heap := s.heap.push { cls := .type "tuple", data := .seq ((items.toList.drop (sIx items.size 0 lo)).take (sIx items.size items.size hi - sIx items.size 0 lo)).toArray } })
    (hsz : items.size ≤ sizeLine) : wpAny (model prog w) A (getItem (.ref t) (.ref sl)) Q E s := by
  have htake : sizeOk (.seq ((items.toList.drop (sIx items.size 0 lo)).take (sIx items.size items.size hi - sIx items.size 0 lo)).toArray) := by
    show ((items.toList.drop (sIx items.size 0 lo)).take (sIx items.size items.size hi - sIx items.size 0 lo)).toArray.size ≤ sizeLine
    rw [List.size_toArray, List.length_take, List.length_drop, Array.length_toList]
    omega
  have hj : sIx items.size items.size hi ≤ items.size := sIx_le _ _ (Nat.le_refl _) hi
  obtain ⟨os, hos, hcs, hds⟩ := id hs
  have hTs : s.TypeIs (.ref sl) "slice" := ⟨os, hos, hcs⟩
  unfold getItem
  try with_reducible refine wpAny_holding ?_
  first | refine wpAny_bind (wpAny_pure ?_) | skip
  refine wpAny_bind (wpAny_sequenceKey ht.typeIs (by decide) ?_)
  refine wpAny_bind (wpAny_callSpecial?_slot (name := Str.ofString "__getitem__") ht.typeIs PyProof.Rows.slot_tuple_getitem
    (wpAny_call_entry PyProof.Rows.slot_tuple_getitem ht.typeIs entry_tuple_getitem ?_ (args_tuple_getitem _ _)))
  show wpAny _ _ (Builtin.Tuple.tupleItemsOf (.ref t) >>= _) _ _ s
  refine wpAny_bind (tupleItemsOf_ ht ?_)
  refine wpAny_bind (wpAny_typeOf hTs ?_)
  rw [if_pos (by decide)]
  refine wpAny_bind (sliceApplied_gen hs pl pu ?_)
  have hno : ¬ ((((sIx items.size 0 lo : Nat) : Int) == 0 && (1 : Int) == 1 && (sIx items.size items.size hi - sIx items.size 0 lo) == items.size) = true) := by
    intro q
    rw [Bool.and_eq_true, Bool.and_eq_true] at q
    have q1 : ((sIx items.size 0 lo : Nat) : Int) = 0 := eq_of_beq q.1.1
    have q2 : sIx items.size items.size hi - sIx items.size 0 lo = items.size := eq_of_beq q.2
    exact hw ⟨by omega, by omega⟩
  show wpAny _ _ (if (((sIx items.size 0 lo : Nat) : Int) == 0 && (1 : Int) == 1 && (sIx items.size items.size hi - sIx items.size 0 lo) == items.size) = true then _ else _) _ _ s
  rw [if_neg hno, pick_gen]
  first
    | exact wpAny_bind (m := Builtin.Tuple.tupleExact _) (wpAny_newObj_type (wpAny_pure ⟨_, rfl, wpAny_pure h⟩) htake)
    | exact wpAny_bind (m := Builtin.Tuple.tupleExact _) (wpAny_newObj_type (wpAny_bind (wpAny_pure (wpAny_pure ⟨_, rfl, wpAny_pure h⟩))) htake)
    | exact wpAny_bind (wpAny_bind (m := Builtin.Tuple.tupleExact _) (wpAny_newObj_type (wpAny_pure (wpAny_pure ⟨_, rfl, wpAny_pure h⟩)) htake))
    | exact wpAny_bind (wpAny_bind (m := Builtin.Tuple.tupleExact _) (wpAny_newObj_type (wpAny_pure ⟨_, rfl, wpAny_pure h⟩) htake))
end
end HT

namespace L2
open PySem PySem.Spec PyProof.Rows

/-! ### the parts of a slice -/
abbrev TO := St → Hp → (Option Int → Hp → Prop) → Prop
/-- a slice's part (left out, or an int) -/
def PO (X : Cx) (e : Option Expr) (t : TO) : Prop :=
  ∀ (pins : List (Addr × Obj)) (s : Shared) (σ : St) (H : Hp) (Q : Option Int → Hp → Prop), Inv X pins σ H s → t σ H Q →
    wpAny (model X.prog X.w) X.A (evalPart e X.env) (fun u s' => ∃ o H', Inv X pins σ H' s' ∧ IsPart u o ∧ Q o H') X.xe s
def tNoPart : TO := fun _ H Q => Q none H
def tPart (t : TE) : TO := fun σ H Q => t σ H fun x H1 => ∃ i, x = .int i ∧ Q (some i) H1

section
variable {X : Cx} {e : Expr} {te : TE} {lo hi : Option Expr} {tl th : TO} {pos p2 : Pos}

theorem po_none : PO X none tNoPart := by
  intro pins s σ H Q I h
  rw [evalPart_none]
  exact wpAny_pure ⟨none, H, I, .none, h⟩
theorem po_some (h : PE X e te) : PO X (some e) (tPart te) := by
  intro pins s σ H Q I hw
  rw [evalPart_some]
  refine thn (h pins s σ H _ I hw) fun u s1 ⟨x, H1, I1, r1, q1⟩ => ?_
  obtain ⟨i, rfl, q⟩ := q1
  obtain ⟨t, rfl⟩ := r1
  exact ⟨some i, H1, I1, .int i t, q⟩

/-- what a slice of a value is, by values: the slice object stands at sl -/
def SlR (X : Cx) (r : V → Option Int → Option Int → Hp → VK → Prop) : Prop :=
  ∀ (pins : List (Addr × Obj)) (s : Shared) (σ : St) (H : Hp) (x : V) (v vl vu : Value) (lo hi : Option Int) (sl : Addr) (Q : VK), Inv X pins σ H s → RelV x v → s.heap.IsSliceOf sl vl vu .none → IsPart vl lo → IsPart vu hi → r x lo hi H Q →
    ∃ T id, typeLookup (.type T) "__getitem__" = pure (some (.builtin id)) ∧ s.TypeIs v T ∧ wpAny (model X.prog X.w) X.A (getItem v (.ref sl)) (EP X pins σ Q) X.xe s
theorem SlR.or {r r' : V → Option Int → Option Int → Hp → VK → Prop} (h : SlR X r) (h' : SlR X r') : SlR X (fun x lo hi H Q => r x lo hi H Q ∨ r' x lo hi H Q) := by
  intro pins s σ H x v vl vu lo hi sl Q I rx hs pl pu q
  rcases q with q | q
  · exact h pins s σ H x v vl vu lo hi sl Q I rx hs pl pu q
  · exact h' pins s σ H x v vl vu lo hi sl Q I rx hs pl pu q
def tSl (r : V → Option Int → Option Int → Hp → VK → Prop) (te : TE) (tl th : TO) : TE := fun σ H Q => te σ H fun x H1 => tl σ H1 fun l H2 => th σ H2 fun u H3 => r x l u H3 Q
/-- a[lo:hi], any a -/
theorem pe_slice {r : V → Option Int → Option Int → Hp → VK → Prop} (hr : SlR X r) (he : PE X e te) (hl : PO X lo tl) (hu : PO X hi th) : PE X (.Subscript e (.Slice lo hi none p2) pos) (tSl r te tl th) := by
  intro pins s σ H Q I h
  refine Subscript_ (thn (he pins s σ H _ I h) fun v s1 ⟨x, H1, I1, r1, q1⟩ => ?_)
  refine wpAny_Slice (thn (hl pins s1 σ H1 _ I1 q1) fun vl s2 ⟨l, H2, I2, pl, q2⟩ => thn (hu pins s2 σ H2 _ I2 q2) fun vu s3 ⟨u, H3, I3, pu, q3⟩ => ?_)
  rw [evalPart_none]
  refine wpAny_pure ?_
  have I4 : Inv X pins σ H3 { s3 with heap := s3.heap.push { cls := .type "slice", data := .fields #[vl, vu, .none] } } := I3.kept (t' := s3.toks) fun b ob q => Heap.get?_push_of_some _ q
  obtain ⟨T, id, hT, ht, hg⟩ := hr pins { s3 with heap := s3.heap.push { cls := .type "slice", data := .fields #[vl, vu, .none] } } σ H3 x v vl vu l u s3.heap.objs.size Q I4 r1 (Heap.IsSliceOf.new ..) pl pu q3
  show wpAny (model X.prog X.w) X.A (subscriptTail e (.Slice lo hi none p2) v (.ref s3.heap.objs.size)) (EP X pins σ Q) X.xe { s3 with heap := s3.heap.push { cls := .type "slice", data := .fields #[vl, vu, .none] } }
  exact tail_any (ops := [.ref s3.heap.objs.size, v]) ht hT hg (by with_unfolding_all rfl)

/-- the items of xs[lo:hi] -/
def cutV (xs : List V) (lo hi : Option Int) : List V := (xs.drop (HT.sIx xs.length 0 lo)).take (HT.sIx xs.length xs.length hi - HT.sIx xs.length 0 lo)
theorem cutV_length (xs : List V) (lo hi : Option Int) : (cutV xs lo hi).length ≤ xs.length := by
  unfold cutV
  rw [List.length_take, List.length_drop]
  omega
/-- t[lo:hi], not the whole of it (the whole would be t itself) -/
def rSlT (K : PySem.W.Frag) : V → Option Int → Option Int → Hp → VK → Prop := fun x lo hi H Q => ∃ a xs, x = .ref a ∧ SqT K H a xs ∧
  ¬ (HT.sIx xs.length 0 lo = 0 ∧ HT.sIx xs.length xs.length hi = xs.length) ∧ ∀ p, H p = none → Q (.ref p) (upd H p (.tup (cutV xs lo hi)))
theorem sl_tup : SlR X (rSlT X.K) := by
  intro pins s σ H x v vl vu lo hi sl Q I rx hs pl pu h
  obtain ⟨a, xs, rfl, hx, hw, q⟩ := h
  cases rx
  obtain ⟨its, r, ht, hz⟩ := I.tuple hx
  have hlen : its.toArray.size = xs.length := by rw [List.size_toArray]; exact r.length.symm
  refine ⟨"tuple", _, PyProof.Rows.slot_tuple_getitem.lookup, ht.typeIs, ?_⟩
  refine HT.getItem_tuple_cut ht hs pl pu (by rw [hlen]; exact hw) ?_ (by rw [hlen]; exact hz)
  rw [hlen]
  refine ⟨.ref s.heap.objs.size, _, I.laid (t' := s.toks) (o := .tup (cutV xs lo hi)) (fun b ob q => Heap.get?_push_of_some _ q) (Nat.le_refl _) ?_, rfl, q _ (I.hok.fresh (Nat.le_refl _))⟩
  exact ⟨Nat.le_trans (cutV_length xs lo hi) hz, _, (r.drop (HT.sIx xs.length 0 lo)).take (HT.sIx xs.length xs.length hi - HT.sIx xs.length 0 lo), IsTup.new _ _⟩

/-! ### t < u, t + u -/
def rLtT (K : PySem.W.Frag) : R2 := fun x y H Q => ∃ a b ns ms, x = .ref a ∧ y = .ref b ∧ SqT K H a (ns.map V.int) ∧ SqT K H b (ms.map V.int) ∧ Q (.bl (HT.lexLt ns ms)) H
/-- t + u, t not empty: u empty gives t itself -/
def rCatT (K : PySem.W.Frag) : R2 := fun x y H Q => ∃ a b xs ys, x = .ref a ∧ y = .ref b ∧ SqT K H a xs ∧ SqT K H b ys ∧ xs ≠ [] ∧ xs.length + ys.length ≤ sizeLine ∧
  (ys = [] → Q (.ref a) H) ∧ (ys ≠ [] → ∀ p, H p = none → Q (.ref p) (upd H p (.tup (xs ++ ys))))
theorem Vals.nil_iff {xs : List V} {us : List Value} (r : Vals xs us) : us = [] ↔ xs = [] := by
  cases r with
  | nil => simp
  | cons _ _ => simp
theorem op_catT : OpR X (binaryOp .Add) (rCatT X.K) := by
  intro pins s σ H x y v u Q I rx ry h
  obtain ⟨a, b, xs, ys, rfl, rfl, ha, hb, hx, hz, q1, q2⟩ := h
  cases rx
  cases ry
  obtain ⟨its, r1, p1, _⟩ := I.tuple ha
  obtain ⟨its2, r2, p2, _⟩ := I.tuple hb
  refine HT.cat_tup p1 p2 (fun z => hx (r1.nil_iff.mp z)) (fun z => ⟨.ref a, H, I, rfl, q1 (r2.nil_iff.mp z)⟩) (fun z => ?_) (by rw [← r1.length, ← r2.length]; exact hz)
  refine ⟨.ref s.heap.objs.size, _, I.laid (t' := s.toks) (o := .tup (xs ++ ys)) (fun b ob q => Heap.get?_push_of_some _ q) (Nat.le_refl _) ?_, rfl, q2 (fun w => z (r2.nil_iff.mpr w)) _ (I.hok.fresh (Nat.le_refl _))⟩
  exact ⟨by rw [List.length_append]; exact hz, _, r1.append r2, IsTup.new _ _⟩
end
end L2

namespace L2
open PySem PySem.Spec PyProof.Rows

/-! ### places -/
/-- the place that an index of any sign means -/
def ixN (n : Nat) (i : Int) : Option Nat := if 0 ≤ i then (if i < n then some i.toNat else none) else if -(n : Int) ≤ i then some (i + n).toNat else none
def atI {α : Type} (xs : List α) (i : Int) : Option α := (ixN xs.length i).bind fun j => xs[j]?
theorem ixN_seq {n : Nat} {i : Int} {j : Nat} (h : ixN n i = some j) : seqIndex? i n = some j ∧ j < n ∧ -(n : Int) ≤ i ∧ i < n := by
  unfold ixN at h
  by_cases h0 : 0 ≤ i
  · rw [if_pos h0] at h
    by_cases h1 : i < n
    · rw [if_pos h1] at h
      have e : i.toNat = j := Option.some.inj h
      exact ⟨by rw [seqIndex_of h0 h1, e], by omega, by omega, h1⟩
    · rw [if_neg h1] at h; cases h
  · rw [if_neg h0] at h
    by_cases h1 : -(n : Int) ≤ i
    · rw [if_pos h1] at h
      have e : (i + n).toNat = j := Option.some.inj h
      exact ⟨by rw [seqIndex_neg (by omega) h1, e], by omega, h1, by omega⟩
    · rw [if_neg h1] at h; cases h
theorem atI_get {α : Type} {xs : List α} {i : Int} {v : α} (h : atI xs i = some v) : ∃ j, seqIndex? i xs.length = some j ∧ xs[j]? = some v ∧ j < xs.length ∧ -(xs.length : Int) ≤ i ∧ i < xs.length := by
  unfold atI at h
  cases e : ixN xs.length i with
  | none => rw [e] at h; cases h
  | some j =>
    rw [e] at h
    obtain ⟨h1, h2, h3, h4⟩ := ixN_seq e
    exact ⟨j, h1, h, h2, h3, h4⟩
theorem atI_nat {α : Type} {xs : List α} {j : Nat} {v : α} (h : xs[j]? = some v) : atI xs (j : Int) = some v := by
  have hj : j < xs.length := (List.getElem?_eq_some_iff.mp h).1
  have e : ixN xs.length (j : Int) = some j := by
    unfold ixN
    rw [if_pos (by omega), if_pos (by omega)]; simp
  unfold atI; rw [e]; exact h
theorem atI_last {α : Type} (xs : List α) (v : α) : atI (xs ++ [v]) (-1) = some v := by
  have hl : (xs ++ [v]).length = xs.length + 1 := by simp
  have e : ixN (xs ++ [v]).length (-1) = some xs.length := by
    unfold ixN
    rw [hl, if_neg (by decide), if_pos (by omega)]
    congr 1
    omega
  unfold atI
  rw [e]
  show (xs ++ [v])[xs.length]? = some v
  simp

/-! ### what may be subscripted -/
/-- what stands as an index of a plain subscript -/
def PlainIx (b : Expr) : Prop := ∀ o i, subscripted b false o i = operate [o, i] (getItem o i)
/-- a subscript by values -/
def IxR (X : Cx) (r : R2) : Prop :=
  ∀ (value slice : Expr) (pins : List (Addr × Obj)) (s : Shared) (σ : St) (H : Hp) (x y : V) (v u : Value) (Q : VK), Inv X pins σ H s → RelV x v → RelV y u → r x y H Q →
    subscripted slice false v u = operate [v, u] (getItem v u) → wpAny (model X.prog X.w) X.A (subscriptTail value slice v u) (EP X pins σ Q) X.xe s
/-- a call of a builtin's method by values: the receiver, the arguments -/
def MtR (X : Cx) (id : String) (r : V → List V → Hp → VK → Prop) : Prop :=
  ∀ (pins : List (Addr × Obj)) (s : Shared) (σ : St) (H : Hp) (x : V) (xs : List V) (v : Value) (us : List Value) (Q : VK), Inv X pins σ H s → RelV x v → Vals xs us → r x xs H Q →
    wpAny (model X.prog X.w) X.A (call (.builtin id) (v :: us)) (EP X pins σ Q) X.xe s
section
variable {X : Cx} {a b : Expr} {ta tb : TE} {pos : Pos}
theorem IxR.or {r r' : R2} (h : IxR X r) (h' : IxR X r') : IxR X (fun x y H Q => r x y H Q ∨ r' x y H Q) := by
  intro value slice pins s σ H x y v u Q I rx ry q hs
  rcases q with q | q
  · exact h value slice pins s σ H x y v u Q I rx ry q hs
  · exact h' value slice pins s σ H x y v u Q I rx ry q hs
/-- a[b] -/
theorem pe_ix {r : R2} (hr : IxR X r) (ha : PE X a ta) (hb : PE X b tb) (hs : PlainIx b) : PE X (.Subscript a b pos) (tOp r ta tb) := by
  intro pins s σ H Q I h
  exact Subscript_ (binT ha hb I h fun v u s2 x y H2 I2 rx ry q => hr a b pins s2 σ H2 x y v u Q I2 rx ry q (hs _ _))

def rIxL (K : PySem.W.Frag) : R2 := fun x y H Q => ∃ p xs i v, x = .ref p ∧ y = .int i ∧ SqL K H p xs ∧ atI xs i = some v ∧ Q v H
def rIxT (K : PySem.W.Frag) : R2 := fun x y H Q => ∃ p xs i v, x = .ref p ∧ y = .int i ∧ SqT K H p xs ∧ atI xs i = some v ∧ Q v H
def rIxS : R2 := fun x y H Q => ∃ z i c, x = .str z ∧ y = .int i ∧ z.length ≤ sizeLine ∧ atI z.cps.toList i = some c ∧ Q (.str ⟨#[c]⟩) H
theorem ix_list : IxR X (rIxL X.K) := by
  intro value slice pins s σ H x y v u Q I rx ry h hs
  obtain ⟨p, xs, i, z, rfl, rfl, hq, he, q⟩ := h
  cases rx
  obtain ⟨t, rfl⟩ := ry
  obtain ⟨its, r, pl, hz⟩ := I.list hq
  obtain ⟨j, h1, h2, h3, h4, h5⟩ := atI_get he
  obtain ⟨w, ew, rw'⟩ := r.get h2
  have hl := r.length
  have hn := line63
  have fin : EP X pins σ Q w s := ⟨z, H, I, rw', q⟩
  by_cases h0 : 0 ≤ i
  · have hj : i.toNat = j := by
      rw [seqIndex_of h0 h5] at h1
      exact Option.some.inj h1
    exact item_listR pl.isList h0 (by omega) (by rw [hj]; simpa using ew) fin hs
  · have hj : (i + (its.toArray.size : Int)).toNat = j := by
      rw [seqIndex_neg (by omega) h4] at h1
      rw [List.size_toArray, ← hl]
      exact Option.some.inj h1
    exact subscriptTail_builtinR (x := w) pl.isList.typeIs slot_list_getitem.lookup
      (wpAny_getItem_list_neg (Q := fun r s' => r = w ∧ EP X pins σ Q r s') pl.isList (by omega) (by rw [List.size_toArray] <;> omega) (by omega) (by rw [hj]; simpa using ew) ⟨rfl, fin⟩) hs
theorem ix_tup : IxR X (rIxT X.K) := by
  intro value slice pins s σ H x y v u Q I rx ry h hs
  obtain ⟨p, xs, i, z, rfl, rfl, hq, he, q⟩ := h
  cases rx
  obtain ⟨t, rfl⟩ := ry
  obtain ⟨its, r, pl, hz⟩ := I.tuple hq
  obtain ⟨j, h1, h2, h3, h4, h5⟩ := atI_get he
  obtain ⟨w, ew, rw'⟩ := r.get h2
  have hl := r.length
  have hn := line63
  have fin : EP X pins σ Q w s := ⟨z, H, I, rw', q⟩
  exact subscriptTail_builtinR (x := w) pl.typeIs slot_tuple_getitem.lookup
    (getItem_tuple (j := j) (Q := fun r s' => r = w ∧ EP X pins σ Q r s') pl (by omega) (by omega) (by rw [List.size_toArray, ← hl]; exact h1) (by simpa using ew) ⟨rfl, fin⟩) hs
/-- list, tuple or str -/
def rIx (K : PySem.W.Frag) : R2 := fun x y H Q => rIxL K x y H Q ∨ rIxT K x y H Q ∨ rIxS x y H Q
/-! ### xs[i] = v, any sign -/
/-- the list's object behind a store -/
theorem mapSeq_set (its : List Value) (n j : Nat) (u : Value) : Obj.mapSeq (·.setIfInBounds j u) { cls := .type "list", data := .seq its.toArray n } = { cls := .type "list", data := .seq (its.set j u).toArray n } := by
  simp [Obj.mapSeq]
theorem Inv.lst {pins : List (Addr × Obj)} {σ : St} {H : Hp} {s : Shared} {p : Addr} {xs : List V} (I : Inv X pins σ H s) (h : H p = some (.lst xs)) :
    ∃ (its : List Value) (n : Nat), Vals xs its ∧ s.heap.get? p = some { cls := .type "list", data := .seq its.toArray n } ∧ xs.length ≤ sizeLine := by
  obtain ⟨z, its, n, r, e⟩ := I.hok p _ h
  exact ⟨its, n, r, e, z⟩
/-- the list at p is written by an update of its object -/
theorem Inv.lstUpd {pins : List (Addr × Obj)} {σ : St} {H : Hp} {s : Shared} {p : Addr} {xs ys : List V} {its its' : List Value} {n n' : Nat} {f : Obj → Obj} (I : Inv X pins σ H s) (h : H p = some (.lst xs))
    (ho : s.heap.get? p = some { cls := .type "list", data := .seq its.toArray n }) (hf : f { cls := .type "list", data := .seq its.toArray n } = { cls := .type "list", data := .seq its'.toArray n' }) (r : Vals ys its') (hz : ys.length ≤ sizeLine) (t : Nat) :
    Inv X pins σ (upd H p (.lst ys)) { s with heap := s.heap.update p f, toks := t } := by
  have e : (s.heap.update p f).get? p = some { cls := .type "list", data := .seq its'.toArray n' } := by
    rw [Heap.get?_update_self f ho (by rw [hf] <;> rfl), hf]
  refine I.write (x := p) (e := p) (by rw [h]; trivial) (.inl rfl) (fun b u hb q => (Heap.get?_update_other _ _ (Ne.symm hb)).trans q) ⟨_, e⟩ ?_
  exact ⟨hz, its', n', r, e⟩
def rSetL : V → V → V → Hp → (Hp → Prop) → Prop := fun o i v H Q => ∃ p xs k j, o = .ref p ∧ i = .int k ∧ H p = some (.lst xs) ∧ ixN xs.length k = some j ∧ Q (upd H p (.lst (xs.set j v)))
theorem set_list : PSet X rSetL := by
  intro pins s σ H o i v ov iv u Q I ro ri rv h
  obtain ⟨p, xs, k, j, rfl, rfl, hp, hj, q⟩ := h
  cases ro
  obtain ⟨t, rfl⟩ := ri
  obtain ⟨its, n, r, ho, hz⟩ := I.lst hp
  obtain ⟨h1, h2, h3, h4⟩ := ixN_seq hj
  have hl := r.length
  have hn := line63
  have I' : Inv X pins σ (upd H p (.lst (xs.set j v))) { s with heap := s.heap.update p (Obj.mapSeq (·.setIfInBounds j u)) } :=
    I.lstUpd hp ho (mapSeq_set its n j u) (r.set rv j) (by rw [List.length_set]; exact hz) s.toks
  by_cases h0 : 0 ≤ k
  · have hk : k.toNat = j := by
      rw [seqIndex_of h0 h4] at h1
      exact Option.some.inj h1
    exact PySem.W.ki_setAt ho h0 (by omega) (by rw [List.size_toArray, ← hl]; exact h4) (by rw [hk]; exact ⟨_, I', q⟩)
  · have hk : (k + (its.toArray.size : Int)).toNat = j := by
      rw [seqIndex_neg (by omega) h3] at h1
      rw [List.size_toArray, ← hl]
      exact Option.some.inj h1
    exact PySem.W.ki_setBack ho (by omega) (by rw [List.size_toArray, ← hl]; exact h3) (by omega) (by rw [hk]; exact ⟨_, I', q⟩)

/-! ### slices -/
theorem slice_bounds (lo hi : Option Int) (n : Nat) : (sliceBounds lo hi none n).1 = ((HT.sIx n 0 lo : Nat) : Int) ∧ (sliceBounds lo hi none n).2.1 = ((HT.sIx n n hi : Nat) : Int) ∧ (sliceBounds lo hi none n).2.2 = 1 := by
  refine ⟨?_, ?_, rfl⟩
  · cases lo with
    | none => simp [sliceBounds, HT.sIx]
    | some i =>
      simp only [sliceBounds, HT.sIx, Option.getD_none, show (1 : Int) > 0 by decide, if_true]
      by_cases h : i < 0
      · simp only [h, if_true] <;> omega
      · simp only [h, if_false] <;> omega
  · cases hi with
    | none => simp [sliceBounds, HT.sIx]
    | some i =>
      simp only [sliceBounds, HT.sIx, Option.getD_none, show (1 : Int) > 0 by decide, if_true]
      by_cases h : i < 0
      · simp only [h, if_true] <;> omega
      · simp only [h, if_false] <;> omega
theorem slicePick_cut (its : List Value) (lo hi : Option Int) : slicePick its.toArray lo hi none = ((its.drop (HT.sIx its.length 0 lo)).take (HT.sIx its.length its.length hi - HT.sIx its.length 0 lo)).toArray := by
  obtain ⟨h1, h2, h3⟩ := slice_bounds lo hi its.toArray.size
  unfold slicePick
  rw [h1, h2, h3]
  simp only [sliceRange_one, pick_run, List.size_toArray] <;> rfl
/-- xs[lo:hi] of a list: a new list -/
def rSlL (K : PySem.W.Frag) : V → Option Int → Option Int → Hp → VK → Prop := fun x lo hi H Q => ∃ a xs, x = .ref a ∧ SqL K H a xs ∧ ∀ p, H p = none → Q (.ref p) (upd H p (.lst (cutV xs lo hi)))
theorem sl_list : SlR X (rSlL X.K) := by
  intro pins s σ H x v vl vu lo hi sl Q I rx hs pl pu h
  obtain ⟨a, xs, rfl, hx, q⟩ := h
  cases rx
  obtain ⟨its, r, ht, hz⟩ := I.list hx
  have hlen := r.length
  refine ⟨"list", _, slot_list_getitem.lookup, ht.isList.typeIs, ?_⟩
  refine wpAny_getItem_list_slice ht.isList hs pl pu .none (by simp) ?_ (by rw [List.size_toArray] <;> omega)
  rw [slicePick_cut, ← hlen]
  refine ⟨.ref s.heap.objs.size, _, I.laid (t' := s.toks) (o := .lst (cutV xs lo hi)) (fun b ob q => Heap.get?_push_of_some _ q) (Nat.le_refl _) ?_, rfl, q _ (I.hok.fresh (Nat.le_refl _))⟩
  exact ⟨Nat.le_trans (cutV_length xs lo hi) hz, _, 0, (r.drop (HT.sIx xs.length 0 lo)).take (HT.sIx xs.length xs.length hi - HT.sIx xs.length 0 lo), Heap.get?_push_size _ rfl⟩

/-! ### in, not in: flat items -/
def flatV : V → Bool
  | .non => true
  | .bl _ => true
  | .int _ => true
  | .str _ => true
  | _ => false
/-- == of flat values -/
def eqV : V → V → Bool
  | .non, .non => true
  | .bl a, .bl b => a == b
  | .bl a, .int b => (if a then 1 else 0) == b
  | .int a, .bl b => a == (if b then 1 else 0)
  | .int a, .int b => a == b
  | .str a, .str b => a == b
  | _, _ => false
theorem eqAt_V {A : Around} {s : Shared} {y x : V} {u v : Value} (ry : RelV y u) (rx : RelV x v) (fy : flatV y = true) (fx : flatV x = true) : SeqAt.EqAt A s u v (eqV y x) := by
  cases y with
  | non =>
    cases ry
    cases x with
    | non => cases rx; exact SeqAt.EqAt.same _
    | bl b => cases rx; exact SeqAt.EqAt.none_bool b
    | int b => obtain ⟨t, rfl⟩ := rx; exact SeqAt.EqAt.none_int b t
    | str b => obtain ⟨t, rfl⟩ := rx; exact SeqAt.EqAt.none_str b t
    | _ => exact absurd (show false = true from fx) Bool.false_ne_true
  | bl a =>
    cases ry
    cases x with
    | non => cases rx; exact SeqAt.EqAt.bool_none a
    | bl b => cases rx; exact SeqAt.EqAt.bool_bool a b
    | int b => obtain ⟨t, rfl⟩ := rx; exact SeqAt.EqAt.bool_int a b t
    | str b => obtain ⟨t, rfl⟩ := rx; exact SeqAt.EqAt.bool_str a b t
    | _ => exact absurd (show false = true from fx) Bool.false_ne_true
  | int a =>
    obtain ⟨t', rfl⟩ := ry
    cases x with
    | non => cases rx; exact SeqAt.EqAt.int_none a t'
    | bl b => cases rx; exact SeqAt.EqAt.int_bool a t' b
    | int b => obtain ⟨t, rfl⟩ := rx; exact SeqAt.EqAt.int_int a t' b t
    | str b => obtain ⟨t, rfl⟩ := rx; exact SeqAt.EqAt.int_str a t' b t
    | _ => exact absurd (show false = true from fx) Bool.false_ne_true
  | str a =>
    obtain ⟨t', rfl⟩ := ry
    cases x with
    | non => cases rx; exact SeqAt.EqAt.str_none a t'
    | bl b => cases rx; exact SeqAt.EqAt.str_bool a t' b
    | int b => obtain ⟨t, rfl⟩ := rx; exact SeqAt.EqAt.str_int a t' b t
    | str b => obtain ⟨t, rfl⟩ := rx; exact SeqAt.EqAt.str_str a t' b t
    | _ => exact absurd (show false = true from fx) Bool.false_ne_true
  | _ => exact absurd (show false = true from fy) Bool.false_ne_true
/-- the items' answers, read off the values (a value's own answer does not lean on its token) -/
def eqU (x : V) (u : Value) : Bool := match u with
  | .none => eqV .non x
  | .bool b => eqV (.bl b) x
  | .int i _ => eqV (.int i) x
  | .str z _ => eqV (.str z) x
  | _ => false
theorem eqU_of {x y : V} {u : Value} (r : RelV y u) (f : flatV y = true) : eqU x u = eqV y x := by
  cases y with
  | non => cases r; rfl
  | bl b => cases r; rfl
  | int i => obtain ⟨t, rfl⟩ := r; rfl
  | str z => obtain ⟨t, rfl⟩ := r; rfl
  | _ => exact absurd (show false = true from f) Bool.false_ne_true
theorem any_eqU {x : V} : ∀ {xs : List V} {us : List Value}, Vals xs us → xs.all flatV = true → us.any (eqU x) = xs.any fun y => eqV y x
  | _, _, .nil, _ => rfl
  | y :: xs, u :: us, .cons r t, f => by
    rw [List.all_cons, Bool.and_eq_true] at f
    rw [List.any_cons, List.any_cons, eqU_of r f.1, any_eqU t f.2]
theorem mem_eqAt {A : Around} {s : Shared} {x : V} {v : Value} (rx : RelV x v) (fx : flatV x = true) : ∀ {xs : List V} {us : List Value}, Vals xs us → xs.all flatV = true → ∀ u ∈ us, SeqAt.EqAt A s u v (eqU x u)
  | _, _, .nil, _ => fun u hu => by cases hu
  | y :: xs, u :: us, .cons r t, f => fun u' hu => by
    rw [List.all_cons, Bool.and_eq_true] at f
    rcases List.mem_cons.mp hu with rfl | hu
    · rw [eqU_of r f.1]; exact eqAt_V r rx f.1 fx
    · exact mem_eqAt rx fx t f.2 u' hu
def inV (x : V) (xs : List V) : Bool := xs.any fun y => eqV y x
/-- x in a list or tuple of flat items -/
def rIn (K : PySem.W.Frag) (neg : Bool) : R2 := fun x y H Q => ∃ p xs, y = .ref p ∧ (SqL K H p xs ∨ SqT K H p xs) ∧ flatV x = true ∧ xs.all flatV = true ∧ Q (.bl (if neg then !inV x xs else inV x xs)) H
theorem op_notIn_seq : OpR X (compareOp .NotIn) (rIn X.K true) := by
  intro pins s σ H x y v u Q I rx ry h
  obtain ⟨p, xs, rfl, hq, fx, fs, q⟩ := h
  cases ry
  rcases hq with hq | hq
  · obtain ⟨its, r, pl, hz⟩ := I.list hq
    refine SeqAt.notIn_listAt (eqU x) pl.isList (fun w hw => mem_eqAt rx fx r fs w (by simpa using hw)) ⟨.bl _, H, I, rfl, ?_⟩
    rw [show its.toArray.any (eqU x) = its.any (eqU x) by simp, any_eqU r fs]
    exact q
  · obtain ⟨its, r, pl, hz⟩ := I.tuple hq
    refine SeqAt.notIn_tupleAt (eqU x) pl (fun w hw => mem_eqAt rx fx r fs w (by simpa using hw)) ⟨.bl _, H, I, rfl, ?_⟩
    rw [show its.toArray.any (eqU x) = its.any (eqU x) by simp, any_eqU r fs]
    exact q
/-! ### len, list(x), tuple(x) of any list or tuple that is read -/
theorem call_len_seq : CallR X (.builtin "len") (fun xs H Q => ∃ p ys, xs = [.ref p] ∧ (SqL X.K H p ys ∨ SqT X.K H p ys) ∧ Q (.int ys.length) H) := by
  intro pins s σ H xs us Q I r h
  obtain ⟨p, ys, rfl, hq, q⟩ := h
  obtain ⟨u, rfl, rx⟩ := vals1 r
  cases rx
  have hn := line63
  rcases hq with hq | hq
  · obtain ⟨its, r', pl, hz⟩ := I.list hq
    have hlen := r'.length
    exact Calls.call_len_list pl.isList (by simp only [List.size_toArray] <;> omega) ⟨.int ys.length, H, I.tok _, ⟨s.toks + 1, by rw [List.size_toArray, hlen]⟩, q⟩
  · obtain ⟨its, r', pl, hz⟩ := I.tuple hq
    have hlen := r'.length
    exact len_tuple pl (by simp only [List.size_toArray] <;> omega) ⟨.int ys.length, H, I.tok _, ⟨s.toks + 1, by rw [List.size_toArray, hlen]⟩, q⟩
theorem call_tuple_of : CallR X (.type "tuple") (fun xs H Q => ∃ p ys, xs = [.ref p] ∧ ((SqL X.K H p ys ∧ ∀ l, H l = none → Q (.ref l) (upd H l (.tup ys))) ∨ (SqT X.K H p ys ∧ Q (.ref p) H))) := by
  intro pins s σ H xs us Q I r h
  obtain ⟨p, ys, rfl, h⟩ := h
  obtain ⟨u, rfl, rx⟩ := vals1 r
  cases rx
  rcases h with ⟨hq, q⟩ | ⟨hq, q⟩
  · obtain ⟨its, r', pl, hz⟩ := I.list hq
    have hlen := r'.length
    refine call_tuple_list pl.isList (fun h' kp => ?_) (by simp only [List.size_toArray] <;> omega)
    have I1 : Inv X pins σ H { s with heap := h' } := I.kept (t' := s.toks) kp
    have I2 : Inv X pins σ (upd H h'.objs.size (.tup ys)) { s with heap := h'.push { cls := .type "tuple", data := .seq its.toArray } } :=
      I1.laid (t' := s.toks) (fun b o e => Heap.get?_push_of_some _ e) (Nat.le_refl _) (show ObjOk X.prog X.w _ _ _ (.tup ys) from ⟨hz, its, r', IsTup.new _ _⟩)
    exact ⟨.ref h'.objs.size, _, I2, rfl, q _ (I1.hok.fresh (Nat.le_refl _))⟩
  · obtain ⟨its, r', pl, hz⟩ := I.tuple hq
    exact call_tuple_same pl ⟨.ref p, H, I, rfl, q⟩

/-! ### the call of a builtin's method: o.m(..) -/
/-- the value is of that builtin type -/
def tyV (K : PySem.W.Frag) (T : String) (x : V) (H : Hp) : Prop := match x with
  | .str _ => T = "str"
  | .int _ => T = "int"
  | .ref p => (T = "list" ∧ ∃ xs, SqL K H p xs) ∨ (T = "tuple" ∧ ∃ o, K.lookup p = some o ∧ o.cls = .type "tuple" ∧ o.dict = none) ∨
      (T = "dict" ∧ ((∃ kvs, H p = some (.dK kvs)) ∨ ∃ kvs, H p = some (.dT kvs))) ∨ (T = "set" ∧ ∃ S n, H p = some (.set S n))
  | _ => False
theorem tyV_is {pins : List (Addr × Obj)} {σ : St} {H : Hp} {s : Shared} {T : String} {x : V} {v : Value} (I : Inv X pins σ H s) (r : RelV x v) (ty : tyV X.K T x H) :
    s.TypeIs v T ∧ ∀ a, v = .ref a → ∃ ob, s.heap.get? a = some ob ∧ ob.dict = none := by
  cases x with
  | str z =>
    obtain ⟨t, rfl⟩ := r
    cases (show T = "str" from ty)
    exact ⟨typeIs_str s z t, fun _ e => nomatch e⟩
  | int i =>
    obtain ⟨t, rfl⟩ := r
    cases (show T = "int" from ty)
    exact ⟨typeIs_int s i t, fun _ e => nomatch e⟩
  | ref p =>
    cases r
    rcases ty with ⟨rfl, xs, hq⟩ | ⟨rfl, o, hk, hc, hd⟩ | ⟨rfl, hk⟩ | ⟨rfl, S, n, hk⟩
    · obtain ⟨its, _, pl, _⟩ := I.list hq
      refine ⟨pl.isList.typeIs, fun a e => ?_⟩
      cases e
      obtain ⟨o, n, e, c, hd, _⟩ := pl
      exact ⟨o, e, hd⟩
    · refine ⟨⟨o, I.kIn p o hk, hc⟩, fun a e => ?_⟩
      cases e
      exact ⟨o, I.kIn _ o hk, hd⟩
    · have z : ∃ o, s.heap.get? p = some o ∧ o.ExactDict := by
        rcases hk with ⟨kvs, hk⟩ | ⟨kvs, hk⟩
        · obtain ⟨_, _, _, _, o, _, _, e, ex, _⟩ := I.hok p _ hk
          exact ⟨o, e, ex⟩
        · obtain ⟨_, _, _, _, o, _, _, e, ex, _⟩ := I.hok p _ hk
          exact ⟨o, e, ex⟩
      obtain ⟨o, e, ex⟩ := z
      refine ⟨⟨o, e, ex.1⟩, fun a e2 => ?_⟩
      cases e2
      exact ⟨o, e, ex.2.1⟩
    · obtain ⟨o, _, _, _, e, ex, _⟩ := I.hok p _ hk
      refine ⟨⟨o, e, ex.1⟩, fun a e2 => ?_⟩
      cases e2
      exact ⟨o, e, ex.2.1⟩
  | _ => exact False.elim ty
def tBM0 (K : PySem.W.Frag) (T : String) (r : V → List V → Hp → VK → Prop) (to : TE) : TE := fun σ H Q => to σ H fun x H1 => tyV K T x H1 ∧ r x [] H1 Q
def tBM (K : PySem.W.Frag) (T : String) (r : V → List V → Hp → VK → Prop) (to : TE) (t : TA) : TE := fun σ H Q => to σ H fun x H1 => tyV K T x H1 ∧ t σ H1 fun xs H2 => r x xs H2 Q
variable {o e : Expr} {es : List Expr} {to : TE} {t : TA} {name : Str} {apos cpos : Pos} {T id : String} {r : V → List V → Hp → VK → Prop}
theorem pe_bm (pa : PlainAttrs T) (slot : Slot T name id) (hty : typeOf (.builtin id) = pure (.type "method_descriptor")) (hm : MtR X id r) (ho : PE X o to) (ha : PA X (e :: es) t)
    (hbase : attributeBase o name X.env (eval o X.env) = eval o X.env := by rfl)
    (hfew : ((backTo cpos (starEach (e :: es) X.env)).all (fun x => !x.1) && (backToKw cpos (keywordEach [] X.env)).all (fun x => x.1.isSome)
      && decide ((e :: es).length + ([] : List Keyword).length + (if ([] : List Keyword).isEmpty then 0 else 1) < 30)) = true := by rfl)
    (hline : (apos.endLine == cpos.line) = true := by rfl) (hs : starEach (e :: es) X.env = (false, eval e X.env) :: starEach es X.env := by rfl) (hplain : (backTo cpos (starEach es X.env)).any (·.1) = false := by rfl) :
    PE X (.Call (.Attribute o name apos) (e :: es) [] cpos) (tBM X.K T r to t) := by
  intro pins s σ H Q I h
  refine wpAny_Call_method_late hbase hfew hline rfl (thn (ho pins s σ H _ I h) fun v s1 ⟨x, H1, I1, r1, ty, q1⟩ => ?_)
  obtain ⟨h1, h2⟩ := tyV_is I1 r1 ty
  refine ⟨T, id, pa, slot, hty, h1, h2, ?_⟩
  have hA := ha cpos pins s1 σ H1 _ I1 q1
  rw [hs] at hA ⊢
  refine Calls.callWith_builtin (by show (false || (backTo cpos (starEach es X.env)).any (·.1)) = false; rw [hplain] <;> rfl) (Calls.evalArgs_plain ?_)
  exact thn hA fun us s2 ⟨vs, H2, I2, r2, q2⟩ => hm pins s2 σ H2 x vs v us Q I2 r1 r2 q2
/- xs.append(e), list.index on a module's tuple .. are MtR facts of 06m -/
end
end L2

namespace L2
open PySem PySem.Spec PyProof.Rows

def MtM (X : Cx) (id : String) (r : V → List V → Hp → VK → Prop) : Prop :=
  ∀ (pins : List (Addr × Obj)) (s : Shared) (σ : St) (H : Hp) (x : V) (xs : List V) (v : Value) (us : List Value) (Q : VK), Inv X pins σ H s → RelV x v → Vals xs us → r x xs H Q →
    wpAny (model X.prog X.w) X.A (call (.builtin id) (v :: us)) (EP X pins σ Q) X.xe s

/-! ### lists of values -/
theorem Vals.one : ∀ {x : V} {us : List Value}, Vals [x] us → ∃ u, us = [u] ∧ RelV x u
  | _, _, .cons r .nil => ⟨_, rfl, r⟩
theorem Vals.rep {xs : List V} {us : List Value} (h : Vals xs us) : ∀ k : Nat, Vals (List.replicate k xs).flatten (List.replicate k us).flatten
  | 0 => .nil
  | k + 1 => by
    rw [List.replicate_succ, List.replicate_succ, List.flatten_cons, List.flatten_cons]
    exact Vals.append h (Vals.rep h k)
theorem foldl_rep (its : List Value) : ∀ (k : Nat) (acc : List Value),
    List.foldl (fun x1 x2 => x1 ++ x2) acc.toArray (List.replicate k its.toArray) = (acc ++ (List.replicate k its).flatten).toArray
  | 0, acc => by simp
  | k + 1, acc => by
    have e : acc.toArray ++ its.toArray = (acc ++ its).toArray := by simp
    have e2 : (acc ++ its) ++ (List.replicate k its).flatten = acc ++ (List.replicate (k + 1) its).flatten := by
      rw [List.replicate_succ, List.flatten_cons, List.append_assoc]
    rw [← e2, ← foldl_rep its k (acc ++ its), ← e, List.replicate_succ, List.foldl_cons]

section
variable {X : Cx} {pins : List (Addr × Obj)} {σ : St} {H : Hp} {s : Shared} {l b : Addr} {xs ys zs : List V}

/-! ### the two steps: a tracked list is rewritten, a new list is laid -/
theorem Inv.lset {its its' : List Value} {n : Nat} {f : Array Value → Array Value} {t' : Nat} (I : Inv X pins σ H s) (hH : H l = some (.lst xs))
    (e : s.heap.get? l = some { cls := .type "list", data := .seq its.toArray n }) (hf : f its.toArray = its'.toArray) (hv : Vals ys its') (hz : ys.length ≤ sizeLine) :
    Inv X pins σ (upd H l (.lst ys)) { s with heap := s.heap.update l (Obj.mapSeq f), toks := t' } := by
  have q := PySem.IsL.update e f
  rw [hf] at q
  refine I.write (x := l) (e := l) (by rw [hH]; exact trivial) (.inl rfl) (fun b' u hb hu => (Heap.get?_update_other s.heap (Obj.mapSeq f) (Ne.symm hb)).trans hu) ⟨_, q⟩ ?_
  exact ⟨hz, its', _, hv, q⟩
theorem Inv.lnew {its : List Value} {t' : Nat} (I : Inv X pins σ H s) (hv : Vals ys its) (hz : ys.length ≤ sizeLine) :
    Inv X pins σ (upd H s.heap.objs.size (.lst ys)) { s with heap := s.heap.push { cls := .type "list", data := .seq its.toArray }, toks := t' } :=
  I.laid (fun _ _ q => Heap.get?_push_of_some _ q) (Nat.le_refl _) ⟨hz, its, 0, hv, Heap.get?_push_size _ rfl⟩
theorem Inv.fresh (I : Inv X pins σ H s) : H s.heap.objs.size = none := I.hok.fresh (Nat.le_refl _)
theorem Inv.lstM (I : Inv X pins σ H s) (hH : H l = some (.lst xs)) : xs.length ≤ sizeLine ∧ ∃ (its : List Value) (n : Nat), Vals xs its ∧ xs.length = its.length ∧ s.heap.get? l = some { cls := .type "list", data := .seq its.toArray n } := by
  obtain ⟨z, its, n, r, e⟩ := I.hok l _ hH
  exact ⟨z, its, n, r, r.length, e⟩

theorem notLongL {n : Nat} (h : n ≤ sizeLine) : Builtin.List.listTooLong n = false := by
  unfold Builtin.List.listTooLong
  exact decide_eq_false (by omega)
end

section
variable {X : Cx}

/-! ### methods -/
def rAppend : V → List V → Hp → VK → Prop := fun x vs H Q => ∃ l xs y, x = .ref l ∧ vs = [y] ∧ H l = some (.lst xs) ∧ xs.length < sizeLine ∧ Q .non (upd H l (.lst (xs ++ [y])))
theorem mt_append : MtM X "list.append" rAppend := by
  intro pins s σ H x vs v us Q I rx rv h
  obtain ⟨l, xs, y, rfl, rfl, hH, hz, q⟩ := h
  cases rx
  obtain ⟨u, rfl, ru⟩ := rv.one
  obtain ⟨z, its, n, r, hl, e⟩ := I.lstM hH
  refine call_meets F.slot_list_append ⟨_, e, rfl⟩ F.entry_list_append (F.args_list_append_2 _ _) (PySem.list_append l its.toArray n u (by rw [List.size_toArray]; omega)) ⟨e, ?_⟩
  refine ⟨.non, _, I.lset (its' := its ++ [u]) hH e (by simp) (r.append (.cons ru .nil)) ?_, rfl, q⟩
  rw [List.length_append, List.length_singleton]
  omega

def rExtend : V → List V → Hp → VK → Prop := fun x vs H Q => ∃ l b xs zs, x = .ref l ∧ vs = [.ref b] ∧ H l = some (.lst xs) ∧ H b = some (.lst zs) ∧ xs.length + zs.length ≤ sizeLine ∧ Q .non (upd H l (.lst (xs ++ zs)))
def rPop : V → List V → Hp → VK → Prop := fun x vs H Q => ∃ l xs y, x = .ref l ∧ vs = [] ∧ H l = some (.lst xs) ∧ xs[xs.length - 1]? = some y ∧ Q y (upd H l (.lst xs.dropLast))
def rPopAt : V → List V → Hp → VK → Prop := fun x vs H Q => ∃ l xs i k y, x = .ref l ∧ vs = [.int i] ∧ H l = some (.lst xs) ∧ -(2 ^ 63) ≤ i ∧ i < 2 ^ 63 ∧ seqIndex? i xs.length = some k ∧ xs[k]? = some y ∧ Q y (upd H l (.lst (xs.eraseIdx k)))
def rReverse : V → List V → Hp → VK → Prop := fun x vs H Q => ∃ l xs, x = .ref l ∧ vs = [] ∧ H l = some (.lst xs) ∧ Q .non (upd H l (.lst xs.reverse))
def rClear : V → List V → Hp → VK → Prop := fun x vs H Q => ∃ l xs, x = .ref l ∧ vs = [] ∧ H l = some (.lst xs) ∧ Q .non (upd H l (.lst []))
/-! ### list + list, list += list, list * int -/
def rCat : R2 := fun x y H Q => ∃ l b xs zs, x = .ref l ∧ y = .ref b ∧ H l = some (.lst xs) ∧ H b = some (.lst zs) ∧ xs.length + zs.length ≤ sizeLine ∧ ∀ p, H p = none → Q (.ref p) (upd H p (.lst (xs ++ zs)))
theorem op_cat : OpR X (binaryOp .Add) rCat := by
  intro pins s σ H x y v u Q I rx ry h
  obtain ⟨l, b, xs, zs, rfl, rfl, hH, hB, hz, q⟩ := h
  cases rx
  cases ry
  obtain ⟨z, its, n, r, hl, e⟩ := I.lstM hH
  obtain ⟨z2, its2, n2, r2, hl2, e2⟩ := I.lstM hB
  refine PySem.P.add_list e e2 ?_ (by rw [List.size_toArray, List.size_toArray]; omega)
  have ea : its.toArray ++ its2.toArray = (its ++ its2).toArray := by simp
  rw [ea]
  exact ⟨.ref _, _, I.lnew (t' := s.toks) (r.append r2) (by rw [List.length_append]; omega), rfl, q _ I.fresh⟩
/-- a list times an int (a negative one is nothing) -/
def rRep : R2 := fun x y H Q => ∃ l k xs, x = .ref l ∧ y = .int k ∧ H l = some (.lst xs) ∧ -(2 ^ 63) ≤ k ∧ k < 2 ^ 63 ∧ xs.length * k.toNat ≤ sizeLine ∧
  ∀ p, H p = none → Q (.ref p) (upd H p (.lst (List.replicate k.toNat xs).flatten))
theorem len_rep {α : Type} (xs : List α) (k : Nat) : (List.replicate k xs).flatten.length = k * xs.length := by
  induction k with
  | zero => simp
  | succ k ih => rw [List.replicate_succ, List.flatten_cons, List.length_append, ih, Nat.succ_mul, Nat.add_comm]
theorem op_rep : OpR X (binaryOp .Mult) rRep := by
  intro pins s σ H x y v u Q I rx ry h
  obtain ⟨l, k, xs, rfl, rfl, hH, h1, h2, hz, q⟩ := h
  cases rx
  obtain ⟨t, rfl⟩ := ry
  obtain ⟨z, its, n, r, hl, e⟩ := I.lstM hH
  have hlen : its.toArray.size * k.toNat ≤ sizeLine := by rw [List.size_toArray, ← hl]; exact hz
  have hcap : ¬ its.toArray.size * k.toNat > (2 ^ 63 - 1) / 8 := by
    have : (sizeLine : Nat) ≤ (2 ^ 63 - 1) / 8 := by decide
    omega
  have hfit : ¬ (!Builtin.List.listFitsIndex k) = true := by
    rw [fitsIndex_both h1 h2]
    exact Bool.false_ne_true
  have hlong : ¬ Builtin.List.listTooLong (its.toArray.size * k.toNat) = true := by
    rw [notLongL hlen]
    exact Bool.false_ne_true
  have hnew : List.foldl (fun x1 x2 => x1 ++ x2) #[] (List.replicate (if its.toArray.isEmpty = true then 0 else k.toNat) its.toArray) = (List.replicate k.toNat its).flatten.toArray := by
    have f0 : ∀ m : Nat, List.foldl (fun x1 x2 => x1 ++ x2) #[] (List.replicate m its.toArray) = (List.replicate m its).flatten.toArray := fun m => by
      have := foldl_rep its m []
      rw [List.nil_append] at this
      exact this
    rw [f0]
    cases its with
    | nil => simp
    | cons a r' => rw [if_neg (by simp)]
  refine wpAny_binaryOp_repeat_ref (T := "list") (U := "int") (by decide) ⟨_, e, rfl⟩ (fun s' => typeIs_int s' k t) noFill_list_mul F.fills_int_mul F.slot_int_rmul repeat_list F.slot_int_index.lookup
    (call_meets F.slot_int_rmul (typeIs_int s k t) F.entry_int_rmul (F.args_int_rmul_2 _ _) (int___rmul___int_list k t l its.toArray n)
      ⟨e, rfl, ⟨_, e, rfl⟩, call_meets F.slot_list_mul ⟨_, e, rfl⟩ F.entry_list_mul (F.args_list_mul_2 _ _) (AutoListH.list___mul___list_int_3 l its.toArray n k t hfit hcap hlong) ⟨e, ?_⟩⟩)
  rw [hnew]
  exact ⟨.ref _, _, I.lnew (t' := s.toks) (r.rep k.toNat) (by rw [len_rep, Nat.mul_comm]; exact hz), rfl, q _ I.fresh⟩

/-! ### del xs[i] -/
end

/-! ### xs[a:b] = ys -/
section
variable {prog : Program} {w : World} {A : Around} {E : Value → Shared → Prop} {s : Shared}
end

section
variable {X : Cx}
end
end L2

namespace Att
open PySem PySem.W PySem.Calls PyProof.Rows

/-! ### the script -/
theorem ints_of_wellAll {P : Params} {h : Heap} : ∀ (ns : List Int) (vs : List Value), WellAll P h vs (ns.map WData.int) → IntsAre vs ns := by
  intro ns
  induction ns with
  | nil =>
    intro vs w
    rw [List.map_nil] at w
    cases w
    exact .nil
  | cons n ns ih =>
    intro vs w
    rw [List.map_cons] at w
    cases w with
    | cons a b =>
      cases a
      exact .cons _ _ (ih _ b)

theorem script_of {l : OpenLaw} {n : Nat} (hn : l.most = some n) {P : Params} {h : Heap} {args : List WData} {vals : List Value}
    (hpre : l.row.toRowW.claim.pre args = true) (hwl : WellAll P h vals args) :
    ∃ a vs ns, vals = [Value.ref a] ∧ args = [WData.list (ns.map WData.int)] ∧ h.get? a = some { cls := .type "list", data := .seq vs.toArray } ∧ IntsAre vs ns ∧ ns.length ≤ n := by
  have hsh : WShape.hasAll [] args [.list .int] = true := (pre_splitW hpre).1
  have hc : l.pre.holds [] { args := args } = true := (pre_splitW hpre).2
  obtain ⟨d, r, rfl, h1, h2⟩ := hasAllW_cons hsh
  obtain rfl := hasAllW_nil h2
  obtain ⟨xs, rfl, h3⟩ := hasW_list h1
  obtain ⟨ns, rfl⟩ := items_int h3
  have hlen : ns.length ≤ n := by
    unfold OpenLaw.pre at hc
    have h4 : (WTm.not (.lt (.lit (.int (n : Int))) (.len (.arg 0)))).holds [] { args := [.list (ns.map .int)] } = true := by
      have h4 := (holds_andW hc).1
      rw [hn] at h4
      exact h4
    have h5 := condW_of h4 (w_not (w_lt w_lit (w_len_list (w_arg rfl))))
    rw [List.length_map] at h5
    refine Nat.le_of_not_lt fun q => ?_
    have q' : (n : Int) < ((ns.length : Nat) : Int) := by omega
    first
      | (rw [decide_eq_true q'] at h5; exact absurd h5 (by decide))
      | (simp at h5; omega)
  cases hwl with
  | cons w1 w2 =>
    cases w2
    cases w1 with
    | list ho hall => exact ⟨_, _, ns, rfl, rfl, ho, ints_of_wellAll ns _ hall, hlen⟩

theorem post_true (l : OpenLaw) (args : List WData) : l.row.toRowW.claim.post args (.bool true) args = true :=
  postW_of (r := l.row.toRowW) (X := (true == true))
    (show WShape.has [] (.bool true) .bool = true by first | rfl | decide | simp [WShape.has, WShape.arms, WShape.armsAll])
    (show (WTm.eq .res (.lit (.bool true))).value [] { args := args, res := some (.bool true), after := args } = some (.bool (true == true)) from w_eq_bool (w_res rfl) w_lit) rfl

/-! ### the attachment: holds_open's last premise (the goal 'hc' behind k_head) from a wpAny of the law's body -/
/-- the same from a codeAny of the CALL (for a layer whose function contracts speak of calls) -/
theorem attach_call {l : OpenLaw} {n : Nat} {q : Program} {loose : List Str} {XP : (Str → Option Value) → Heap → Prop} {YP : World → Heap → Prop} {d : DefRec}
    (hn : l.most = some n) (hdf : d.params.defaults = [])
    (call : ∀ (w : World) (s₀ s₁ : Shared) (mg mb : Str → Option Value) (fa : Addr) (o : Obj) (pm cd doc : Value) (a : Addr) (vs : List Value) (ns : List Int),
      Ground q loose [] XP w s₀ mg mb s₁.heap → YP w s₁.heap →
      s₁.heap.get? fa = some o → o.data = .func (docDef d.name d.params d.body d.scope pm cd doc) → s₁.heap.CodeRec cd d.name → mg d.name = some (.ref fa) →
      s₁.heap.get? a = some { cls := .type "list", data := .seq vs.toArray } → IntsAre vs ns → ns.length ≤ n → s₁.gens = #[] →
      codeAny (model l.prog w) callerA (.call (.ref fa) ⟨[.ref a], []⟩) (fun r s' => r = .ok (.ret (.bool true)) ∧ OldK s₁.heap s'.heap ∧ s'.os = s₁.os ∧ AllBare s'.gens) s₁) :
    WalkO q loose XP YP l.row.toRowW d [] (fun f vs => PySem.call f vs) := by
  intro w s₀ s₁ mg mb G Y fa o pm cd doc dV kV ho hd hcd hD hmg hg args vals as hpre hlay hrd hwl hlo
  obtain rfl : dV = .none := Dflts.none hD hdf
  obtain rfl : kV = .none := Dflts.noKw hD
  obtain ⟨a, vs, ns, rfl, rfl, hobj, hints, hlen⟩ := script_of hn hpre hwl
  refine enter_call (codeAny_mono (call w s₀ s₁ mg mb fa o pm cd doc a vs ns G Y ho (fd_plain hd) hcd hmg hobj hints hlen hg) fun r s' hq => ?_)
  obtain ⟨rfl, h2, h3, h4⟩ := hq
  exact ⟨.inl ⟨.bool true, .bool true, [], rfl, fun _ => rfl, .bool true, post_true l _, fun _ => ⟨List.Pairwise.nil, fun _ hm => (nomatch hm)⟩⟩, h2, h3, h4⟩

/-! ### rules over ANY heap (no ledger) from facts about the written part K: the library's own take a ledger (News) for what they write -/
section
variable {prog : Program} {w : World} {A : Around} {E : Value → Shared → Prop} {s : Shared} {K : Frag}

/-! the whole heap as the ledger: makes every rule that writes through a ledger a rule over any heap -/
def noObjs (h : Heap) : Heap := { h with objs := #[] }
def ledger (h : Heap) (L d : Addr) : List (Addr × Obj) := (List.range h.objs.size).filterMap fun a => if a = L ∨ a = d then none else (h.get? a).map fun o => (a, o)
end
end Att

namespace L2
open PySem PySem.Spec PyProof.Rows

theorem vals_ints : ∀ {vs : List Value} {ns : List Int}, IntsAre vs ns → Vals (ns.map V.int) vs
  | _, _, .nil => .nil
  | _, _, .cons n t h => .cons ⟨t, rfl⟩ (vals_ints h)

/-- nothing is tracked but the script, known to the object (or it is an object of the module) -/
def Only (H : Hp) : Prop := ∀ b, H b = none ∨ ∃ o xs, H b = some (.frz o (.lst xs))

/-- THE HEAD: the law's promise, at the heap behind the top. F, the promise of the law's def, may use that base is part of the heap (so K.In base, base.Ns mainGlobals mg stand in Mod) -/
theorem law_call {P : Program} {w : World} {K : PySem.W.Frag} {mg mb : Str → Option Value} {CX : CXT} {k : Nat} {fa a : Addr} {fd : FuncData} {x : Str} {sp : Sp} {s₁ : Shared} {vs : List Value} {ns : List Int}
    (KX : K.In s₁.heap) (hns : s₁.heap.Ns mainGlobals mg) (hb : s₁.heap.Ns builtinsNs mb) (hbb : ∀ x : Str, x ≠ "__name__" → mb x = bootBuiltins x) (hlim : s₁.heap.NoLimit) (hg : s₁.gens = #[])
    (ha : s₁.heap.get? a = some { cls := .type "list", data := .seq vs.toArray }) (hi : IntsAre vs ns) (hl : ns.length ≤ sizeLine) (hr : Room k callerA)
    (F : ∀ base : Heap, K.In base → base.Ns mainGlobals mg → FnOk P w K mg base CX k fa fd [x] sp) (hbind : ∀ (s : Shared) (u : Value), BindsTo s fd ⟨[u], []⟩ [(x, u)])
    (hsp : ∀ H : Hp, Only H → SqL K H a (ns.map V.int) → sp [.ref a] H (fun v _ => v = .bl true) fun _ _ _ => False)
    (hCX : ∀ H e s', CX [] H s₁ (fun _ _ _ => False) e s' → False) :
    codeAny (model P w) callerA (.call (.ref fa) ⟨[.ref a], []⟩) (fun r s' => r = .ok (.ret (.bool true)) ∧ OldK s₁.heap s'.heap ∧ s'.os = s₁.os ∧ AllBare s'.gens) s₁ := by
  have rv := vals_ints hi
  have lenV := hi.length
  -- from an abstract heap in which nothing but the script may be tracked
  have core : ∀ H : Hp, Only H → SqL K H a (ns.map V.int) → HOk P w H s₁.heap → (∀ b, H b ≠ none → b = a) → (H a ≠ none → K.lookup a = none) →
      codeAny (model P w) callerA (.call (.ref fa) ⟨[.ref a], []⟩) (fun r s' => r = .ok (.ret (.bool true)) ∧ OldK s₁.heap s'.heap ∧ s'.os = s₁.os ∧ AllBare s'.gens) s₁ := by
    intro H hO hS hok hA hK
    have base_of : ∀ {b : Addr} {o : Obj}, s₁.heap.get? b = some o → H b = none → (hidT s₁.heap H).get? b = some o := fun e n => hidT_get e n
    have noA : ∀ {b : Addr} {o : Obj} {es : Array DictEntry} {ep : Nat}, s₁.heap.get? b = some o → o.data = .dict es ep → H b = none := fun {b o es ep} e d => by
      cases q : H b with
      | none => rfl
      | some u =>
        have e' : b = a := hA b (by rw [q]; simp)
        subst e'
        rw [ha] at e; cases e
        have d' : Data.seq vs.toArray _ = Data.dict es ep := d
        cases d'
    have nsK : ∀ {b : Addr} {m : Str → Option Value}, s₁.heap.Ns b m → (hidT s₁.heap H).Ns b m := fun {b m} ⟨o, es, ep, e, d, r⟩ => ⟨o, es, ep, base_of e (noA e d), d, r⟩
    have hKb : K.In (hidT s₁.heap H) := fun b o e => base_of (KX b o e) (by
      cases q : H b with
      | none => rfl
      | some u =>
        have e' : b = a := hA b (by rw [q]; simp)
        subst e'
        rw [hK (by rw [q]; simp)] at e; cases e)
    have hM : Mod K mg (hidT s₁.heap H) := ⟨hKb, nsK hns, ⟨mb, nsK hb, hbb⟩, let ⟨mc, h1, h2⟩ := hlim; ⟨mc, nsK h1, h2⟩⟩
    have e0 : Env0 P w K mg (hidT s₁.heap H) callerA [] s₁ H := ⟨rfl, hM, fun b o e => of_hidT e, Nat.le_of_eq (hidT_size _ _), trivial, fun b hb => absurd (show b ∈ ([] : List Addr) from hb) (by simp), hok, .of_eq hg⟩
    refine codeAny_mono ((F _ hKb (nsK hns)).run callerA [] s₁ H ⟨[.ref a], []⟩ [.ref a] [.ref a] _ _ hr e0 (hbind s₁ (.ref a)) (.cons rfl .nil) (hsp H hO hS)) fun r s' h => ?_
    cases r with
    | error e => exact (hCX H e s' h).elim
    | ok fl =>
      cases fl with
      | next => exact False.elim h
      | brk => exact False.elim h
      | cont => exact False.elim h
      | ret u =>
        obtain ⟨v, H', os, bare, un, hok', r', q⟩ := h
        have q' : v = .bl true := q
        subst q'
        obtain rfl : u = Value.bool true := r'
        refine ⟨rfl, OldK.of_keep fun b o e => ?_, os, bare⟩
        cases q : H b with
        | none => exact un.keep b o e q (by intro z; exact absurd (show b ∈ ([] : List Addr) from z) (by simp)) (by simp)
        | some u =>
          rcases hO b with z | ⟨ob, xs, z⟩
          · rw [q] at z; cases z
          · have z2 := un.frzs b ob _ z
            obtain ⟨e1, _⟩ := hok b _ z
            obtain ⟨e2, _⟩ := hok' b _ z2
            rw [e] at e1; cases e1
            exact e2
  cases hk : K.lookup a with
  | some o =>
    -- the script is one of the module's own objects
    have e := KX a o hk
    rw [ha] at e
    cases e
    refine core (fun _ => none) (fun _ => .inl rfl) (.inr ⟨_, vs.toArray, _, hk, rfl, rfl, rfl, by rw [List.size_toArray, lenV]; exact hl, by simpa using rv⟩) (fun b u z => by have z' : (none : Option HO) = some u := z; cases z') (fun b z => absurd rfl z) fun z => absurd rfl z
  | none =>
    refine core (fun b => if b = a then some (.frz { cls := .type "list", data := .seq vs.toArray } (.lst (ns.map V.int))) else none) (fun b => ?_) (.inl (.inr ⟨{ cls := .type "list", data := .seq vs.toArray }, if_pos rfl⟩)) (fun b u z => ?_) (fun b z => ?_) fun _ => hk
    · by_cases hb : b = a
      · exact .inr ⟨_, _, if_pos hb⟩
      · exact .inl (if_neg hb)
    · by_cases hb : b = a
      · have z' := (if_pos hb).symm.trans z
        cases z'
        subst hb
        exact ⟨ha, by rw [List.length_map]; exact hl, vs, _, rv, ha⟩
      · have z' := (if_neg hb).symm.trans z
        cases z'
    · by_cases hb : b = a
      · exact hb
      · exact absurd (if_neg hb) z
end L2

namespace L2
open PySem PySem.Spec PyProof.Rows

abbrev KOf {K : PySem.W.Frag} {h : Heap} (_ : K.In h) : PySem.W.Frag := K

/-- the goal that k_head leaves (case hc), from the law's promise. F gives the function object fd (K's own) once, then the promise over every base -/
theorem walk_of {l : PySem.W.OpenLaw} {n k : Nat} {q : Program} {loose : List Str} {XP : (Str → Option Value) → Heap → Prop} {YP : World → Heap → Prop} {d : DefRec} {K : Params → PySem.W.Frag} {CX : World → CXT} {sp : World → Sp} {x : Str}
    (hn : l.most = some n) (hn2 : n ≤ sizeLine) (hdf : d.params.defaults = []) (hr : Room k callerA)
    (hY : ∀ (w : World) (h : Heap), YP w h → (K w.params).In h)
    (F : ∀ (w : World) (mg : Str → Option Value) (fa : Addr) (h : Heap), (K w.params).In h → h.Ns mainGlobals mg → mg d.name = some (.ref fa) →
      ∃ fd : FuncData, (∀ (s : Shared) (u : Value), BindsTo s fd ⟨[u], []⟩ [(x, u)]) ∧
        ∀ base : Heap, (K w.params).In base → base.Ns mainGlobals mg → FnOk l.prog w (K w.params) mg base (CX w) k fa fd [x] (sp w))
    (hsp : ∀ (w : World) (H : Hp) (a : Addr) (ns : List Int), ns.length ≤ n → Only H → SqL (K w.params) H a (ns.map V.int) → sp w [.ref a] H (fun v _ => v = .bl true) fun _ _ _ => False)
    (hCX : ∀ (w : World) (H : Hp) (s : Shared) (e : Value) (s' : Shared), CX w [] H s (fun _ _ _ => False) e s' → False) :
    PySem.W.WalkO q loose XP YP l.row.toRowW d [] (fun f vs => PySem.call f vs) := by
  refine Att.attach_call hn hdf fun w s₀ s₁ mg mb fa o pm cd doc a vs ns G Y ho hd hcd hmg hobj hints hlen hg => ?_
  have KX := hY w _ Y
  obtain ⟨fd, hb, hF⟩ := F w mg fa _ KX G.T.g hmg
  exact law_call KX G.T.g G.T.b G.T.builtins G.T.nolimit hg hobj hints (Nat.le_trans hlen hn2) hr hF hb (fun H hO hS => hsp w H a ns hlen hO hS) fun H e s' => hCX w H s₁ e s'
end L2

/- THE LAST THEOREM (shape; LID, My.* are yours):
   My.Adr: a structure of the addresses that your layer names (classes, functions); My.Txt K t: a structure (Prop) of the equations over K;
   My.txt_mk : {K} {implicit addresses ..} (e1 : nsIn K mainGlobals "law" = some (some (.ref f))) (e2 : K.lookup f = some ⟨oc, od, .func (fnOf "law" "law" params body scope dV kV doc pm an cdv ct), sl⟩) (e3 : codeIn K cdv "law" = true) .. : ∃ t, My.Txt K t

set_option maxRecDepth 100000 in
set_option maxHeartbeats 0 in
theorem PySem.Challenge.cw_LID_holds : PySem.Challenge.rw_LID.Holds := by
  w_on; o_law; k_head; (case hw => w_witness2)
  k_fill
  refine L2.walk_of (l := PySem.Challenge.rw_LID) (n := 63) (k := 40) (x := "script") (CX := fun w => ..) (sp := fun _ => My.sp_law) rfl (by decide) rfl ⟨rfl, by decide, by decide⟩ (fun w h Y => PySem.W.kIn_of Y) ?F ?S ?C
  case F =>
    intro w mg fa h KX G hmg
    have T : ∃ t, My.Txt (L2.KOf KX) t := by
      dsimp only [L2.KOf]                          -- K must stand as «<heap const> w.params» for k_is
      refine' My.txt_mk ?e1 ?e2 ?e3 ..
      (case e1 => PySem.W.k_is)                    -- in the order: a name -> its address -> its object -> its parts
      (case e2 => PySem.W.k_is)
      ..
    obtain ⟨t, T⟩ := T
    have e0 := hmg.symm.trans (PySem.W.mg_of KX G T.law)
    cases e0                                       -- fa is the law's own address
    exact ⟨_, fun s u => .of_eq rfl, fun base kb nb => My.law_fn T kb nb⟩     -- if «.of_eq rfl» comes too early: refine' ⟨_, ?b, fun base kb nb => My.law_fn T kb nb⟩; exact fun s u => .of_eq rfl
  case S => exact fun w H a ns hl hO hS => ..
  case C => exact ..
(the tactic k_is has no namespace: write k_is) -/

/-! SHORT WORDS over the layer: a def of the text, its body, what a loop and a test want. -/
namespace L2
open PySem PySem.Spec PyProof.Rows

/-! ### the text by places -/
/-- the j-th statement of a class's body -/
def inClass (s : Stmt) (j : Nat) : Stmt := match s with
  | .ClassDef _ _ _ body _ _ _ _ _ _ _ => body.getD j (.Pass ⟨0, 0, 0, 0⟩)
  | _ => .Pass ⟨0, 0, 0, 0⟩
def defArgs (s : Stmt) : Arguments := match s with
  | .FunctionDef _ a _ _ _ _ _ _ _ _ => a
  | _ => { posonlyargs := [], args := [], vararg := none, kwonlyargs := [], kw_defaults := [], kwarg := none, defaults := [] }
def defBody (s : Stmt) : List Stmt := match s with
  | .FunctionDef _ _ b _ _ _ _ _ _ _ => b
  | _ => []
def defScope (s : Stmt) : Scope := match s with
  | .FunctionDef _ _ _ _ _ _ sc _ _ _ => sc
  | _ => { kind := .function, names := [], isGenerator := false, isCoroutine := false }

/-! ### no exception leaves a def -/
abbrev CX0 : CXT := fun _ _ _ _ _ _ => False
abbrev E0 : XK := fun _ _ _ => False
/-! ### a def (or method) of the text as it stands behind the top -/
structure Fun (K : PySem.W.Frag) (x qual : Str) (st : Stmt) (f : Addr) (fd : FuncData) : Prop where
  ex : ∃ (oc : Value) (od : Option Addr) (kV doc pm : Value) (an : Option Addr) (cdv ct : Value) (osl : Array (Option Value)),
    fd = PySem.W.fnOf x qual (defArgs st) (defBody st) (defScope st) .none kV doc pm an cdv ct ∧ K.lookup f = some ⟨oc, od, .func fd, osl⟩ ∧ PySem.W.codeIn K cdv qual = true
  kp : PySem.W.keepIn K (.ref f) = true
section
variable {P : Program} {w : World} {K : PySem.W.Frag} {mg : Str → Option Value} {base : Heap}
/-- how its arguments bind (no defaults): h is «fun _ _ _ _ _ _ us hl => match us, hl with | [_, _], _ => rfl», one _ a parameter -/
theorem Fun.binds {x qual : Str} {st : Stmt} {f : Addr} {fd : FuncData} {ps : List Str} (F : Fun K x qual st f fd)
    (h : ∀ (kV doc pm : Value) (an : Option Addr) (cdv ct : Value) (us : List Value), us.length = ps.length → bindArgs (PySem.W.fnOf x qual (defArgs st) (defBody st) (defScope st) .none kV doc pm an cdv ct) ⟨us, []⟩ = pure (ps.zip us)) : Binds K fd ps [] := by
  obtain ⟨oc, od, kV, doc, pm, an, cdv, ct, osl, rfl, lk, hcd⟩ := F.ex
  exact .all (h kV doc pm an cdv ct)
theorem fun_mk {x qual : Str} {st : Stmt} {f : Addr} {oc : Value} {od an : Option Addr} {osl : Array (Option Value)} {kV doc pm cdv ct : Value} (l : K.lookup f = some ⟨oc, od, .func (PySem.W.fnOf x qual (defArgs st) (defBody st) (defScope st) .none kV doc pm an cdv ct), osl⟩)
    (c : PySem.W.codeIn K cdv qual = true) (k : PySem.W.keepIn K (.ref f) = true) : Fun K x qual st f (PySem.W.fnOf x qual (defArgs st) (defBody st) (defScope st) .none kV doc pm an cdv ct) := ⟨⟨oc, od, kV, doc, pm, an, cdv, ct, osl, rfl, l, c⟩, k⟩
end
/-! ### expressions in short: the name that stands in the i-th slot -/
section
variable {X : Cx}
theorem pv (i : Nat) {x : Str} {pos : Pos} (hN : X.N[i]? = some x := by rfl) (hv : Vis X.env.scope x := by first | exact Or.inl rfl | exact Or.inr (Or.inl rfl) | exact Or.inr (Or.inr rfl)) (hd : (x == ("__debug__" : Str)) = false := by decide)
    (hcd : (x == ("__classdict__" : Str)) = false := by decide) : PE X (.Name x pos) (tVar i) := pe_var hN hv hd hcd
end

/-! ### tests -/
theorem iteF {A B : Prop} (h : B) : if false = true then A else B := by
  rw [if_neg Bool.false_ne_true]
  exact h
theorem iteT {A B : Prop} (h : A) : if true = true then A else B := by
  rw [if_pos rfl]
  exact h
theorem ite2 {c A B : Prop} [Decidable c] (h1 : c → A) (h2 : ¬ c → B) : if c then A else B := by
  by_cases h : c
  · rw [if_pos h]
    exact h1 h
  · rw [if_neg h]
    exact h2 h
theorem iteNS {c A B : Prop} [Decidable c] (hc : c) (h : B) : if (!decide c) = true then A else B := by
  rw [decide_eq_true hc]
  exact iteF h

/-! ### heaps -/
/-- all that was tracked is as it was -/
def Same (H H' : Hp) : Prop := ∀ b o, H b = some o → H' b = some o
theorem Same.refl (H : Hp) : Same H H := fun _ _ h => h
theorem Same.trans {H H1 H2 : Hp} (a : Same H H1) (b : Same H1 H2) : Same H H2 := fun c o h => b c o (a c o h)
theorem Same.free {H H' : Hp} (e : Same H H') {l : Addr} (h : H' l = Option.none) : H l = Option.none := by
  cases q : H l with
  | none => rfl
  | some o =>
    rw [e l o q] at h
    cases h
theorem Same.seq {K : PySem.W.Frag} {H H' : Hp} {a : Addr} {xs : List V} (e : Same H H') (h : SqL K H a xs) : SqL K H' a xs := by
  rcases h with (h | ⟨o, h⟩) | h
  · exact .inl (.inl (e _ _ h))
  · exact .inl (.inr ⟨o, e _ _ h⟩)
  · exact .inr h

end L2

namespace En
/-- the limbs of a natural number, the one of least worth first -/
def limbs (n : Nat) : List Nat := if n = 0 then [] else (n % 65536) :: limbs (n / 65536)
termination_by n
decreasing_by omega
theorem limbs_zero : limbs 0 = [] := by rw [limbs]; rfl
theorem limbs_pos {n : Nat} (h : 0 < n) : limbs n = n % 65536 :: limbs (n / 65536) := by rw [limbs, if_neg (by omega)]
def val : List Nat → Nat
  | [] => 0
  | d :: r => d + 65536 * val r
def Dig (l : List Nat) : Prop := ∀ d ∈ l, d < 65536
theorem Dig.nil : Dig [] := fun _ h => nomatch h
theorem Dig.cons {d : Nat} {l : List Nat} (h : d < 65536) (r : Dig l) : Dig (d :: l) := fun x hx => by
  rcases List.mem_cons.mp hx with e | e
  · rw [e]; exact h
  · exact r x e
theorem Dig.head {d : Nat} {l : List Nat} (h : Dig (d :: l)) : d < 65536 := h d (List.mem_cons_self ..)
theorem Dig.tail {d : Nat} {l : List Nat} (h : Dig (d :: l)) : Dig l := fun x hx => h x (List.mem_cons_of_mem _ hx)
theorem Dig.append {l m : List Nat} (h : Dig l) (k : Dig m) : Dig (l ++ m) := fun x hx => (List.mem_append.mp hx).elim (h x) (k x)
theorem Dig.take {l : List Nat} (h : Dig l) (n : Nat) : Dig (l.take n) := fun x hx => h x (List.mem_of_mem_take hx)
theorem limbs_dig (n : Nat) : Dig (limbs n) := by
  induction n using Nat.strongRecOn with
  | _ n ih =>
    rcases Nat.eq_zero_or_pos n with h | h
    · rw [h, limbs_zero]; exact Dig.nil
    · rw [limbs_pos h]; exact Dig.cons (by omega) (ih _ (by omega))
theorem val_limbs (n : Nat) : val (limbs n) = n := by
  induction n using Nat.strongRecOn with
  | _ n ih =>
    rcases Nat.eq_zero_or_pos n with h | h
    · rw [h, limbs_zero]; rfl
    · rw [limbs_pos h]; simp only [val]; rw [ih _ (by omega)]; omega
theorem pow_pos' (k : Nat) : 0 < 65536 ^ k := Nat.pow_pos (by decide)
theorem limbs_len {n k : Nat} (h : n < 65536 ^ k) : (limbs n).length ≤ k := by
  induction k generalizing n with
  | zero => rw [Nat.pow_zero] at h; have : n = 0 := by omega
            rw [this, limbs_zero]; exact Nat.le_refl _
  | succ k ih =>
    rcases Nat.eq_zero_or_pos n with e | e
    · rw [e, limbs_zero]; exact Nat.zero_le _
    · rw [limbs_pos e, List.length_cons]
      have : n / 65536 < 65536 ^ k := by
        rw [Nat.pow_succ] at h
        exact Nat.div_lt_of_lt_mul (by omega)
      have := ih this
      omega
theorem le_of_lt_len {n k : Nat} (h : k < (limbs n).length) : 65536 ^ k ≤ n := by
  rcases Nat.lt_or_ge n (65536 ^ k) with q | q
  · have := limbs_len q; omega
  · exact q
theorem lt_pow_len (n : Nat) : n < 65536 ^ (limbs n).length := by
  induction n using Nat.strongRecOn with
  | _ n ih =>
    rcases Nat.eq_zero_or_pos n with h | h
    · rw [h, limbs_zero]; decide
    · rw [limbs_pos h, List.length_cons, Nat.pow_succ]
      have := ih (n / 65536) (by omega)
      omega
/-- the limb at a place, nought behind the last -/
def limbAt (n i : Nat) : Nat := n / 65536 ^ i % 65536
theorem limbAt_lt (n i : Nat) : limbAt n i < 65536 := Nat.mod_lt _ (by decide)
theorem limbAt_succ (n i : Nat) : limbAt n (i + 1) = limbAt (n / 65536) i := by
  unfold limbAt; rw [Nat.pow_succ, Nat.mul_comm, Nat.div_div_eq_div_mul]
theorem limbs_getD (n i : Nat) : (limbs n)[i]?.getD 0 = limbAt n i := by
  induction i generalizing n with
  | zero =>
    rcases Nat.eq_zero_or_pos n with h | h
    · rw [h, limbs_zero]; rfl
    · rw [limbs_pos h]; simp [limbAt]
  | succ i ih =>
    rcases Nat.eq_zero_or_pos n with h | h
    · rw [h, limbs_zero]; simp [limbAt]
    · rw [limbs_pos h, limbAt_succ, ← ih]; simp
theorem limbs_get {n i : Nat} (h : i < (limbs n).length) : (limbs n)[i]? = some (limbAt n i) := by
  have := limbs_getD n i
  rw [List.getElem?_eq_getElem h] at this ⊢
  simp only [Option.getD_some] at this
  rw [this]
theorem limbAt_out {n i : Nat} (h : (limbs n).length ≤ i) : limbAt n i = 0 := by
  have := limbs_getD n i
  rw [List.getElem?_eq_none h] at this
  exact this.symm
/-- what is left from a place on -/
theorem div_step (n i : Nat) : n / 65536 ^ i = 65536 * (n / 65536 ^ (i + 1)) + limbAt n i := by
  unfold limbAt
  rw [Nat.pow_succ, ← Nat.div_div_eq_div_mul]
  omega
/-- -1, 0, 1 as the numbers stand -/
def cmp (m n : Nat) : Int := if m < n then -1 else if n < m then 1 else 0
theorem cmp_of_div_lt {m n i : Nat} (h : m / 65536 ^ i < n / 65536 ^ i) : cmp m n = -1 := by
  have : m < n := by
    rcases Nat.lt_or_ge m n with q | q
    · exact q
    · exact absurd h (Nat.not_lt.mpr (Nat.div_le_div_right q))
  unfold cmp; rw [if_pos this]
theorem cmp_of_div_gt {m n i : Nat} (h : n / 65536 ^ i < m / 65536 ^ i) : cmp m n = 1 := by
  have : n < m := by
    rcases Nat.lt_or_ge n m with q | q
    · exact q
    · exact absurd h (Nat.not_lt.mpr (Nat.div_le_div_right q))
  unfold cmp; rw [if_neg (by omega), if_pos this]
theorem cmp_len_lt {m n : Nat} (h : (limbs m).length < (limbs n).length) : cmp m n = -1 := by
  have h1 := le_of_lt_len h
  have h2 := lt_pow_len m
  unfold cmp; rw [if_pos (by omega)]
theorem cmp_len_gt {m n : Nat} (h : (limbs n).length < (limbs m).length) : cmp m n = 1 := by
  have h1 := le_of_lt_len h
  have h2 := lt_pow_len n
  unfold cmp; rw [if_neg (by omega), if_pos (by omega)]
theorem cmp_self (m : Nat) : cmp m m = 0 := by unfold cmp; rw [if_neg (by omega), if_neg (by omega)]
theorem div_len_zero (n : Nat) : n / 65536 ^ (limbs n).length = 0 := Nat.div_eq_of_lt (lt_pow_len n)
/-! ### lists of digits -/
theorem val_take_zeros {l : List Nat} {k : Nat} (h : ∀ (i : Nat) d, k ≤ i → l[i]? = some d → d = 0) : val (l.take k) = val l := by
  induction l generalizing k with
  | nil => simp
  | cons d r ih =>
    cases k with
    | zero =>
      have h0 : d = 0 := h 0 d (Nat.le_refl _) rfl
      have := ih (k := 0) (fun i x hi hx => h (i + 1) x (Nat.zero_le _) (by simpa using hx))
      simp only [List.take_zero, val] at this ⊢
      omega
    | succ k =>
      have := ih (k := k) (fun i x hi hx => h (i + 1) x (Nat.succ_le_succ hi) (by simpa using hx))
      simp only [List.take_succ_cons, val]
      rw [this]
theorem val_pos_of_last {l : List Nat} (h : ∀ d, l.getLast? = some d → d ≠ 0) (hn : l ≠ []) : 0 < val l := by
  induction l with
  | nil => exact absurd rfl hn
  | cons d r ih =>
    cases r with
    | nil => have := h d rfl; simp only [val]; omega
    | cons e r =>
      have := ih (fun x hx => h x (by simpa using hx)) (by simp)
      simp only [val] at this ⊢
      omega
theorem limbs_val {l : List Nat} (hd : Dig l) (h : ∀ d, l.getLast? = some d → d ≠ 0) : limbs (val l) = l := by
  induction l with
  | nil => exact limbs_zero
  | cons d r ih =>
    have hp := val_pos_of_last h (by simp)
    have hd0 := hd.head
    rw [limbs_pos hp]
    have e1 : val (d :: r) % 65536 = d := by simp only [val]; omega
    have e2 : val (d :: r) / 65536 = val r := by simp only [val]; omega
    rw [e1, e2]
    cases r with
    | nil => simp [val, limbs_zero]
    | cons e r => rw [ih hd.tail (fun x hx => h x (by simpa using hx))]
/-- what trimmed tells -/
theorem take_limbs {l : List Nat} {k : Nat} (hd : Dig l) (hk : k ≤ l.length) (h : ∀ (i : Nat) d, k ≤ i → l[i]? = some d → d = 0) (hl : k = 0 ∨ ∃ d, l[k - 1]? = some d ∧ d ≠ 0) : l.take k = limbs (val l) := by
  rw [← val_take_zeros h, limbs_val (hd.take k)]
  intro d e
  rcases hl with z | ⟨x, hx, hx0⟩
  · subst z; simp at e
  · rw [List.getLast?_eq_getElem?, List.length_take, Nat.min_eq_left hk] at e
    rcases Nat.eq_zero_or_pos k with q | q
    · subst q; simp at e
    · rw [List.getElem?_take, if_pos (by omega), hx] at e
      cases e; exact hx0
end En
namespace En
/-! ### the law's own numbers: from nought on, of at most k limbs -/
def Nb (n : Int) (k : Nat) : Prop := 0 ≤ n ∧ n.toNat < 65536 ^ k
theorem Nb.mono {n : Int} {j k : Nat} (h : Nb n j) (l : j ≤ k) : Nb n k := ⟨h.1, Nat.lt_of_lt_of_le h.2 (Nat.pow_le_pow_right (by decide) l)⟩
theorem Nb.ofNat {m k : Nat} (h : m < 65536 ^ k) : Nb (m : Int) k := ⟨by omega, by simpa using h⟩
theorem pow16 (k : Nat) : (2 : Nat) ^ (16 * k) = 65536 ^ k := by rw [Nat.pow_mul]
theorem cast2 (k : Nat) : (2 : Int) ^ k = ((2 ^ k : Nat) : Int) := by
  induction k with
  | zero => rfl
  | succ k ih => rw [Int.pow_succ, ih, Nat.pow_succ]; push_cast; rfl
theorem pow_le16 {e k : Nat} (h : e ≤ 16 * k) : (2 : Nat) ^ e ≤ 65536 ^ k := by rw [← pow16]; exact Nat.pow_le_pow_right (by decide) h
/-- max(0, 2 ** e + r - 1), r below 3 -/
theorem Nb.near {e : Nat} {r v : Int} {k : Nat} (he : e ≤ 16 * k) (h0 : 0 ≤ r) (h3 : r < 3) (hv : v = 2 ^ e + r - 1 ∨ v = 0) (hp : 0 ≤ v) : Nb v (k + 1) := by
  refine ⟨hp, ?_⟩
  have h := pow_le16 he
  have hp := pow_pos' k
  rw [cast2] at hv
  rw [Nat.pow_succ]
  generalize (2 : Nat) ^ e = a at *
  generalize (65536 : Nat) ^ k = b at *
  rcases hv with hv | hv <;> omega
end En
namespace En
/-! ### sums, limb by limb -/
/-- what comes to a place of a sum -/
def carryAt (m n i : Nat) : Nat := (m % 65536 ^ i + n % 65536 ^ i) / 65536 ^ i
theorem add_div_pow (m n i : Nat) : (m + n) / 65536 ^ i = m / 65536 ^ i + n / 65536 ^ i + carryAt m n i := by
  unfold carryAt
  have hp := pow_pos' i
  have h1 := Nat.div_add_mod m (65536 ^ i)
  have h2 := Nat.div_add_mod n (65536 ^ i)
  have e : m + n = 65536 ^ i * (m / 65536 ^ i + n / 65536 ^ i) + (m % 65536 ^ i + n % 65536 ^ i) := by rw [Nat.mul_add]; omega
  calc (m + n) / 65536 ^ i = (65536 ^ i * (m / 65536 ^ i + n / 65536 ^ i) + (m % 65536 ^ i + n % 65536 ^ i)) / 65536 ^ i := by rw [← e]
    _ = _ := by rw [Nat.mul_add_div hp]
theorem carryAt_zero (m n : Nat) : carryAt m n 0 = 0 := by unfold carryAt; simp [Nat.mod_one]
theorem limbAt_add (m n i : Nat) : limbAt (m + n) i = (limbAt m i + limbAt n i + carryAt m n i) % 65536 := by
  unfold limbAt; rw [add_div_pow]; omega
theorem carryAt_succ (m n i : Nat) : carryAt m n (i + 1) = (limbAt m i + limbAt n i + carryAt m n i) / 65536 := by
  have h1 := add_div_pow m n i
  have h2 := add_div_pow m n (i + 1)
  have d1 := div_step m i
  have d2 := div_step n i
  have d3 := div_step (m + n) i
  have d4 := limbAt_add m n i
  generalize carryAt m n (i + 1) = c at *
  generalize carryAt m n i = b at *
  generalize (m + n) / 65536 ^ (i + 1) = x at *
  generalize (m + n) / 65536 ^ i = y at *
  generalize m / 65536 ^ (i + 1) = p at *
  generalize m / 65536 ^ i = p' at *
  generalize n / 65536 ^ (i + 1) = q at *
  generalize n / 65536 ^ i = q' at *
  omega
/-! ### the limbs up to a place -/
def lows (n k : Nat) : List Nat := (List.range k).map (limbAt n)
theorem lows_succ (n k : Nat) : lows n (k + 1) = lows n k ++ [limbAt n k] := by unfold lows; rw [List.range_succ, List.map_append]; rfl
theorem lows_length (n k : Nat) : (lows n k).length = k := by unfold lows; rw [List.length_map, List.length_range]
theorem lows_dig (n k : Nat) : Dig (lows n k) := fun d hd => by
  obtain ⟨i, _, rfl⟩ := List.mem_map.mp hd
  exact limbAt_lt n i
theorem val_append (l m : List Nat) : val (l ++ m) = val l + 65536 ^ l.length * val m := by
  induction l with
  | nil => simp [val]
  | cons d r ih => simp only [List.cons_append, val, List.length_cons, ih, Nat.pow_succ, Nat.mul_add]; rw [Nat.mul_comm (65536 ^ r.length) 65536, Nat.mul_assoc]; omega
theorem mod_step (n k : Nat) : n % 65536 ^ (k + 1) = n % 65536 ^ k + 65536 ^ k * limbAt n k := by
  unfold limbAt
  rw [Nat.pow_succ, Nat.mod_mul]
theorem val_lows (n k : Nat) : val (lows n k) = n % 65536 ^ k := by
  induction k with
  | zero => simp [lows, val, Nat.mod_one]
  | succ k ih => rw [lows_succ, val_append, ih, lows_length, mod_step]; simp [val]
theorem add_lt_pow {m n : Nat} : m + n < 65536 ^ (max (limbs m).length (limbs n).length + 1) := by
  have h1 := Nat.lt_of_lt_of_le (lt_pow_len m) (Nat.pow_le_pow_right (show 0 < 65536 by decide) (Nat.le_max_left (limbs m).length (limbs n).length))
  have h2 := Nat.lt_of_lt_of_le (lt_pow_len n) (Nat.pow_le_pow_right (show 0 < 65536 by decide) (Nat.le_max_right (limbs m).length (limbs n).length))
  rw [Nat.pow_succ]
  generalize 65536 ^ max (limbs m).length (limbs n).length = P at *
  omega
end En

namespace En
/-! ### differences, limb by limb -/
/-- what is taken from a place for the one before -/
def borrowAt (m n i : Nat) : Nat := if m % 65536 ^ i < n % 65536 ^ i then 1 else 0
theorem borrowAt_zero (m n : Nat) : borrowAt m n 0 = 0 := by unfold borrowAt; simp [Nat.mod_one]
theorem sub_div_pow {m n : Nat} (h : n ≤ m) (i : Nat) : (m - n) / 65536 ^ i + n / 65536 ^ i + borrowAt m n i = m / 65536 ^ i := by
  unfold borrowAt
  have hp := pow_pos' i
  have h1 := Nat.div_add_mod m (65536 ^ i)
  have h2 := Nat.div_add_mod n (65536 ^ i)
  have l1 := Nat.mod_lt m hp
  have l2 := Nat.mod_lt n hp
  generalize hP : 65536 ^ i = P at *
  generalize m / P = a at *
  generalize n / P = b at *
  generalize m % P = r at *
  generalize n % P = q at *
  by_cases hc : r < q
  · rw [if_pos hc]
    have hab : b + 1 ≤ a := by
      rcases Nat.lt_or_ge b a with z | z
      · exact z
      · have : P * a ≤ P * b := Nat.mul_le_mul_left _ z
        omega
    obtain ⟨k, rfl⟩ := Nat.exists_eq_add_of_le hab
    have e : m - n = P * k + (P + r - q) := by
      have : P * (b + 1 + k) = P * b + P + P * k := by rw [Nat.mul_add, Nat.mul_add, Nat.mul_one]
      omega
    rw [e, Nat.mul_add_div hp, Nat.div_eq_of_lt (by omega)]
    omega
  · rw [if_neg hc]
    have hab : b ≤ a := by
      rcases Nat.lt_or_ge a b with z | z
      · have h3 : P * (a + 1) ≤ P * b := Nat.mul_le_mul_left _ z
        rw [Nat.mul_add, Nat.mul_one] at h3
        omega
      · exact z
    obtain ⟨k, rfl⟩ := Nat.exists_eq_add_of_le hab
    have e : m - n = P * k + (r - q) := by
      have : P * (b + k) = P * b + P * k := Nat.mul_add ..
      omega
    rw [e, Nat.mul_add_div hp, Nat.div_eq_of_lt (by omega)]
    omega
theorem limbAt_sub {m n : Nat} (h : n ≤ m) (i : Nat) : ((limbAt (m - n) i : Nat) : Int) = ((limbAt m i : Int) - (limbAt n i : Int) - (borrowAt m n i : Int)) % 65536 := by
  have h1 := sub_div_pow h i
  unfold limbAt
  generalize (m - n) / 65536 ^ i = x at *
  generalize m / 65536 ^ i = y at *
  generalize n / 65536 ^ i = z at *
  generalize borrowAt m n i = b at *
  omega
theorem borrowAt_succ (m n i : Nat) : borrowAt m n (i + 1) = if ((limbAt m i : Int) - (limbAt n i : Int) - (borrowAt m n i : Int)) < 0 then 1 else 0 := by
  unfold borrowAt
  have m1 := mod_step m i
  have m2 := mod_step n i
  have l1 := Nat.mod_lt m (pow_pos' i)
  have l2 := Nat.mod_lt n (pow_pos' i)
  rw [m1, m2]
  generalize 65536 ^ i = P at *
  generalize m % P = r at *
  generalize n % P = q at *
  generalize limbAt m i = a at *
  generalize limbAt n i = b at *
  rcases Nat.lt_trichotomy a b with z | z | z
  · obtain ⟨k, rfl⟩ : ∃ k, b = a + 1 + k := ⟨b - (a + 1), by omega⟩
    have e : P * (a + 1 + k) = P * a + P + P * k := by rw [Nat.mul_add, Nat.mul_add, Nat.mul_one]
    rw [if_pos (by omega)]
    split <;> rw [if_pos (by omega)]
  · subst z
    by_cases hc : r < q
    · rw [if_pos (by omega), if_pos hc, if_pos (by omega)]
    · rw [if_neg (by omega), if_neg hc, if_neg (by omega)]
  · obtain ⟨k, rfl⟩ : ∃ k, a = b + 1 + k := ⟨a - (b + 1), by omega⟩
    have e : P * (b + 1 + k) = P * b + P + P * k := by rw [Nat.mul_add, Nat.mul_add, Nat.mul_one]
    rw [if_neg (by omega)]
    split <;> rw [if_neg (by omega)]
theorem val_lows_all {n k : Nat} (h : n < 65536 ^ k) : val (lows n k) = n := by rw [val_lows, Nat.mod_eq_of_lt h]
/-! ### bits -/
theorem limbAt_shift (n i : Nat) : limbAt n i = n / 2 ^ (16 * i) % 2 ^ 16 := by unfold limbAt; rw [Nat.pow_mul]
/-- the bit at a place -/
theorem bit_limb (n p : Nat) : limbAt n (p / 16) / 2 ^ (p % 16) % 2 = n / 2 ^ p % 2 := by
  rw [limbAt_shift]
  have e : p = 16 * (p / 16) + p % 16 := by omega
  have h16 : p % 16 < 16 := Nat.mod_lt _ (by decide)
  have h1 : (n / 2 ^ (16 * (p / 16)) % 2 ^ 16 / 2 ^ (p % 16) % 2) = (n / 2 ^ (16 * (p / 16)) / 2 ^ (p % 16) % 2) := by
    generalize n / 2 ^ (16 * (p / 16)) = x
    generalize p % 16 = j at *
    have t1 : (x % 2 ^ 16).testBit j = x.testBit j := by rw [Nat.testBit_mod_two_pow]; simp [h16]
    rw [Nat.testBit_eq_decide_div_mod_eq, Nat.testBit_eq_decide_div_mod_eq] at t1
    have b1 : x % 2 ^ 16 / 2 ^ j % 2 < 2 := Nat.mod_lt _ (by decide)
    have b2 : x / 2 ^ j % 2 < 2 := Nat.mod_lt _ (by decide)
    by_cases c : x / 2 ^ j % 2 = 1
    · rw [decide_eq_true c] at t1
      have := of_decide_eq_true t1
      omega
    · rw [decide_eq_false c] at t1
      have := of_decide_eq_false t1
      omega
  rw [h1, Nat.div_div_eq_div_mul, ← Nat.pow_add, ← e]
/-- how many bits are 1 -/
def pop (n : Nat) : Nat := if n = 0 then 0 else n % 2 + pop (n / 2)
termination_by n
decreasing_by omega
/-! ### moved up and down by bits -/
/-- what goes on to a place when a number is taken times p -/
def upAt (m p i : Nat) : Nat := m % 65536 ^ i * p / 65536 ^ i
theorem upAt_zero (m p : Nat) : upAt m p 0 = 0 := by unfold upAt; simp [Nat.mod_one]
theorem mul_div_pow (m p i : Nat) : m * p / 65536 ^ i = m / 65536 ^ i * p + upAt m p i := by
  unfold upAt
  have hp := pow_pos' i
  have h1 := Nat.div_add_mod m (65536 ^ i)
  generalize hP : 65536 ^ i = P at *
  have e : m * p = P * (m / P * p) + m % P * p := by
    conv => lhs; rw [← h1]
    rw [Nat.add_mul, Nat.mul_assoc]
  rw [e, Nat.mul_add_div hp]
theorem limbAt_mul (m p i : Nat) : limbAt (m * p) i = (limbAt m i * p + upAt m p i) % 65536 := by
  show m * p / 65536 ^ i % 65536 = _
  rw [mul_div_pow]
  unfold limbAt
  generalize m / 65536 ^ i = x
  have e : x * p = 65536 * (x / 65536 * p) + x % 65536 * p := by
    conv => lhs; rw [← Nat.div_add_mod x 65536]
    rw [Nat.add_mul, Nat.mul_assoc]
  rw [e, Nat.add_assoc, Nat.mul_add_mod]
theorem upAt_succ (m p i : Nat) : upAt m p (i + 1) = (limbAt m i * p + upAt m p i) / 65536 := by
  have h1 := mul_div_pow m p i
  have h2 := mul_div_pow m p (i + 1)
  have d1 := div_step m i
  have e : m * p / 65536 ^ (i + 1) = m * p / 65536 ^ i / 65536 := by rw [Nat.pow_succ, Nat.div_div_eq_div_mul]
  rw [h1, d1] at e
  rw [h2] at e
  have e2 : (65536 * (m / 65536 ^ (i + 1)) + limbAt m i) * p = 65536 * (m / 65536 ^ (i + 1) * p) + limbAt m i * p := by rw [Nat.add_mul, Nat.mul_assoc]
  rw [e2, Nat.add_assoc, Nat.mul_add_div (by decide)] at e
  omega
theorem upAt_len {m p : Nat} : upAt m p (limbs m).length = m * p / 65536 ^ (limbs m).length := by
  have := mul_div_pow m p (limbs m).length
  rw [div_len_zero, Nat.zero_mul, Nat.zero_add] at this
  exact this.symm
theorem mul_lt_pow {m p : Nat} (hp : p ≤ 65536) (h0 : 0 < p) : m * p < 65536 ^ ((limbs m).length + 1) := by
  rw [Nat.pow_succ]
  exact Nat.lt_of_lt_of_le (Nat.mul_lt_mul_of_pos_right (lt_pow_len m) h0) (Nat.mul_le_mul_left _ hp)
theorem upAt_last {m p : Nat} (hp : p ≤ 65536) (h0 : 0 < p) : upAt m p (limbs m).length = limbAt (m * p) (limbs m).length := by
  rw [upAt_len]
  unfold limbAt
  rw [Nat.mod_eq_of_lt]
  have := mul_lt_pow (m := m) hp h0
  rw [Nat.pow_succ] at this
  exact Nat.div_lt_of_lt_mul this
theorem val_zeros (k : Nat) (l : List Nat) : val (List.replicate k 0 ++ l) = 65536 ^ k * val l := by
  rw [val_append, List.length_replicate]
  have : val (List.replicate k 0) = 0 := by
    induction k with
    | zero => rfl
    | succ k ih => rw [List.replicate_succ]; simp only [val]; rw [ih]
  omega
theorem dig_zeros (k : Nat) : Dig (List.replicate k 0) := fun d hd => by rw [(List.mem_replicate.mp hd).2]; decide
theorem two_split (c : Nat) : 2 ^ c = 65536 ^ (c / 16) * 2 ^ (c % 16) := by
  rw [← pow16, ← Nat.pow_add]
  congr 1
  omega
theorem two16_le (c : Nat) : 2 ^ (c % 16) ≤ 32768 := by
  have : c % 16 ≤ 15 := by omega
  exact Nat.le_trans (Nat.pow_le_pow_right (by decide) this) (by decide)
end En

namespace En
open PySem
theorem bitAnd_nat (m n : Nat) : Builtin.bitAnd (m : Int) (n : Int) = ((m &&& n : Nat) : Int) := by
  rw [PyProof.Rows.bitAnd_pp (Int.natCast_nonneg m) (Int.natCast_nonneg n), Int.toNat_natCast, Int.toNat_natCast]
end En

/-! exceptions of one's own over the hand layer: raise, a call that raises, try .. except X as e -/
namespace L2
open PySem PySem.Spec PyProof.Rows
section
variable {P : Program} {w : World} {H H' : Hp} {h h1 h2 B : Heap} {fs : List Addr}
theorem ObjOk.there {a : Addr} {o : HO} (x : ObjOk P w H h a o) : ∃ ob, h.get? a = some ob := by
  cases o with
  | lst xs => obtain ⟨_, _, _, _, e⟩ := x; exact ⟨_, e⟩
  | tup xs => obtain ⟨_, _, _, o, e, _⟩ := x; exact ⟨_, e⟩
  | dK kvs => obtain ⟨_, _, _, _, o, _, _, e, _⟩ := x; exact ⟨_, e⟩
  | dT kvs => obtain ⟨_, _, _, _, o, _, _, e, _⟩ := x; exact ⟨_, e⟩
  | set S n => obtain ⟨o, _, _, _, e, _⟩ := x; exact ⟨_, e⟩
  | ins C dx fs => obtain ⟨_, _, _, e, _⟩ := x; exact ⟨_, e⟩
  | own y => exact x
  | xd fs => obtain ⟨_, ⟨_, _, _, e, _⟩, _⟩ := x; exact ⟨_, e⟩
  | met f y => exact ⟨_, x⟩
  | rng lo hi => obtain ⟨_, _, _, e⟩ := x; exact ⟨_, e⟩
  | frz o u => exact ⟨_, x.1⟩
  | tbl ps => exact ⟨_, x⟩
  | ext φ => exact x.2.1
/-- from h1 on only frames' slots and what is not in B have changed -/
theorem Un.land (u : Un fs [] H H' h h1) (k1 : B.StaysIn h1) (k2 : B.StaysIn h2) (sm : h1.UpToSlots h2) (hf : ∀ b ∈ fs, ∃ o, h1.get? b = some o ∧ ∀ vs, o.data ≠ .fields vs)
    (old : ∀ b o, h.get? b = some o → b ∉ fs → ∃ o', B.get? b = some o') : Un fs [] H H' h h2 where
  keep := fun b o q n hb hx => by
    obtain ⟨o', e⟩ := old b o q hb
    have e1 := u.keep b o q n hb hx
    rw [k1 b o' e] at e1
    cases e1
    exact k2 b _ e
  slot := fun b o q n hb hx => by
    obtain ⟨sl, e1⟩ := u.slot b o q n hb hx
    obtain ⟨o2, e2, nf⟩ := hf b hb
    rw [e1] at e2
    cases e2
    obtain ⟨sl', e3⟩ := sm b _ e1 nf
    exact ⟨sl', e3⟩
  free := u.free
  there := fun b o q hx => by
    by_cases hb : b ∈ fs
    · obtain ⟨o2, e2, nf⟩ := hf b hb
      obtain ⟨sl', e3⟩ := sm b _ e2 nf
      exact ⟨_, e3⟩
    · obtain ⟨o', e⟩ := old b o q hb
      exact ⟨o', k2 b _ e⟩
  tups := u.tups
  frzs := u.frzs
  tbls := u.tbls
theorem HOk.land (x : HOk P w H h1) (k1 : B.StaysIn h1) (k2 : B.StaysIn h2) (trk : ∀ b u, H b = some u → ∃ o', B.get? b = some o') : HOk P w H h2 := fun b u e =>
  (x b u e).stay (fun c v hc q => by
    have tc : ∃ o', B.get? c = some o' := by
      rcases hc with z | z
      · exact trk c u (z ▸ e)
      · exact trk c _ z
    obtain ⟨o', eB⟩ := tc
    have z := k1 c o' eB
    rw [q] at z
    cases z
    exact k2 c _ eB) (fun _ q => q) fun _ _ q => q
end
/-- an exception of the class at C flies, at ea, from a call: what lay ahead (but the frames) and what is tracked stays -/
structure Flies (P : Program) (w : World) (outer : List Env) (H : Hp) (s : Shared) (H' : Hp) (s' : Shared) (B : Heap) (ea C t : Addr) : Prop where
  os : s'.os = s.os
  bare : AllBare s'.gens
  un : Un (frs outer) [] H H' s.heap s'.heap
  hok : HOk P w H' s'.heap
  fly : Heap.FlyingW B outer ea (.ref C) (.ref t) s'.heap
  old : ∀ b o, s.heap.get? b = some o → b ∉ frs outer → ∃ o', B.get? b = some o'
  trk : ∀ b u, H' b = some u → ∃ o', B.get? b = some o'
def CX1 (P : Program) (w : World) : CXT := fun outer H s E e s' => ∃ (ea C t : Addr) (H' : Hp) (B : Heap), e = .ref ea ∧ Flies P w outer H s H' s' B ea C t ∧ E (.ref C) none H'
section
variable {P : Program} {w : World} {outer : List Env} {H H' : Hp} {s s' : Shared} {B : Heap} {ea C t : Addr} {h2 : Heap}
theorem Flies.frm (F : Flies P w outer H s H' s' B ea C t) : ∀ b ∈ frs outer, ∃ o, s'.heap.get? b = some o ∧ ∀ vs, o.data ≠ .fields vs := fun _ hb => (F.fly.2.2.1.mem hb).2
theorem Flies.unTo (F : Flies P w outer H s H' s' B ea C t) (k : B.StaysIn h2) (sm : s'.heap.UpToSlots h2) : Un (frs outer) [] H H' s.heap h2 := F.un.land F.fly.1 k sm F.frm F.old
theorem Flies.hokTo (F : Flies P w outer H s H' s' B ea C t) (k : B.StaysIn h2) : HOk P w H' h2 := F.hok.land F.fly.1 k F.trk
theorem Flies.new (F : Flies P w outer H s H' s' B ea C t) : H' ea = none := by
  cases q : H' ea with
  | none => rfl
  | some u =>
    obtain ⟨o', e⟩ := F.trk ea u q
    rw [F.fly.2.1] at e
    cases e
end
/-- an exception at ea of the class at C -/
def isX (ea C : Addr) : HO := .ext fun h => ∃ o vs, h.get? ea = some o ∧ o.cls = .ref C ∧ o.data = .fields vs
section
variable {P : Program} {w : World} {outer : List Env} {H H' : Hp} {s s' : Shared} {B : Heap} {ea C t : Addr} {h2 : Heap}
theorem Flies.unX (F : Flies P w outer H s H' s' B ea C t) (k : B.StaysIn h2) (sm : s'.heap.UpToSlots h2) : Un (frs outer) [] H (upd H' ea (isX ea C)) s.heap h2 := by
  have u := F.unTo k sm
  have ne : ∀ b o, s.heap.get? b = some o → b ≠ ea := fun b o q z => by
    subst z
    by_cases hb : b ∈ frs outer
    · obtain ⟨o1, e1, nf⟩ := F.frm b hb
      obtain ⟨oe, vs, he, _, hd, _⟩ := F.fly.first
      rw [e1] at he
      cases he
      exact nf vs hd
    · obtain ⟨o', e⟩ := F.old b o q hb
      rw [F.fly.2.1] at e
      cases e
  refine ⟨u.keep, u.slot, fun b o q n hx => ?_, u.there, fun b xs q => ?_, fun b o x q => ?_, fun b ps q => ?_⟩
  · rw [upd_ne (ne b o q)]
    exact u.free b o q n hx
  · rw [upd_ne (ne_of_none (u.tups b xs q) F.new)]
    exact u.tups b xs q
  · rw [upd_ne (ne_of_none (u.frzs b o x q) F.new)]
    exact u.frzs b o x q
  · obtain ⟨m, e⟩ := u.tbls b ps q
    exact ⟨m, by rw [upd_ne (ne_of_none e F.new)]; exact e⟩
theorem Flies.hokX (F : Flies P w outer H s H' s' B ea C t) (k : B.StaysIn h2) (hx : ∃ o vs, h2.get? ea = some o ∧ o.cls = .ref C ∧ o.data = .fields vs) : HOk P w (upd H' ea (isX ea C)) h2 := fun b u e => by
  by_cases hb : b = ea
  · subst hb
    rw [upd_same] at e
    cases e
    refine ⟨hx, ?_, fun g1 g2 ⟨o, vs, e, r⟩ kk => ⟨o, vs, kk o e, r⟩⟩
    obtain ⟨o, _, e, _⟩ := hx
    exact ⟨o, e⟩
  · rw [upd_ne hb] at e
    exact (F.hokTo k b u e).stay (fun _ _ _ q => q) (fun c q => by rw [upd_ne (ne_of_none q F.new)]; exact q) fun c zs q => by rw [upd_ne (ne_of_none q F.new)]; exact q
end
/-! ### an exception leaves the defs on its way -/
section
variable {P : Program} {w : World} {K : PySem.W.Frag} {mg : Str → Option Value} {base : Heap} {N : List Str} {qual : Str} {scope : Scope} {f : Addr} {cd : Value} {A : Around} {outer : List Env} {s₀ : Shared} {H₀ : Hp} {E : XK}
theorem passX : Passes (CX1 P w) (cxOf (CX1 P w) P w K mg base N qual scope f cd A outer s₀ H₀ E) E := by
  rintro pins σ H s e s' I ⟨ea, C, t, H', B, rfl, F, q⟩
  refine wpAny_leaves_onW (env := envOfC qual scope s₀.heap.objs.size f cd) (outer := outer) I.ok.frames rfl F.fly fun h' fl sm => ⟨ea, C, t, H', B, rfl, ?_, q⟩
  have J : Inv _ pins σ H' { s' with heap := h' } := I.call' (s' := { s' with heap := h' }) (ch := []) F.os (F.unTo fl.1 sm) (F.hokTo fl.1) F.bare fun b z => absurd z (by simp)
  refine ⟨J.os, F.bare, J.base, F.hokTo fl.1, fl, fun b o hb hn => ?_, F.trk⟩
  obtain ⟨o', e'⟩ := I.base.there b o hb (by exact List.not_mem_nil)
  refine F.old b o' e' fun z => ?_
  rcases List.mem_cons.mp (I.stkSub b z) with z | z
  · have := Heap.lt_size hb
    have := I.ok.above
    rw [z] at hb
    exact absurd (Nat.lt_of_lt_of_le (Heap.lt_size hb) I.ok.above) (Nat.lt_irrefl _)
  · exact hn z
end
theorem pass1 {X : Cx} : Passes (CX1 X.prog X.w) X E0 := by
  rintro _ _ _ _ _ _ _ ⟨_, _, _, _, _, _, _, h⟩
  exact False.elim h
/-! ### a class of exceptions of one's own, as the written part has it -/
abbrev vBases : List Value := [.type "ValueError", .type "Exception", .type "BaseException", .type "object"]
structure Xc (K : PySem.W.Frag) (x : Str) (C : Addr) : Prop where
  nm : PySem.W.nsIn K mainGlobals x = some (some (.ref C))
  ex : PySem.W.excIn K C vBases "ValueError.__new__" = true
  ty : PySem.W.typeIn K (.ref C) = some (.type "type")
  ci : PySem.W.isClsIn K C = true
  ga : PySem.W.findIn K (.ref C) "__getattribute__" = some (some (.builtin "BaseException.__getattribute__"))
  gt : PySem.W.findIn K (.ref C) "__getattr__" = some none
  cl : PySem.W.findIn K (.ref C) "__class__" = some (some (.builtin "object.__class__"))
  mo : PySem.W.mroIn K C (.type "object") = some true
  mb : PySem.W.mroIn K C (.type "BaseException") = some true
theorem Xc.own {K : PySem.W.Frag} {x : Str} {C : Addr} {h : Heap} {mg : Str → Option Value} (c : Xc K x C) (X : K.In h) (hm : mg x = some (.ref C)) : OwnCls x C vBases "ValueError.__new__" mg h := by
  refine ⟨hm, ?_⟩
  have q := c.ex
  unfold PySem.W.excIn at q
  cases ho : K.lookup C with
  | none => rw [ho] at q; cases q
  | some o =>
    rw [ho] at q
    obtain ⟨ocl, odd, oda, osl⟩ := o
    split at q
    case h_2 => cases q
    rename_i dd cd sl heq
    have heq := Option.some.inj heq
    split at q
    case h_2 => cases q
    rename_i C' bm k0 k1 k2 k3 n k5 hmro hsl
    rw [Bool.and_eq_true, Bool.and_eq_true, Bool.and_eq_true, Bool.and_eq_true, Bool.and_eq_true] at q
    obtain ⟨⟨⟨⟨⟨q1, q2⟩, q3⟩, q4⟩, q5⟩, q6⟩ := q
    have hget := X _ _ ho
    rw [heq] at hget
    obtain ⟨nm, bs, mro, ns, qn, hd, sn, sub, ab, col, del⟩ := cd
    have e1 : C' = C := beq_iff_eq.mp q1
    have e2 : n = "ValueError.__new__" := beq_iff_eq.mp q2
    have e3 : del = false := by simpa using q3
    have e4 : mro = .ref C' :: bm := hmro
    have e5 : sl = #[k0, k1, k2, k3, some (.builtin n), k5] := by rw [← hsl]
    subst e1 e2 e3 e4 e5
    exact ⟨bm, ns, nm, qn, bs, hd, sn, sub, ab, col, dd, k0, k1, k2, k3, k5, _, hget, .of_isNs (PySem.W.isNs_of_in X q5), PySem.W.nsMap_none_of_in X q5 (beq_iff_eq.mp q6), PySem.W.tail_of_in X q4⟩
/-! ### raise C(..) -/
def tRaise (C : Addr) (E : XK) (ta : TA) : TS := fun _ σ H => ta σ H fun vs H1 => vs.length ≤ sizeLine ∧ E (.ref C) none H1
section
variable {P : Program} {w : World} {K : PySem.W.Frag} {mg : Str → Option Value} {base : Heap} {N : List Str} {qual : Str} {scope : Scope} {f : Addr} {cd : Value} {A : Around} {outer : List Env} {s₀ : Shared} {H₀ : Hp} {E : XK}
theorem leave_new {pins : List (Addr × Obj)} {σ : St} {H : Hp} {s : Shared} {h' : Heap} {ea C : Addr} {us : List Value} (I : Inv (cxOf (CX1 P w) P w K mg base N qual scope f cd A outer s₀ H₀ E) pins σ H s) (hx : Heap.MadeExcOf s.heap h' ea (.ref C) us) (q : E (.ref C) none H) :
    (cxOf (CX1 P w) P w K mg base N qual scope f cd A outer s₀ H₀ E).xe (.ref ea) { s with heap := h' } := by
  have hin : ∀ env ∈ (envOfC qual scope s₀.heap.objs.size f cd :: outer), ∀ b, env.frame = some b → b ∈ frs (envOfC qual scope s₀.heap.objs.size f cd :: outer) := fun env he b hb => List.mem_filterMap.mpr ⟨env, he, hb⟩
  have J : Inv (cxOf (CX1 P w) P w K mg base N qual scope f cd A outer s₀ H₀ E) pins σ H { s with heap := h' } := I.kept (t' := s.toks) hx.keeps
  refine wpAny_leaves_madeW (base := PySem.W.hideAll s.heap (frs (envOfC qual scope s₀.heap.objs.size f cd :: outer))) (env := envOfC qual scope s₀.heap.objs.size f cd) (outer := outer) (s := { s with heap := h' }) I.ok.frames rfl (fun b o z => PySem.W.of_hideAll _ z) (PySem.W.funFrames_hide I.stack hin) hx fun h2 t x1 x2 x3 x4 => ?_
  have k1 : (PySem.W.hideAll s.heap (frs (envOfC qual scope s₀.heap.objs.size f cd :: outer))).StaysIn h' := fun b o z => hx.keeps b o (PySem.W.of_hideAll _ z)
  have trk : ∀ b u, H b = some u → ∃ o', (PySem.W.hideAll s.heap (frs (envOfC qual scope s₀.heap.objs.size f cd :: outer))).get? b = some o' := fun b u z => by
    obtain ⟨o, e⟩ := (I.hok b u z).there
    exact ⟨o, PySem.W.hideAll_get _ e fun m => by
      have := I.stkFree b m
      rw [z] at this
      cases this⟩
  have old : ∀ b o, s₀.heap.get? b = some o → b ∉ frs outer → ∃ o', (PySem.W.hideAll s.heap (frs (envOfC qual scope s₀.heap.objs.size f cd :: outer))).get? b = some o' := fun b o hb hn => by
    obtain ⟨o', e'⟩ := I.base.there b o hb (by exact List.not_mem_nil)
    refine ⟨o', PySem.W.hideAll_get _ e' fun z => ?_⟩
    rcases List.mem_cons.mp (I.stkSub b z) with z | z
    · rw [z] at hb
      exact absurd (Nat.lt_of_lt_of_le (Heap.lt_size hb) I.ok.above) (Nat.lt_irrefl _)
    · exact hn z
  exact ⟨ea, C, t, H, _, rfl, ⟨J.os, J.bare, J.base.land k1 x1.1 x4 (fun b hb => (J.funs.mem hb).2) old, J.hok.land k1 x1.1 trk, x1, old, trk⟩, q⟩
theorem ps_raise {x : Str} {C : Addr} {np cpos pos : Pos} {e₀ : Expr} {rest : List Expr} {ta : TA} (c : Xc K x C) (hm : mg x = some (.ref C)) (hg : Gl (cxOf (CX1 P w) P w K mg base N qual scope f cd A outer s₀ H₀ E) x)
    (ha : PA (cxOf (CX1 P w) P w K mg base N qual scope f cd A outer s₀ H₀ E) (e₀ :: rest) ta) (hd : (x == ("__debug__" : Str)) = false := by decide)
    (he : starEach (e₀ :: rest) (cxOf (CX1 P w) P w K mg base N qual scope f cd A outer s₀ H₀ E).env = (false, eval e₀ (cxOf (CX1 P w) P w K mg base N qual scope f cd A outer s₀ H₀ E).env) :: starEach rest (cxOf (CX1 P w) P w K mg base N qual scope f cd A outer s₀ H₀ E).env := by rfl)
    (hpl : (backTo cpos (starEach rest (cxOf (CX1 P w) P w K mg base N qual scope f cd A outer s₀ H₀ E).env)).any (·.1) = false := by rfl) :
    PS (cxOf (CX1 P w) P w K mg base N qual scope f cd A outer s₀ H₀ E) (.Raise (some (.Call (.Name x np) (e₀ :: rest) [] cpos)) none pos) (tRaise C E ta) := by
  intro pins s σ H D I h
  have O := c.own (mg := mg) I.ok.mod.kin hm
  obtain ⟨tl, N', nm, q, bs, hdct, sn, sub, ab, col, dd, k0, k1, k2, k3, k5, mN, hC, hN, hni, T⟩ := O.obj
  refine wpAny_Raise_call_subT (C := C) (nm := nm) (q := q) (N := N') (bs := bs) (bm := tl) (hdct := hdct) (sn := sn) (sub := sub) (ab := ab) (col := col) (dd := dd) (k0 := k0) (k1 := k1) (k2 := k2) (k3 := k3) (k5 := k5)
    PySem.F.excBase_ValueError (mN := mN) (T.hasType PySem.F.excBase_ValueError.hasBase) (I.ok.hd rfl) ?_ hni (ld_glob I hg hm ⟨rfl, ?_⟩ hd)
  · rw [he]
    exact (congrArg (fun z => (false || z)) hpl : _)
  have z := ha cpos pins s σ H _ I h
  rw [he] at z ⊢
  refine Calls.evalArgs_plain (wpAny_mono z (fun us s₂ ⟨vs, H2, I2, r, hl, e⟩ => ⟨rfl, by rw [← r.length]; exact hl, I2.bk _ _ hC, hN.keeps I2.bk, T.keeps I2.bk, fun h' ea hx => leave_new I2 hx e⟩) fun _ _ y => y)
end
end L2

/-! calls that may raise; try; isinstance of an exception -/
namespace L2
open PySem PySem.Spec PyProof.Rows
section
variable {P : Program} {w : World} {K : PySem.W.Frag} {mg : Str → Option Value} {base : Heap}
/-- a def of the text, as it stands behind the top; dflt: what its last parameter is where it is left out -/
structure DefG (dflt : Option V) (K : PySem.W.Frag) (mg : Str → Option Value) (x : Str) (st : Stmt) (ps : List Str) (f : Addr) (fd : FuncData) : Prop where
  ex : ∃ (oc : Value) (od : Option Addr) (dV kV doc pm : Value) (an : Option Addr) (cdv ct : Value) (osl : Array (Option Value)),
    fd = PySem.W.fnOf x x (defArgs st) (defBody st) (defScope st) dV kV doc pm an cdv ct ∧ K.lookup f = some ⟨oc, od, .func fd, osl⟩ ∧ PySem.W.codeIn K cdv x = true
  kp : PySem.W.keepIn K (.ref f) = true
  bd : Binds K fd ps []
  b1 : ∀ v, dflt = some v → ∃ u, RelV v u ∧ Binds K fd ps [u]
  pl : mg x = some (.ref f)
abbrev DefAt := DefG none
theorem Fun.defAt {x : Str} {st : Stmt} {ps : List Str} {f : Addr} {fd : FuncData} (F : Fun K x x st f fd) (bd : Binds K fd ps []) (pl : mg x = some (.ref f)) : DefAt K mg x st ps f fd :=
  let ⟨oc, od, kV, doc, pm, an, cdv, ct, osl, h⟩ := F.ex
  ⟨⟨oc, od, .none, kV, doc, pm, an, cdv, ct, osl, h⟩, F.kp, bd, fun _ z => (by cases z), pl⟩
/-- a def that may be called by its name -/
structure CalG (dflt : Option V) (P : Program) (w : World) (K : PySem.W.Frag) (mg : Str → Option Value) (base : Heap) (k : Nat) (x : Str) (ps : List Str) (sp : Sp) : Prop where
  ex : ∃ f fd, FnOk P w K mg base (CX1 P w) k f fd ps sp ∧ Binds K fd ps [] ∧ (∀ v, dflt = some v → ∃ u, RelV v u ∧ Binds K fd ps [u]) ∧ PySem.W.keepIn K (.ref f) = true ∧ mg x = some (.ref f)
abbrev Cal := CalG none
theorem DefG.calX {dflt : Option V} {x : Str} {st : Stmt} {f : Addr} {fd : FuncData} {N ps : List Str} {k : Nat} {sp : Sp} (D : DefG dflt K mg x st ps f fd) (S : FnScope N ps (defScope st)) (len : ∀ vs H Q E, sp vs H Q E → vs.length = ps.length)
    (hbody : ∀ (cdv : Value) (A : Around) (outer : List Env) (s : Shared) (H : Hp) (vs : List V) (Q : VK) (E : XK), Room k (A.deeper (envOfC x (defScope st) s.heap.objs.size f cdv)) → sp vs H Q E →
      ∃ t, PSs (cxOf (CX1 P w) P w K mg base N x (defScope st) f cdv A outer s H E) (defBody st) t ∧ t { nx := fun _ H' => Q .non H', rt := Q } (start N vs) H) : CalG dflt P w K mg base (k + 1) x ps sp := by
  refine ⟨⟨f, fd, ?_, D.bd, D.b1, D.kp, D.pl⟩⟩
  obtain ⟨oc, od, dV, kV, doc, pm, an, cdv, ct, osl, rfl, lk, hcd⟩ := D.ex
  exact fn_of lk hcd S len fun A outer s H vs Q E hr hsp => hbody cdv A outer s H vs Q E hr hsp
theorem DefG.cal {dflt : Option V} {x : Str} {st : Stmt} {f : Addr} {fd : FuncData} {N ps : List Str} {k : Nat} {sp : Sp} (D : DefG dflt K mg x st ps f fd) (S : FnScope N ps (defScope st)) (len : ∀ vs H Q E, sp vs H Q E → vs.length = ps.length)
    (hbody : ∀ (cdv : Value) (A : Around) (outer : List Env) (s : Shared) (H : Hp) (vs : List V) (Q : VK) (E : XK), Room k (A.deeper (envOfC x (defScope st) s.heap.objs.size f cdv)) → sp vs H Q E →
      ∃ t, PSs (cxOf (CX1 P w) P w K mg base N x (defScope st) f cdv A outer s H E).nox (defBody st) t ∧ t { nx := fun _ H' => Q .non H', rt := Q } (start N vs) H) : CalG dflt P w K mg base (k + 1) x ps sp :=
  D.calX S len fun cdv A outer s H vs Q E hr h => let ⟨t, p, q⟩ := hbody cdv A outer s H vs Q E hr h; ⟨t, p.nox, q⟩
/-- the law itself: nothing leaves it -/
theorem DefG.okL {dflt : Option V} {x : Str} {st : Stmt} {f : Addr} {fd : FuncData} {N ps : List Str} {k : Nat} {sp : Sp} (D : DefG dflt K mg x st ps f fd) (S : FnScope N ps (defScope st)) (len : ∀ vs H Q E, sp vs H Q E → vs.length = ps.length)
    (hbody : ∀ (cdv : Value) (A : Around) (outer : List Env) (s : Shared) (H : Hp) (vs : List V) (Q : VK) (E : XK), Room k (A.deeper (envOfC x (defScope st) s.heap.objs.size f cdv)) → sp vs H Q E →
      ∃ t, PSs (cxOf CX0 P w K mg base N x (defScope st) f cdv A outer s H E).nox (defBody st) t ∧ t { nx := fun _ H' => Q .non H', rt := Q } (start N vs) H) : FnOk P w K mg base CX0 (k + 1) f fd ps sp := by
  obtain ⟨oc, od, dV, kV, doc, pm, an, cdv, ct, osl, rfl, lk, hcd⟩ := D.ex
  exact fn_of lk hcd S len fun A outer s H vs Q E hr hsp => let ⟨t, p, q⟩ := hbody cdv A outer s H vs Q E hr hsp; ⟨t, p.nox, q⟩
end
/-! ### f(..), an exception wanted by the state of the call -/
def tCallS (sp : Sp) (dvs : List V) (E : St → XK) (t : TA) : TE := fun σ H Q => t σ H fun vs H1 => sp (vs ++ dvs) H1 Q (E σ)
def PassS (CX : CXT) (X : Cx) (E : St → XK) : Prop := ∀ (pins : List (Addr × Obj)) (σ : St) (H : Hp) (s : Shared) (e : Value) (s' : Shared), Inv X pins σ H s → CX X.stack H s (E σ) e s' → X.xe e s'
section
variable {X : Cx} {CX : CXT} {k : Nat} {f : Addr} {fd : FuncData} {ps : List Str} {sp : Sp} {dvs : List V} {ds : List Value} {E : St → XK} {x : Str} {p pos : Pos} {e : Expr} {es : List Expr} {t : TA}
theorem pe_callS (F : FnOk X.prog X.w X.K X.mg X.base CX k f fd ps sp) (hr : Room k X.A) (hg : Gl X x) (hm : X.mg x = some (.ref f)) (hk : PySem.W.keepIn X.K (.ref f) = true) (hb : Binds X.K fd ps ds) (hd : Vals dvs ds) (hx : PassS CX X E)
    (ha : PA X (e :: es) t) (hdb : (x == ("__debug__" : Str)) = false := by decide) (he : starEach (e :: es) X.env = (false, eval e X.env) :: starEach es X.env := by rfl) (hpl : (backTo pos (starEach es X.env)).any (·.1) = false := by rfl) :
    PE X (.Call (.Name x p) (e :: es) [] pos) (tCallS sp dvs E t) := by
  intro pins s σ H Q I h
  refine wpAny_Call_Name_kw (ld_glob I hg hm (PySem.W.callWith_K (h₀ := X.base) I.ok.mod.kin hk (thn (ha pos pins s σ H _ I h) fun us s1 ⟨vs, H1, I1, r, q⟩ => ⟨I1.kIn, ?_⟩) he hpl) hdb)
  have r2 : Vals (vs ++ dvs) (us ++ ds) := r.append hd
  have hl : (us ++ ds).length = ps.length := r2.length ▸ F.len _ _ _ _ q
  refine wpAny_call (codeAny_mono (F.run X.A X.stack s1 H1 ⟨us, []⟩ (us ++ ds) (vs ++ dvs) Q (E σ) hr I1.env0 (hb s1 us I1.kIn hl) r2 q) fun r s' hq => ?_)
  match r, hq with
  | .error e, hq => exact hx pins σ H1 s1 e s' I1 hq
  | .ok (.ret u), hq => exact I1.after hq
theorem Passes.s {E : XK} (h : Passes CX X E) : PassS CX X fun _ => E := fun pins σ H s e s' I z => h pins σ H s e s' I z
theorem pe_calS {dflt : Option V} (C : CalG dflt X.prog X.w X.K X.mg X.base k x ps sp) (hx : PassS (CX1 X.prog X.w) X E) (hr : Room k X.A) (hg : Gl X x) (ha : PA X (e :: es) t) (hdb : (x == ("__debug__" : Str)) = false := by decide)
    (he : starEach (e :: es) X.env = (false, eval e X.env) :: starEach es X.env := by rfl) (hpl : (backTo pos (starEach es X.env)).any (·.1) = false := by rfl) : PE X (.Call (.Name x p) (e :: es) [] pos) (tCallS sp [] E t) := by
  obtain ⟨f, fd, F, b, _, kp, m⟩ := C.ex
  exact pe_callS F hr hg m kp b .nil hx ha hdb he hpl
theorem pe_cal {dflt : Option V} (C : CalG dflt X.prog X.w X.K X.mg X.base k x ps sp) (hr : Room k X.A) (hg : Gl X x) (ha : PA X (e :: es) t) (hdb : (x == ("__debug__" : Str)) = false := by decide)
    (he : starEach (e :: es) X.env = (false, eval e X.env) :: starEach es X.env := by rfl) (hpl : (backTo pos (starEach es X.env)).any (·.1) = false := by rfl) : PE X (.Call (.Name x p) (e :: es) [] pos) (tCall sp [] E0 t) := by
  obtain ⟨f, fd, F, b, _, kp, m⟩ := C.ex
  exact pe_call F hr hg m kp b .nil pass1 ha hdb he hpl
/-- .. the last argument left out -/
theorem pe_cal1 {v : V} (C : CalG (some v) X.prog X.w X.K X.mg X.base k x ps sp) (hr : Room k X.A) (hg : Gl X x) (ha : PA X (e :: es) t) (hdb : (x == ("__debug__" : Str)) = false := by decide)
    (he : starEach (e :: es) X.env = (false, eval e X.env) :: starEach es X.env := by rfl) (hpl : (backTo pos (starEach es X.env)).any (·.1) = false := by rfl) : PE X (.Call (.Name x p) (e :: es) [] pos) (tCall sp [v] E0 t) := by
  obtain ⟨f, fd, F, _, b, kp, m⟩ := C.ex
  obtain ⟨u, r, b⟩ := b v rfl
  exact pe_call F hr hg m kp b (.cons r .nil) pass1 ha hdb he hpl
end
/-! ### the contexts of a try -/
/-- the body of a try -/
abbrev tryCx (X : Cx) (pins : List (Addr × Obj)) (XE : Value → Shared → Prop) : Cx := { X with pn := X.pn ++ pins, xe := XE }
/-- an except suite -/
abbrev hdCx (X : Cx) (ea : Addr) : Cx := { X with A := X.A.mark (some (.ref ea)), calm := false, xe := fun _ _ => False }
section
variable {X : Cx} {pins pins' : List (Addr × Obj)} {σ : St} {H : Hp} {s : Shared} {XE : Value → Shared → Prop} {ea : Addr}
theorem Cx.Ok.tryIn (ok : X.Ok) : (tryCx X pins XE).Ok := ⟨ok.mod, ok.kind, ok.glob, ok.blt, ok.above, ok.inj, ok.has, ok.cab, ok.hd, ok.frames, ok.stk, ok.exf, ok.bs, ok.bsz, ok.noex, ok.exfs, ok.funs, ok.frf⟩
theorem Cx.Ok.tryOut (ok : (tryCx X pins XE).Ok) : X.Ok := ⟨ok.mod, ok.kind, ok.glob, ok.blt, ok.above, ok.inj, ok.has, ok.cab, ok.hd, ok.frames, ok.stk, ok.exf, ok.bs, ok.bsz, ok.noex, ok.exfs, ok.funs, ok.frf⟩
theorem Cx.Ok.hdIn (ok : X.Ok) : (hdCx X ea).Ok := ⟨ok.mod, ok.kind, ok.glob, ok.blt, ok.above, ok.inj, ok.has, ok.cab, fun z => (by cases z), ok.frames, ok.stk, ok.exf, ok.bs, ok.bsz, ok.noex, ok.exfs, ok.funs, ok.frf⟩
theorem Inv.tryIn (I : Inv X pins σ H s) : Inv (tryCx X pins XE) [] σ H s := ⟨I.ok.tryIn, I.os, I.bare, I.base, I.loc, I.cell, I.free, I.freeC, fun p hp => I.pin p (by simpa using hp), I.hok, I.len⟩
theorem Inv.tryOut (I : Inv (tryCx X pins XE) pins' σ H s) : Inv X pins σ H s := ⟨I.ok.tryOut, I.os, I.bare, I.base, I.loc, I.cell, I.free, I.freeC, fun p hp => I.pin p (List.mem_append_left _ hp), I.hok, I.len⟩
theorem Inv.hdIn (I : Inv X pins σ H s) : Inv (hdCx X ea) pins σ H s := ⟨I.ok.hdIn, I.os, I.bare, I.base, I.loc, I.cell, I.free, I.freeC, I.pin, I.hok, I.len⟩
theorem Inv.hdOut (ok : X.Ok) (I : Inv (hdCx X ea) pins σ H s) : Inv X pins σ H s := ⟨ok, I.os, I.bare, I.base, I.loc, I.cell, I.free, I.freeC, I.pin, I.hok, I.len⟩
/-- a name of the frame has gone -/
theorem Inv.gone {i : Nat} {n : Str} {h' : Heap} {t' : Nat} {v : Option Value} {m : Str → Option Value} (I : Inv X pins σ H s) (hN : X.N.Nodup) (hi : X.N[i]? = some n) (hl : X.env.scope.names.lookup n = some .local)
    (hm : ∀ (j : Nat) (x : Str) (v : V), X.N[j]? = some x → σ[j]? = some (some v) → Vis X.env.scope x → ∃ u, RelV v u ∧ Look X.env s.heap m x u) (hs0 : ∃ o, s.heap.get? X.env.locals = some o)
    (hn : h'.Ns X.env.locals (fun x => if x = n then v else m x)) (hs : Heap.SameBut X.env.locals s.heap h') : Inv X pins (σ.set i none) H { s with heap := h', toks := t' } := by
  have cne := I.cne
  obtain ⟨oL, hoL⟩ := hs0
  have low : ∀ b o, X.s₀.heap.get? b = some o → b ≠ X.env.locals := fun b o e => Nat.ne_of_lt (Nat.lt_of_lt_of_le (Heap.lt_size e) I.ok.above)
  refine ⟨I.ok, I.os, I.bare, ⟨fun b o e n hb hx => (hs.2 b (low b o e)).trans (I.base.keep b o e n hb hx), fun b o e n hb hx => ?_, I.base.free, fun b o e hx => ?_, I.base.tups, I.base.frzs, I.base.tbls⟩, ⟨_, hn, fun j y v' e1 e2 e3 => ?_⟩, fun y c e => ?_, I.free, I.freeC, fun p hp => ?_, fun b ob e => ?_, by simpa using I.len⟩
  · obtain ⟨sl, e1⟩ := I.base.slot b o e n hb hx
    exact ⟨sl, (hs.2 b (low b o e)).trans e1⟩
  · obtain ⟨o', e1⟩ := I.base.there b o e hx
    exact ⟨o', (hs.2 b (low b o e)).trans e1⟩
  · by_cases hj : j = i
    · subst hj
      rw [List.getElem?_set] at e2
      rw [if_pos rfl] at e2
      split at e2 <;> cases e2
    · rw [List.getElem?_set_ne (Ne.symm hj)] at e2
      obtain ⟨u', r', q⟩ := hm j y v' e1 e2 e3
      refine ⟨u', r', ?_⟩
      rcases q with ⟨k, e⟩ | ⟨k, c, e, z⟩
      · have hy : y ≠ n := fun e => hj (nodup_ix hN e1 (e ▸ hi))
        exact .inl ⟨k, (if_neg hy).trans e⟩
      · exact .inr ⟨k, c, e, z.sameBut hs (cne y c e)⟩
  · obtain ⟨w', z⟩ := I.cell y c e
    exact ⟨w', z.sameBut hs (cne y c e)⟩
  · obtain ⟨e, n, ne, nf, d⟩ := I.pin p hp
    exact ⟨(hs.2 p.1 ne).trans e, n, ne, nf, d⟩
  · refine (I.hok b ob e).stay (fun c w' hc q => (hs.2 c fun z => ?_).trans q) (fun _ q => q) fun _ _ q => q
    rcases hc with hc | hc
    · rw [hc] at z
      rw [z, I.free] at e
      cases e
    · rw [z, I.free] at hc
      cases hc
end
/-! ### try: .. except X as n: .. -/
def asEnds (i : Nat) (D : Ends) : Ends := { nx := fun σ H => D.nx (σ.set i none) H, rt := D.rt, bk := fun σ H => D.bk (σ.set i none) H, ct := fun σ H => D.ct (σ.set i none) H }
/-- the class at C is one of those that X takes -/
def Takes (K : PySem.W.Frag) (C D : Addr) : Prop := PySem.W.subIn K (.ref C) (.ref D) = some true
def tTry (K : PySem.W.Frag) (D0 : Addr) (i : Nat) (tb : (St → XK) → TS) (th : TS) : TS := fun D σ H =>
  tb (fun σ' c _ H' => ∃ C, c = .ref C ∧ Takes K C D0 ∧ ∀ ea, H' ea = none → th (asEnds i D) (σ'.set i (some (.ref ea))) (upd H' ea (isX ea C))) D σ H
section
variable {prog : Program} {w : World} {A : Around} {E : Value → Shared → Prop} {s : Shared} {K : PySem.W.Frag}
theorem matches_own {ea C D : Addr} {x : Str} {o : Obj} {Q : Bool → Shared → Prop} (X : K.In s.heap) (c : Xc K x D) (tk : Takes K C D) (he : s.heap.get? ea = some o) (hc : o.cls = .ref C) (q : Q true s) : wpAny (model prog w) A (excMatches (.ref ea) (.ref D)) Q E s := by
  have L1 := PySem.W.looks_typeIn (M := model prog w) X c.ty
  have L2 := PySem.W.looks_mroIn (M := model prog w) X c.mb
  have L3 := PySem.W.looks_subIn (M := model prog w) X tk
  have L4 : PySem.W.Looks (model prog w) s.heap (isType (.ref D)) true := by
    have ci := c.ci
    unfold PySem.W.isClsIn PySem.W.clsIn at ci
    split at ci
    · rename_i ho
      intro A' Q' E' s' k q
      unfold isType loadHead
      exact wpAny_bind (wpAny_loadPart (k _ _ (X _ _ ho)) (wpAny_pure q))
    · cases ci
  have L5 : PySem.W.Looks (model prog w) s.heap (typeOf (.ref ea)) (.ref C) := hc ▸ (PySem.W.Looks.ld he).andThen .now
  have L6 : PySem.W.Looks (model prog w) s.heap (isInstance (.ref D) (.type "tuple")) false := L1.andThen (.of_pure tc_notTuple)
  have L7 : PySem.W.Looks (model prog w) s.heap (isExcClass (.ref D)) true := by
    unfold isExcClass
    refine L4.andThen ?_
    rw [if_pos rfl]
    exact L2
  have L8 : PySem.W.Looks (model prog w) s.heap (excMatches (.ref ea) (.ref D)) true := by
    unfold excMatches
    refine L6.andThen ?_
    simp only [Bool.false_eq_true, if_false, pure_bind, List.forIn_cons, List.forIn_nil, bind_assoc]
    refine L7.andThen ?_
    simp only [Bool.not_true, Bool.false_eq_true, if_false, pure_bind]
    refine L5.andThen (L3.andThen ?_)
    simp only [if_true, pure_bind]
    exact .now
  exact L8.here q
end
section
variable {X : Cx}
/-- try: body; except x as n: suite -/
theorem ps_try {body : List Stmt} {x n : Str} {np hpos pos : Pos} {b₀ : Stmt} {suite : List Stmt} {i : Nat} {D0 : Addr} {tb : (St → XK) → TS} {th : TS} (c : Xc X.K x D0) (hm : X.mg x = some (.ref D0)) (hN : X.N.Nodup) (hi : X.N[i]? = some n) (hl : X.env.scope.names.lookup n = some .local)
    (hb : ∀ (pins : List (Addr × Obj)) (XE : Value → Shared → Prop) (E : St → XK), PassS (CX1 X.prog X.w) (tryCx X pins XE) E → PSs (tryCx X pins XE) body (tb E)) (hh : ∀ ea : Addr, PSs (hdCx X ea) (b₀ :: suite) th)
    (hg : Gl X x := by rfl) (hst : X.stack = X.env :: X.outer := by rfl) (hfr : X.env.frame = some X.env.locals := by rfl) (hd : (x == ("__debug__" : Str)) = false := by decide) :
    PS X (.Try body [.ExceptHandler (some (.Name x np)) (some n) (b₀ :: suite) hpos] [] [] pos) (tTry X.K D0 i tb th) := by
  intro pins s σ H D I h
  unfold tTry at h
  generalize hE : (fun (σ' : St) (c : Value) (_ : Option Addr) (H' : Hp) => ∃ C, c = Value.ref C ∧ Takes X.K C D0 ∧ ∀ ea, H' ea = none → th (asEnds i D) (σ'.set i (some (V.ref ea))) (upd H' ea (isX ea C))) = E at h
  refine wpAny_Try_except (wpAny_mono (hb pins (fun e s' => ∃ σ' H1 s1, Inv X pins σ' H1 s1 ∧ CX1 X.prog X.w X.stack H1 s1 (E σ') e s') E (fun pins' σ' H1 s1 e s' I1 z => ⟨σ', H1, s1, I1.tryOut, z⟩) [] s σ H D I.tryIn h) (fun f s1 hq => ?_) fun e s' hq => ?_)
  · cases f with
    | next =>
      obtain ⟨σ', H', I', q⟩ := hq
      exact wpAny_execs_nil ⟨σ', H', I'.tryOut, q⟩
    | brk => obtain ⟨σ', H', I', q⟩ := hq; exact ⟨σ', H', I'.tryOut, q⟩
    | cont => obtain ⟨σ', H', I', q⟩ := hq; exact ⟨σ', H', I'.tryOut, q⟩
    | ret u => obtain ⟨v, σ', H', I', r, q⟩ := hq; exact ⟨v, σ', H', I'.tryOut, r, q⟩
  obtain ⟨σ', H1, s1, I1, ea, C, t, H', B, rfl, F, hEq⟩ := hq
  subst hE
  obtain ⟨C', hC', tk, hth⟩ := hEq
  cases hC'
  have fly := F.fly
  rw [hst] at fly
  refine wpAny_looks_onW (I1.ok.frames.trans (congrArg some hst)) hfr fly fun h4 held4 sm4 => ?_
  refine wpAny_landsW held4 fun h5 fl5 sm5 => ?_
  have sm45 := sm4.trans sm5
  have I5 : Inv X pins σ' H' { s' with heap := h5 } := I1.call' (s' := { s' with heap := h5 }) (ch := []) F.os (F.unTo fl5.1 sm45) (F.hokTo fl5.1) F.bare fun b z => absurd z (by simp)
  obtain ⟨ob, hob, hobc⟩ := fl5.there
  refine wpAny_handleBy_cons (codeAny_handlers_test (ld_glob (X := hdCx X ea) I5.hdIn hg hm (matches_own I5.kIn c tk hob hobc ?_) hd)) (by intro z; cases z)
  refine codeAny_handlers_suite_as (lands_againW fl5 fun h6 fl6 sm6 => ?_)
  have smA := sm45.trans sm6
  obtain ⟨o6, vs6, ho6, hc6, hd6, _⟩ := fl6.first
  have I6 : Inv X pins σ' (upd H' ea (isX ea C)) { s' with heap := h6 } := I1.call' (s' := { s' with heap := h6 }) (ch := []) F.os (F.unX fl6.1 smA) (F.hokX fl6.1 ⟨o6, vs6, ho6, hc6, hd6⟩) F.bare fun b z => absurd z (by simp)
  refine store_ok I6 hN hi (.inl hl) (v := .ref ea) rfl (fun s7 I7 => ?_) (.inr hl)
  refine wpAny_mono (hh ea pins s7 _ _ (asEnds i D) I7.hdIn (hth ea F.new)) (fun f s8 hq => ?_) fun _ _ z => z.elim
  have gone : ∀ {σ8 : St} {H8 : Hp} {Q : Unit → Shared → Prop}, Inv (hdCx X ea) pins σ8 H8 s8 → (∀ s9, Inv X pins (σ8.set i none) H8 s9 → Q () s9) → wpAny (model X.prog X.w) X.A (do bindName X.env n .none; unbindBehindTheSuite X.env n hpos) Q X.xe s8 := fun {σ8 H8 Q} I8 q => by
    have J := I8.hdOut I1.ok
    obtain ⟨m, hn, hmm⟩ := id J.loc
    have hcls : (X.env.scope.kind == .class || (X.env.scope.kind == .module && X.env.locals != X.env.globals)) = false := by rw [J.ok.kind]; rfl
    refine wpAny_nameGoes_keeps hl hn hcls fun h9 v hn9 hs9 => q _ (J.gone hN hi hl hmm ?_ hn9 hs9)
    obtain ⟨o, _, _, ho, _⟩ := hn
    exact ⟨o, ho⟩
  cases f with
  | next => obtain ⟨σ8, H8, I8, q⟩ := hq; exact gone I8 fun s9 I9 => ⟨_, _, I9, q⟩
  | brk => obtain ⟨σ8, H8, I8, q⟩ := hq; exact gone I8 fun s9 I9 => ⟨_, _, I9, q⟩
  | cont => obtain ⟨σ8, H8, I8, q⟩ := hq; exact gone I8 fun s9 I9 => ⟨_, _, I9, q⟩
  | ret u => obtain ⟨v, σ8, H8, I8, r, q⟩ := hq; exact gone I8 fun s9 I9 => ⟨v, _, _, I9, r, q⟩
end
/-! ### a def called in an except suite -/
/-- as if no exception were at hand -/
abbrev calmA (A : Around) : Around := { A with handled := none }
/-- the context of a def's body that an except suite calls -/
abbrev cxH (P : Program) (w : World) (K : PySem.W.Frag) (mg : Str → Option Value) (base : Heap) (N : List Str) (qual : Str) (scope : Scope) (f : Addr) (cd : Value) (A : Around) (outer : List Env) (s : Shared) (H : Hp) : Cx :=
  { cxOf CX0 P w K mg base N qual scope f cd A outer s H E0 with calm := false, xe := fun _ _ => False }
structure CalH (P : Program) (w : World) (K : PySem.W.Frag) (mg : Str → Option Value) (base : Heap) (k : Nat) (x : Str) (ps : List Str) (sp : Sp) : Prop where
  len : ∀ vs H Q E, sp vs H Q E → vs.length = ps.length
  ex : ∃ f fd, Binds K fd ps [] ∧ PySem.W.keepIn K (.ref f) = true ∧ mg x = some (.ref f) ∧
    ∀ (A : Around) (outer : List Env) (s : Shared) (H : Hp) (args : Args) (us : List Value) (vs : List V) (Q : VK), Room k (calmA A) → Env0 P w K mg base A outer s H → BindsTo s fd args (ps.zip us) → Vals vs us → sp vs H Q E0 →
      codeAny (model P w) A (.call (.ref f) args) (CR CX0 outer P w H s Q E0) s
section
variable {P : Program} {w : World} {K : PySem.W.Frag} {mg : Str → Option Value} {base : Heap}
theorem DefG.calH {dflt : Option V} {x : Str} {st : Stmt} {f : Addr} {fd : FuncData} {N ps : List Str} {k : Nat} {sp : Sp} (D : DefG dflt K mg x st ps f fd) (S : FnScope N ps (defScope st)) (len : ∀ vs H Q E, sp vs H Q E → vs.length = ps.length)
    (hbody : ∀ (cdv : Value) (A : Around) (outer : List Env) (s : Shared) (H : Hp) (vs : List V) (Q : VK), Room k ((calmA A).deeper (envOfC x (defScope st) s.heap.objs.size f cdv)) → sp vs H Q E0 →
      ∃ t, PSs (cxH P w K mg base N x (defScope st) f cdv A outer s H) (defBody st) t ∧ t { nx := fun _ H' => Q .non H', rt := Q } (start N vs) H) : CalH P w K mg base (k + 1) x ps sp := by
  obtain ⟨oc, od, dV, kV, doc, pm, an, cdv, ct, osl, rfl, lk, hcd⟩ := D.ex
  refine ⟨len, f, _, D.bd, D.kp, D.pl, fun A outer s H args us vs Q hr e0 hb r hsp => ?_⟩
  have hl := len _ _ _ _ hsp
  have KX : K.In s.heap := e0.mod.kin.keeps fun b o e => (e0.bs b o e).1
  have lim : s.heap.NoLimit := e0.mod.nolimit.keeps fun b o e => (e0.bs b o e).1
  refine codeAny_call_function (show A.depth < recursionLimit from hr.depth) (KX _ _ lk) rfl S.co S.gen rfl (PySem.W.codeRec_of KX hcd) (hb _ _ _ _ ?_)
  refine wpAny_newFunctionEnv_cells S.kind (fun y hy => ?_) fun env he s1 z => ?_
  · rcases S.par y.1 (List.of_mem_zip hy).1 with q | q
    · exact .inl q
    · exact .inr ⟨q, PySem.W.cellsFrom_some _ _ _ (.inl q)⟩
  subst he
  refine ⟨lim.keeps z.toInCall.keep, codeAny_func ?_⟩
  obtain ⟨t, ht, hq⟩ := hbody cdv A outer s H vs Q (hr.deeper _) hsp
  have e1 : Env0 P w K mg base (calmA A) outer s H := ⟨e0.frames, e0.mod, e0.bs, e0.bsz, e0.funs, e0.frf, e0.hok, e0.bare⟩
  have J : Inv (cxOf CX0 P w K mg base N x (defScope st) f cdv (calmA A) outer s H E0) [] (start N vs) H s1 := inv_start S rfl e1 hl r z
  have ok := J.ok
  have I : Inv (cxH P w K mg base N x (defScope st) f cdv A outer s H) [] (start N vs) H s1 :=
    ⟨⟨ok.mod, ok.kind, ok.glob, ok.blt, ok.above, ok.inj, ok.has, ok.cab, fun z => (by cases z), ok.frames, ok.stk, ok.exf, ok.bs, ok.bsz, ok.noex, ok.exfs, ok.funs, ok.frf⟩, J.os, J.bare, J.base, J.loc, J.cell, J.free, J.freeC, J.pin, J.hok, J.len⟩
  refine wpAny_mono (ht [] s1 (start N vs) H _ I hq) (fun fl s' hs => ?_) fun e s' hs => hs.elim
  have fin : ∀ {σ' : St} {H' : Hp} {v : V} {u : Value}, Inv (cxH P w K mg base N x (defScope st) f cdv A outer s H) [] σ' H' s' → RelV v u → Q v H' → CE outer P w H s Q u s' := fun {σ' H' v u} J rv q => ⟨v, H', J.os, J.bare, J.base, J.hok, rv, q⟩
  cases fl
  case ret u => obtain ⟨v, σ', H', J, rv, q⟩ := hs; exact fin J rv q
  case next => obtain ⟨σ', H', J, q⟩ := hs; exact fin (v := V.non) (u := Value.none) J rfl q
  case brk => obtain ⟨_, _, _, q⟩ := hs; exact False.elim q
  case cont => obtain ⟨_, _, _, q⟩ := hs; exact False.elim q
end
section
variable {X : Cx} {k : Nat} {ps : List Str} {sp : Sp} {x : Str} {p pos : Pos} {e : Expr} {es : List Expr} {t : TA}
/-- f(..) in an except suite, or in a def that one calls -/
theorem pe_calH (C : CalH X.prog X.w X.K X.mg X.base k x ps sp) (hr : Room k (calmA X.A)) (hg : Gl X x) (ha : PA X (e :: es) t) (hdb : (x == ("__debug__" : Str)) = false := by decide)
    (he : starEach (e :: es) X.env = (false, eval e X.env) :: starEach es X.env := by rfl) (hpl : (backTo pos (starEach es X.env)).any (·.1) = false := by rfl) : PE X (.Call (.Name x p) (e :: es) [] pos) (tCall sp [] E0 t) := by
  obtain ⟨f, fd, b, kp, m, run⟩ := C.ex
  intro pins s σ H Q I h
  refine wpAny_Call_Name_kw (ld_glob I hg m (PySem.W.callWith_K (h₀ := X.base) I.ok.mod.kin kp (thn (ha pos pins s σ H _ I h) fun us s1 ⟨vs, H1, I1, r, q⟩ => ⟨I1.kIn, ?_⟩) he hpl) hdb)
  have q : sp vs H1 Q E0 := by simpa only [List.append_nil] using q
  have hl : us.length = ps.length := r.length ▸ C.len _ _ _ _ q
  have bb := b s1 us I1.kIn (by rw [List.append_nil]; exact hl)
  rw [List.append_nil] at bb
  refine wpAny_call (codeAny_mono (run X.A X.stack s1 H1 ⟨us, []⟩ us vs Q hr I1.env0 bb r q) fun r s' hq => ?_)
  match r, hq with
  | .ok (.ret u), hq => exact I1.after hq
end
end L2

/-! isinstance(e, C), e an exception of one's own -/
namespace L2
open PySem PySem.Spec PyProof.Rows Builtin Builtin.ObjectAttr Builtin.Getset_descriptor
section
variable {prog : Program} {w : World} {A : Around} {E : Value → Shared → Prop} {s : Shared} {K : PySem.W.Frag} {ea C : Addr} {x : Str}
/-- what is known of an exception in the heap -/
def XAt (h : Heap) (ea C : Addr) : Prop := ∃ o vs, h.get? ea = some o ∧ o.cls = .ref C ∧ o.data = .fields vs
theorem XAt.ty {M : Model} {h : Heap} (z : XAt h ea C) : PySem.W.Looks M h (typeOf (.ref ea)) (.ref C) := by
  obtain ⟨o, _, ho, hc, _⟩ := z
  exact hc ▸ (PySem.W.Looks.ld ho).andThen .now
theorem cls_get {R : Result → Shared → Prop} {tp : Value} (X : K.In s.heap) (c : Xc K x C) (z : XAt s.heap ea C) (h : R (.ok (.ret (.ref C))) s) :
    codeAny (model prog w) A (.call (.builtin "getset_descriptor.__get__") ⟨[.builtin "object.__class__", .ref ea, tp], []⟩) R s := by
  obtain ⟨hh, g, dr, t, os⟩ := s
  have L0 := z.ty (M := model prog w)
  have L1 := PySem.W.looks_mroIn (M := model prog w) X c.mo
  refine codeAny_call_builtin PySem.W.KF.slot_gs.plain PySem.W.KF.entry_gs (PySem.W.KF.slot_gs.check _ _ _ _ _ _ _ _ PySem.W.KF.type_class (PySem.W.KF.args_gs _ _ _) ?_)
  unfold Builtin.«getset_descriptor.__get__» descrGet; rw [PySem.W.dga_obj]; refine wpAny_bind (wpAny_pure ?_)
  unfold descrGetter descrCheckInstance descrNameAndClass isInstance; simp only [PySem.W.KF.owner_class]; repeat lk
  refine ⟨Code.quiet_builtin _ (by decide +kernel), codeAny_builtin PySem.W.KF.entry_class ?_⟩; unfold Builtin.«object.__class__» shownTypeOf; repeat lk
  exact h
theorem cls_find {M : Model} {h : Heap} (X : K.In h) (c : Xc K x C) (cg : PySem.W.specialIn K (.builtin "object.__class__") "__get__" = some (some (.builtin "getset_descriptor.__get__"))) (ct : PySem.W.takesIn K (.builtin "object.__class__") = some true) :
    PySem.W.Looks M h (find (.ref ea) (.ref C) "__class__") (.bind (.builtin "getset_descriptor.__get__") (.builtin "object.__class__")) := by
  have L1 := PySem.W.looks_findIn (M := M) X c.cl
  have L2 : PySem.W.Looks M h (getOf (some (.builtin "object.__class__"))) (some (.builtin "getset_descriptor.__get__")) := PySem.W.looks_specialIn X cg
  have L3 := PySem.W.looks_takesIn (M := M) X ct
  unfold find
  refine L1.andThen (PySem.W.Looks.andThen (a := some (.builtin "getset_descriptor.__get__")) L2 ?_)
  refine PySem.W.Looks.andThen (a := some (.builtin "getset_descriptor.__get__", .builtin "object.__class__")) ?_ (PySem.W.Looks.tag .now)
  unfold dataDescriptor?
  refine L3.andThen ?_
  exact .now
theorem cls_attr {Q : Option Value → Shared → Prop} (X : K.In s.heap) (c : Xc K x C) (cg : PySem.W.specialIn K (.builtin "object.__class__") "__get__" = some (some (.builtin "getset_descriptor.__get__"))) (ct : PySem.W.takesIn K (.builtin "object.__class__") = some true)
    (z : XAt s.heap ea C) (q : Q (some (.ref C)) { s with toks := s.toks + 1 }) : wpAny (model prog w) A (getAttr? (.ref ea) "__class__") Q E s := by
  obtain ⟨hh, g, dr, t, os⟩ := s
  have L0 := z.ty (M := model prog w)
  have L1 := PySem.W.looks_findIn (M := model prog w) X c.ga
  have L2 := PySem.W.looks_findIn (M := model prog w) X c.gt
  unfold getAttr? getAttrBy?
  refine wpAny_bind (wpAny_mkText (wpAny_bind (wpAny_attempt (wpAny_mono (Q := fun v s' => v = .ref C ∧ s' = ⟨hh, g, dr, t + 1, os⟩) (E := fun _ _ => False) ?_ (fun v s' hv => ?_) fun _ _ f => f.elim))))
  case refine_2 =>
    obtain ⟨rfl, rfl⟩ := hv
    exact wpAny_pure q
  unfold getAttrBy
  refine wpAny_holding (wpAny_bind (L0.at (wpAny_bind (L1.at ?_))))
  show wpAny _ _ (getAttrByItsOwn _ _ _ _ _ _) _ _ _
  unfold getAttrByItsOwn hookBefore
  have LB : PySem.W.Looks (model prog w) hh (isInstance (.ref ea) (.type "BaseException")) true := L0.andThen (PySem.W.looks_mroIn X c.mb)
  have LF := cls_find (ea := ea) (M := model prog w) X c cg ct
  refine wpAny_bind (L2.at (wpAny_bind (wpAny_attempt (wpAny_holding ?_))))
  show wpAny _ _ (boundAndCalled _ _ _) _ _ _
  unfold boundAndCalled
  refine wpAny_bind (wpAny_of_eq (PySem.F.attrBase_ValueError.ga.bind (.ref ea)) (wpAny_call (codeAny_call_builtin PySem.F.attrBase_ValueError.ga.plain PySem.F.entry_bexc_ga ?_)))
  have hk : builtinKind "BaseException.__getattribute__" = some .slot := by decide +kernel
  have hsp : splitId "BaseException.__getattribute__" = some ("BaseException", "__getattribute__") := by decide +kernel
  have ha := PySem.F.args_bexc_ga (.ref ea) (.str "__class__" t)
  simp only [checkBuiltinCall, hk, hsp]
  refine wpAny_bind (LB.at ?_)
  rw [if_neg (by decide)]
  refine wpAny_of_eq (a := ()) ha ?_
  unfold Builtin.«object.__getattribute__»
  refine wpAny_bind (wpAny_of_eq (a := (Value.ref ea, [Value.str (Str.ofString "__class__") t])) rfl (wpAny_bind (wpAny_of_eq (a := Str.ofString "__class__") rfl ?_)))
  refine wpAny_bind (L0.at (wpAny_bind (LF.at ?_)))
  show wpAny _ _ (holding [Value.builtin "object.__class__"] (call (.builtin "getset_descriptor.__get__") [.builtin "object.__class__", .ref ea, .ref C]) >>= ret) _ _ _
  exact wpAny_bind (wpAny_holding (wpAny_call (cls_get (s := ⟨hh, g, dr, t + 1, os⟩) X c z (wpAny_pure (wpAny_pure ⟨rfl, rfl⟩)))))
/-- isinstance at an exception: its class as the written part has it -/
theorem kit_exc (c : Xc K x C) (cg : PySem.W.specialIn K (.builtin "object.__class__") "__get__" = some (some (.builtin "getset_descriptor.__get__"))) (ct : PySem.W.takesIn K (.builtin "object.__class__") = some true) : PySem.W.KitX K (.ref ea) (.ref C) (fun h => XAt h ea C) where
  ty := fun _ _ _ z => z.ty
  it := fun M h X _ => by
    have ci := c.ci
    unfold PySem.W.isClsIn PySem.W.clsIn at ci
    split at ci
    · rename_i ho
      intro A' Q' E' s' k q
      unfold isType loadHead
      exact wpAny_bind (wpAny_loadPart (k _ _ (X _ _ ho)) (wpAny_pure q))
    · cases ci
  ne := fun h tp dd its n sl X htp => by
    have ci := c.ci
    unfold PySem.W.isClsIn PySem.W.clsIn at ci
    refine Bool.eq_false_iff.mpr fun q => ?_
    have e : C = tp := Value.ref.inj (beq_iff_eq.mp q)
    split at ci
    · rename_i ho
      have z := X _ _ ho
      rw [e] at z
      cases z.symm.trans htp
    · cases ci
  ca := fun X z q => cls_attr X c cg ct z q
end
section
variable {X : Cx}
theorem call_isinstX (cg : PySem.W.specialIn X.K (.builtin "object.__class__") "__get__" = some (some (.builtin "getset_descriptor.__get__"))) (ct : PySem.W.takesIn X.K (.builtin "object.__class__") = some true) :
    CallR X (.builtin "isinstance") (fun xs H Q => ∃ (ea C : Addr) (x : Str) (y : V) (c : Value) (b : Bool), xs = [.ref ea, y] ∧ H ea = some (isX ea C) ∧ Xc X.K x C ∧ (∀ u, RelV y u → u = c) ∧ PySem.W.kitOne X.K (.ref C) c = some b ∧ Q (.bl b) H) := by
  intro pins s σ H xs us Q I r h
  obtain ⟨ea, C, x, y, c, b, rfl, hX, xc, hy, e, q⟩ := h
  obtain ⟨u, u', rfl, rx, ry⟩ := vals2 r
  cases rx
  cases hy u' ry
  have z : XAt s.heap ea C := (I.hok ea _ hX).1
  exact PySem.W.kia_one (kit_exc xc cg ct) I.kIn z e (fun w => nomatch w) fun tk => ⟨.bl b, H, I.tok _, rfl, q⟩
end
end L2

/-! my own words over the hand layer -/
namespace L2
open PySem PySem.Spec PyProof.Rows
section
variable {X : Cx} {x : Str} {pos : Pos}
theorem PS.nox {st : Stmt} {t : TS} (h : PS X.nox st t) : PS X st t := fun pins s σ H D I hw => wpAny_mono (h pins s σ H D (I.wish _) hw) (fun _ _ q => q.unwish) fun _ _ q => q.elim
theorem Room.clear {j k : Nat} {A : Around} (r : Room k A) (h : j ≤ k) : Room j (calmA A) := ⟨rfl, (r.mono h).dp, (r.mono h).un⟩
/-- a module's constant that is an int -/
theorem pe_const {i : Int} (hm : ∃ t, X.mg x = some (.int i t)) (hg : Gl X x) (hd : (x == ("__debug__" : Str)) = false := by decide) : PE X (.Name x pos) (tC (.int i)) := by
  obtain ⟨t, hm⟩ := hm
  exact pe_glob hg hm ⟨t, rfl⟩ hd
/-- a built-in type as a value -/
theorem pe_ty {n : String} (hm : X.mg x = none) (hv : bootBuiltins x = some (.type n)) (hg : Gl X x) (hn : x ≠ "__name__" := by decide) (hd : (x == ("__debug__" : Str)) = false := by decide) : PE X (.Name x pos) (tC (.ty n)) :=
  pe_bltn hg hm hv rfl hn hd
end
section
variable {X : Cx}
/-- << of any int -/
def CShl (i j : Int) : Prop := 0 ≤ j ∧ (Builtin.Int.intBits i : Int) + j ≤ 2 ^ 27
/-- * of any two ints -/
def CMulB (i j : Int) : Prop := IntMulOk i j
theorem op_mulB : OpR X (binaryOp .Mult) (rI CMulB fun i j => .int (i * j)) := opI fun _ _ _ _ _ _ _ hc q => mul_int q hc
/-- isinstance(x, T), T a built-in type -/
theorem call_isinst : CallR X (.builtin "isinstance") (fun xs H Q => ∃ x T t b, xs = [x, .ty T] ∧ TyOf X.K H x t ∧ PySem.W.kitOne X.K t (.type T) = some b ∧ Q (.bl b) H) := by
  intro pins s σ H xs us Q I r h
  obtain ⟨x, T, t, b, rfl, ty, e, q⟩ := h
  obtain ⟨u, w', rfl, rx, ry⟩ := vals2 r
  cases ry
  exact isinst_ok I rx ty e fun tk => ⟨.bl b, H, I.tok _, rfl, q⟩
/-! ### range(a, b, -1) -/
def ItD (lo : Int) (n : Nat) : It := ⟨fun i _ => i < n, fun i H x H' => H' = H ∧ x = .int (lo - i), fun i _ => n ≤ i⟩
theorem turn_rangeD {P : Program} {w : World} {K : PySem.W.Frag} {tg : Expr} (it : Addr) (lo : Int) (n : Nat) : Turn P w K tg (ItD lo n) [it] it (fun i h => IsRangeIter h it (lo + (i : Nat) * (-1)) ((n : Int) - (i : Nat)) (-1)) where
  mem := by simp
  obj := fun i h st b hb => by
    have e : b = it := by simpa using hb
    subst e
    exact ⟨_, st, fun v z => by
      have z' : Data.fields _ = Data.cell v := z
      cases z'⟩
  keep := fun i h h' st k => k it (by simp) _ st
  item := by
    intro X hP hw hK hc i pins s σ H E I hf st hg
    subst hP hw hK
    obtain ⟨f0, f1, f2, f3, f4, f5⟩ := hf it (by simp)
    have W := Walks.range (prog := X.prog) (w := X.w) (I.ok.hd hc) it lo (-1) n
    refine W.item i s _ _ hg st fun v h' tk hv st' kk => ?_
    obtain ⟨t, rfl⟩ := hv
    have I1 : Inv X pins σ H { s with heap := h', toks := tk } := I.turned (fun b o hb e => kk b o (by simpa using hb) e) f0 f1 f3 f4 f5
    refine ⟨_, rfl, go_of (s := { s with heap := h', toks := tk }) (n := "range_iterator") st' rfl rfl (by decide) ⟨.int (lo - i), H, I1, ⟨t, ?_⟩, ⟨rfl, rfl⟩, st', fun b hb => (hf b hb).1⟩⟩
    rw [show lo + (i : Int) * (-1) = lo - i by omega]
  done := by
    intro X hP hw hK hc i pins s σ H E I hf st hg
    subst hP hw hK
    obtain ⟨f0, f1, f2, f3, f4, f5⟩ := hf it (by simp)
    exact wpAny_pyNext_range_end (I.ok.hd hc) st (by have : n ≤ i := hg; omega) fun h' eb => ⟨rfl, I.turned (t' := s.toks) (fun b o hb e => eb b o hb e) f0 f1 f3 f4 f5⟩
  self := fun _ _ _ _ _ st h => wpAny_pyIter_rangeiter st h
variable {tg : Expr}
theorem range_itD {pins : List (Addr × Obj)} {σ : St} {H : Hp} {s : Shared} {R : It → Hp → Prop} {E : Value → Shared → Prop} {lo hi : Int} {t u v : Tok} {tk : Nat} (I : Inv X pins σ H s) (h1 : -(2 ^ 62) ≤ lo) (h2 : lo < 2 ^ 62) (h3 : -(2 ^ 62) ≤ hi) (h4 : hi < 2 ^ 62)
    (q : R (ItD lo (lo - hi).toNat) H) : wpAny (model X.prog X.w) X.A (pyIter (.ref s.heap.objs.size)) (PIE X pins σ tg R) E { s with heap := s.heap.push { cls := .type "range", data := .fields #[.int lo t, .int hi u, .int (-1) v] }, toks := tk } := by
  refine wpAny_pyIter_range (IsRange.new ..) (PySem.W.small_down h1 h2 h3 h4) ?_
  have I1 : Inv X pins σ H { s with heap := s.heap.push { cls := .type "range", data := .fields #[.int lo t, .int hi u, .int (-1) v] }, toks := tk } := I.kept fun b o e => Heap.get?_push_of_some _ e
  refine ⟨(s.heap.push { cls := .type "range", data := .fields #[.int lo t, .int hi u, .int (-1) v] }).objs.size, [(s.heap.push { cls := .type "range", data := .fields #[.int lo t, .int hi u, .int (-1) v] }).objs.size], _, _, H, rfl,
    I1.kept (t' := tk) fun b o e => Heap.get?_push_of_some _ e, turn_rangeD _ lo (lo - hi).toNat, ?_, fun b hb => ?_, q⟩
  · have e1 : lo + ((0 : Nat) : Int) * (-1) = lo := by omega
    have e2 : (((lo - hi).toNat : Nat) : Int) - ((0 : Nat) : Int) = Builtin.Range.rangeSize lo hi (-1) := by rw [PySem.W.rangeSize_down]; split <;> omega
    show IsRangeIter _ _ (lo + ((0 : Nat) : Int) * (-1)) ((((lo - hi).toNat : Nat) : Int) - ((0 : Nat) : Int)) (-1)
    rw [e1, e2]
    exact Heap.get?_push_size _ rfl
  · have e : b = (s.heap.push { cls := .type "range", data := .fields #[.int lo t, .int hi u, .int (-1) v] }).objs.size := by simpa using hb
    subst e
    exact I1.fpOk (Nat.le_refl _) (I1.hok.fresh (Nat.le_refl _))
def iRngD (ta : TA) : TI := fun σ H R => ta σ H fun vs H1 => ∃ i j : Int, vs = [.int i, .int j, .int (-1)] ∧ (-(2 ^ 62) ≤ i ∧ i < 2 ^ 62 ∧ -(2 ^ 62) ≤ j ∧ j < 2 ^ 62) ∧ R (ItD i (i - j).toNat) H1
theorem pi_rangeD {a b c : Expr} {ta : TA} {p pos : Pos} (hg : Gl X "range") (hm : X.mg "range" = none) (ha : PA X [a, b, c] ta)
    (he : starEach [a, b, c] X.env = (false, eval a X.env) :: starEach [b, c] X.env := by rfl) (hpl : (backTo pos (starEach [b, c] X.env)).any (·.1) = false := by rfl) :
    PI X tg (.Call (.Name "range" p) [a, b, c] [] pos) (iRngD ta) := by
  intro pins s σ H R I h
  refine Call_ (ld_blt I hg hm boot_range (PyProof.Rows.callWith_type1 (thn (ha pos pins s σ H _ I h) fun us s1 ⟨vs, H1, I1, r1, q1⟩ => ?_) he hpl))
  obtain ⟨i, j, e, ⟨q1, q2, q3, q4⟩, q⟩ := q1
  subst e
  cases r1 with
  | cons r rr =>
    cases rr with
    | cons r' rr =>
      cases rr with
      | cons r'' rr =>
        cases rr
        obtain ⟨t, rfl⟩ := r
        obtain ⟨t', rfl⟩ := r'
        obtain ⟨t'', rfl⟩ := r''
        exact call_range_3 (by decide) (range_itD I1 q1 q2 q3 q4 q) (.inl (PyProof.noPylong_small (by decide)))
theorem for_rangeD {lo : Int} {n : Nat} {g : TG} {tb : TS} {D : Ends} {σ : St} {H : Hp} (Pv : Nat → St → Hp → Prop) (h0 : Pv 0 σ H)
    (hs : ∀ i σ H, i < n → Pv i σ H → g (.int (lo - i)) σ H fun σ2 H2 => tb { D with nx := Pv (i + 1), ct := Pv (i + 1), bk := D.nx } σ2 H2) (hd : ∀ σ H, Pv n σ H → D.nx σ H) :
    ∃ W : Nat → Nat → St → Hp → Prop, (∃ m, W 0 m σ H) ∧ ∀ i m σ H, W i m σ H →
      ((ItD lo n).stop i H ∧ D.nx σ H) ∨ ((ItD lo n).go i H ∧ ∃ N : St → Hp → Prop, (∀ σ' H', N σ' H' → ∃ m', m' < m ∧ W (i + 1) m' σ' H') ∧ ∀ x H', (ItD lo n).yld i H x H' → g x σ H' fun σ2 H2 => tb { D with nx := N, ct := N, bk := D.nx } σ2 H2) := by
  refine ⟨fun i m σ H => m = n - i ∧ i ≤ n ∧ Pv i σ H, ⟨n, by simp, Nat.zero_le _, h0⟩, ?_⟩
  rintro i m σ H ⟨rfl, hi, p⟩
  by_cases hlt : i < n
  · refine .inr ⟨hlt, Pv (i + 1), fun σ' H' p' => ⟨n - (i + 1), by omega, rfl, hlt, p'⟩, fun x H' y => ?_⟩
    obtain ⟨e, y⟩ := y
    subst e y
    exact hs i σ _ hlt p
  · have e : i = n := by omega
    subst e
    exact .inl ⟨Nat.le_refl _, hd σ H p⟩
end
/-- pg_tup with the written part as a letter of its own (for a target inside a comprehension) -/
theorem pg_tupK {X : Cx} {pos : Pos} {es : List Expr} {k : Nat} {t : TGs} {K : PySem.W.Frag} {n : Nat} (hK : X.K = K) (hc : X.calm = true) (h : PGs X es t)
    (hn : (assignEach es X.env).length = n := by rfl) (hst : (assignEach es X.env).findIdx? (·.1) = none := by rfl) : PG X (.Tuple es k pos) (gTup K n t) := by
  subst hK
  exact pg_tup hc h hn hst
theorem same_new {H : Hp} {p : Addr} (h : H p = none) (o : HO) : Same H (upd H p o) := fun b u q => by rw [upd_ne (ne_of_none q h)]; exact q
theorem Same.tup {K : PySem.W.Frag} {H H' : Hp} {a : Addr} {xs : List V} (e : Same H H') (h : SqT K H a xs) : SqT K H' a xs := by
  rcases h with (h | ⟨o, h⟩) | h
  · exact .inl (.inl (e _ _ h))
  · exact .inl (.inr ⟨o, e _ _ h⟩)
  · exact .inr h
end L2

/-! comprehensions over the hand layer: [elt for tg in iter if ..] -/
namespace L2
open PySem PySem.Spec PyProof.Rows
theorem closure_key {cells : List (Str × Addr)} {f : Str × NameKind → List (Str × Addr) → Sem (ForInStep (List (Str × Addr)))} (hf1 : ∀ x cs, x.2 ≠ .free → f x cs = pure (.yield cs))
    (hf2 : ∀ x cs c, x.2 = .free → cells.lookup x.1 = some c → f x cs = pure (.yield ((x.1, c) :: cs))) :
    ∀ (l : List (Str × NameKind)) (init : List (Str × Addr)), (∀ y ∈ l, y.2 = .free → ∃ c, cells.lookup y.1 = some c) → (∀ x c, init.lookup x = some c → cells.lookup x = some c) →
      ∃ cl, forIn l init f = pure cl ∧ (∀ x c, cl.lookup x = some c → cells.lookup x = some c) ∧ (∀ x c, init.lookup x = some c → ∃ c', cl.lookup x = some c') ∧ ∀ y ∈ l, y.2 = .free → ∃ c, cl.lookup y.1 = some c := by
  intro l
  induction l with
  | nil => intro init _ h2; exact ⟨init, rfl, h2, fun x c h => ⟨c, h⟩, fun y hy => absurd hy (by simp)⟩
  | cons x l ih =>
    intro init h1 h2
    by_cases hx : x.2 = .free
    · obtain ⟨c, hc⟩ := h1 x List.mem_cons_self hx
      obtain ⟨cl, e, a1, a2, a3⟩ := ih ((x.1, c) :: init) (fun y hy => h1 y (List.mem_cons_of_mem _ hy)) (fun z c' hz => by
        rw [List.lookup_cons] at hz
        split at hz
        · rename_i q
          have q' : z = x.1 := by simpa using q
          rw [q']; cases hz; exact hc
        · exact h2 z c' hz)
      refine ⟨cl, ?_, a1, fun z c' hz => ?_, fun y hy hf => ?_⟩
      · rw [List.forIn_cons, hf2 x init c hx hc, pure_bind]
        exact e
      · by_cases q : z = x.1
        · subst q
          exact a2 x.1 c (by rw [List.lookup_cons]; simp)
        · exact a2 z c' (by rw [List.lookup_cons, show (z == x.1) = false from beq_eq_false_iff_ne.mpr q]; exact hz)
      · rcases List.mem_cons.mp hy with q | q
        · subst q
          exact a2 y.1 c (by rw [List.lookup_cons]; simp)
        · exact a3 y q hf
    · obtain ⟨cl, e, a1, a2, a3⟩ := ih init (fun y hy => h1 y (List.mem_cons_of_mem _ hy)) h2
      refine ⟨cl, ?_, a1, a2, fun y hy hf => ?_⟩
      · rw [List.forIn_cons, hf1 x init hx, pure_bind]
        exact e
      · rcases List.mem_cons.mp hy with q | q
        · subst q; exact absurd hf hx
        · exact a3 y q hf
theorem closure_of {scope : Scope} {env : Env} (h : ∀ y ∈ scope.names, y.2 = .free → ∃ c, env.cells.lookup y.1 = some c) :
    ∃ cl, closureFor scope env = pure cl ∧ (∀ x c, cl.lookup x = some c → env.cells.lookup x = some c) ∧ ∀ y ∈ scope.names, y.2 = .free → ∃ c, cl.lookup y.1 = some c := by
  unfold closureFor
  refine Exists.elim (closure_key (cells := env.cells) (f := fun (x : Str × NameKind) (r : List (Str × Addr)) =>
      match x with
      | (name, kind) => if (kind == NameKind.free) = true then do let c ← cellOf env name; pure (ForInStep.yield ((name, c) :: r)) else pure (ForInStep.yield r)) ?h1 ?h2 scope.names [] h (fun x c hx => by cases hx)) ?_
  · intro x cs hx
    have : (x.2 == NameKind.free) = false := by simpa using hx
    obtain ⟨n, k⟩ := x
    simp only [this, Bool.false_eq_true, if_false]
  · intro x cs c hx hc
    have : (x.2 == NameKind.free) = true := by simpa using hx
    obtain ⟨n, k⟩ := x
    simp only [this, if_true, cellOf, hc]
    rfl
  · rintro cl ⟨e, a1, _, a3⟩
    refine ⟨cl, ?_, a1, a3⟩
    refine Eq.trans ?_ (congrArg (fun m => m >>= fun r => pure r) e)
    rfl
/-- the kinds behind the relabelling -/
theorem lookup_relabel_free {env : Env} : ∀ {names : List (Str × NameKind)} {x : Str}, names.lookup x = some .free →
    (names.map fun (n, k) => if (k == NameKind.free && env.scope.kind == .function && env.kindOf n == some .cell) then (n, NameKind.cell) else (n, k)).lookup x = some .cell ∨
    (names.map fun (n, k) => if (k == NameKind.free && env.scope.kind == .function && env.kindOf n == some .cell) then (n, NameKind.cell) else (n, k)).lookup x = some .free
  | [], _, h => by simp at h
  | (n, k) :: r, x, h => by
    have ih := @lookup_relabel_free env r x
    rw [List.map_cons]
    cases hx : x == n with
    | true =>
      simp only [List.lookup_cons, hx] at h
      cases h
      by_cases hc : (NameKind.free == NameKind.free && env.scope.kind == .function && env.kindOf n == some .cell) = true
      · refine .inl ?_
        simp only [hc, if_true, List.lookup_cons, hx]
      · refine .inr ?_
        simp only [hc, if_false, List.lookup_cons, hx, Bool.false_eq_true]
    | false =>
      simp only [List.lookup_cons, hx] at h
      have : ∀ z : NameKind, List.lookup x ((if (k == NameKind.free && env.scope.kind == .function && env.kindOf n == some .cell) = true then (n, NameKind.cell) else (n, k)) :: (r.map fun (n, k) => if (k == NameKind.free && env.scope.kind == .function && env.kindOf n == some .cell) then (n, NameKind.cell) else (n, k))) = some z ↔ (r.map fun (n, k) => if (k == NameKind.free && env.scope.kind == .function && env.kindOf n == some .cell) then (n, NameKind.cell) else (n, k)).lookup x = some z := by
        intro z
        split <;> simp only [List.lookup_cons, hx]
      rw [this, this]
      exact ih h
theorem lookup_unrelabel {env : Env} : ∀ {names : List (Str × NameKind)} {x : Str},
    ((names.map fun (n, k) => if (k == NameKind.free && env.scope.kind == .function && env.kindOf n == some .cell) then (n, NameKind.cell) else (n, k)).lookup x = some .cell ∨
    (names.map fun (n, k) => if (k == NameKind.free && env.scope.kind == .function && env.kindOf n == some .cell) then (n, NameKind.cell) else (n, k)).lookup x = some .free) → names.lookup x = some .cell ∨ names.lookup x = some .free
  | [], _, h => by simp at h
  | (n, k) :: r, x, h => by
    have ih := @lookup_unrelabel env r x
    rw [List.map_cons] at h
    cases hx : x == n with
    | true =>
      simp only [List.lookup_cons, hx]
      by_cases hc : (k == NameKind.free && env.scope.kind == .function && env.kindOf n == some .cell) = true
      · rw [Bool.and_eq_true, Bool.and_eq_true] at hc
        exact .inr (by rw [beq_iff_eq.mp hc.1.1])
      · simp only [hc, if_false, List.lookup_cons, hx, Bool.false_eq_true] at h
        exact h
    | false =>
      simp only [List.lookup_cons, hx]
      refine ih ?_
      have : ∀ z : NameKind, List.lookup x ((if (k == NameKind.free && env.scope.kind == .function && env.kindOf n == some .cell) = true then (n, NameKind.cell) else (n, k)) :: (r.map fun (n, k) => if (k == NameKind.free && env.scope.kind == .function && env.kindOf n == some .cell) then (n, NameKind.cell) else (n, k))) = some z ↔ (r.map fun (n, k) => if (k == NameKind.free && env.scope.kind == .function && env.kindOf n == some .cell) then (n, NameKind.cell) else (n, k)).lookup x = some z := by
        intro z
        split <;> simp only [List.lookup_cons, hx]
      rw [this, this] at h
      exact h

/-- a comprehension's tests -/
def PTs (X : Cx) (ifs : List Expr) (t : TT) : Prop :=
  ∀ (pins : List (Addr × Obj)) (s : Shared) (σ : St) (H : Hp) (Q : Bool → Hp → Prop), Inv X pins σ H s → t σ H Q →
    wpAny (model X.prog X.w) X.A (forIn ifs true fun c r => if r = true then do let ok ← isTrue c X.env (eval c X.env); pure (ForInStep.yield ok) else pure (ForInStep.yield r)) (TP X pins σ Q) X.xe s
def tTrue : TT := fun _ H Q => Q true H
theorem pts_nil {X : Cx} : PTs X [] tTrue := fun _ _ _ H _ I h => wpAny_tests_nil ⟨H, I, h⟩
/-- one turn of a comprehension's loop, whatever its target -/
theorem compLoop_gen {prog : Program} {w : World} {A : Around} {R : Result → Shared → Prop} {s : Shared} {elt target iter : Expr} {ifs : List Expr} {scope : Scope} {pos : Pos} {it acc : Value} {env : Env} (I : Nat → Shared → Prop)
    (turn : ∀ n s, I n s → wpAny (model prog w) A (pyNext it) (fun r s₁ => match r with
      | none => R (.ok .next) s₁
      | some v => wpAny (model prog w) A (letOwnedTupleGo target it v) (fun _ s₁' => wpAny (model prog w) A (assign target env v) (fun _ s₂ =>
          wpAny (model prog w) A (forIn ifs true fun c r => if r = true then do let ok ← isTrue c env (eval c env); pure (ForInStep.yield ok) else pure (ForInStep.yield r)) (fun ok s₃ =>
            if ok = true then wpAny (model prog w) A (eval elt env) (fun x s₄ => wpAny (model prog w) A (call (.builtin "list.append") [acc, x]) (fun _ s₅ => ∃ m, m < n ∧ I m s₅) (fun _ _ => False) s₄) (fun _ _ => False) s₃
            else ∃ m, m < n ∧ I m s₃) (fun _ _ => False) s₂) (fun _ _ => False) s₁') (fun _ _ => False) s₁) (fun _ _ => False) s)
    (n : Nat) (h : I n s) : codeAny (model prog w) A (.compLoop (.ListComp elt [⟨target, iter, ifs, 0⟩] scope pos) 0 it acc env) R s := by
  refine codeAny_loop rfl I (fun n s hI => ?_) n h
  show wpAny _ A ((compTurn (.ListComp elt [⟨target, iter, ifs, 0⟩] scope pos) 0 it acc env).onRaise (fun x => do noteFrame x env; theTreesLotGoes x)) _ _ s
  refine wpAny_noted ?_
  rw [compTurn_list]
  refine wpAny_bind (wpAny_standAt (wpAny_bind (wpAny_mono (turn n s hI) (fun r s₁ h₁ => ?_) fun _ _ h' => h'.elim)))
  cases r with
  | none => exact wpAny_pure h₁
  | some v =>
    refine wpAny_bind (wpAny_mono h₁ (fun _ s₁' h₁' => ?_) fun _ _ h' => h'.elim)
    refine wpAny_bind (wpAny_mono h₁' (fun _ s₂ h₂ => wpAny_bind (wpAny_mono h₂ (fun ok s₃ h₃ => ?_) fun _ _ h' => h'.elim)) fun _ _ h' => h'.elim)
    cases ok with
    | false => exact wpAny_pure ⟨rfl, h₃⟩
    | true =>
      exact wpAny_bind (wpAny_bind (wpAny_mono h₃ (fun x s₄ h₄ => wpAny_bind (wpAny_mono h₄ (fun _ s₅ h₅ => wpAny_pure (wpAny_pure ⟨rfl, h₅⟩)) fun _ _ h' => h'.elim)) fun _ _ h' => h'.elim))
/-- the context of a comprehension's block -/
def compCx (X : Cx) (N' : List Str) (scope : Scope) (cl : List (Str × Addr)) (C : Addr) (s3 : Shared) (H3 : Hp) (fp : List Addr) : Cx where
  prog := X.prog
  w := X.w
  K := X.K
  mg := X.mg
  base := X.base
  A := X.A
  N := N'
  s₀ := s3
  H₀ := H3
  env := compEnvC scope cl C X.env
  outer := X.stack
  stack := X.stack
  ex := fp
  fn := fun _ => false
  calm := X.calm
  pn := X.pn
  xe := fun _ _ => False
/-- the names' values at the block's entry: fr says which of them are names of the def around -/
def innS (fr : List (Option Nat)) (σ : St) : St := fr.map fun o => match o with
  | some j => σ.getD j none
  | none => none
def frOk (N' : List Str) (fr : List (Option Nat)) (NX : List Str) (names : List (Str × NameKind)) : Bool := (N'.zip fr).all fun p => match p.2 with
  | none => true
  | some j => (NX[j]? == some p.1) && (names.lookup p.1 == some NameKind.free)
/-- W: by the turn, a measure, the list so far, the block's names, the heap -/
def tComp (fr : List (Option Nat)) (wi : TI) (g : TG) (tc : TT) (te : TE) : TE := fun σ H Q => wi σ H fun J H1 => ∀ l, H1 l = none →
  ∃ W : Nat → Nat → List V → St → Hp → Prop, (∃ m, W 0 m [] (innS fr σ) (upd H1 l (.lst []))) ∧ ∀ i m ys σ1 H2, W i m ys σ1 H2 → H2 l = some (.lst ys) ∧
    ((J.stop i H2 ∧ Q (.ref l) H2) ∨ (J.go i H2 ∧ ys.length < sizeLine ∧ ∀ x H3, J.yld i H2 x H3 → g x σ1 H3 fun σ4 H4 => tc σ4 H4 fun b H5 =>
      if b = true then te σ4 H5 fun y H6 => H6 l = some (.lst ys) ∧ ∃ m', m' < m ∧ W (i + 1) m' (ys ++ [y]) σ4 (upd H6 l (.lst (ys ++ [y])))
      else ∃ m', m' < m ∧ W (i + 1) m' ys σ4 H5))
section
variable {X : Cx}
/-- behind the loop of a comprehension, its frame (at C) still there -/
structure CompEnd (X : Cx) (pins : List (Addr × Obj)) (σ : St) (H : Hp) (s : Shared) (C : Addr) : Prop where
  inv : Inv X pins σ H s
  ns : ∃ m, s.heap.Ns C m
  free : H C = none
  loc : C ≠ X.env.locals
  old : X.s₀.heap.objs.size ≤ C
  cell : ∀ x c, X.env.cells.lookup x = some c → c ≠ C
  pin : ∀ p ∈ X.pn ++ pins, p.1 ≠ C
theorem comp_core {elt tg iter : Expr} {ifs : List Expr} {scope : Scope} {pos pos2 : Pos} {wi : TI} {g : TG} {tc : TT} {te : TE} {use : Option (Value → Sem Unit)} {Qr : Value → Shared → Prop} {pins : List (Addr × Obj)} {s : Shared} {σ : St} {H : Hp} {Q : VK} (N' : List Str) (fr : List (Option Nat)) (S : Scope) (NX : List Str) (hc : X.calm = true) (hi : PI X tg iter wi)
    (hb : ∀ (cl : List (Str × Addr)) (C : Addr) (s3 : Shared) (H3 : Hp) (fp : List Addr), PG (compCx X N' scope cl C s3 H3 fp) tg g ∧ PTs (compCx X N' scope cl C s3 H3 fp) ifs tc ∧ PE (compCx X N' scope cl C s3 H3 fp) elt te)
    (hS : X.env.scope = S) (hNX : X.N = NX) (hkind : scope.kind = .function) (hcell : ∀ y ∈ scope.names, y.2 ≠ .cell)
    (hnames : ∀ y ∈ scope.names, y.2 = .local → scope.names.lookup y.1 = some .local) (hfree : ∀ y ∈ scope.names, y.2 = .free → S.names.lookup y.1 = some .cell)
    (hlen : fr.length = N'.length) (hfr : frOk N' fr NX scope.names = true)
    (hs : ∀ x, foldedSetIterable iter X.env x = pure x) (I : Inv X pins σ H s) (h : tComp fr wi g tc te σ H Q)
    (hfin : ∀ (s' : Shared) (H' : Hp) (l C : Addr), CompEnd X pins σ H' s' C → Q (.ref l) H' → compPost (model X.prog X.w) X.A X.xe use Qr (.ref l) C (.ok .next) s') :
    wpAny (model X.prog X.w) X.A (comprehension (.ListComp elt [⟨tg, iter, ifs, 0⟩] scope pos) scope X.env pos2 (newList []) false (eval iter X.env) use) Qr X.xe s := by
  have hkf : ∀ y ∈ scope.names, y.2 = .free → X.env.kindOf y.1 = some .cell := fun y hy hf => by
    show X.env.scope.names.lookup y.1 = some .cell
    rw [hS]; exact hfree y hy hf
  obtain ⟨cl, hcl, cl1, cl2⟩ := closure_of (scope := scope) (env := X.env) fun y hy hf => I.ok.has y.1 (.inl (hkf y hy hf))
  refine wpAny_comprehension_free (use := use) rfl hs hcl hkind hnames (thn (hi pins s σ H _ I h) fun xv s1 h1 => thn h1 fun itv s2 h2 => ?_)
  obtain ⟨it, fp, tn, J, H2, e, I2, T, st2, f2, q2⟩ := h2
  subst e
  have fl : H2 s2.heap.objs.size = none := I2.hok.fresh (Nat.le_refl _)
  obtain ⟨W, ⟨m0, w0⟩, turn⟩ := q2 s2.heap.objs.size fl
  refine wpAny_newObj_type ?_ (by show 0 ≤ sizeLine; exact Nat.zero_le _)
  have I3 : Inv X pins σ (upd H2 s2.heap.objs.size (.lst [])) { s2 with heap := s2.heap.push { cls := .type "list", data := .seq ([] : List Value).toArray } } :=
    I2.laid (t' := s2.toks) (fun b u e => Heap.get?_push_of_some _ e) (Nat.le_refl _) ⟨Nat.zero_le _, [], 0, .nil, Heap.get?_push_size _ rfl⟩
  generalize hl0 : s2.heap.objs.size = l at *
  generalize hH3 : upd H2 l (.lst []) = H3 at *
  generalize hs3 : ({ s2 with heap := s2.heap.push { cls := .type "list", data := .seq ([] : List Value).toArray } } : Shared) = s3 at *
  have below : ∀ b ∈ fp, b < l := fun b hb => by
    obtain ⟨o, e, _⟩ := T.obj _ _ st2 b hb
    rw [← hl0]; exact Heap.lt_size e
  have sz3 : s3.heap.objs.size = l + 1 := by rw [← hs3, ← hl0]; exact Heap.size_push _ _
  have fn3 : ∀ b ∈ fp, H3 b = none := fun b hb => by
    rw [← hH3, upd_ne (Nat.ne_of_lt (below b hb))]
    exact (f2 b hb).1
  have st3 : tn 0 s3.heap := T.keep _ _ _ st2 fun b hb o e => by rw [← hs3]; exact Heap.get?_push_of_some _ e
  refine wpAny_newFunctionEnv hcell (fun y hy => absurd hy (by simp)) (fun h4 hns hsb => ?_) hkind
  have k34 : ∀ b u, s3.heap.get? b = some u → h4.get? b = some u := fun b u e => hsb.extBut b u (Nat.ne_of_lt (Heap.lt_size e)) (Heap.get?_push_of_some _ e)
  generalize hC : s3.heap.objs.size = C at *
  have hr : ∀ (x : Str) (c : Addr), cl.lookup x = some c → X.env.cells.lookup x = some c := cl1
  have fp' : ∀ b ∈ fp, b ≠ C := fun b hb => Nat.ne_of_lt (by rw [sz3]; exact Nat.lt_succ_of_lt (below b hb))
  have fs' : ∀ b ∈ fp, b ∉ frs X.stack := fun b hb z => by
    rcases List.mem_cons.mp (I3.stkSub b z) with z | z
    · exact (f2 b hb).2.1 z
    · exact (f2 b hb).2.2.1 z
  have ok : (compCx X N' scope cl C s3 H3 fp).Ok := by
    refine ⟨I.ok.mod, hkind, I.ok.glob, I.ok.blt, Nat.le_of_eq hC, fun x y c h1 h2 => I.ok.inj x y c (hr x c h1) (hr y c h2), fun x hx => ?_, fun _ _ z => (by cases z), I.ok.hd, I.ok.frames, .inl rfl, fun b hb => ⟨fp' b hb, fun x c e => (f2 b hb).2.2.2.2.1 x c (hr x c e)⟩,
      fun b o e => I3.bs b o e, Nat.le_trans I3.ok.bsz I3.sz, fun b o e z => ?_, fs', I3.stack, I3.stkFree⟩
    · have hx' := lookup_unrelabel (env := X.env) (names := scope.names) (x := x) hx
      rcases hx' with q | q
      · exact absurd rfl (hcell _ (PySem.mem_of_lookup q))
      · exact cl2 _ (PySem.mem_of_lookup q) rfl
    · rcases (f2 b z).2.2.2.1 with q | q
      · exact I.ok.noex b o e q
      · exact absurd (Nat.lt_of_lt_of_le (Heap.lt_size (I.ok.bs b o e).1) q) (Nat.lt_irrefl _)
  have I4 : Inv (compCx X N' scope cl C s3 H3 fp) pins (innS fr σ) H3 { s3 with heap := h4, toks := s3.toks + ([] : List (Str × Value)).length } := by
    refine ⟨ok, rfl, I3.bare, Un.kept k34, ⟨_, hns, fun i x v e1 e2 e3 => ?_⟩, fun x c e => ?_, I3.hok.fresh (Nat.le_of_eq hC), fun x c e => I3.freeC x c (hr x c e), fun p hp => ?_, I3.hok.kept k34, ?_⟩
    · -- a name of the def around
      unfold innS at e2
      rw [List.getElem?_map] at e2
      cases q : fr[i]? with
      | none => rw [q] at e2; cases e2
      | some o =>
        rw [q] at e2
        cases o with
        | none => cases e2
        | some j =>
          have e2' : σ.getD j none = some v := Option.some.inj e2
          have e1' : N'[i]? = some x := e1
          have hz : (N'.zip fr)[i]? = some (x, some j) := by rw [List.getElem?_zip_eq_some]; exact ⟨e1', q⟩
          have hz2 := List.all_eq_true.mp hfr _ (List.mem_of_getElem? hz)
          have hz3 : ((NX[j]? == some x) && (scope.names.lookup x == some NameKind.free)) = true := hz2
          rw [Bool.and_eq_true] at hz3
          have hN : X.N[j]? = some x := by rw [hNX]; exact beq_iff_eq.mp hz3.1
          have hF : scope.names.lookup x = some .free := beq_iff_eq.mp hz3.2
          have hσ : σ[j]? = some (some v) := by
            rw [List.getD_eq_getElem?_getD] at e2'
            cases q2 : σ[j]? with
            | none => rw [q2] at e2'; cases e2'
            | some z => rw [q2] at e2'; rw [show z = some v from e2']
          have hK := hkf _ (PySem.mem_of_lookup hF) rfl
          obtain ⟨m, hn, hl'⟩ := I3.loc
          obtain ⟨u, ru, lk⟩ := hl' j x v hN hσ (.inr (.inl hK))
          refine ⟨u, ru, .inr ⟨?_, ?_⟩⟩
          · exact lookup_relabel_free (env := X.env) hF
          · obtain ⟨c, hc'⟩ := cl2 _ (PySem.mem_of_lookup hF) rfl
            refine ⟨c, hc', ?_⟩
            rcases lk with ⟨z, _⟩ | ⟨_, c', e', o, ho, hd⟩
            · have z' : X.env.kindOf x = some .local := z
              rw [hK] at z'; cases z'
            · have ec : c = c' := Option.some.inj ((hr x c hc').symm.trans e')
              rw [ec]
              exact ⟨o, k34 _ _ ho, hd⟩
    · obtain ⟨v, o, ho, hd⟩ := I3.cell x c (hr x c e)
      exact ⟨v, o, k34 _ _ ho, hd⟩
    · obtain ⟨e, n, ne, nf, d⟩ := I3.pin p hp
      refine ⟨k34 _ _ e, n, ?_, fun z => ?_, d⟩
      · exact Nat.ne_of_lt (hC ▸ Heap.lt_size e)
      · rcases List.mem_cons.mp (I3.stkSub p.1 z) with z | z
        · exact ne z
        · exact nf z
    · show (fr.map _).length = N'.length
      rw [List.length_map, hlen]
  have st4 : tn 0 h4 := T.keep _ _ _ st3 fun b hb o e => k34 b o e
  obtain ⟨hbg, hbt, hbe⟩ := hb cl C s3 H3 fp
  have stat : ∀ {H' : Hp}, (∀ b ∈ fp, H' b = none) → ∀ b ∈ fp, FpOk (compCx X N' scope cl C s3 H3 fp) pins H' b := fun hn b hb =>
    ⟨hn b hb, fp' b hb, fs' b hb, .inl hb, fun x c e => (f2 b hb).2.2.2.2.1 x c (hr x c e), (f2 b hb).2.2.2.2.2⟩
  -- the end of the loop
  have fin : ∀ {s' : Shared} {σ' : St} {H' : Hp}, Inv (compCx X N' scope cl C s3 H3 fp) pins σ' H' s' → Q (.ref l) H' → compPost (model X.prog X.w) X.A X.xe use Qr (.ref l) C (.ok .next) s' := fun {s' σ' H'} I' q => by
    obtain ⟨m, hm, _⟩ := I'.loc
    have u := I'.base
    have hfre : H' C = none := I'.free
    have I5 : Inv X pins σ H' s' := I3.call' (s' := s') I'.os u I'.hok I'.bare fun b hb => ⟨(f2 b hb).2.2.2.1, (f2 b hb).2.1, (f2 b hb).2.2.2.2.1, (f2 b hb).2.2.2.2.2⟩
    refine hfin s' H' l C ⟨I5, ⟨m, hm⟩, hfre, ?_, ?_, fun x c e => ?_, fun p hp => ?_⟩ q
    · exact Nat.ne_of_gt (hC ▸ I3.lt)
    · exact hC ▸ I3.sz
    · obtain ⟨v, z⟩ := I3.cell x c e
      exact Nat.ne_of_lt (hC ▸ z.lt)
    · exact Nat.ne_of_lt (hC ▸ Heap.lt_size (I3.pin p hp).1)
  have loop : ∀ s4 : Shared, s4 = { s3 with heap := h4, toks := s3.toks + ([] : List (Str × Value)).length } →
      codeAny (model X.prog X.w) X.A (.compLoop (.ListComp elt [⟨tg, iter, ifs, 0⟩] scope pos) 0 (.ref it) (.ref l) (compEnvC scope cl C X.env)) (compPost (model X.prog X.w) X.A X.xe use Qr (.ref l) C) s4 := by
    rintro s4 rfl
    refine compLoop_gen (fun n s' => ∃ i ys σ' H', Inv (compCx X N' scope cl C s3 H3 fp) pins σ' H' s' ∧ tn i s'.heap ∧ (∀ b ∈ fp, H' b = none) ∧ W i n ys σ' H') ?_ m0 ⟨0, [], _, H3, I4, st4, fn3, w0⟩
    rintro n s' ⟨i, ys, σ', H', I', st', fr', w'⟩
    obtain ⟨hl', ht⟩ := turn i n ys σ' H' w'
    rcases ht with ⟨stop, qn⟩ | ⟨go, hz, step⟩
    · refine thn (T.done (compCx X N' scope cl C s3 H3 fp) rfl rfl rfl hc i pins s' σ' H' _ I' (stat fr') st' stop) fun r s5 ⟨hr5, I5⟩ => ?_
      subst hr5
      exact fin I5 qn
    · refine thn (T.item (compCx X N' scope cl C s3 H3 fp) rfl rfl rfl hc i pins s' σ' H' _ I' (stat fr') st' go) fun r s5 ⟨u, hr5, h5⟩ => ?_
      subst hr5
      refine thn h5 fun _ s6 ⟨x, H6, I6, r6, y6, st6, fr6⟩ => ?_
      have I6' := I6.pinned (stat fr6) (T.obj _ _ st6)
      have again : ∀ {s9 : Shared} {σ9 : St} {H9 : Hp}, Inv (compCx X N' scope cl C s3 H3 fp) (pins ++ pinsAt fp s6.heap) σ9 H9 s9 → Inv (compCx X N' scope cl C s3 H3 fp) pins σ9 H9 s9 ∧ tn (i + 1) s9.heap ∧ ∀ b ∈ fp, H9 b = none := fun {s9 σ9 H9} I9 => by
        refine ⟨I9.unpinned, T.keep _ _ _ st6 fun b hb o e => (I9.pin (b, o) (List.mem_append_right _ (List.mem_append_right _ (mem_pinsAt hb e)))).1, fun b hb => ?_⟩
        obtain ⟨o, e, d⟩ := T.obj _ _ st6 b hb
        exact (I9.pin (b, o) (List.mem_append_right _ (List.mem_append_right _ (mem_pinsAt hb e)))).2.1
      refine thn (hbg _ s6 σ' H6 x u _ I6' r6 (step x H6 y6)) fun _ s7 ⟨σ7, H7, I7, q7⟩ => ?_
      refine thn (hbt _ s7 σ7 H7 _ I7 q7) fun b s8 ⟨H8, I8, q8⟩ => ?_
      cases b with
      | false =>
        obtain ⟨m', hm', w8⟩ := q8
        obtain ⟨a1, a2, a3⟩ := again I8
        exact ⟨m', hm', i + 1, ys, σ7, H8, a1, a2, a3, w8⟩
      | true =>
        rw [if_pos rfl]
        refine thn (hbe _ s8 σ7 H8 _ I8 q8) fun yv s9 ⟨y, H9, I9, r9, hl9, m', hm', w9⟩ => ?_
        refine thn (mt_append (X := compCx X N' scope cl C s3 H3 fp) _ s9 σ7 H9 (.ref l) [y] (.ref l) [yv] (fun v H10 => H10 = upd H9 l (.lst (ys ++ [y]))) I9 rfl (.cons r9 .nil) ⟨l, ys, y, rfl, rfl, hl9, hz, rfl⟩) fun _ s10 ⟨_, H10, I10, _, e10⟩ => ?_
        subst e10
        obtain ⟨a1, a2, a3⟩ := again I10
        exact ⟨m', hm', i + 1, ys ++ [y], σ7, _, a1, a2, a3, w9⟩
  exact codeAny_compStart_list (loop _ rfl) (T.self X.A 0 _ _ _ st4 (loop _ rfl))
/-- the frame of the comprehension has gone -/
theorem CompEnd.gone {pins : List (Addr × Obj)} {σ : St} {H : Hp} {s : Shared} {C : Addr} {h' : Heap} (c : CompEnd X pins σ H s C) (hs : Heap.SameBut C s.heap h') : Inv X pins σ H { s with heap := h' } :=
  c.inv.turned (t' := s.toks) (fun b o hb e => hs.extBut b o hb e) c.free c.loc (.inr c.old) c.cell c.pin
theorem pe_comp {elt tg iter : Expr} {ifs : List Expr} {scope : Scope} {pos : Pos} {wi : TI} {g : TG} {tc : TT} {te : TE} (N' : List Str) (fr : List (Option Nat)) (S : Scope) (NX : List Str) (hc : X.calm = true) (hi : PI X tg iter wi)
    (hb : ∀ (cl : List (Str × Addr)) (C : Addr) (s3 : Shared) (H3 : Hp) (fp : List Addr), PG (compCx X N' scope cl C s3 H3 fp) tg g ∧ PTs (compCx X N' scope cl C s3 H3 fp) ifs tc ∧ PE (compCx X N' scope cl C s3 H3 fp) elt te)
    (hS : X.env.scope = S := by rfl) (hNX : X.N = NX := by rfl) (hkind : scope.kind = .function := by rfl) (hcell : ∀ y ∈ scope.names, y.2 ≠ .cell := by decide +kernel)
    (hnames : ∀ y ∈ scope.names, y.2 = .local → scope.names.lookup y.1 = some .local := by decide +kernel) (hfree : ∀ y ∈ scope.names, y.2 = .free → S.names.lookup y.1 = some .cell := by decide +kernel)
    (hlen : fr.length = N'.length := by rfl) (hfr : frOk N' fr NX scope.names = true := by decide +kernel)
    (hs : ∀ x, foldedSetIterable iter X.env x = pure x := by intro _; rfl) : PE X (.ListComp elt [⟨tg, iter, ifs, 0⟩] scope pos) (tComp fr wi g tc te) := by
  intro pins s σ H Q I h
  rw [eval_ListComp]
  refine comp_core (use := none) N' fr S NX hc hi hb hS hNX hkind hcell hnames hfree hlen hfr hs I h fun s' H' l C ce q => ?_
  obtain ⟨m, hm⟩ := ce.ns
  exact ⟨m, hm, fun h' hs' => ⟨.ref l, H', ce.gone hs', rfl, q⟩⟩
end
end L2

/-! equality of nested data, enumerate, sum -/
namespace L2
open PySem PySem.Spec PyProof.Rows
section
variable {K : PySem.W.Frag} {H H' : Hp}
mutual
/-- what a value is, as data -/
inductive Dv (K : PySem.W.Frag) (H : Hp) : V → PyData → Prop where
  | int (i : Int) : Dv K H (.int i) (.int i)
  | bl (b : Bool) : Dv K H (.bl b) (.bool b)
  | lst {a : Addr} {xs : List V} {ds : List PyData} (h : SqL K H a xs) (r : DvAll K H xs ds) : Dv K H (.ref a) (.list ds)
  | tup {a : Addr} {xs : List V} {ds : List PyData} (h : SqT K H a xs) (r : DvAll K H xs ds) : Dv K H (.ref a) (.tuple ds)
inductive DvAll (K : PySem.W.Frag) (H : Hp) : List V → List PyData → Prop where
  | nil : DvAll K H [] []
  | cons {v : V} {vs : List V} {d : PyData} {ds : List PyData} (h : Dv K H v d) (r : DvAll K H vs ds) : DvAll K H (v :: vs) (d :: ds)
end
mutual
theorem Dv.reads {X : Cx} {pins : List (Addr × Obj)} {σ : St} {H : Hp} {s : Shared} (I : Inv X pins σ H s) : ∀ {v : V} {d : PyData} {u : Value}, Dv X.K H v d → RelV v u → ∃ as, Reads s.heap u d as
  | _, _, _, .int i, r => by
    obtain ⟨t, rfl⟩ := r
    exact ⟨_, .int i t⟩
  | _, _, _, .bl b, r => by
    cases r
    exact ⟨_, .bool b⟩
  | _, _, _, .lst h ra, r => by
    cases r
    obtain ⟨its, rv, pl, _⟩ := I.list h
    obtain ⟨as, q⟩ := DvAll.reads I ra rv
    obtain ⟨o, ho, hc, n, hd⟩ := pl.isList
    exact ⟨_, .list ho hc hd (by simpa using q)⟩
  | _, _, _, .tup h ra, r => by
    cases r
    obtain ⟨its, rv, pl, _⟩ := I.tuple h
    obtain ⟨as, q⟩ := DvAll.reads I ra rv
    obtain ⟨o, ho, hc, n, hd⟩ := pl
    exact ⟨_, .tuple ho hc hd (by simpa using q)⟩
theorem DvAll.reads {X : Cx} {pins : List (Addr × Obj)} {σ : St} {H : Hp} {s : Shared} (I : Inv X pins σ H s) : ∀ {vs : List V} {ds : List PyData} {us : List Value}, DvAll X.K H vs ds → Vals vs us → ∃ as, ReadsAll s.heap us ds as
  | _, _, _, .nil, .nil => ⟨_, .nil⟩
  | _, _, _, .cons h ra, .cons r rr => by
    obtain ⟨as, q⟩ := Dv.reads I h r
    obtain ⟨bs, q'⟩ := DvAll.reads I ra rr
    exact ⟨_, .cons q q'⟩
end
/-- ints as data -/
def di (ns : List Int) : List PyData := ns.map PyData.int
theorem dv_ints : ∀ ns : List Int, DvAll K H (ns.map V.int) (di ns)
  | [] => .nil
  | _ :: r => .cons (.int _) (dv_ints r)
theorem eqv_ints : ∀ ns ms : List Int, PyData.eqvAll (di ns) (di ms) = decide (ns = ms)
  | [], [] => by simp [di, PyData.eqvAll]
  | [], _ :: _ => by simp [di, PyData.eqvAll]
  | _ :: _, [] => by simp [di, PyData.eqvAll]
  | a :: r, b :: t => by
    have ih := eqv_ints r t
    unfold di at ih ⊢
    simp only [List.map_cons, PyData.eqvAll, PyData.eqv, ih]
    by_cases h : a = b <;> by_cases h' : r = t <;> simp [h, h']
theorem shaped_ints_t (ns : List Int) : SeqAt.shaped (.tuple (di ns)) = true := by
  simp [SeqAt.shaped, PyData.canLay0, PyData.depth, di, PySem.W.ke_canLayAll0, PySem.W.ke_depthAll]
end
section
variable {X : Cx}
/-- == and != of data -/
def rEqD (K : PySem.W.Frag) : R2 := fun x y H Q => ∃ d e, Dv K H x d ∧ Dv K H y e ∧ SeqAt.shaped d = true ∧ SeqAt.shaped e = true ∧ Q (.bl (PyData.eqv d e)) H
def rNeD (K : PySem.W.Frag) : R2 := fun x y H Q => ∃ d e, Dv K H x d ∧ Dv K H y e ∧ SeqAt.shaped d = true ∧ SeqAt.shaped e = true ∧ Q (.bl (!PyData.eqv d e)) H
theorem op_eqD (hu : X.A.units + 64 < cLine) : OpR X (compareOp .Eq) (rEqD X.K) := by
  intro pins s σ H x y v u Q I rx ry h
  obtain ⟨d, e, hd, he, sd, se, q⟩ := h
  obtain ⟨as, ra⟩ := hd.reads I rx
  obtain ⟨bs, rb⟩ := he.reads I ry
  exact eq_dataH ra rb sd se hu ⟨.bl _, H, I, rfl, q⟩
/-- two tuples of ints; two lists of ints -/
theorem eqT_ints {K : PySem.W.Frag} {H : Hp} {a b : Addr} {ns ms : List Int} {Q : VK} (ha : SqT K H a (ns.map V.int)) (hb : SqT K H b (ms.map V.int)) (q : Q (.bl (decide (ns = ms))) H) : rEqD K (.ref a) (.ref b) H Q :=
  ⟨_, _, .tup ha (dv_ints ns), .tup hb (dv_ints ms), shaped_ints_t ns, shaped_ints_t ms, by rw [PyData.eqv, eqv_ints]; exact q⟩
/-! ### enumerate(a list), pairs unpacked by the target -/
/-- at turn i the pair (i, item) as a new tuple -/
def Ite (K : PySem.W.Frag) (a : Addr) : It :=
  ⟨fun i H => ∃ xs x, SqL K H a xs ∧ xs[i]? = some x, fun i H x H' => ∃ t y, H t = none ∧ (∀ xs, SqL K H a xs → xs[i]? = some y) ∧ x = .ref t ∧ H' = upd H t (.tup [.int i, y]), fun i H => ∃ xs, SqL K H a xs ∧ xs.length ≤ i⟩
theorem turn_enum {P : Program} {w : World} {K : PySem.W.Frag} {elts : List Expr} {k : Nat} {tp : Pos} (a e it : Addr) (hei : e ≠ it) :
    Turn P w K (.Tuple elts k tp) (Ite K a) [e, it] e (fun i h => (∃ old, IsEnum h e it i old) ∧ h.IsListIter it a i) where
  mem := by simp
  obj := fun i h st b hb => by
    rcases List.mem_cons.mp hb with z | z
    · subst z
      obtain ⟨⟨old, h1⟩, _⟩ := st
      exact ⟨_, h1, fun v q => by cases q⟩
    · have z' : b = it := by simpa using z
      subst z'
      obtain ⟨_, o, ho, hc, hd⟩ := st
      exact ⟨o, ho, fun v q => by rw [hd] at q; cases q⟩
  keep := fun i h h' st k => by
    obtain ⟨⟨old, h1⟩, o, ho, r⟩ := st
    exact ⟨⟨old, k e (by simp) _ h1⟩, o, k it (by simp) _ ho, r⟩
  item := by
    intro X hP hw hK hc i pins s σ H E I hf st hg
    subst hP hw hK
    obtain ⟨⟨old, he⟩, hit⟩ := st
    obtain ⟨xs, x, hS, hx⟩ := hg
    obtain ⟨its, rv, pl, hz⟩ := I.list hS
    have hL := pl.isList
    have hai : a ≠ it := by
      rintro rfl
      obtain ⟨o, ho, hc1, _⟩ := hL
      obtain ⟨o', ho', hc2, _⟩ := hit
      rw [ho] at ho'; cases ho'; rw [hc1] at hc2; injection hc2 with z; exact absurd z (by decide)
    have hae : e ≠ a := by
      rintro rfl
      obtain ⟨o, ho, hc1, _⟩ := hL
      have he' : s.heap.get? e = some _ := he
      rw [ho] at he'; cases he'; injection hc1 with z; exact absurd z (by decide)
    obtain ⟨fe0, fe1, fe2, fe3, fe4, fe5⟩ := hf e (by simp)
    obtain ⟨fi0, fi1, fi2, fi3, fi4, fi5⟩ := hf it (by simp)
    have D := Draws.list (prog := X.prog) (w := X.w) (A := X.A.in1) (I.ok.hd hc) it a hai its.toArray
    have W := WalksT.enumerateD D e hei (by simp [hei, hae]) (by simp)
    have hxl : i < its.toArray.size := by
      have h1 : i < xs.length := (List.getElem?_eq_some_iff.mp hx).1
      rw [List.size_toArray, ← rv.length]; exact h1
    refine W.item i s _ _ hxl ⟨⟨old, he⟩, hit, hL⟩ fun T vals h' tk hPt hT hTup hMid hk => ?_
    refine ⟨_, rfl, W.go elts k tp i T _ _ _ hMid fun h'' hst hk2 => ?_⟩
    obtain ⟨t, y', hy', hvals⟩ := hPt
    subst hvals
    obtain ⟨u, hu, ru⟩ := rv.get hx
    have eyu : y' = u := by
      have : its[i]? = some y' := by simpa using hy'
      rw [hu] at this; exact (Option.some.inj this).symm
    subst eyu
    have kall : ∀ b o, b ≠ e → b ≠ it → s.heap.get? b = some o → h''.get? b = some o := fun b o h1 h2 q => hk2 b o (by simp [h1, h2]) (hk b o (by simp [h1, h2]) q)
    have hTn : H T = none := I.hok.fresh hT
    have hTe : T ≠ e := Nat.ne_of_gt (Nat.lt_of_lt_of_le (Heap.lt_size he) hT)
    have hTi : T ≠ it := by
      obtain ⟨o, ho, _⟩ := id hit
      exact Nat.ne_of_gt (Nat.lt_of_lt_of_le (Heap.lt_size ho) hT)
    have hTup2 : IsTup h'' T #[.int i t, y'] := by
      obtain ⟨o, ho, r⟩ := hTup
      exact ⟨o, hk2 T o (by simp [hTe, hTi]) ho, r⟩
    have tracked : ∀ b o, H b = some o → b ≠ e ∧ b ≠ it := fun b o q => ⟨fun z => (by rw [z, fe0] at q; cases q), fun z => (by rw [z, fi0] at q; cases q)⟩
    have hok : HOk X.prog X.w (upd H T (.tup [.int i, x])) h'' := fun b o q => by
      by_cases hb : b = T
      · subst hb
        rw [upd_same] at q; cases q
        exact ⟨by show 2 ≤ sizeLine; decide, [.int i t, y'], .cons ⟨_, rfl⟩ (.cons ru .nil), hTup2⟩
      · rw [upd_ne hb] at q
        refine (I.hok b o q).stay (fun c v hc' r => ?_) (fun c r => by rw [upd_ne (ne_of_none r hTn)]; exact r) fun c zs r => by rw [upd_ne (ne_of_none r hTn)]; exact r
        have tc : c ≠ e ∧ c ≠ it := by
          rcases hc' with z | z
          · rw [z]; exact tracked b o q
          · exact tracked c _ z
        exact kall c v tc.1 tc.2 r
    have I1 : Inv X pins σ (upd H T (.tup [.int i, x])) { s with heap := h'', toks := tk } := by
      refine I.step (g' := s.gens) (d' := s.drawn) (ch := [e, it]) (fun b hb => ?_) (fun b o _ _ hc' q _ => kall b o (fun z => hc' (by simp [z])) (fun z => hc' (by simp [z])) q) (fun b o _ _ hc' q _ => ⟨o.slots, kall b o (fun z => hc' (by simp [z])) (fun z => hc' (by simp [z])) q⟩)
        (fun b o _ q n => by rw [upd_ne (Nat.ne_of_lt (Nat.lt_of_lt_of_le (Heap.lt_size q) hT))]; exact n) (fun b o hc' q => ⟨o, kall b o (fun z => hc' (by simp [z])) (fun z => hc' (by simp [z])) q⟩) (fun b zs q => by rw [upd_ne (ne_of_none q hTn)]; exact q) (fun b o u q => by rw [upd_ne (ne_of_none q hTn)]; exact q)
        (fun b ps q => ⟨#[], by rw [upd_ne (ne_of_none q hTn), q]; simp⟩) (fun m hm => ?_) hok I.bare
      · rcases List.mem_cons.mp hb with z | z
        · subst z; exact ⟨fe3, fe1, fe4, fe5⟩
        · have z' : b = it := by simpa using z
          subst z'; exact ⟨fi3, fi1, fi4, fi5⟩
      · obtain ⟨o, es, ep, ho, r⟩ := hm
        exact ⟨o, es, ep, kall _ o (Ne.symm fe1) (Ne.symm fi1) ho, r⟩
    refine ⟨.ref T, _, I1, rfl, ⟨T, x, hTn, fun zs hzs => by rw [← I.list_inj hS hzs]; exact hx, rfl, rfl⟩, ⟨hst.1, hst.2.1⟩, fun b hb => ?_⟩
    rcases List.mem_cons.mp hb with z | z
    · subst z; rw [upd_ne (Ne.symm hTe)]; exact fe0
    · have z' : b = it := by simpa using z
      subst z'; rw [upd_ne (Ne.symm hTi)]; exact fi0
  done := by
    intro X hP hw hK hc i pins s σ H E I hf st hg
    subst hP hw hK
    obtain ⟨⟨old, he⟩, hit⟩ := st
    obtain ⟨xs, hS, hx⟩ := hg
    obtain ⟨its, rv, pl, hz⟩ := I.list hS
    obtain ⟨fi0, fi1, fi2, fi3, fi4, fi5⟩ := hf it (by simp)
    exact wpAny_pyNext_enum_end (I.ok.hd hc) he hit pl.isList (by rw [Array.getElem?_eq_none_iff, List.size_toArray, ← rv.length]; exact hx) fun h' eb => ⟨rfl, I.turned (t' := s.toks) (fun b o hb q => eb b o hb q) fi0 fi1 fi3 fi4 fi5⟩
  self := fun _ _ _ _ _ st h => let ⟨⟨_, he⟩, _⟩ := st; wpAny_pyIter_enum he h
def iEnum (K : PySem.W.Frag) (ta : TA) : TI := fun σ H R => ta σ H fun vs H1 => ∃ a, vs = [.ref a] ∧ (∃ xs, SqL K H1 a xs) ∧ R (Ite K a) H1
theorem pi_enumL {a : Expr} {ta : TA} {p pos : Pos} {elts : List Expr} {k : Nat} {tp : Pos} (hg : Gl X "enumerate") (hm : X.mg "enumerate" = none) (ha : PA X [a] ta) (hs : starEach [a] X.env = [(false, eval a X.env)] := by rfl) :
    PI X (.Tuple elts k tp) (.Call (.Name "enumerate" p) [a] [] pos) (iEnum X.K ta) := by
  intro pins s σ H R I h
  refine Call_ (ld_blt I hg hm boot_enumerate (PyProof.Rows.callWith_type1 (thn (ha pos pins s σ H _ I h) fun us s1 ⟨vs, H1, I1, r1, q1⟩ => ?_) hs rfl))
  obtain ⟨b, e, ⟨xs, hS⟩, q⟩ := q1
  subst e
  cases r1 with
  | cons r rr =>
    cases rr
    cases r
    obtain ⟨its, rv, pl, hz⟩ := I1.list hS
    refine call_enumerate_list pl.isList fun h' he hit hsz hk => ?_
    have I2 : Inv X pins σ H1 { s1 with heap := h' } := I1.kept (t' := s1.toks) hk
    refine wpAny_pyIter_enum (s := { s1 with heap := h' }) he ?_
    refine ⟨s1.heap.objs.size + 1, [s1.heap.objs.size + 1, s1.heap.objs.size], _, _, H1, rfl, I2, turn_enum b _ _ (Nat.succ_ne_self _), ⟨⟨_, he⟩, hit⟩, fun c hc => ?_, q⟩
    have hcs : s1.heap.objs.size ≤ c := by
      rcases List.mem_cons.mp hc with z | z
      · rw [z]; exact Nat.le_succ _
      · rw [show c = s1.heap.objs.size by simpa using z]; exact Nat.le_refl _
    exact I1.fpOk hcs (I1.hok.fresh hcs)
/-! ### sum of a list of ints -/
end
end L2

/-! tuples: enumerate, reversed, + and whole slices; bit_length -/
namespace L2
open PySem PySem.Spec PyProof.Rows
section
variable {X : Cx}
def rBitLen : V → List V → Hp → VK → Prop := fun x vs H Q => ∃ i, x = .int i ∧ vs = [] ∧ Q (.int (Builtin.Int.intBits i)) H
end
section
variable {prog : Program} {w : World} {A : Around} {E : Value → Shared → Prop} {s : Shared}
theorem nextOf_tup {it t : Addr} {i : Nat} {items : Array Value} {x : Value} {Q : Value → Shared → Prop} (hit : s.heap.IsTupleIter it t i) (ht : s.heap.IsTuple t items) (hx : items[i]? = some x)
    (hQ : ∀ h', h'.IsTupleIter it t (i + 1) → Heap.SameBut it s.heap h' → Q x { s with heap := h' }) : wpAny (model prog w) A (Builtin.SmallTypes.nextOf (.ref it)) Q E s := by
  have ho := hit; have hol := ht
  obtain ⟨o, ho, hc, hd⟩ := ho
  obtain ⟨ol, hol, _, nl, hdl⟩ := hol
  unfold Builtin.SmallTypes.nextOf
  refine wpAny_bind (wpAny_callSpecial?_slot (name := Str.ofString "__next__") hit.typeIs F.slot_tuple_iterator_next (wpAny_call_entry F.slot_tuple_iterator_next hit.typeIs F.entry_tuple_iterator_next ?_ (F.args_tuple_iterator_next_1 _)))
  show wpAny _ _ (field (.ref it) 0 >>= _) _ _ s; refine wpAny_bind (wpAny_field ho hd (x := .ref t) rfl ?_)
  show wpAny _ _ (if (Value.ref t == Value.none) = true then _ else _) _ _ s; rw [if_neg (show ¬ ((Value.ref t == Value.none) = true) from Bool.false_ne_true)]
  show wpAny _ _ (field (.ref it) 1 >>= _) _ _ s; refine wpAny_bind (wpAny_field ho hd (x := .int i 0) rfl ?_)
  show wpAny _ _ (seqItems? (.ref t) >>= _) _ _ s; refine wpAny_bind (wpAny_seqItems hol hdl ?_); simp only [Int.toNat_natCast, hx]
  refine wpAny_bind (wpAny_setField ho hd (by simp) (wpAny_pure ⟨x, rfl, wpAny_pure (hQ _ ⟨_, Heap.get?_update_self _ ho (Obj.isFreed_of_fields (Obj.data_mapFields hd _)), (Obj.cls_mapFields ..).trans hc, ?_⟩ (Heap.SameBut.update ..))⟩))
  rw [Obj.data_mapFields hd]
  simp [rawInt]
theorem nextOf_tup_end {it t : Addr} {i : Nat} {items : Array Value} {Q : Value → Shared → Prop} (hh : A.handled = none) (hit : s.heap.IsTupleIter it t i) (ht : s.heap.IsTuple t items) (hx : items[i]? = none)
    (hE : ∀ h' e, Heap.ExtBut it s.heap h' → (∃ o, h'.get? e = some o ∧ o.cls = .type "StopIteration") → E (.ref e) { s with heap := h' }) : wpAny (model prog w) A (Builtin.SmallTypes.nextOf (.ref it)) Q E s := by
  have ho := hit; have hol := ht
  obtain ⟨o, ho, hc, hd⟩ := ho
  obtain ⟨ol, hol, _, nl, hdl⟩ := hol
  unfold Builtin.SmallTypes.nextOf
  refine wpAny_bind (wpAny_callSpecial?_slot (name := Str.ofString "__next__") hit.typeIs F.slot_tuple_iterator_next (wpAny_call_entry F.slot_tuple_iterator_next hit.typeIs F.entry_tuple_iterator_next ?_ (F.args_tuple_iterator_next_1 _)))
  show wpAny _ _ (field (.ref it) 0 >>= _) _ _ s; refine wpAny_bind (wpAny_field ho hd (x := .ref t) rfl ?_)
  show wpAny _ _ (if (Value.ref t == Value.none) = true then _ else _) _ _ s; rw [if_neg (show ¬ ((Value.ref t == Value.none) = true) from Bool.false_ne_true)]
  show wpAny _ _ (field (.ref it) 1 >>= _) _ _ s; refine wpAny_bind (wpAny_field ho hd (x := .int i 0) rfl ?_)
  show wpAny _ _ (seqItems? (.ref t) >>= _) _ _ s; refine wpAny_bind (wpAny_seqItems hol hdl ?_); simp only [Int.toNat_natCast, hx]
  refine wpAny_bind (wpAny_rule (wpAny_bind (wpAny_setField ho hd (by simp) ?_))); show wpAny _ _ (newExc (.type "StopIteration") [] >>= _) _ _ _
  refine wpAny_bind ?_; simp only [newExc, newTuple]; refine wpAny_bind (wpAny_newObj_type ?_ (by size_fits))
  refine wpAny_bind (m := firstArgMember _ _) (wpAny_of_eq (a := Value.none) (by simp only [firstArgMember]; rfl) (wpAny_newObj_type ?_ (by size_fits)))
  simp only [raiseNew]; refine wpAny_bind (wpAny_handled ?_); rw [show A.in1.handled = none from hh]
  exact wpAny_bind (wpAny_pure (wpAny_throw (hE _ _ (((Heap.SameBut.update ..).extBut.push _).push _) ⟨_, Heap.get?_push_size _ rfl, rfl⟩)))
theorem drawsTup (hh : A.handled = none) (it t : Addr) (hne : t ≠ it) (items : Array Value) : Draws prog w A it [it, t] items.size (fun i v => items[i]? = some v) (fun i h => h.IsTupleIter it t i ∧ h.IsTuple t items) where
  live := fun _ _ st => let ⟨o, ho, _⟩ := st.1; ⟨o, ho⟩
  frame := fun _ _ _ ⟨⟨o, ho, r⟩, ⟨o2, ho2, r2⟩⟩ hk => ⟨⟨o, hk it (by simp) o ho, r⟩, ⟨o2, hk t (by simp) o2 ho2, r2⟩⟩
  item := fun i s Q E hi st hQ => nextOf_tup st.1 st.2 (x := items[i]) (by simp [hi]) fun h' hit' hs' => hQ _ h' s.toks (by simp [hi]) ⟨hit', st.2.extBut hs'.extBut hne⟩ hs'
  done := fun s Q E st hE => nextOf_tup_end hh st.1 st.2 (by simp) hE
theorem enum_newT (t : Addr) (items : Array Value) (n : Nat) (dct : Option Addr) (sl : Array (Option Value)) :
    Meets (Builtin.«enumerate.__new__» ⟨[.type "enumerate", .ref t], []⟩) (fun _ R s => s.heap.get? t = some { cls := .type "tuple", dict := dct, data := .seq items n, slots := sl } ∧
      R (.ok (.ret (.ref (s.heap.push { cls := .type "tuple_iterator", data := .fields #[.ref t, .int 0 0] }).objs.size)))
        { s with heap := (s.heap.push { cls := .type "tuple_iterator", data := .fields #[.ref t, .int 0 0] }).push { cls := .type "enumerate", data := .fields #[.none, .bool false, .ref s.heap.objs.size, rawInt 0, .none, .none] } }) :=
  .of_wp fun prog w A R s h => by
    obtain ⟨hp, g, d, tk, os⟩ := s
    obtain ⟨hl, h⟩ := h
    have hsub := sub_enumerate
    have hT : Heap.IsTuple (Shared.heap ⟨hp, g, d, tk, os⟩) t items := ⟨_, hl, rfl, n, rfl⟩
    wp_walk using AutoSeq1.wpAny_loadPart' hl
    refine wpAny_stack_any fun st => wpAny_pure ?_
    split
    · rename_i c _ _ _ _ _
      cases (c == Value.type "enumerate") <;> (wp_walk using AutoSeq1.wpAny_loadPart' hl, wpAny_pyIter_tuple hT; exact ⟨_, rfl, h⟩)
    · (wp_walk using AutoSeq1.wpAny_loadPart' hl, wpAny_pyIter_tuple hT; exact ⟨_, rfl, h⟩)
theorem call_enumT {t : Addr} {items : Array Value} {Q : Value → Shared → Prop} (hT : s.heap.IsTuple t items)
    (h : ∀ h', IsEnum h' (s.heap.objs.size + 1) s.heap.objs.size 0 .none → h'.IsTupleIter s.heap.objs.size t 0 → h'.objs.size = s.heap.objs.size + 2 → (∀ b o, s.heap.get? b = some o → h'.get? b = some o) → Q (.ref (s.heap.objs.size + 1)) { s with heap := h' }) :
    wpAny (model prog w) A (call (.type "enumerate") [.ref t]) Q E s := by
  obtain ⟨⟨c, dct, dt, sl⟩, hl, hc, n, hd⟩ := hT
  obtain rfl : c = .type "tuple" := hc
  obtain rfl : dt = .seq items n := hd
  refine callType_new F.called_enumerate (by decide) (F.typeCall_enumerate_1 _) (F.newCall_enumerate_1 _) (fun obj => F.args_object_init_2 obj _) F.entry_enumerate_new (enum_newT t items n dct sl) ⟨hl, ?_⟩
  generalize hg : (s.heap.push { cls := .type "tuple_iterator", data := .fields #[.ref t, .int 0 0] } : Heap) = g1
  have hz : g1.objs.size = s.heap.objs.size + 1 := by rw [← hg]; exact Heap.size_push ..
  have k1 : ∀ b o, s.heap.get? b = some o → g1.get? b = some o := fun b o e => by rw [← hg]; exact Heap.get?_push_of_some _ e
  have hi : g1.get? s.heap.objs.size = some { cls := .type "tuple_iterator", data := .fields #[.ref t, .int 0 0] } := by rw [← hg]; exact Heap.get?_push_size _ rfl
  have he : IsEnum (g1.push { cls := .type "enumerate", data := .fields #[.none, .bool false, .ref s.heap.objs.size, rawInt 0, .none, .none] }) (s.heap.objs.size + 1) s.heap.objs.size 0 .none := by
    rw [← hz]
    exact Heap.get?_push_size g1 rfl
  show _ ∧ _
  rw [hz]
  exact ⟨⟨_, he, rfl⟩, h _ he ⟨_, Heap.get?_push_of_some _ hi, rfl, rfl⟩ (by rw [Heap.size_push, hz]) fun b o z => Heap.get?_push_of_some _ (k1 b o z)⟩
end
section
variable {X : Cx}
/-- enumerate(a tuple): at turn i the pair (i, item) as a new tuple -/
def IteT (K : PySem.W.Frag) (a : Addr) : It :=
  ⟨fun i H => ∃ xs x, SqT K H a xs ∧ xs[i]? = some x, fun i H x H' => ∃ t y, H t = none ∧ (∀ xs, SqT K H a xs → xs[i]? = some y) ∧ x = .ref t ∧ H' = upd H t (.tup [.int i, y]), fun i H => ∃ xs, SqT K H a xs ∧ xs.length ≤ i⟩
theorem nextT_end {prog : Program} {w : World} {A : Around} {E : Value → Shared → Prop} {s : Shared} {e it t : Addr} {i : Int} {j : Nat} {items : Array Value} {old : Value} {Q : Option Value → Shared → Prop} (hh : A.handled = none) (he : IsEnum s.heap e it i old) (hit : s.heap.IsTupleIter it t j) (ht : s.heap.IsTuple t items) (hx : items[j]? = none)
    (hQ : ∀ h', Heap.ExtBut it s.heap h' → Q none { s with heap := h' }) : wpAny (model prog w) A (pyNext (.ref e)) Q E s := by
  have hT : s.TypeIs (.ref e) "enumerate" := ⟨_, he, rfl⟩
  unfold pyNext
  refine wpAny_bind (wpAny_attempt (wpAny_callSpecial?_slot (name := Str.ofString "__next__") hT F.slot_enumerate_next (wpAny_call_entry F.slot_enumerate_next hT F.entry_enumerate_next ?_ (F.args_enumerate_next_1 _))))
  show wpAny _ _ (field (.ref e) 2 >>= _) _ _ _
  refine wpAny_bind (wpAny_field he rfl (x := .ref it) rfl (wpAny_bind (nextOf_tup_end hh hit ht hx fun h' x he' hx' => ?_)))
  obtain ⟨o, ho, hc⟩ := hx'
  exact wpAny_bind (wpAny_isInstance (T := "StopIteration") (b := true) ⟨o, ho, hc⟩ isSubtype_stop (wpAny_pure (hQ _ he')))
theorem turn_enumT {P : Program} {w : World} {K : PySem.W.Frag} {elts : List Expr} {k : Nat} {tp : Pos} (a e it : Addr) (hei : e ≠ it) :
    Turn P w K (.Tuple elts k tp) (IteT K a) [e, it] e (fun i h => (∃ old, IsEnum h e it i old) ∧ h.IsTupleIter it a i) where
  mem := by simp
  obj := fun i h st b hb => by
    rcases List.mem_cons.mp hb with z | z
    · subst z
      obtain ⟨⟨old, h1⟩, _⟩ := st
      exact ⟨_, h1, fun v q => by cases q⟩
    · have z' : b = it := by simpa using z
      subst z'
      obtain ⟨_, o, ho, hc, hd⟩ := st
      exact ⟨o, ho, fun v q => by rw [hd] at q; cases q⟩
  keep := fun i h h' st k => by
    obtain ⟨⟨old, h1⟩, o, ho, r⟩ := st
    exact ⟨⟨old, k e (by simp) _ h1⟩, o, k it (by simp) _ ho, r⟩
  item := by
    intro X hP hw hK hc i pins s σ H E I hf st hg
    subst hP hw hK
    obtain ⟨⟨old, he⟩, hit⟩ := st
    obtain ⟨xs, x, hS, hx⟩ := hg
    obtain ⟨its, rv, pl, hz⟩ := I.tuple hS
    have hL : s.heap.IsTuple a its.toArray := pl
    have hai : a ≠ it := by
      rintro rfl
      obtain ⟨o, ho, hc1, _⟩ := hL
      obtain ⟨o', ho', hc2, _⟩ := hit
      rw [ho] at ho'; cases ho'; rw [hc1] at hc2; injection hc2 with z; exact absurd z (by decide)
    have hae : e ≠ a := by
      rintro rfl
      obtain ⟨o, ho, hc1, _⟩ := hL
      have he' : s.heap.get? e = some _ := he
      rw [ho] at he'; cases he'; injection hc1 with z; exact absurd z (by decide)
    obtain ⟨fe0, fe1, fe2, fe3, fe4, fe5⟩ := hf e (by simp)
    obtain ⟨fi0, fi1, fi2, fi3, fi4, fi5⟩ := hf it (by simp)
    have D := drawsTup (prog := X.prog) (w := X.w) (A := X.A.in1) (I.ok.hd hc) it a hai its.toArray
    have W := WalksT.enumerateD D e hei (by simp [hei, hae]) (by simp)
    have hxl : i < its.toArray.size := by
      have h1 : i < xs.length := (List.getElem?_eq_some_iff.mp hx).1
      rw [List.size_toArray, ← rv.length]; exact h1
    refine W.item i s _ _ hxl ⟨⟨old, he⟩, hit, hL⟩ fun T vals h' tk hPt hT hTup hMid hk => ?_
    refine ⟨_, rfl, W.go elts k tp i T _ _ _ hMid fun h'' hst hk2 => ?_⟩
    obtain ⟨t, y', hy', hvals⟩ := hPt
    subst hvals
    obtain ⟨u, hu, ru⟩ := rv.get hx
    have eyu : y' = u := by
      have : its[i]? = some y' := by simpa using hy'
      rw [hu] at this; exact (Option.some.inj this).symm
    subst eyu
    have kall : ∀ b o, b ≠ e → b ≠ it → s.heap.get? b = some o → h''.get? b = some o := fun b o h1 h2 q => hk2 b o (by simp [h1, h2]) (hk b o (by simp [h1, h2]) q)
    have hTn : H T = none := I.hok.fresh hT
    have hTe : T ≠ e := Nat.ne_of_gt (Nat.lt_of_lt_of_le (Heap.lt_size he) hT)
    have hTi : T ≠ it := by
      obtain ⟨o, ho, _⟩ := id hit
      exact Nat.ne_of_gt (Nat.lt_of_lt_of_le (Heap.lt_size ho) hT)
    have hTup2 : IsTup h'' T #[.int i t, y'] := by
      obtain ⟨o, ho, r⟩ := hTup
      exact ⟨o, hk2 T o (by simp [hTe, hTi]) ho, r⟩
    have tracked : ∀ b o, H b = some o → b ≠ e ∧ b ≠ it := fun b o q => ⟨fun z => (by rw [z, fe0] at q; cases q), fun z => (by rw [z, fi0] at q; cases q)⟩
    have hok : HOk X.prog X.w (upd H T (.tup [.int i, x])) h'' := fun b o q => by
      by_cases hb : b = T
      · subst hb
        rw [upd_same] at q; cases q
        exact ⟨by show 2 ≤ sizeLine; decide, [.int i t, y'], .cons ⟨_, rfl⟩ (.cons ru .nil), hTup2⟩
      · rw [upd_ne hb] at q
        refine (I.hok b o q).stay (fun c v hc' r => ?_) (fun c r => by rw [upd_ne (ne_of_none r hTn)]; exact r) fun c zs r => by rw [upd_ne (ne_of_none r hTn)]; exact r
        have tc : c ≠ e ∧ c ≠ it := by
          rcases hc' with z | z
          · rw [z]; exact tracked b o q
          · exact tracked c _ z
        exact kall c v tc.1 tc.2 r
    have I1 : Inv X pins σ (upd H T (.tup [.int i, x])) { s with heap := h'', toks := tk } := by
      refine I.step (g' := s.gens) (d' := s.drawn) (ch := [e, it]) (fun b hb => ?_) (fun b o _ _ hc' q _ => kall b o (fun z => hc' (by simp [z])) (fun z => hc' (by simp [z])) q) (fun b o _ _ hc' q _ => ⟨o.slots, kall b o (fun z => hc' (by simp [z])) (fun z => hc' (by simp [z])) q⟩)
        (fun b o _ q n => by rw [upd_ne (Nat.ne_of_lt (Nat.lt_of_lt_of_le (Heap.lt_size q) hT))]; exact n) (fun b o hc' q => ⟨o, kall b o (fun z => hc' (by simp [z])) (fun z => hc' (by simp [z])) q⟩) (fun b zs q => by rw [upd_ne (ne_of_none q hTn)]; exact q) (fun b o u q => by rw [upd_ne (ne_of_none q hTn)]; exact q)
        (fun b ps q => ⟨#[], by rw [upd_ne (ne_of_none q hTn), q]; simp⟩) (fun m hm => ?_) hok I.bare
      · rcases List.mem_cons.mp hb with z | z
        · subst z; exact ⟨fe3, fe1, fe4, fe5⟩
        · have z' : b = it := by simpa using z
          subst z'; exact ⟨fi3, fi1, fi4, fi5⟩
      · obtain ⟨o, es, ep, ho, r⟩ := hm
        exact ⟨o, es, ep, kall _ o (Ne.symm fe1) (Ne.symm fi1) ho, r⟩
    refine ⟨.ref T, _, I1, rfl, ⟨T, x, hTn, fun zs hzs => by rw [← I.tuple_inj hS hzs]; exact hx, rfl, rfl⟩, ⟨hst.1, hst.2.1⟩, fun b hb => ?_⟩
    rcases List.mem_cons.mp hb with z | z
    · subst z; rw [upd_ne (Ne.symm hTe)]; exact fe0
    · have z' : b = it := by simpa using z
      subst z'; rw [upd_ne (Ne.symm hTi)]; exact fi0
  done := by
    intro X hP hw hK hc i pins s σ H E I hf st hg
    subst hP hw hK
    obtain ⟨⟨old, he⟩, hit⟩ := st
    obtain ⟨xs, hS, hx⟩ := hg
    obtain ⟨its, rv, pl, hz⟩ := I.tuple hS
    obtain ⟨fi0, fi1, fi2, fi3, fi4, fi5⟩ := hf it (by simp)
    exact nextT_end (I.ok.hd hc) he hit pl (by rw [Array.getElem?_eq_none_iff, List.size_toArray, ← rv.length]; exact hx) fun h' eb => ⟨rfl, I.turned (t' := s.toks) (fun b o hb q => eb b o hb q) fi0 fi1 fi3 fi4 fi5⟩
  self := fun _ _ _ _ _ st h => let ⟨⟨_, he⟩, _⟩ := st; wpAny_pyIter_enum he h
def iEnumT (K : PySem.W.Frag) (ta : TA) : TI := fun σ H R => ta σ H fun vs H1 => ∃ a, vs = [.ref a] ∧ (∃ xs, SqT K H1 a xs) ∧ R (IteT K a) H1
theorem pi_enumT {a : Expr} {ta : TA} {p pos : Pos} {elts : List Expr} {k : Nat} {tp : Pos} (hg : Gl X "enumerate") (hm : X.mg "enumerate" = none) (ha : PA X [a] ta) (hs : starEach [a] X.env = [(false, eval a X.env)] := by rfl) :
    PI X (.Tuple elts k tp) (.Call (.Name "enumerate" p) [a] [] pos) (iEnumT X.K ta) := by
  intro pins s σ H R I h
  refine Call_ (ld_blt I hg hm boot_enumerate (PyProof.Rows.callWith_type1 (thn (ha pos pins s σ H _ I h) fun us s1 ⟨vs, H1, I1, r1, q1⟩ => ?_) hs rfl))
  obtain ⟨b, e, ⟨xs, hS⟩, q⟩ := q1
  subst e
  cases r1 with
  | cons r rr =>
    cases rr
    cases r
    obtain ⟨its, rv, pl, hz⟩ := I1.tuple hS
    refine call_enumT (show s1.heap.IsTuple b its.toArray from pl) fun h' he hit hsz hk => ?_
    have I2 : Inv X pins σ H1 { s1 with heap := h' } := I1.kept (t' := s1.toks) hk
    refine wpAny_pyIter_enum (s := { s1 with heap := h' }) he ?_
    refine ⟨s1.heap.objs.size + 1, [s1.heap.objs.size + 1, s1.heap.objs.size], _, _, H1, rfl, I2, turn_enumT b _ _ (Nat.succ_ne_self _), ⟨⟨_, he⟩, hit⟩, fun c hc => ?_, q⟩
    have hcs : s1.heap.objs.size ≤ c := by
      rcases List.mem_cons.mp hc with z | z
      · rw [z]; exact Nat.le_succ _
      · rw [show c = s1.heap.objs.size by simpa using z]; exact Nat.le_refl _
    exact I1.fpOk hcs (I1.hok.fresh hcs)
/-- a loop over enumerate(a tuple), by what holds between two turns -/
theorem for_enumT {K : PySem.W.Frag} {a : Addr} {xs : List V} {g : TG} {tb : TS} {D : Ends} {σ : St} {H : Hp} (Pv : Nat → St → Hp → Prop) (h0 : Pv 0 σ H) (hl : ∀ i σ H, i ≤ xs.length → Pv i σ H → SqT K H a xs)
    (hs : ∀ i y σ H t, xs[i]? = some y → Pv i σ H → H t = none → g (.ref t) σ (upd H t (.tup [.int (i : Int), y])) fun σ2 H2 => tb { D with nx := Pv (i + 1), ct := Pv (i + 1), bk := D.nx } σ2 H2) (hd : ∀ σ H, Pv xs.length σ H → D.nx σ H) :
    ∃ W : Nat → Nat → St → Hp → Prop, (∃ m, W 0 m σ H) ∧ ∀ i m σ H, W i m σ H →
      ((IteT K a).stop i H ∧ D.nx σ H) ∨ ((IteT K a).go i H ∧ ∃ N : St → Hp → Prop, (∀ σ' H', N σ' H' → ∃ m', m' < m ∧ W (i + 1) m' σ' H') ∧ ∀ x H', (IteT K a).yld i H x H' → g x σ H' fun σ2 H2 => tb { D with nx := N, ct := N, bk := D.nx } σ2 H2) := by
  refine ⟨fun i m σ H => m = xs.length - i ∧ i ≤ xs.length ∧ Pv i σ H, ⟨xs.length, by omega, Nat.zero_le _, h0⟩, ?_⟩
  rintro i m σ H ⟨rfl, hi, p⟩
  have hS := hl i σ H hi p
  by_cases hlt : i < xs.length
  · refine .inr ⟨⟨xs, _, hS, List.getElem?_eq_getElem hlt⟩, Pv (i + 1), fun σ' H' p' => ⟨xs.length - (i + 1), by omega, rfl, hlt, p'⟩, fun x H' y => ?_⟩
    obtain ⟨t, z, ht, hz, e1, e2⟩ := y
    subst e1 e2
    exact hs i z σ H t (hz xs hS) p ht
  · have e : i = xs.length := by omega
    subst e
    exact .inl ⟨⟨xs, hS, Nat.le_refl _⟩, hd σ H p⟩
end
section
variable {K : PySem.W.Frag} {H : Hp}
end
end L2

/-! what the blocks share -/
namespace Toy
open PySem L2 En
theorem script_at {ns : List Int} {k : Nat} (h : k < ns.length) : ∃ v : Int, atI (ns.map V.int) (k : Int) = some (.int v) := by
  refine ⟨ns[k], atI_nat ?_⟩
  rw [List.getElem?_map, List.getElem?_eq_getElem h]
  rfl
theorem mod31 (x : Int) {y : Int} (h0 : 0 < y) (h1 : y < 2 ^ 64) : -(2 ^ 64) < x % y ∧ x % y < 2 ^ 64 := by
  have h2 := Int.emod_nonneg x (show y ≠ 0 by omega)
  have h3 := Int.emod_lt_of_pos x h0
  omega
theorem kit_int_int (K : PySem.W.Frag) : PySem.W.kitOne K (.type "int") (.type "int") = some true := by kernel_rfl
theorem kit_int_bool (K : PySem.W.Frag) : PySem.W.kitOne K (.type "int") (.type "bool") = some false := by kernel_rfl
theorem kit_tuple (K : PySem.W.Frag) : PySem.W.kitOne K (.type "tuple") (.type "tuple") = some true := by kernel_rfl
theorem kit_list (K : PySem.W.Frag) : PySem.W.kitOne K (.type "list") (.type "list") = some true := by kernel_rfl
/-- limbs as values -/
def lv (l : List Nat) : List V := l.map fun d => V.int ((d : Nat) : Int)
theorem lv_snoc (l : List Nat) (d : Nat) : lv (l ++ [d]) = lv l ++ [V.int (d : Int)] := List.map_append
theorem lv_length (l : List Nat) : (lv l).length = l.length := List.length_map _
theorem lv_ints (l : List Nat) : lv l = (l.map fun d => ((d : Nat) : Int)).map V.int := by unfold lv; rw [List.map_map]; rfl
theorem lv_get {l : List Nat} {i d : Nat} (h : l[i]? = some d) : (lv l)[i]? = some (V.int (d : Int)) := by
  unfold lv
  rw [List.getElem?_map, h]
  rfl
theorem lt_line {n : Nat} (h : n ≤ 1000000) : n < sizeLine := by rw [sizeLine_eq]; omega
theorem le_line {n : Nat} (h : n ≤ 1000000) : n ≤ sizeLine := Nat.le_of_lt (lt_line h)
theorem iteNT {c A B : Prop} [Decidable c] (hc : ¬ c) (h : A) : if (!decide c) = true then A else B := by
  rw [decide_eq_false hc]
  exact iteT h
theorem iteDT {c A B : Prop} [Decidable c] (hc : c) (h : A) : if decide c = true then A else B := by
  rw [decide_eq_true hc]
  exact iteT h
theorem iteDF {c A B : Prop} [Decidable c] (hc : ¬ c) (h : B) : if decide c = true then A else B := by
  rw [decide_eq_false hc]
  exact iteF h
theorem iteD {c A B : Prop} [Decidable c] (h1 : c → A) (h2 : ¬ c → B) : if decide c = true then A else B := by
  by_cases h : c
  · exact iteDT h (h1 h)
  · exact iteDF h (h2 h)
/-- what goes on from each place of a sum -/
def gone (m n k : Nat) : List Nat := (List.range k).map fun i => carryAt m n (i + 1)
theorem gone_succ (m n k : Nat) : gone m n (k + 1) = gone m n k ++ [carryAt m n (k + 1)] := by unfold gone; rw [List.range_succ, List.map_append]; rfl
theorem gone_length (m n k : Nat) : (gone m n k).length = k := by unfold gone; rw [List.length_map, List.length_range]
end Toy

/-! reversed(a tuple) -/
namespace L2
open PySem PySem.Spec PyProof.Rows
namespace Rv
theorem slot_init : Slot "reversed" "__init__" "object.__init__" := .of (owner := "object") (n := "__init__") (by rw [typeLookup_type, builtinLookup_eq_fast]; kernel_rfl) (by decide +kernel) (by decide +kernel) (by decide +kernel) (by first | exact .inl (by decide +kernel) | exact .inr (by decide +kernel)) (by rw [isSubtype_type]; kernel_rfl)
theorem slot_next : Slot "reversed" "__next__" "reversed.__next__" := .of (owner := "reversed") (n := "__next__") (by rw [typeLookup_type, builtinLookup_eq_fast]; kernel_rfl) (by decide +kernel) (by decide +kernel) (by decide +kernel) (by first | exact .inl (by decide +kernel) | exact .inr (by decide +kernel)) (by rw [isSubtype_type]; kernel_rfl)
theorem slot_iter : Slot "reversed" "__iter__" "reversed.__iter__" := .of (owner := "reversed") (n := "__iter__") (by rw [typeLookup_type, builtinLookup_eq_fast]; kernel_rfl) (by decide +kernel) (by decide +kernel) (by decide +kernel) (by first | exact .inl (by decide +kernel) | exact .inr (by decide +kernel)) (by rw [isSubtype_type]; kernel_rfl)
theorem entry_next : entryFor table "reversed.__next__" = some Builtin.«reversed.__next__» := entryFor_of_tree (by kernel_rfl)
theorem entry_iter : entryFor table "reversed.__iter__" = some Builtin.«dict_keyiterator.__iter__» := entryFor_alias (id' := "dict_keyiterator.__iter__") (by kernel_rfl) (by first | rfl | decide +kernel | (unfold String.splitOn; simp +decide [String.splitOnAux])) (by decide +kernel) (by kernel_rfl)
theorem args_next (a : Value) : argsOk "reversed.__next__" ⟨[a], []⟩ := by unfold argsOk; kernel_rfl
theorem args_iter (a : Value) : argsOk "reversed.__iter__" ⟨[a], []⟩ := by unfold argsOk; kernel_rfl
theorem called : TypeCalled "reversed" "reversed.__new__" "object.__init__" := ⟨by decide +kernel, F.create_reversed, ⟨_, _, F.mro_reversed⟩, F.made_reversed, F.plain_reversed_new, F.sub_reversed_self, slot_init⟩
theorem no_own : typeLookup (.type "tuple") "__reversed__" = pure none := by rw [typeLookup_type, builtinLookup_eq_fast]; kernel_rfl
theorem no_dict : isSubtype (.type "tuple") (.type "dict") = pure false := by rw [isSubtype_type]; kernel_rfl
end Rv
/-- what reversed(t) makes -/
def revT (t : Addr) (i : Int) : Obj := { cls := .type "reversed", data := .fields #[.ref t, rawInt i] }
section
variable {prog : Program} {w : World} {A : Around} {E : Value → Shared → Prop} {s : Shared}
theorem rev_newT (t : Addr) (items : Array Value) (n : Nat) (dct : Option Addr) (sl : Array (Option Value)) :
    Meets (Builtin.«reversed.__new__» ⟨[.type "reversed", .ref t], []⟩) (fun _ R s => s.heap.get? t = some { cls := .type "tuple", dict := dct, data := .seq items n, slots := sl } ∧ items.size ≤ sizeLine ∧
      ∀ tk, R (.ok (.ret (.ref s.heap.objs.size))) { s with heap := s.heap.push (revT t ((items.size : Int) - 1)), toks := tk }) :=
  .of_wp fun prog w A R s h => by
    obtain ⟨hl, hz, h⟩ := h
    have hT : IsTup s.heap t items := ⟨_, hl, rfl, n, rfl⟩
    have ty : s.TypeIs (.ref t) "tuple" := ⟨_, hl, rfl⟩
    have l63 := line63
    unfold Builtin.«reversed.__new__»
    refine wpAny_bind (wpAny_of_eq (newClass_reversed _) ?_); try dsimp only
    refine wpAny_bind (wpAny_of_eq (a := ()) (by first | rfl | kernel_rfl) (wpAny_bind (wpAny_of_eq (a := ()) (by first | rfl | kernel_rfl) ?_))); try dsimp only
    refine wpAny_bind (wpAny_specialOf ty Rv.no_own ?_); try dsimp only
    refine wpAny_bind ?_
    k_delta "hasItemSlot"
    refine wpAny_bind (wpAny_isInstance (T := "tuple") (b := false) ty Rv.no_dict ?_)
    rw [if_neg Bool.false_ne_true]
    refine wpAny_bind (wpAny_specialOf ty slot_tuple_getitem.lookup ?_); try dsimp only
    rw [if_pos (by decide +kernel)]
    refine wpAny_pure ?_
    rw [if_neg (by decide)]
    refine wpAny_bind (len_tuple hT (by omega) (wpAny_bind (wpAny_of_eq (a := some (items.size : Int)) rfl ?_))); try dsimp only
    unfold Builtin.SmallTypes.newRecord
    wp_walk
    exact ⟨_, rfl, h _⟩
theorem call_revT {t : Addr} {items : Array Value} {Q : Value → Shared → Prop} (hT : IsTup s.heap t items) (hz : items.size ≤ sizeLine) (h : ∀ tk, Q (.ref s.heap.objs.size) { s with heap := s.heap.push (revT t ((items.size : Int) - 1)), toks := tk }) :
    wpAny (model prog w) A (call (.type "reversed") [.ref t]) Q E s := by
  obtain ⟨⟨c, dct, dt, sl⟩, hl, hc, n, hd⟩ := hT
  obtain rfl : c = .type "tuple" := hc
  obtain rfl : dt = .seq items n := hd
  exact callType_new Rv.called (by decide) (F.typeCall_reversed_1 _) (F.newCall_reversed_1 _) (fun obj => F.args_object_init_2 obj _) F.entry_reversed_new (rev_newT t items n dct sl) ⟨hl, hz, fun tk => ⟨⟨_, Heap.get?_push_size _ rfl, rfl⟩, h tk⟩⟩
def IsRevT (h : Heap) (a t : Addr) (i : Int) : Prop := h.get? a = some (revT t i)
theorem next_revT {it t : Addr} {i : Nat} {items : Array Value} {x : Value} {Q : Option Value → Shared → Prop} (hit : IsRevT s.heap it t (i : Int)) (ht : IsTup s.heap t items) (hx : items[i]? = some x) (hz : items.size ≤ sizeLine)
    (hQ : ∀ h' tk, IsRevT h' it t ((i : Int) - 1) → Heap.SameBut it s.heap h' → Q (some x) { s with heap := h', toks := tk }) : wpAny (model prog w) A (pyNext (.ref it)) Q E s := by
  have ty : s.TypeIs (.ref it) "reversed" := ⟨_, hit, rfl⟩
  have tt : s.TypeIs (.ref t) "tuple" := ht.typeIs
  have hi : i < items.size := (Array.getElem?_eq_some_iff.mp hx).1
  have l63 := line63
  unfold pyNext
  refine wpAny_bind (wpAny_attempt (wpAny_callSpecial?_slot (name := Str.ofString "__next__") ty Rv.slot_next (wpAny_call_entry Rv.slot_next ty Rv.entry_next ?_ (Rv.args_next _))))
  unfold Builtin.«reversed.__next__»
  refine wpAny_bind (wpAny_of_eq (a := (Value.ref it, [])) rfl ?_); try dsimp only
  refine wpAny_bind (wpAny_field hit rfl (x := .ref t) rfl (wpAny_bind (wpAny_field hit rfl (x := rawInt (i : Int)) rfl ?_)))
  show wpAny _ _ (if (i : Int) < 0 then _ else _) _ _ s
  rw [if_neg (by omega)]
  refine wpAny_bind (wpAny_specialOf tt slot_tuple_getitem.lookup ?_)
  rw [if_neg (by decide)]
  refine wpAny_bind (wpAny_mkInt (wpAny_bind (wpAny_attempt (getItem_tuple (j := i) ht (by omega) (by omega) ?_ hx ?_))))
  · refine (ixN_seq (n := items.size) (i := (i : Int)) (j := i) ?_).1
    unfold ixN
    rw [if_pos (by omega), if_pos (by omega), Int.toNat_natCast]
  · try dsimp only
    refine wpAny_bind (wpAny_field hit rfl (x := rawInt (i : Int)) rfl ?_)
    show wpAny _ _ (setField (.ref it) 1 (rawInt ((i : Int) - 1)) >>= _) _ _ _
    refine wpAny_bind (wpAny_setField hit rfl (by simp) (wpAny_pure ⟨x, rfl, wpAny_pure (hQ _ _ ?_ (Heap.SameBut.update ..))⟩))
    exact Heap.get?_update_self _ hit rfl
theorem next_revT_end {it t : Addr} {Q : Option Value → Shared → Prop} (hh : A.handled = none) (hit : IsRevT s.heap it t (-1)) (hQ : ∀ h', Heap.ExtBut it s.heap h' → Q none { s with heap := h' }) : wpAny (model prog w) A (pyNext (.ref it)) Q E s := by
  have ty : s.TypeIs (.ref it) "reversed" := ⟨_, hit, rfl⟩
  unfold pyNext
  refine wpAny_bind (wpAny_attempt (wpAny_callSpecial?_slot (name := Str.ofString "__next__") ty Rv.slot_next (wpAny_call_entry Rv.slot_next ty Rv.entry_next ?_ (Rv.args_next _))))
  unfold Builtin.«reversed.__next__»
  refine wpAny_bind (wpAny_of_eq (a := (Value.ref it, [])) rfl ?_); try dsimp only
  refine wpAny_bind (wpAny_field hit rfl (x := .ref t) rfl (wpAny_bind (wpAny_field hit rfl (x := rawInt (-1)) rfl ?_)))
  show wpAny _ _ (if (-1 : Int) < 0 then _ else _) _ _ s
  rw [if_pos (by decide)]
  refine wpAny_bind (wpAny_rule (wpAny_bind ?_))
  k_delta "reversedEnd"
  have u1 : (s.heap.update it (Obj.mapFields (·.setIfInBounds 1 (rawInt (-1))))).get? it = some (revT t (-1)) := Heap.get?_update_self _ hit rfl
  refine wpAny_bind (wpAny_setField hit rfl (by simp) (wpAny_setField u1 rfl (by simp) ?_))
  refine wpAny_bind ?_; unfold Builtin.SmallTypes.stopIteration; refine wpAny_bind ?_; simp only [newExc, newTuple]; refine wpAny_bind (wpAny_newObj_type ?_ (by size_fits))
  refine wpAny_bind (m := firstArgMember _ _) (wpAny_of_eq (a := Value.none) (by simp only [firstArgMember]; rfl) (wpAny_newObj_type ?_ (by size_fits)))
  simp only [raiseNew]; refine wpAny_bind (wpAny_handled ?_); rw [show A.in1.handled = none from hh]
  refine wpAny_bind (wpAny_pure (wpAny_throw ?_)); refine wpAny_bind (wpAny_isInstance (T := "StopIteration") (b := true) ⟨_, Heap.get?_push_size _ rfl, rfl⟩ isSubtype_stop ?_)
  exact wpAny_pure (hQ _ (((Heap.ExtBut.trans (Heap.SameBut.update ..).extBut (Heap.SameBut.update ..).extBut).push _).push _))
theorem iter_revT {it t : Addr} {i : Int} {Q : Value → Shared → Prop} (hit : IsRevT s.heap it t i) (h : Q (.ref it) s) : wpAny (model prog w) A (pyIter (.ref it)) Q E s := by
  have ty : s.TypeIs (.ref it) "reversed" := ⟨_, hit, rfl⟩
  refine wpAny_pyIter_slot ty Rv.slot_iter (wpAny_call_entry Rv.slot_iter ty Rv.entry_iter ?_ (Rv.args_iter _))
  show wpAny _ _ (ret (.ref it)) _ _ s
  exact wpAny_pure ⟨_, rfl, "reversed", _, ty, Rv.slot_next.lookup, h⟩
end
/-- reversed(a tuple): its items from the last one on -/
def ItRv (K : PySem.W.Frag) (a : Addr) (xs : List V) : It := ⟨fun i H => SqT K H a xs ∧ i < xs.length, fun i H x H' => H' = H ∧ xs[xs.length - 1 - i]? = some x, fun i H => SqT K H a xs ∧ xs.length = i⟩
theorem turn_revT {P : Program} {w : World} {K : PySem.W.Frag} {tg : Expr} {xs : List V} (a it : Addr) (hne : a ≠ it) : Turn P w K tg (ItRv K a xs) [it] it (fun i h => IsRevT h it a ((xs.length : Int) - 1 - (i : Int))) where
  mem := by simp
  obj := fun i h st b hb => by
    have e : b = it := by simpa using hb
    subst e
    exact ⟨_, st, fun v z => by cases z⟩
  keep := fun i h h' st k => k it (by simp) _ st
  item := by
    intro X hP hw hK hc i pins s σ H E I hf st hg
    subst hP hw hK
    obtain ⟨hq, hi⟩ := hg
    obtain ⟨its, rv, p, hz⟩ := I.tuple hq
    have hl := rv.length
    have hx : xs[xs.length - 1 - i]? = some (xs[xs.length - 1 - i]'(by omega)) := List.getElem?_eq_getElem (by omega)
    obtain ⟨u, hu, ru⟩ := rv.get hx
    obtain ⟨f0, f1, f2, f3, f4, f5⟩ := hf it (by simp)
    have e1 : (xs.length : Int) - 1 - (i : Int) = ((xs.length - 1 - i : Nat) : Int) := by omega
    have st' : IsRevT s.heap it a (((xs.length - 1 - i : Nat)) : Int) := by rw [← e1]; exact st
    refine next_revT st' p (x := u) (by simpa using hu) (by rw [List.size_toArray, ← hl]; exact hz) fun h' tk st2 sb => ?_
    have I1 : Inv X pins σ H { s with heap := h', toks := tk } := I.turned (fun b o hb e => (sb.2 b hb).trans e) f0 f1 f3 f4 f5
    refine ⟨u, rfl, go_of (s := { s with heap := h', toks := tk }) st2 rfl rfl (by decide) ⟨_, H, I1, ru, ⟨rfl, hx⟩, ?_, fun b hb => (hf b hb).1⟩⟩
    rw [show (xs.length : Int) - 1 - ((i + 1 : Nat) : Int) = ((xs.length - 1 - i : Nat) : Int) - 1 by omega]
    exact st2
  done := by
    intro X hP hw hK hc i pins s σ H E I hf st hg
    subst hP hw hK
    obtain ⟨hq, hi⟩ := hg
    obtain ⟨f0, f1, f2, f3, f4, f5⟩ := hf it (by simp)
    have st' : IsRevT s.heap it a (-1) := by
      have z : IsRevT s.heap it a ((xs.length : Int) - 1 - (i : Int)) := st
      rw [show (xs.length : Int) - 1 - (i : Int) = -1 by omega] at z
      exact z
    exact next_revT_end (I.ok.hd hc) st' fun h' eb => ⟨rfl, I.turned (t' := s.toks) (fun b o hb e => eb b o hb e) f0 f1 f3 f4 f5⟩
  self := fun _ _ _ _ _ st h => iter_revT st h
section
variable {X : Cx} {tg : Expr}
def iRevT (K : PySem.W.Frag) (ta : TA) : TI := fun σ H R => ta σ H fun vs H1 => ∃ a xs, vs = [.ref a] ∧ SqT K H1 a xs ∧ R (ItRv K a xs) H1
theorem pi_revT {a : Expr} {ta : TA} {p pos : Pos} (hg : Gl X "reversed") (hm : X.mg "reversed" = none) (ha : PA X [a] ta) (hs : starEach [a] X.env = [(false, eval a X.env)] := by rfl) : PI X tg (.Call (.Name "reversed" p) [a] [] pos) (iRevT X.K ta) := by
  intro pins s σ H R I h
  refine Call_ (ld_blt I hg hm boot_reversed (PyProof.Rows.callWith_type1 (thn (ha pos pins s σ H _ I h) fun us s1 ⟨vs, H1, I1, r1, q1⟩ => ?_) hs rfl))
  obtain ⟨b, xs, e, hS, q⟩ := q1
  subst e
  cases r1 with
  | cons r rr =>
    cases rr
    cases r
    obtain ⟨its, rv, p, hz⟩ := I1.tuple hS
    have hl := rv.length
    have hsz : its.toArray.size = xs.length := by rw [List.size_toArray]; exact hl.symm
    have hb : b < s1.heap.objs.size := p.lt
    refine call_revT p (by rw [hsz]; exact hz) fun tk => ?_
    rw [hsz]
    have I2 : Inv X pins σ H1 { s1 with heap := s1.heap.push (revT b ((xs.length : Int) - 1)), toks := tk } := I1.kept fun b o e => Heap.get?_push_of_some _ e
    have hit : IsRevT (s1.heap.push (revT b ((xs.length : Int) - 1))) s1.heap.objs.size b ((xs.length : Int) - 1) := Heap.get?_push_size _ rfl
    refine iter_revT (s := { s1 with heap := s1.heap.push (revT b ((xs.length : Int) - 1)), toks := tk }) hit ?_
    refine ⟨s1.heap.objs.size, [s1.heap.objs.size], _, _, H1, rfl, I2, turn_revT (xs := xs) b _ (Nat.ne_of_lt hb), ?_, fun c hc => ?_, q⟩
    · show IsRevT _ _ _ ((xs.length : Int) - 1 - ((0 : Nat) : Int))
      rw [show (xs.length : Int) - 1 - ((0 : Nat) : Int) = (xs.length : Int) - 1 by omega]
      exact hit
    · have e : c = s1.heap.objs.size := by simpa using hc
      subst e
      exact I1.fpOk (Nat.le_refl _) (I1.hok.fresh (Nat.le_refl _))
theorem for_revT {K : PySem.W.Frag} {a : Addr} {xs : List V} {g : TG} {tb : TS} {D : Ends} {σ : St} {H : Hp} (Pv : Nat → St → Hp → Prop) (h0 : Pv 0 σ H) (hl : ∀ i σ H, i ≤ xs.length → Pv i σ H → SqT K H a xs)
    (hs : ∀ i y σ H, i < xs.length → xs[xs.length - 1 - i]? = some y → Pv i σ H → g y σ H fun σ2 H2 => tb { D with nx := Pv (i + 1), ct := Pv (i + 1), bk := D.nx } σ2 H2) (hd : ∀ σ H, Pv xs.length σ H → D.nx σ H) :
    ∃ W : Nat → Nat → St → Hp → Prop, (∃ m, W 0 m σ H) ∧ ∀ i m σ H, W i m σ H →
      ((ItRv K a xs).stop i H ∧ D.nx σ H) ∨ ((ItRv K a xs).go i H ∧ ∃ N : St → Hp → Prop, (∀ σ' H', N σ' H' → ∃ m', m' < m ∧ W (i + 1) m' σ' H') ∧ ∀ x H', (ItRv K a xs).yld i H x H' → g x σ H' fun σ2 H2 => tb { D with nx := N, ct := N, bk := D.nx } σ2 H2) := by
  refine ⟨fun i m σ H => m = xs.length - i ∧ i ≤ xs.length ∧ Pv i σ H, ⟨xs.length, by omega, Nat.zero_le _, h0⟩, ?_⟩
  rintro i m σ H ⟨rfl, hi, p⟩
  have hS := hl i σ H hi p
  by_cases hlt : i < xs.length
  · refine .inr ⟨⟨hS, hlt⟩, Pv (i + 1), fun σ' H' p' => ⟨xs.length - (i + 1), by omega, rfl, hlt, p'⟩, fun x H' y => ?_⟩
    obtain ⟨e1, e2⟩ := y
    subst e1
    exact hs i x σ _ hlt e2 p
  · have e : i = xs.length := by omega
    subst e
    exact .inl ⟨⟨hS, rfl⟩, hd σ H p⟩
end
end L2
/-! t + u of tuples, any; t[lo:hi] of a tuple, the whole of it too -/
namespace L2
open PySem PySem.Spec PyProof.Rows
section
variable {prog : Program} {w : World} {A : Around} {E : Value → Shared → Prop} {s : Shared}
theorem cat_tup0 {t b : Addr} {ws : List Value} {Q : Value → Shared → Prop} (ht : IsTup s.heap t #[]) (hb : IsTup s.heap b ws.toArray) (h : Q (.ref b) s) : wpAny (model prog w) A (binaryOp .Add (.ref t) (.ref b)) Q E s := by
  obtain ⟨⟨cls, dd, data, sl⟩, ho, hc, n, hd⟩ := id ht
  obtain ⟨⟨cls2, dd2, data2, sl2⟩, ho2, hc2, n2, hd2⟩ := id hb
  simp only at hc hd hc2 hd2
  subst hc hd hc2 hd2
  exact concat_meets ⟨_, ho, rfl⟩ ⟨_, ho2, rfl⟩ noFill_tuple_add seq_tuple_add PySem.F.slot_tuple_add PySem.F.entry_tuple_add (PySem.F.args_tuple_add_2 _ _)
    (tuple_addW0 t b #[] ws.toArray n n2 dd dd2 sl sl2 rfl) ⟨ho, ho2, h⟩
theorem getItem_tuple_whole {t sl : Addr} {items : Array Value} {vl vu : Value} {lo hi : Option Int} {Q : Value → Shared → Prop} (ht : IsTup s.heap t items) (hs : s.heap.IsSliceOf sl vl vu .none) (pl : IsPart vl lo) (pu : IsPart vu hi)
    (hw : HT.sIx items.size 0 lo = 0 ∧ HT.sIx items.size items.size hi = items.size) (h : Q (.ref t) s) : wpAny (model prog w) A (getItem (.ref t) (.ref sl)) Q E s := by
  obtain ⟨os, hos, hcs, hds⟩ := id hs
  have hTs : s.TypeIs (.ref sl) "slice" := ⟨os, hos, hcs⟩
  unfold getItem
  try with_reducible refine wpAny_holding ?_
  first | refine wpAny_bind (wpAny_pure ?_) | skip
  refine wpAny_bind (wpAny_sequenceKey ht.typeIs (by decide) ?_)
  refine wpAny_bind (wpAny_callSpecial?_slot (name := Str.ofString "__getitem__") ht.typeIs PyProof.Rows.slot_tuple_getitem
    (wpAny_call_entry PyProof.Rows.slot_tuple_getitem ht.typeIs entry_tuple_getitem ?_ (args_tuple_getitem _ _)))
  show wpAny _ _ (Builtin.Tuple.tupleItemsOf (.ref t) >>= _) _ _ s
  refine wpAny_bind (tupleItemsOf_ ht ?_)
  refine wpAny_bind (wpAny_typeOf hTs ?_)
  rw [if_pos (by decide)]
  refine wpAny_bind (HT.sliceApplied_gen hs pl pu ?_)
  have hyes : (((HT.sIx items.size 0 lo : Nat) : Int) == 0 && (1 : Int) == 1 && (HT.sIx items.size items.size hi - HT.sIx items.size 0 lo) == items.size) = true := by
    rw [hw.1, hw.2, Nat.sub_zero]
    simp
  show wpAny _ _ (if (((HT.sIx items.size 0 lo : Nat) : Int) == 0 && (1 : Int) == 1 && (HT.sIx items.size items.size hi - HT.sIx items.size 0 lo) == items.size) = true then _ else _) _ _ s
  rw [if_pos hyes]
  unfold Builtin.Tuple.tupleIsExact
  refine wpAny_bind (wpAny_bind (wpAny_typeOf ht.typeIs (wpAny_pure ?_)))
  rw [if_pos (by decide)]
  exact wpAny_bind (wpAny_rule (wpAny_pure ⟨_, rfl, wpAny_pure h⟩))
end
section
variable {X : Cx}
/-- t + u: an empty part gives the other part itself -/
def rCatTA (K : PySem.W.Frag) : R2 := fun x y H Q => ∃ a b xs ys, x = .ref a ∧ y = .ref b ∧ SqT K H a xs ∧ SqT K H b ys ∧ xs.length + ys.length ≤ sizeLine ∧
  (xs = [] → Q (.ref b) H) ∧ (xs ≠ [] → ys = [] → Q (.ref a) H) ∧ (xs ≠ [] → ys ≠ [] → ∀ p, H p = none → Q (.ref p) (upd H p (.tup (xs ++ ys))))
theorem op_catTA : OpR X (binaryOp .Add) (rCatTA X.K) := by
  intro pins s σ H x y v u Q I rx ry h
  obtain ⟨a, b, xs, ys, rfl, rfl, ha, hb, hz, q0, q1, q2⟩ := h
  by_cases hx : xs = []
  · cases rx
    cases ry
    obtain ⟨its, r1, p1, _⟩ := I.tuple ha
    obtain ⟨its2, r2, p2, _⟩ := I.tuple hb
    have e := r1.nil_iff.mpr hx
    subst e
    exact cat_tup0 p1 p2 ⟨.ref b, H, I, rfl, q0 hx⟩
  · exact op_catT pins s σ H _ _ v u Q I rx ry ⟨a, b, xs, ys, rfl, rfl, ha, hb, hx, hz, q1 hx, q2 hx⟩
/-- t[lo:hi]: the whole is t itself -/
def rSlTA (K : PySem.W.Frag) : V → Option Int → Option Int → Hp → VK → Prop := fun x lo hi H Q => ∃ a xs, x = .ref a ∧ SqT K H a xs ∧
  (HT.sIx xs.length 0 lo = 0 → HT.sIx xs.length xs.length hi = xs.length → Q (.ref a) H) ∧ (¬ (HT.sIx xs.length 0 lo = 0 ∧ HT.sIx xs.length xs.length hi = xs.length) → ∀ p, H p = none → Q (.ref p) (upd H p (.tup (cutV xs lo hi))))
theorem sl_tupA : SlR X (rSlTA X.K) := by
  intro pins s σ H x v vl vu lo hi sl Q I rx hs pl pu h
  obtain ⟨a, xs, rfl, hx, q1, q2⟩ := h
  by_cases hw : HT.sIx xs.length 0 lo = 0 ∧ HT.sIx xs.length xs.length hi = xs.length
  · cases rx
    obtain ⟨its, r, ht, hz⟩ := I.tuple hx
    have hlen : its.toArray.size = xs.length := by rw [List.size_toArray]; exact r.length.symm
    refine ⟨"tuple", _, PyProof.Rows.slot_tuple_getitem.lookup, ht.typeIs, ?_⟩
    exact getItem_tuple_whole ht hs pl pu (by rw [hlen]; exact hw) ⟨.ref a, H, I, rfl, q1 hw.1 hw.2⟩
  · exact sl_tup pins s σ H _ v vl vu lo hi sl Q I rx hs pl pu ⟨a, xs, rfl, hx, hw, q2 hw⟩
end
end L2

/-! reversed(a list), // by any divisor that is not vast -/
namespace L2
open PySem PySem.Spec PyProof.Rows
section
variable {X : Cx}
/-- // by a positive divisor of at most 9000 bits -/
def CDivL (_ j : Int) : Prop := 0 < j ∧ j.natAbs.log2 < 9000
theorem op_fdivL : OpR X (binaryOp .FloorDiv) (rI CDivL fun i j => .int (i / j)) := opI fun i j _ _ _ _ _ hc q => by
  have h1 : (0 : Int) < j := hc.1
  exact floordiv_int (by omega) (by rw [Int.fdiv_eq_ediv_of_nonneg i (by omega)]; exact q) (.inl (PyProof.noPylong_of_log2 hc.2))
theorem log2_lt_of {j : Int} {k : Nat} (h0 : 0 < j) (h : j < 2 ^ k) (hk : k ≤ 9000) : j.natAbs.log2 < 9000 := by
  have h1 : j.natAbs < 2 ^ k := by
    have : ((j.natAbs : Nat) : Int) < ((2 ^ k : Nat) : Int) := by
      rw [show ((j.natAbs : Nat) : Int) = j by omega]
      have e : ((2 ^ k : Nat) : Int) = (2 : Int) ^ k := Int.natCast_pow 2 k
      rw [e]
      exact h
    exact Int.ofNat_lt.mp this
  have h2 : j.natAbs.log2 < k := (Nat.log2_lt (by omega)).mpr h1
  omega
end
namespace RvL
theorem slot_rev : Slot "list" "__reversed__" "list.__reversed__" := .of (owner := "list") (n := "__reversed__") (by rw [typeLookup_type, builtinLookup_eq_fast]; kernel_rfl) (by decide +kernel) (by decide +kernel) (by decide +kernel) (by first | exact .inl (by decide +kernel) | exact .inr (by decide +kernel)) (by rw [isSubtype_type]; kernel_rfl)
theorem slot_next : Slot "list_reverseiterator" "__next__" "list_reverseiterator.__next__" := .of (owner := "list_reverseiterator") (n := "__next__") (by rw [typeLookup_type, builtinLookup_eq_fast]; kernel_rfl) (by decide +kernel) (by decide +kernel) (by decide +kernel) (by first | exact .inl (by decide +kernel) | exact .inr (by decide +kernel)) (by rw [isSubtype_type]; kernel_rfl)
theorem slot_iter : Slot "list_reverseiterator" "__iter__" "list_reverseiterator.__iter__" := .of (owner := "list_reverseiterator") (n := "__iter__") (by rw [typeLookup_type, builtinLookup_eq_fast]; kernel_rfl) (by decide +kernel) (by decide +kernel) (by decide +kernel) (by first | exact .inl (by decide +kernel) | exact .inr (by decide +kernel)) (by rw [isSubtype_type]; kernel_rfl)
theorem entry_rev : entryFor table "list.__reversed__" = some Builtin.«list.__reversed__» := entryFor_of_tree (by kernel_rfl)
theorem entry_next : entryFor table "list_reverseiterator.__next__" = some Builtin.«list_reverseiterator.__next__» := entryFor_of_tree (by kernel_rfl)
theorem entry_iter : entryFor table "list_reverseiterator.__iter__" = some Builtin.«dict_keyiterator.__iter__» := entryFor_alias (id' := "dict_keyiterator.__iter__") (by kernel_rfl) (by first | rfl | decide +kernel | (unfold String.splitOn; simp +decide [String.splitOnAux])) (by decide +kernel) (by kernel_rfl)
theorem args_rev (a : Value) : argsOk "list.__reversed__" ⟨[a], []⟩ := by unfold argsOk; kernel_rfl
theorem args_next (a : Value) : argsOk "list_reverseiterator.__next__" ⟨[a], []⟩ := by unfold argsOk; kernel_rfl
theorem args_iter (a : Value) : argsOk "list_reverseiterator.__iter__" ⟨[a], []⟩ := by unfold argsOk; kernel_rfl
theorem other : isSubtype (.type "list_reverseiterator") (.type "reversed") = pure false := by rw [isSubtype_type]; kernel_rfl
end RvL
/-- what reversed(l) makes -/
def revL (t : Addr) (i : Int) : Obj := { cls := .type "list_reverseiterator", data := .fields #[.ref t, rawInt i] }
section
variable {prog : Program} {w : World} {A : Around} {E : Value → Shared → Prop} {s : Shared}
theorem callType_else {T T2 newId initId : String} {Bn : Builtin} {args : List Value} {S : PySem.Spec} {Q : Value → Shared → Prop} (ft : TypeCalled T newId initId) (hct : checkTypeCall T ⟨args, []⟩ = pure ()) (hcn : checkBuiltinCall newId ⟨.type T :: args, []⟩ = pure ())
    (entryN : entryFor table newId = some Bn) (g : Meets (Bn ⟨.type T :: args, []⟩) S) (hs : isSubtype (.type T2) (.type T) = pure false)
    (h : S A.in1 (wants (fun obj s₁ => s₁.TypeIs obj T2 ∧ Q obj s₁) E) s) : wpAny (model prog w) A (call (.type T) args) Q E s := by
  obtain ⟨_, _, hmro⟩ := ft.mro
  have e1 := ft.made
  have e2 := ft.notType
  have e3 := ft.canCreate
  refine wpAny_call (codeAny_of_tree ?_); show wpAny _ _ (callAny (.type T) _) _ _ _
  refine wpAny_pure ⟨Code.quiet_builtin _ (by decide +kernel), ?_⟩; refine codeAny_builtin F.entry_type_call ?_
  rw [Around.under_plain (weight_type_call_type ..) (units_type_call_type ..)]
  repeat (any_goals (first | assumption | wp_step))
  refine codeAny_mono (codeAny_call_builtin ft.plain entryN (wpAny_of_eq hcn (g prog w A.in1 _ s h))) ?_
  intro r s₁ hr
  cases r with
  | error e => exact hr
  | ok fl =>
    cases fl with
    | ret obj =>
      obtain ⟨hT, hq⟩ := hr
      repeat (any_goals (first | assumption | wp_step))
    | _ => exact hr.elim
theorem rev_newL (t : Addr) (items : Array Value) (n : Nat) (dct : Option Addr) (sl : Array (Option Value)) :
    Meets (Builtin.«reversed.__new__» ⟨[.type "reversed", .ref t], []⟩) (fun _ R s => s.heap.get? t = some { cls := .type "list", dict := dct, data := .seq items n, slots := sl } ∧
      ∀ tk, R (.ok (.ret (.ref s.heap.objs.size))) { s with heap := s.heap.push (revL t ((items.size : Int) - 1)), toks := tk }) :=
  .of_wp fun prog w A R s h => by
    obtain ⟨hl, h⟩ := h
    have ty : s.TypeIs (.ref t) "list" := ⟨_, hl, rfl⟩
    unfold Builtin.«reversed.__new__»
    refine wpAny_bind (wpAny_of_eq (newClass_reversed _) ?_); try dsimp only
    refine wpAny_bind (wpAny_of_eq (a := ()) (by first | rfl | kernel_rfl) (wpAny_bind (wpAny_of_eq (a := ()) (by first | rfl | kernel_rfl) ?_))); try dsimp only
    refine wpAny_bind (wpAny_specialOf ty RvL.slot_rev.lookup ?_); try dsimp only
    refine wpAny_bind (wpAny_of_eq (RvL.slot_rev.bind _) ?_); try dsimp only
    rw [if_neg (by decide)]
    refine wpAny_bind (wpAny_rule (wpAny_bind ?_))
    refine wpAny_call_entry RvL.slot_rev ty RvL.entry_rev ?_ (RvL.args_rev _)
    wp_walk using wpAny_loadPart' hl
    exact ⟨_, rfl, wpAny_pure ⟨_, rfl, h _⟩⟩
theorem call_revL {t : Addr} {items : Array Value} {Q : Value → Shared → Prop} (hT : PlainL s.heap t items) (h : ∀ tk, Q (.ref s.heap.objs.size) { s with heap := s.heap.push (revL t ((items.size : Int) - 1)), toks := tk }) :
    wpAny (model prog w) A (call (.type "reversed") [.ref t]) Q E s := by
  obtain ⟨⟨c, dct, dt, sl⟩, n, hl, hc, _, hd⟩ := hT
  obtain rfl : c = .type "list" := hc
  obtain rfl : dt = .seq items n := hd
  exact callType_else Rv.called (F.typeCall_reversed_1 _) (F.newCall_reversed_1 _) F.entry_reversed_new (rev_newL t items n dct sl) RvL.other ⟨hl, fun tk => ⟨⟨_, Heap.get?_push_size _ rfl, rfl⟩, h tk⟩⟩
def IsRevL (h : Heap) (a t : Addr) (i : Int) : Prop := h.get? a = some (revL t i)
theorem next_revL {it t : Addr} {i : Nat} {items : Array Value} {x : Value} {Q : Option Value → Shared → Prop} (hit : IsRevL s.heap it t (i : Int)) (ht : PlainL s.heap t items) (hx : items[i]? = some x)
    (hQ : ∀ h' tk, IsRevL h' it t ((i : Int) - 1) → Heap.SameBut it s.heap h' → Q (some x) { s with heap := h', toks := tk }) : wpAny (model prog w) A (pyNext (.ref it)) Q E s := by
  have ty : s.TypeIs (.ref it) "list_reverseiterator" := ⟨_, hit, rfl⟩
  obtain ⟨⟨c, dct, dt, sl⟩, n, hl, hc, _, hd⟩ := ht
  obtain rfl : c = .type "list" := hc
  obtain rfl : dt = .seq items n := hd
  unfold pyNext
  refine wpAny_bind (wpAny_attempt (wpAny_callSpecial?_slot (name := Str.ofString "__next__") ty RvL.slot_next (wpAny_call_entry RvL.slot_next ty RvL.entry_next ?_ (RvL.args_next _))))
  unfold Builtin.«list_reverseiterator.__next__»
  refine wpAny_bind (wpAny_of_eq (a := (Value.ref it, [])) rfl ?_); try dsimp only
  refine wpAny_bind (wpAny_field hit rfl (x := rawInt (i : Int)) rfl ?_)
  show wpAny _ _ (if (i : Int) < 0 then _ else _) _ _ s
  rw [if_neg (by omega)]
  refine wpAny_bind (wpAny_field hit rfl (x := .ref t) rfl (wpAny_bind ?_))
  refine wpAny_seqItems hl rfl ?_
  try dsimp only
  rw [Int.toNat_natCast, hx]
  show wpAny _ _ (setField (.ref it) 1 (rawInt ((i : Int) - 1)) >>= _) _ _ _
  refine wpAny_bind (wpAny_setField hit rfl (by simp) (wpAny_pure ⟨x, rfl, wpAny_pure (hQ _ _ ?_ (Heap.SameBut.update ..))⟩))
  exact Heap.get?_update_self _ hit rfl
theorem next_revL_end {it t : Addr} {Q : Option Value → Shared → Prop} (hh : A.handled = none) (hit : IsRevL s.heap it t (-1)) (hQ : ∀ h', (∀ b o, s.heap.get? b = some o → h'.get? b = some o) → Q none { s with heap := h' }) : wpAny (model prog w) A (pyNext (.ref it)) Q E s := by
  have ty : s.TypeIs (.ref it) "list_reverseiterator" := ⟨_, hit, rfl⟩
  unfold pyNext
  refine wpAny_bind (wpAny_attempt (wpAny_callSpecial?_slot (name := Str.ofString "__next__") ty RvL.slot_next (wpAny_call_entry RvL.slot_next ty RvL.entry_next ?_ (RvL.args_next _))))
  unfold Builtin.«list_reverseiterator.__next__»
  refine wpAny_bind (wpAny_of_eq (a := (Value.ref it, [])) rfl ?_); try dsimp only
  refine wpAny_bind (wpAny_field hit rfl (x := rawInt (-1)) rfl ?_)
  show wpAny _ _ (if (-1 : Int) < 0 then _ else _) _ _ s
  rw [if_pos (by decide)]
  refine wpAny_bind (wpAny_rule ?_)
  refine wpAny_bind ?_; unfold Builtin.SmallTypes.stopIteration; refine wpAny_bind ?_; simp only [newExc, newTuple]; refine wpAny_bind (wpAny_newObj_type ?_ (by size_fits))
  refine wpAny_bind (m := firstArgMember _ _) (wpAny_of_eq (a := Value.none) (by simp only [firstArgMember]; rfl) (wpAny_newObj_type ?_ (by size_fits)))
  simp only [raiseNew]; refine wpAny_bind (wpAny_handled ?_); rw [show A.in1.handled = none from hh]
  refine wpAny_bind (wpAny_pure (wpAny_throw ?_)); refine wpAny_bind (wpAny_isInstance (T := "StopIteration") (b := true) ⟨_, Heap.get?_push_size _ rfl, rfl⟩ isSubtype_stop ?_)
  exact wpAny_pure (hQ _ fun b o e => Heap.get?_push_of_some _ (Heap.get?_push_of_some _ e))
theorem iter_revL {it t : Addr} {i : Int} {Q : Value → Shared → Prop} (hit : IsRevL s.heap it t i) (h : Q (.ref it) s) : wpAny (model prog w) A (pyIter (.ref it)) Q E s := by
  have ty : s.TypeIs (.ref it) "list_reverseiterator" := ⟨_, hit, rfl⟩
  refine wpAny_pyIter_slot ty RvL.slot_iter (wpAny_call_entry RvL.slot_iter ty RvL.entry_iter ?_ (RvL.args_iter _))
  show wpAny _ _ (ret (.ref it)) _ _ s
  exact wpAny_pure ⟨_, rfl, "list_reverseiterator", _, ty, RvL.slot_next.lookup, h⟩
end
/-- reversed(a list) that stays: its items from the last one on -/
def ItRl (K : PySem.W.Frag) (a : Addr) (xs : List V) : It := ⟨fun i H => SqL K H a xs ∧ i < xs.length, fun i H x H' => H' = H ∧ xs[xs.length - 1 - i]? = some x, fun i H => SqL K H a xs ∧ xs.length = i⟩
theorem turn_revL {P : Program} {w : World} {K : PySem.W.Frag} {tg : Expr} {xs : List V} (a it : Addr) (hne : a ≠ it) : Turn P w K tg (ItRl K a xs) [it] it (fun i h => IsRevL h it a ((xs.length : Int) - 1 - (i : Int))) where
  mem := by simp
  obj := fun i h st b hb => by
    have e : b = it := by simpa using hb
    subst e
    exact ⟨_, st, fun v z => by cases z⟩
  keep := fun i h h' st k => k it (by simp) _ st
  item := by
    intro X hP hw hK hc i pins s σ H E I hf st hg
    subst hP hw hK
    obtain ⟨hq, hi⟩ := hg
    obtain ⟨its, rv, p, hz⟩ := I.list hq
    have hl := rv.length
    have hx : xs[xs.length - 1 - i]? = some (xs[xs.length - 1 - i]'(by omega)) := List.getElem?_eq_getElem (by omega)
    obtain ⟨u, hu, ru⟩ := rv.get hx
    obtain ⟨f0, f1, f2, f3, f4, f5⟩ := hf it (by simp)
    have e1 : (xs.length : Int) - 1 - (i : Int) = ((xs.length - 1 - i : Nat) : Int) := by omega
    have st' : IsRevL s.heap it a (((xs.length - 1 - i : Nat)) : Int) := by rw [← e1]; exact st
    refine next_revL st' p (x := u) (by simpa using hu) fun h' tk st2 sb => ?_
    have I1 : Inv X pins σ H { s with heap := h', toks := tk } := I.turned (fun b o hb e => (sb.2 b hb).trans e) f0 f1 f3 f4 f5
    refine ⟨u, rfl, go_of (s := { s with heap := h', toks := tk }) st2 rfl rfl (by decide) ⟨_, H, I1, ru, ⟨rfl, hx⟩, ?_, fun b hb => (hf b hb).1⟩⟩
    rw [show (xs.length : Int) - 1 - ((i + 1 : Nat) : Int) = ((xs.length - 1 - i : Nat) : Int) - 1 by omega]
    exact st2
  done := by
    intro X hP hw hK hc i pins s σ H E I hf st hg
    subst hP hw hK
    obtain ⟨hq, hi⟩ := hg
    obtain ⟨f0, f1, f2, f3, f4, f5⟩ := hf it (by simp)
    have st' : IsRevL s.heap it a (-1) := by
      have z : IsRevL s.heap it a ((xs.length : Int) - 1 - (i : Int)) := st
      rw [show (xs.length : Int) - 1 - (i : Int) = -1 by omega] at z
      exact z
    exact next_revL_end (I.ok.hd hc) st' fun h' eb => ⟨rfl, I.turned (t' := s.toks) (fun b o _ e => eb b o e) f0 f1 f3 f4 f5⟩
  self := fun _ _ _ _ _ st h => iter_revL st h
section
variable {X : Cx} {tg : Expr}
def iRevL (K : PySem.W.Frag) (ta : TA) : TI := fun σ H R => ta σ H fun vs H1 => ∃ a xs, vs = [.ref a] ∧ SqL K H1 a xs ∧ R (ItRl K a xs) H1
theorem pi_revL {a : Expr} {ta : TA} {p pos : Pos} (hg : Gl X "reversed") (hm : X.mg "reversed" = none) (ha : PA X [a] ta) (hs : starEach [a] X.env = [(false, eval a X.env)] := by rfl) : PI X tg (.Call (.Name "reversed" p) [a] [] pos) (iRevL X.K ta) := by
  intro pins s σ H R I h
  refine Call_ (ld_blt I hg hm boot_reversed (PyProof.Rows.callWith_type1 (thn (ha pos pins s σ H _ I h) fun us s1 ⟨vs, H1, I1, r1, q1⟩ => ?_) hs rfl))
  obtain ⟨b, xs, e, hS, q⟩ := q1
  subst e
  cases r1 with
  | cons r rr =>
    cases rr
    cases r
    obtain ⟨its, rv, p, hz⟩ := I1.list hS
    have hl := rv.length
    have hsz : its.toArray.size = xs.length := by rw [List.size_toArray]; exact hl.symm
    have hb : b < s1.heap.objs.size := (by obtain ⟨o, ho, _⟩ := p.isList; exact Heap.lt_size ho)
    refine call_revL p fun tk => ?_
    rw [hsz]
    have I2 : Inv X pins σ H1 { s1 with heap := s1.heap.push (revL b ((xs.length : Int) - 1)), toks := tk } := I1.kept fun b o e => Heap.get?_push_of_some _ e
    have hit : IsRevL (s1.heap.push (revL b ((xs.length : Int) - 1))) s1.heap.objs.size b ((xs.length : Int) - 1) := Heap.get?_push_size _ rfl
    refine iter_revL (s := { s1 with heap := s1.heap.push (revL b ((xs.length : Int) - 1)), toks := tk }) hit ?_
    refine ⟨s1.heap.objs.size, [s1.heap.objs.size], _, _, H1, rfl, I2, turn_revL (xs := xs) b _ (Nat.ne_of_lt hb), ?_, fun c hc => ?_, q⟩
    · show IsRevL _ _ _ ((xs.length : Int) - 1 - ((0 : Nat) : Int))
      rw [show (xs.length : Int) - 1 - ((0 : Nat) : Int) = (xs.length : Int) - 1 by omega]
      exact hit
    · have e : c = s1.heap.objs.size := by simpa using hc
      subst e
      exact I1.fpOk (Nat.le_refl _) (I1.hok.fresh (Nat.le_refl _))
theorem for_revL {K : PySem.W.Frag} {a : Addr} {xs : List V} {g : TG} {tb : TS} {D : Ends} {σ : St} {H : Hp} (Pv : Nat → St → Hp → Prop) (h0 : Pv 0 σ H) (hl : ∀ i σ H, i ≤ xs.length → Pv i σ H → SqL K H a xs)
    (hs : ∀ i y σ H, i < xs.length → xs[xs.length - 1 - i]? = some y → Pv i σ H → g y σ H fun σ2 H2 => tb { D with nx := Pv (i + 1), ct := Pv (i + 1), bk := D.nx } σ2 H2) (hd : ∀ σ H, Pv xs.length σ H → D.nx σ H) :
    ∃ W : Nat → Nat → St → Hp → Prop, (∃ m, W 0 m σ H) ∧ ∀ i m σ H, W i m σ H →
      ((ItRl K a xs).stop i H ∧ D.nx σ H) ∨ ((ItRl K a xs).go i H ∧ ∃ N : St → Hp → Prop, (∀ σ' H', N σ' H' → ∃ m', m' < m ∧ W (i + 1) m' σ' H') ∧ ∀ x H', (ItRl K a xs).yld i H x H' → g x σ H' fun σ2 H2 => tb { D with nx := N, ct := N, bk := D.nx } σ2 H2) := by
  refine ⟨fun i m σ H => m = xs.length - i ∧ i ≤ xs.length ∧ Pv i σ H, ⟨xs.length, by omega, Nat.zero_le _, h0⟩, ?_⟩
  rintro i m σ H ⟨rfl, hi, p⟩
  have hS := hl i σ H hi p
  by_cases hlt : i < xs.length
  · refine .inr ⟨⟨hS, hlt⟩, Pv (i + 1), fun σ' H' p' => ⟨xs.length - (i + 1), by omega, rfl, hlt, p'⟩, fun x H' y => ?_⟩
    obtain ⟨e1, e2⟩ := y
    subst e1
    exact hs i x σ _ hlt e2 p
  · have e : i = xs.length := by omega
    subst e
    exact .inl ⟨⟨hS, rfl⟩, hd σ H p⟩
end
end L2
/-! count(True) and index(True) of a list of True and False -/
namespace L2
open PySem PySem.Spec PyProof.Rows
def eTrue : Value → Bool
  | .bool b => b
  | _ => false
theorem vals_bls : ∀ {bs : List Bool} {us : List Value}, Vals (bs.map V.bl) us → us = bs.map Value.bool
  | [], _, .nil => rfl
  | _ :: r, _, .cons h t => by
    cases h
    rw [vals_bls (bs := r) t]
    rfl
theorem count_bls : ∀ bs : List Bool, (bs.map Value.bool).countP eTrue = bs.count true
  | [] => rfl
  | true :: r => by rw [List.map_cons, List.countP_cons, count_bls r, List.count_cons]; rfl
  | false :: r => by rw [List.map_cons, List.countP_cons, count_bls r, List.count_cons]; rfl
theorem eqAt_true {A : Around} {s : Shared} {bs : List Bool} {y : Value} (h : y ∈ (bs.map Value.bool).toArray) : SeqAt.EqAt A s y (.bool true) (eTrue y) := by
  have h2 : y ∈ bs.map Value.bool := by simpa using h
  obtain ⟨b, _, rfl⟩ := List.mem_map.mp h2
  have z := eqAt_V (A := A) (s := s) (y := .bl b) (x := .bl true) (u := .bool b) (v := .bool true) rfl rfl rfl rfl
  have e : eqV (.bl b) (.bl true) = eTrue (.bool b) := by cases b <;> rfl
  rw [← e]
  exact z
section
variable {X : Cx}
def rCountB : V → List V → Hp → VK → Prop := fun x vs H Q => ∃ (l : Addr) (bs : List Bool), x = .ref l ∧ vs = [.bl true] ∧ H l = some (.lst (bs.map V.bl)) ∧ Q (.int ((bs.count true : Nat) : Int)) H
theorem mt_countB : MtR X "list.count" rCountB := by
  intro pins s σ H x vs v us Q I rx rv h
  obtain ⟨l, bs, rfl, rfl, hH, q⟩ := h
  cases rx
  obtain ⟨u, rfl, ru⟩ := rv.one
  cases ru
  obtain ⟨z, its, n, r, hl, e⟩ := I.lstM hH
  have hi := vals_bls r
  subst hi
  refine call_meets F.slot_list_count ⟨_, e, rfl⟩ F.entry_list_count (F.args_list_count_2 _ _) (SeqAt.list_countAt l _ n none #[] (.bool true) eTrue) ⟨e, fun y hy => eqAt_true hy, ?_⟩
  rw [List.toList_toArray, count_bls]
  exact ⟨.int _, H, I.kept (h' := s.heap) fun _ _ e => e, ⟨_, rfl⟩, q⟩
def rIndexB : V → List V → Hp → VK → Prop := fun x vs H Q => ∃ (l : Addr) (bs : List Bool) (j : Nat), x = .ref l ∧ vs = [.bl true] ∧ H l = some (.lst (bs.map V.bl)) ∧ bs[j]? = some true ∧ (∀ m, m < j → bs[m]? = some false) ∧ j < 1000 ∧ Q (.int (j : Int)) H
theorem mt_indexB : MtR X "list.index" rIndexB := by
  intro pins s σ H x vs v us Q I rx rv h
  obtain ⟨l, bs, j, rfl, rfl, hH, hj, hno, hs, q⟩ := h
  cases rx
  obtain ⟨u, rfl, ru⟩ := rv.one
  cases ru
  obtain ⟨z, its, n, r, hl, e⟩ := I.lstM hH
  have hi := vals_bls r
  subst hi
  obtain ⟨hj1, hj2⟩ := List.getElem?_eq_some_iff.mp hj
  refine call_meets F.slot_list_index ⟨_, e, rfl⟩ F.entry_list_index (F.args_list_index_2 _ _) (SeqAt.list_indexAt l _ n none #[] (.bool true) eTrue j (by simpa using hj1) (by omega) ?_ ?_) ⟨e, fun y hy => eqAt_true hy, ?_⟩
  · simp only [List.getElem_toArray, List.getElem_map, hj2]
    rfl
  · intro m hm hmj
    obtain ⟨h1, h2⟩ := List.getElem?_eq_some_iff.mp (hno m hmj)
    simp only [List.getElem_toArray, List.getElem_map, h2]
    rfl
  · exact ⟨.int _, H, I.kept (h' := s.heap) fun _ _ e => e, ⟨_, rfl⟩, q⟩
end
end L2

/-! what the blocks share, on -/
namespace Toy
open PySem L2 En
theorem rep_lv (k z : Nat) : (List.replicate k [V.int (z : Int)]).flatten = lv (List.replicate k z) := by
  unfold lv
  induction k with
  | zero => rfl
  | succ k ih => rw [List.replicate_succ, List.flatten_cons, ih, List.replicate_succ]; rfl
theorem lv_append (l m : List Nat) : lv (l ++ m) = lv l ++ lv m := List.map_append
theorem lv_nil {l : List Nat} (h : lv l = []) : l = [] := List.map_eq_nil_iff.mp h
theorem cat_all {K : PySem.W.Frag} {H : Hp} {a b : Addr} {l m : List Nat} {Q : VK} (ha : H a = some (.tup (lv l))) (hb : H b = some (.tup (lv m))) (hz : l.length + m.length ≤ 1000000)
    (h : ∀ (H1 : Hp) (g : Addr), Same H H1 → H1 g = some (.tup (lv (l ++ m))) → Q (.ref g) H1) : rCatTA K (.ref a) (.ref b) H Q := by
  refine ⟨a, b, _, _, rfl, rfl, SqT.of ha, SqT.of hb, (by rw [lv_length, lv_length]; exact le_line hz), fun e => h H b (Same.refl _) ?_, fun _ e => h H a (Same.refl _) ?_, fun _ _ p hp => h _ p (same_new hp _) ?_⟩
  · rw [lv_nil e]
    exact hb
  · rw [lv_nil e, List.append_nil]
    exact ha
  · rw [upd_same, lv_append]
theorem val_lt {l : List Nat} (h : Dig l) : val l < 65536 ^ l.length := by
  induction l with
  | nil => exact Nat.one_pos
  | cons d r ih =>
    have h1 := h.head
    have h2 := ih h.tail
    show d + 65536 * val r < 65536 ^ (r.length + 1)
    rw [Nat.pow_succ, Nat.mul_comm (65536 ^ r.length)]
    omega
theorem Nb.val {l : List Nat} {k : Nat} (h : Dig l) (hl : l.length ≤ k) : Nb ((val l : Nat) : Int) k := Nb.mono (Nb.ofNat (val_lt h)) hl
theorem dig_rep {z k : Nat} (h : z < 65536) : Dig (List.replicate k z) := fun d hd => by rw [List.eq_of_mem_replicate hd]; exact h
theorem dig_snoc {l : List Nat} {z : Nat} (h : Dig l) (hz : z < 65536) : Dig (l ++ [z]) := fun d hd => by
  rcases List.mem_append.mp hd with h1 | h1
  · exact h d h1
  · rw [List.mem_singleton.mp h1]
    exact hz
/-- one of six -/
theorem menu6V (u0 u1 u2 u3 u4 u5 : V) (x : Int) : ∃ z : V, atI [u0, u1, u2, u3, u4, u5] (x % 6) = some z ∧ (z = u0 ∨ z = u1 ∨ z = u2 ∨ z = u3 ∨ z = u4 ∨ z = u5) := by
  have h : x % 6 = 0 ∨ x % 6 = 1 ∨ x % 6 = 2 ∨ x % 6 = 3 ∨ x % 6 = 4 ∨ x % 6 = 5 := by omega
  rcases h with h | h | h | h | h | h <;> rw [h]
  · exact ⟨u0, rfl, .inl rfl⟩
  · exact ⟨u1, rfl, .inr (.inl rfl)⟩
  · exact ⟨u2, rfl, .inr (.inr (.inl rfl))⟩
  · exact ⟨u3, rfl, .inr (.inr (.inr (.inl rfl)))⟩
  · exact ⟨u4, rfl, .inr (.inr (.inr (.inr (.inl rfl))))⟩
  · exact ⟨u5, rfl, .inr (.inr (.inr (.inr (.inr rfl))))⟩
theorem Nb.modPow (x : Int) (k : Nat) : Nb (x % 2 ^ (16 * k)) k := by
  have h0 : (0 : Int) < 2 ^ (16 * k) := Int.pow_pos (by decide)
  have h1 := Int.emod_nonneg x (Int.ne_of_gt h0)
  have h2 := Int.emod_lt_of_pos x h0
  refine ⟨h1, ?_⟩
  rw [← pow16]
  have e : ((2 ^ (16 * k) : Nat) : Int) = (2 : Int) ^ (16 * k) := Int.natCast_pow 2 _
  generalize (2 ^ (16 * k) : Nat) = N at *
  omega
theorem Nb.two {n : Int} {k : Nat} (h0 : 0 ≤ n) (h1 : n < 4294967296) (hk : 2 ≤ k) : Nb n k := Nb.mono (k := k) (j := 2) ⟨h0, by omega⟩ hk
end Toy

/-! columns, products, powers, division: pure numbers -/
namespace En
theorem val_split (l : List Nat) (i : Nat) (h : i ≤ l.length) : val l = val (l.take i) + 65536 ^ i * val (l.drop i) := by
  have e := val_append (l.take i) (l.drop i)
  rw [List.take_append_drop, List.length_take, Nat.min_eq_left h] at e
  exact e
theorem val_drop1 {l : List Nat} {i d : Nat} (h : l[i]? = some d) : val (l.drop i) = d + 65536 * val (l.drop (i + 1)) := by
  obtain ⟨hi, e⟩ := List.getElem?_eq_some_iff.mp h
  rw [List.drop_eq_getElem_cons hi, e]
  rfl
/-- what goes on into place i, where the columns may hold more than a limb -/
def onAt (l : List Nat) (i : Nat) : Nat := val (l.take i) / 65536 ^ i
theorem onAt_zero (l : List Nat) : onAt l 0 = 0 := by unfold onAt; rw [List.take_zero]; exact Nat.zero_div _
theorem onAt_succ {l : List Nat} {i d : Nat} (h : l[i]? = some d) : onAt l (i + 1) = (d + onAt l i) / 65536 := by
  unfold onAt
  have hi := (List.getElem?_eq_some_iff.mp h).1
  have e : l.take (i + 1) = l.take i ++ [d] := by rw [List.take_add_one, h]; rfl
  rw [e, val_append, List.length_take, Nat.min_eq_left (Nat.le_of_lt hi), show val [d] = d from rfl, Nat.pow_succ, ← Nat.div_div_eq_div_mul, Nat.add_mul_div_left _ _ (pow_pos' i), Nat.add_comm]
theorem limbAt_cols {l : List Nat} {i d : Nat} (h : l[i]? = some d) : limbAt (val l) i = (d + onAt l i) % 65536 := by
  have hi := (List.getElem?_eq_some_iff.mp h).1
  unfold limbAt onAt
  rw [val_split l i (Nat.le_of_lt hi), Nat.add_mul_div_left _ _ (pow_pos' i), val_drop1 h]
  omega
theorem val_map_mul (l : List Nat) (d : Nat) : val (l.map (· * d)) = val l * d := by
  induction l with
  | nil => exact (Nat.zero_mul d).symm
  | cons x r ih =>
    show x * d + 65536 * val (r.map (· * d)) = (x + 65536 * val r) * d
    rw [ih, Nat.add_mul, Nat.mul_assoc]
theorem val_snoc0 (l : List Nat) : val (l ++ [0]) = val l := by
  rw [val_append]
  show val l + 65536 ^ l.length * 0 = val l
  omega
theorem val_set {l : List Nat} {i x y : Nat} (h : l[i]? = some x) : val (l.set i (x + y)) = val l + 65536 ^ i * y := by
  induction l generalizing i with
  | nil => simp at h
  | cons d r ih =>
    cases i with
    | zero =>
      simp at h
      subst h
      show d + y + 65536 * val r = d + 65536 * val r + 65536 ^ 0 * y
      omega
    | succ i =>
      have h2 : r[i]? = some x := by simpa using h
      show d + 65536 * val (r.set i (x + y)) = d + 65536 * val r + 65536 ^ (i + 1) * y
      rw [ih h2, Nat.pow_succ, Nat.mul_add, Nat.mul_comm (65536 ^ i) 65536, Nat.mul_assoc]
      omega
theorem val_rep0 (k : Nat) : val (List.replicate k 0) = 0 := by
  induction k with
  | zero => rfl
  | succ k ih =>
    rw [List.replicate_succ]
    show 0 + 65536 * val (List.replicate k 0) = 0
    omega
theorem mul_lt_len (m n : Nat) : m * n < 65536 ^ ((limbs m).length + (limbs n).length) := by
  rw [Nat.pow_add]
  exact Nat.mul_lt_mul'' (lt_pow_len m) (lt_pow_len n)
theorem mul_len (m n : Nat) : (limbs (m * n)).length ≤ (limbs m).length + (limbs n).length := limbs_len (mul_lt_len m n)
theorem mulLimb_lt {m d : Nat} (h : d < 65536) : m * d < 65536 ^ ((limbs m).length + 1) := by
  rw [Nat.pow_succ]
  exact Nat.mul_lt_mul'' (lt_pow_len m) h
theorem mulLimb_len {m d : Nat} (h : d < 65536) : (limbs (m * d)).length ≤ (limbs m).length + 1 := limbs_len (mulLimb_lt h)
theorem len_mono {m n : Nat} (h : m ≤ n) : (limbs m).length ≤ (limbs n).length := limbs_len (Nat.lt_of_le_of_lt h (lt_pow_len n))
/-- naturals of cut limbs -/
theorem take_val (n k : Nat) : val ((limbs n).take k) = n % 65536 ^ k := by
  by_cases h : k ≤ (limbs n).length
  · have e := val_split (limbs n) k h
    rw [val_limbs] at e
    have h1 : val ((limbs n).take k) < 65536 ^ k := by
      have hd := (limbs_dig n).take k
      have : ∀ l : List Nat, Dig l → val l < 65536 ^ l.length := by
        intro l
        induction l with
        | nil => intro _; exact Nat.one_pos
        | cons d r ih =>
          intro h
          have h1 := h.head
          have h2 := ih h.tail
          show d + 65536 * val r < 65536 ^ (r.length + 1)
          rw [Nat.pow_succ, Nat.mul_comm (65536 ^ r.length)]
          omega
      have h2 := this _ hd
      rw [List.length_take, Nat.min_eq_left h] at h2
      exact h2
    generalize val ((limbs n).take k) = x at e h1
    rw [e, Nat.add_mul_mod_self_left, Nat.mod_eq_of_lt h1]
  · rw [List.take_of_length_le (by omega), val_limbs, Nat.mod_eq_of_lt (Nat.lt_of_lt_of_le (lt_pow_len n) (Nat.pow_le_pow_right (by decide) (by omega)))]
theorem drop_limbs (n : Nat) : ∀ k : Nat, (limbs n).drop k = limbs (n / 65536 ^ k) := by
  intro k
  induction k generalizing n with
  | zero => rw [List.drop_zero, Nat.pow_zero, Nat.div_one]
  | succ k ih =>
    rcases Nat.eq_zero_or_pos n with h | h
    · subst h
      rw [limbs_zero, Nat.zero_div, limbs_zero]
      rfl
    · rw [limbs_pos h, List.drop_succ_cons, ih, Nat.pow_succ, Nat.div_div_eq_div_mul, Nat.mul_comm]
/-- the two highest limbs of a divisor tell how often it goes in, or one too often -/
theorem often_near {D V p : Nat} (hV : 65536 ≤ V / p) (hp : 0 < p) (hD : D < V * 65536) : D / V ≤ (D / p) / (V / p) ∧ (D / p) / (V / p) ≤ D / V + 1 := by
  have hV0 : 0 < V := Nat.lt_of_lt_of_le (by omega : 0 < V / p) (Nat.div_le_self ..)
  have a1 : V / p * p ≤ V := Nat.div_mul_le_self ..
  have a2 : V < (V / p + 1) * p := by
    have := Nat.lt_div_mul_add hp (a := V)
    rw [Nat.add_mul]
    omega
  have b1 : D / p * p ≤ D := Nat.div_mul_le_self ..
  have b2 : D < (D / p + 1) * p := by
    have := Nat.lt_div_mul_add hp (a := D)
    rw [Nat.add_mul]
    omega
  generalize hv : V / p = v at *
  generalize hd : D / p = d at *
  constructor
  · rw [Nat.le_div_iff_mul_le (by omega)]
    have h1 : D / V * V ≤ D := Nat.div_mul_le_self ..
    have h2 : D / V * v * p ≤ D := by
      rw [Nat.mul_assoc]
      exact Nat.le_trans (Nat.mul_le_mul_left _ a1) h1
    have h3 : D / V * v * p < (d + 1) * p := Nat.lt_of_le_of_lt h2 b2
    have h4 := Nat.lt_of_mul_lt_mul_right h3
    omega
  · have h1 : D < (D / V + 1) * V := by
      have := Nat.lt_div_mul_add hV0 (a := D)
      rw [Nat.add_mul]
      omega
    generalize hq : D / V = q at *
    have hq2 : q < 65536 := by
      rw [← hq]
      exact Nat.div_lt_of_lt_mul hD
    -- d*p ≤ D < (q+1) V < (q+1)(v+1)p
    have h2 : d * p < (q + 1) * (v + 1) * p := by
      refine Nat.lt_of_le_of_lt b1 (Nat.lt_of_lt_of_le h1 ?_)
      rw [Nat.mul_assoc]
      exact Nat.mul_le_mul_left _ (Nat.le_of_lt a2)
    have h3 : d < (q + 1) * (v + 1) := Nat.lt_of_mul_lt_mul_right h2
    have h4 : (q + 1) * (v + 1) = (q + 1) * v + (q + 1) := by rw [Nat.mul_add, Nat.mul_one]
    have h5 : d < (q + 2) * v := by
      have : (q + 2) * v = (q + 1) * v + v := by rw [show q + 2 = q + 1 + 1 from rfl, Nat.add_mul (q + 1) 1 v, Nat.one_mul]
      omega
    have h6 := Nat.div_lt_of_lt_mul (Nat.mul_comm (q + 2) v ▸ h5)
    omega
end En
namespace En
/-! long division -/
theorem div_pow_succ (T j : Nat) : T / 65536 ^ j = T / 65536 ^ (j + 1) * 65536 + limbAt T j := by
  have := div_step T j
  omega
/-- the digit of a quotient that a step tells -/
theorem step_digit {T V j : Nat} (hV : 0 < V) : ((T / 65536 ^ (j + 1)) % V * 65536 + limbAt T j) / V = limbAt (T / V) j := by
  have e : limbAt (T / V) j = T / 65536 ^ j / V % 65536 := by
    unfold limbAt
    rw [Nat.div_div_eq_div_mul, Nat.div_div_eq_div_mul, Nat.mul_comm]
  rw [e, div_pow_succ T j]
  have hd := limbAt_lt T j
  generalize T / 65536 ^ (j + 1) = x
  generalize limbAt T j = d at *
  have hx : x = V * (x / V) + x % V := (Nat.div_add_mod x V).symm
  have hr := Nat.mod_lt x hV
  generalize x % V = r at *
  generalize x / V = y at *
  subst hx
  have e1 : (V * y + r) * 65536 + d = (r * 65536 + d) + V * (y * 65536) := by
    rw [Nat.add_mul, Nat.mul_assoc]
    omega
  rw [e1, Nat.add_mul_div_left _ _ hV]
  have h1 : (r * 65536 + d) / V < 65536 := by
    refine Nat.div_lt_of_lt_mul ?_
    have : (r + 1) * 65536 ≤ V * 65536 := Nat.mul_le_mul_right _ hr
    omega
  generalize (r * 65536 + d) / V = w at *
  rw [Nat.add_mul_mod_self_right, Nat.mod_eq_of_lt h1]
theorem step_rest {T V j : Nat} : ((T / 65536 ^ (j + 1)) % V * 65536 + limbAt T j) % V = T / 65536 ^ j % V := by
  rw [div_pow_succ T j]
  rw [Nat.add_mod, Nat.mul_mod, Nat.mod_mod, ← Nat.mul_mod, ← Nat.add_mod]
theorem step_lt {T V j : Nat} (hV : 0 < V) : (T / 65536 ^ (j + 1)) % V * 65536 + limbAt T j < V * 65536 := by
  have hr := Nat.mod_lt (T / 65536 ^ (j + 1)) hV
  have hd := limbAt_lt T j
  have : ((T / 65536 ^ (j + 1)) % V + 1) * 65536 ≤ V * 65536 := Nat.mul_le_mul_right _ hr
  omega
/-- limbs from the highest one on -/
def highs (q L i : Nat) : List Nat := (List.range i).map fun k => limbAt q (L - 1 - k)
/-- all that is divided: what was left ahead, and the limbs -/
def allOf (R : Nat) (l : List Nat) : Nat := val l + 65536 ^ l.length * R
theorem dig_lt : ∀ {l : List Nat}, Dig l → val l < 65536 ^ l.length
  | [], _ => Nat.one_pos
  | d :: r, h => by
    have h1 := h.head
    have h2 := dig_lt h.tail
    show d + 65536 * val r < 65536 ^ (r.length + 1)
    rw [Nat.pow_succ, Nat.mul_comm (65536 ^ r.length)]
    omega
theorem allOf_top {R : Nat} {l : List Nat} (h : Dig l) : allOf R l / 65536 ^ l.length = R := by
  unfold allOf
  rw [Nat.add_mul_div_left _ _ (pow_pos' _), Nat.div_eq_of_lt (dig_lt h), Nat.zero_add]
theorem val_get {l : List Nat} {i d : Nat} (hd : Dig l) (h : l[i]? = some d) : limbAt (val l) i = d := by
  have hi := (List.getElem?_eq_some_iff.mp h).1
  have hl : d < 65536 := hd d (List.mem_of_getElem? h)
  rw [limbAt_cols h]
  have : onAt l i = 0 := by
    unfold onAt
    have h2 := dig_lt (hd.take i)
    rw [List.length_take, Nat.min_eq_left (Nat.le_of_lt hi)] at h2
    exact Nat.div_eq_of_lt h2
  omega
theorem allOf_limb {R : Nat} {l : List Nat} {i d : Nat} (hd : Dig l) (h : l[i]? = some d) : limbAt (allOf R l) i = d := by
  have hi := (List.getElem?_eq_some_iff.mp h).1
  unfold allOf limbAt
  have e : 65536 ^ l.length * R = 65536 ^ i * (65536 * (65536 ^ (l.length - 1 - i) * R)) := by
    rw [← Nat.mul_assoc, ← Nat.mul_assoc, ← Nat.pow_succ, ← Nat.pow_add]
    congr 2
    omega
  rw [e, Nat.add_mul_div_left _ _ (pow_pos' _), Nat.add_mul_mod_self_left]
  exact val_get hd h
theorem allOf_lt {R V : Nat} {l : List Nat} (hd : Dig l) (h : R < V) : allOf R l < V * 65536 ^ l.length := by
  have h1 := dig_lt hd
  have h2 : (R + 1) * 65536 ^ l.length ≤ V * 65536 ^ l.length := Nat.mul_le_mul_right _ h
  rw [Nat.add_mul, Nat.one_mul, Nat.mul_comm R] at h2
  unfold allOf
  omega
theorem allOf_cut (n k : Nat) : allOf (n / 65536 ^ k) ((limbs n).take k) = n := by
  unfold allOf
  rw [take_val, List.length_take]
  by_cases h : k ≤ (limbs n).length
  · rw [Nat.min_eq_left h]
    exact Nat.mod_add_div n _
  · have h1 := Nat.lt_of_lt_of_le (lt_pow_len n) (Nat.pow_le_pow_right (show 0 < 65536 by decide) (show (limbs n).length ≤ k by omega))
    rw [Nat.div_eq_of_lt h1, Nat.mul_zero, Nat.mod_eq_of_lt h1, Nat.add_zero]
theorem rest_lt {n V : Nat} (hV : 0 < V) : n / 65536 ^ ((limbs n).length + 1 - (limbs V).length) < V := by
  have hl : 0 < (limbs V).length := by
    rcases Nat.eq_zero_or_pos (limbs V).length with z | z
    · have := lt_pow_len V
      rw [z, Nat.pow_zero] at this
      omega
    · exact z
  have h1 : 65536 ^ ((limbs V).length - 1) ≤ V := le_of_lt_len (by omega)
  refine Nat.lt_of_lt_of_le ?_ h1
  by_cases h : (limbs V).length ≤ (limbs n).length + 1
  · refine Nat.div_lt_of_lt_mul ?_
    rw [← Nat.pow_add, show (limbs n).length + 1 - (limbs V).length + ((limbs V).length - 1) = (limbs n).length by omega]
    exact lt_pow_len n
  · refine Nat.lt_of_le_of_lt (Nat.div_le_self ..) (Nat.lt_of_lt_of_le (lt_pow_len n) (Nat.pow_le_pow_right (by decide) (by omega)))
/-- the quotients on the way to what two have in common -/
def eucl (x y : Nat) : List Nat := if h : y = 0 then [] else x / y :: eucl y (x % y)
termination_by y
decreasing_by exact Nat.mod_lt _ (Nat.pos_of_ne_zero h)
theorem eucl_zero (x : Nat) : eucl x 0 = [] := by rw [eucl]; rfl
theorem eucl_pos {x y : Nat} (h : 0 < y) : eucl x y = x / y :: eucl y (x % y) := by rw [eucl, dif_neg (by omega)]
theorem gcd_step {x y : Nat} : Nat.gcd x y = Nat.gcd y (x % y) := by
  rw [Nat.gcd_comm x y, Nat.gcd_rec y x, Nat.gcd_comm]
end En

/-! o[i] op= e of lists -/
namespace L2
open PySem PySem.Spec PyProof.Rows
section
variable {X : Cx}
theorem get_list : PGet X (rIxL X.K) := by
  intro pins s σ H x y v u Q I rx ry h
  obtain ⟨p, xs, i, z, rfl, rfl, hq, he, q⟩ := h
  cases rx
  obtain ⟨t, rfl⟩ := ry
  obtain ⟨its, r, pl, hz⟩ := I.list hq
  obtain ⟨j, h1, h2, h3, h4, h5⟩ := atI_get he
  obtain ⟨w, ew, rw'⟩ := r.get h2
  have hl := r.length
  have hn := line63
  have fin : EP X pins σ Q w s := ⟨z, H, I, rw', q⟩
  by_cases h0 : 0 ≤ i
  · have hj : i.toNat = j := by
      rw [seqIndex_of h0 h5] at h1
      exact Option.some.inj h1
    exact wpAny_getItem_list pl.isList h0 (by omega) (by rw [hj]; simpa using ew) fin
  · have hj : (i + (its.toArray.size : Int)).toNat = j := by
      rw [seqIndex_neg (by omega) h4] at h1
      rw [List.size_toArray, ← hl]
      exact Option.some.inj h1
    exact wpAny_getItem_list_neg pl.isList (by omega) (by rw [List.size_toArray] <;> omega) (by omega) (by rw [hj]; simpa using ew) fin
theorem ixN_nat {n i : Nat} (h : i < n) : ixN n (i : Int) = some i := by
  unfold ixN
  rw [if_pos (by omega), if_pos (by omega)]
  rfl
/-- reversed(a list or a tuple) -/
def iRevB (K : PySem.W.Frag) (ta : TA) : TI := fun σ H R => ta σ H fun vs H1 => ∃ a xs, vs = [.ref a] ∧ ((SqL K H1 a xs ∧ R (ItRl K a xs) H1) ∨ (SqT K H1 a xs ∧ R (ItRv K a xs) H1))
theorem pi_revB {a tg : Expr} {ta : TA} {p pos : Pos} (hg : Gl X "reversed") (hm : X.mg "reversed" = none) (ha : PA X [a] ta) (hs : starEach [a] X.env = [(false, eval a X.env)] := by rfl) : PI X tg (.Call (.Name "reversed" p) [a] [] pos) (iRevB X.K ta) := by
  intro pins s σ H R I h
  refine Call_ (ld_blt I hg hm boot_reversed (PyProof.Rows.callWith_type1 (thn (ha pos pins s σ H _ I h) fun us s1 ⟨vs, H1, I1, r1, q1⟩ => ?_) hs rfl))
  obtain ⟨b, xs, e, q⟩ := q1
  subst e
  cases r1 with
  | cons r rr =>
    cases rr
    cases r
    rcases q with ⟨hS, q⟩ | ⟨hS, q⟩
    · obtain ⟨its, rv, p, hz⟩ := I1.list hS
      have hl := rv.length
      have hsz : its.toArray.size = xs.length := by rw [List.size_toArray]; exact hl.symm
      have hb : b < s1.heap.objs.size := (by obtain ⟨o, ho, _⟩ := p.isList; exact Heap.lt_size ho)
      refine call_revL p fun tk => ?_
      rw [hsz]
      have I2 : Inv X pins σ H1 { s1 with heap := s1.heap.push (revL b ((xs.length : Int) - 1)), toks := tk } := I1.kept fun b o e => Heap.get?_push_of_some _ e
      have hit : IsRevL (s1.heap.push (revL b ((xs.length : Int) - 1))) s1.heap.objs.size b ((xs.length : Int) - 1) := Heap.get?_push_size _ rfl
      refine iter_revL (s := { s1 with heap := s1.heap.push (revL b ((xs.length : Int) - 1)), toks := tk }) hit ?_
      refine ⟨s1.heap.objs.size, [s1.heap.objs.size], _, _, H1, rfl, I2, turn_revL (xs := xs) b _ (Nat.ne_of_lt hb), ?_, fun c hc => ?_, q⟩
      · show IsRevL _ _ _ ((xs.length : Int) - 1 - ((0 : Nat) : Int))
        rw [show (xs.length : Int) - 1 - ((0 : Nat) : Int) = (xs.length : Int) - 1 by omega]
        exact hit
      · have e : c = s1.heap.objs.size := by simpa using hc
        subst e
        exact I1.fpOk (Nat.le_refl _) (I1.hok.fresh (Nat.le_refl _))
    · obtain ⟨its, rv, p, hz⟩ := I1.tuple hS
      have hl := rv.length
      have hsz : its.toArray.size = xs.length := by rw [List.size_toArray]; exact hl.symm
      have hb : b < s1.heap.objs.size := p.lt
      refine call_revT p (by rw [hsz]; exact hz) fun tk => ?_
      rw [hsz]
      have I2 : Inv X pins σ H1 { s1 with heap := s1.heap.push (revT b ((xs.length : Int) - 1)), toks := tk } := I1.kept fun b o e => Heap.get?_push_of_some _ e
      have hit : IsRevT (s1.heap.push (revT b ((xs.length : Int) - 1))) s1.heap.objs.size b ((xs.length : Int) - 1) := Heap.get?_push_size _ rfl
      refine iter_revT (s := { s1 with heap := s1.heap.push (revT b ((xs.length : Int) - 1)), toks := tk }) hit ?_
      refine ⟨s1.heap.objs.size, [s1.heap.objs.size], _, _, H1, rfl, I2, turn_revT (xs := xs) b _ (Nat.ne_of_lt hb), ?_, fun c hc => ?_, q⟩
      · show IsRevT _ _ _ ((xs.length : Int) - 1 - ((0 : Nat) : Int))
        rw [show (xs.length : Int) - 1 - ((0 : Nat) : Int) = (xs.length : Int) - 1 by omega]
        exact hit
      · have e : c = s1.heap.objs.size := by simpa using hc
        subst e
        exact I1.fpOk (Nat.le_refl _) (I1.hok.fresh (Nat.le_refl _))
/-- the turns over a list or a tuple from behind, where nothing is made on the way -/
theorem for_revB {K : PySem.W.Frag} {a : Addr} {xs : List V} {g : TG} {tb : TS} {D : Ends} {σ : St} {H : Hp} (Pv : Nat → St → Hp → Prop) (hA : SqL K H a xs ∨ SqT K H a xs) (h0 : Pv 0 σ H) (hH : ∀ i σ H1, Pv i σ H1 → H1 = H)
    (hs : ∀ i y σ H, i < xs.length → xs[xs.length - 1 - i]? = some y → Pv i σ H → g y σ H fun σ2 H2 => tb { D with nx := Pv (i + 1), ct := Pv (i + 1), bk := D.nx } σ2 H2) (hd : ∀ σ H, Pv xs.length σ H → D.nx σ H) :
    (SqL K H a xs ∧ ∃ W : Nat → Nat → St → Hp → Prop, (∃ m, W 0 m σ H) ∧ ∀ i m σ H, W i m σ H →
      ((ItRl K a xs).stop i H ∧ D.nx σ H) ∨ ((ItRl K a xs).go i H ∧ ∃ N : St → Hp → Prop, (∀ σ' H', N σ' H' → ∃ m', m' < m ∧ W (i + 1) m' σ' H') ∧ ∀ x H', (ItRl K a xs).yld i H x H' → g x σ H' fun σ2 H2 => tb { D with nx := N, ct := N, bk := D.nx } σ2 H2)) ∨
    (SqT K H a xs ∧ ∃ W : Nat → Nat → St → Hp → Prop, (∃ m, W 0 m σ H) ∧ ∀ i m σ H, W i m σ H →
      ((ItRv K a xs).stop i H ∧ D.nx σ H) ∨ ((ItRv K a xs).go i H ∧ ∃ N : St → Hp → Prop, (∀ σ' H', N σ' H' → ∃ m', m' < m ∧ W (i + 1) m' σ' H') ∧ ∀ x H', (ItRv K a xs).yld i H x H' → g x σ H' fun σ2 H2 => tb { D with nx := N, ct := N, bk := D.nx } σ2 H2)) :=
  hA.imp (fun h => ⟨h, for_revL Pv h0 (fun i σ H1 _ p => by rw [hH i σ H1 p]; exact h) hs hd⟩) (fun h => ⟨h, for_revT Pv h0 (fun i σ H1 _ p => by rw [hH i σ H1 p]; exact h) hs hd⟩)
end
end L2

/-! what the blocks share, on -/
namespace Toy
open PySem L2 En
/-- t[k:] of a tuple of limbs -/
theorem sl_from {K : PySem.W.Frag} {H : Hp} {a : Addr} {l : List Nat} {k : Nat} {Q : VK} (ha : H a = some (.tup (lv l)))
    (h : ∀ (H1 : Hp) (g : Addr), Same H H1 → H1 g = some (.tup (lv (l.drop k))) → Q (.ref g) H1) : rSlTA K (.ref a) (some (k : Int)) none H Q := by
  have ll := lv_length l
  refine ⟨a, _, rfl, SqT.of ha, fun e _ => h H a (Same.refl _) ?_, fun _ p hp => h _ p (same_new hp _) ?_⟩
  · rw [HT.sIx_nat, ll] at e
    have : l.drop k = l := by
      rcases Nat.eq_zero_or_pos k with z | z
      · rw [z, List.drop_zero]
      · have e2 : l = [] := List.length_eq_zero_iff.mp (by omega)
        rw [e2, List.drop_nil]
    rw [this]
    exact ha
  · rw [upd_same]
    unfold cutV
    rw [HT.sIx_nat, HT.sIx_none, ll]
    by_cases hk : k ≤ l.length
    · rw [Nat.min_eq_left hk, List.take_of_length_le (by rw [List.length_drop, ll]; exact Nat.le_refl _)]
      unfold lv
      rw [List.map_drop]
    · rw [Nat.min_eq_right (by omega), List.drop_of_length_le (by rw [ll]; exact Nat.le_refl _), List.drop_of_length_le (l := l) (by omega), List.take_nil]
      rfl
/-- t[:k] of a tuple of limbs -/
theorem sl_to {K : PySem.W.Frag} {H : Hp} {a : Addr} {l : List Nat} {k : Nat} {Q : VK} (ha : H a = some (.tup (lv l)))
    (h : ∀ (H1 : Hp) (g : Addr), Same H H1 → H1 g = some (.tup (lv (l.take k))) → Q (.ref g) H1) : rSlTA K (.ref a) none (some (k : Int)) H Q := by
  have ll := lv_length l
  refine ⟨a, _, rfl, SqT.of ha, fun _ e => h H a (Same.refl _) ?_, fun _ p hp => h _ p (same_new hp _) ?_⟩
  · rw [HT.sIx_nat, ll] at e
    rw [List.take_of_length_le (by omega)]
    exact ha
  · rw [upd_same]
    unfold cutV
    rw [HT.sIx_nat, HT.sIx_none, ll, List.drop_zero, Nat.sub_zero]
    unfold lv
    rw [← List.map_take, List.take_eq_take_min (i := k)]
/-- one of several -/
theorem menuV (xs : List V) (x : Int) (h : 0 < xs.length) : ∃ z : V, atI xs (x % (xs.length : Int)) = some z ∧ z ∈ xs := by
  have h0 := Int.emod_nonneg x (show (xs.length : Int) ≠ 0 by omega)
  have h1 := Int.emod_lt_of_pos x (show (0 : Int) < (xs.length : Int) by omega)
  obtain ⟨j, e⟩ : ∃ j : Nat, x % (xs.length : Int) = (j : Int) := ⟨(x % (xs.length : Int)).toNat, by omega⟩
  rw [e] at h1 ⊢
  have hl : j < xs.length := by omega
  exact ⟨xs[j], atI_nat (List.getElem?_eq_getElem hl), List.getElem_mem hl⟩
/-- a list of naturals made here -/
def NatsH (H : Hp) (a : Addr) (ns : List Nat) : Prop := ∃ rs : List Addr, H a = some (.lst (rs.map V.ref)) ∧ rs.length = ns.length ∧ ∀ (i : Nat) r n, rs[i]? = some r → ns[i]? = some n → H r = some (.tup (lv (limbs n)))
/-- one natural more -/
theorem NatsH.snoc {H H2 : Hp} {a r : Addr} {rs : List Addr} {ns : List Nat} {n : Nat} (hl : rs.length = ns.length) (h : ∀ (i : Nat) r n, rs[i]? = some r → ns[i]? = some n → H r = some (.tup (lv (limbs n)))) (ha : H a = some (.lst (rs.map V.ref)))
    (s : Same H H2) (hr : H2 r = some (.tup (lv (limbs n)))) : NatsH (upd H2 a (.lst (rs.map V.ref ++ [.ref r]))) a (ns ++ [n]) := by
  have hne : ∀ (c : Addr) o, H2 c = some (.tup o) → upd H2 a (.lst (rs.map V.ref ++ [.ref r])) c = some (.tup o) := fun c o e => by
    rw [upd_ne (ne_of e (s _ _ ha) (fun z => by cases z))]
    exact e
  refine ⟨rs ++ [r], by rw [upd_same, List.map_append]; rfl, by rw [List.length_append, List.length_append, hl]; rfl, fun j r' z' h1 h2 => ?_⟩
  by_cases hj : j < rs.length
  · rw [List.getElem?_append_left hj] at h1
    rw [List.getElem?_append_left (by omega)] at h2
    exact hne _ _ (s _ _ (h j r' z' h1 h2))
  · have hji : j = rs.length := by
      have := (List.getElem?_eq_some_iff.mp h1).1
      rw [List.length_append] at this
      simp at this
      omega
    subst hji
    rw [List.getElem?_concat_length] at h1
    cases h1
    rw [hl, List.getElem?_concat_length] at h2
    cases h2
    exact hne _ _ hr
/-- the rows of a product -/
def rows (m n k : Nat) : List Nat := (List.range k).map fun i => m * limbAt n i * 65536 ^ i
/-- a list of steps: how often, and what is left -/
def StepsH (H : Hp) (a : Addr) (n : Nat) (f g : Nat → Nat) : Prop := ∃ ts : List Addr, H a = some (.lst (ts.map V.ref)) ∧ ts.length = n ∧ ∀ (i : Nat) t, ts[i]? = some t → ∃ r, H t = some (.tup [.int ((f i : Nat) : Int), .ref r]) ∧ H r = some (.tup (lv (limbs (g i))))
theorem StepsH.snoc {H H2 : Hp} {a t r : Addr} {n : Nat} {f g : Nat → Nat} {ts : List Addr} (hl : ts.length = n) (h : ∀ (i : Nat) t, ts[i]? = some t → ∃ r, H t = some (.tup [.int ((f i : Nat) : Int), .ref r]) ∧ H r = some (.tup (lv (limbs (g i))))) (ha : H a = some (.lst (ts.map V.ref)))
    (s : Same H H2) (ht : H2 t = some (.tup [.int ((f n : Nat) : Int), .ref r])) (hr : H2 r = some (.tup (lv (limbs (g n))))) : StepsH (upd H2 a (.lst (ts.map V.ref ++ [.ref t]))) a (n + 1) f g := by
  have hne : ∀ (c : Addr) o, H2 c = some (.tup o) → upd H2 a (.lst (ts.map V.ref ++ [.ref t])) c = some (.tup o) := fun c o e => by
    rw [upd_ne (ne_of e (s _ _ ha) (fun z => by cases z))]
    exact e
  refine ⟨ts ++ [t], by rw [upd_same, List.map_append]; rfl, by rw [List.length_append, hl]; rfl, fun j t' h1 => ?_⟩
  by_cases hj : j < ts.length
  · rw [List.getElem?_append_left hj] at h1
    obtain ⟨r', g1, g2⟩ := h j t' h1
    exact ⟨r', hne _ _ (s _ _ g1), hne _ _ (s _ _ g2)⟩
  · have hji : j = ts.length := by
      have := (List.getElem?_eq_some_iff.mp h1).1
      rw [List.length_append] at this
      simp at this
      omega
    subst hji
    rw [List.getElem?_concat_length] at h1
    cases h1
    rw [hl]
    exact ⟨r, hne _ _ ht, hne _ _ hr⟩
theorem len_pos {n : Nat} (h : 0 < n) : 0 < (limbs n).length := by rw [limbs_pos h]; exact Nat.succ_pos _
end Toy

/-! x[::-1] of tuples and lists -/
namespace HT
open PySem PySem.Spec PyProof.Rows
section
variable {prog : Program} {w : World} {A : Around} {E : Value → Shared → Prop} {s : Shared}
end
end HT
namespace L2
open PySem PySem.Spec PyProof.Rows
section
variable {X : Cx} {e st : Expr} {te tk : TE} {pos p2 : Pos}
/-- what x[::-1] is, by values -/
def SlRev (X : Cx) (r : V → Hp → VK → Prop) : Prop :=
  ∀ (pins : List (Addr × Obj)) (s : Shared) (σ : St) (H : Hp) (x : V) (v vk : Value) (sl : Addr) (Q : VK), Inv X pins σ H s → RelV x v → s.heap.IsSliceOf sl .none .none vk → IsPart vk (some (-1)) → r x H Q →
    ∃ T id, typeLookup (.type T) "__getitem__" = pure (some (.builtin id)) ∧ s.TypeIs v T ∧ wpAny (model X.prog X.w) X.A (getItem v (.ref sl)) (EP X pins σ Q) X.xe s
def tSlRev (r : V → Hp → VK → Prop) (te tk : TE) : TE := fun σ H Q => te σ H fun x H1 => tk σ H1 fun k H2 => k = .int (-1) ∧ r x H2 Q
def rRevT (K : PySem.W.Frag) : V → Hp → VK → Prop := fun x H Q => ∃ a xs, x = .ref a ∧ SqT K H a xs ∧ ∀ p, H p = none → Q (.ref p) (upd H p (.tup xs.reverse))
def rRevL (K : PySem.W.Frag) : V → Hp → VK → Prop := fun x H Q => ∃ a xs, x = .ref a ∧ SqL K H a xs ∧ ∀ p, H p = none → Q (.ref p) (upd H p (.lst xs.reverse))
/-- a row of texts, as written -/
inductive StrEs : List Expr → List Str → Prop where
  | nil : StrEs [] []
  | cons {x : Str} {j : Nat} {p : Pos} {es : List Expr} {ss : List Str} (h : StrEs es ss) : StrEs (.Constant (.str x) j p :: es) (x :: ss)
theorem pa_strs {es : List Expr} {ss : List Str} (h : StrEs es ss) : PA X es (fun _ H Q => Q (ss.map V.str) H) := by
  induction h with
  | nil => exact pa_nil
  | cons h ih => exact pa_cons pe_str ih (by rfl)
end
end L2

/-! a call of a def that a local name holds -/
namespace L2
open PySem PySem.Spec PyProof.Rows
/-- the def at f, as it is called -/
def CalV (P : Program) (w : World) (K : PySem.W.Frag) (mg : Str → Option Value) (base : Heap) (k : Nat) (f : Addr) (ps : List Str) (sp : Sp) : Prop :=
  ∃ fd, FnOk P w K mg base (CX1 P w) k f fd ps sp ∧ Binds K fd ps [] ∧ PySem.W.keepIn K (.ref f) = true
section
variable {X : Cx} {k i : Nat} {f : Addr} {ps : List Str} {sp : Sp} {x : Str} {p pos : Pos} {e : Expr} {es : List Expr} {t : TA} {E : St → XK}
def tCallV (i : Nat) (f : Addr) (sp : Sp) (E : St → XK) (t : TA) : TE := fun σ H Q => σ[i]? = some (some (.ref f)) ∧ tCallS sp [] E t σ H Q
end
theorem IxR.k {X : Cx} {K : PySem.W.Frag} {r : PySem.W.Frag → R2} (hK : X.K = K) (h : IxR X (r X.K)) : IxR X (r K) := hK ▸ h
/-- isinstance(an exception, a class), by values -/
abbrev rIsX (K : PySem.W.Frag) : List V → Hp → VK → Prop := fun xs H Q => ∃ (ea C : Addr) (x : Str) (y : V) (c : Value) (b : Bool), xs = [.ref ea, y] ∧ H ea = some (isX ea C) ∧ Xc K x C ∧ (∀ u, RelV y u → u = c) ∧ PySem.W.kitOne K (.ref C) c = some b ∧ Q (.bl b) H
/-- statements, not to be looked into: a long row of texts is slow to look into -/
@[irreducible] def PSsI (X : Cx) (ss : List Stmt) (t : TS) : Prop := PSs X ss t
theorem PSsI.mk {X : Cx} {ss : List Stmt} {t : TS} (h : PSs X ss t) : PSsI X ss t := by
  unfold PSsI
  exact h
theorem PSsI.out {X : Cx} {ss : List Stmt} {t : TS} (h : PSsI X ss t) : PSs X ss t := by
  unfold PSsI at h
  exact h
theorem pssI_cons {X : Cx} {st : Stmt} {sts : List Stmt} {t u : TS} (h : PS X st t) (r : PSsI X sts u) : PSsI X (st :: sts) (tSeq t u) := PSsI.mk (pss_cons h r.out)
/-- name = [a row of texts] -/
theorem pssI_strs {X : Cx} {i : Nat} {x : Str} {es : List Expr} {ss : List Str} {sts : List Stmt} {u : TS} {pos pos' p2 : Pos} (hN : X.N.Nodup) (hi : X.N[i]? = some x) (hx : Loc X.env.scope x) (h : StrEs es ss) (r : PSsI X sts u)
    (hf : X.fn x = true ∨ X.env.scope.names.lookup x = some .local := by first | exact .inl rfl | exact .inr rfl | assumption) :
    PSsI X (.Assign [.Name x pos'] (.List es p2) pos :: sts) (tSeq (tAsg (tLst fun _ H Q => Q (ss.map V.str) H) (gName i)) u) :=
  PSsI.mk (pss_cons (ps_set hN hi hx (pe_lst (pa_strs h)) rfl hf) r.out)
end L2

/-! lambdas that keep a name of the def that makes them: the base grows to the heap as it stands -/
namespace L2
open PySem PySem.Spec PyProof.Rows
/-- what is to be hidden: what is tracked, and the frames -/
def rebH (H : Hp) (fs : List Addr) : Hp := fun b => if b ∈ fs then some (.own 0) else H b
/-- the heap as it stands, without these -/
def reb (s : Shared) (H : Hp) (outer : List Env) : Heap := hidT s.heap (rebH H (frs outer))
section
variable {P : Program} {w : World} {K : PySem.W.Frag} {mg : Str → Option Value} {base : Heap} {A : Around} {outer : List Env} {s : Shared} {H : Hp} {b : Addr} {o : Obj}
end
/-! ### the objects that a lambda makes -/
/-- a code object, by its name -/
def codeO (c : Addr) (q : Str) : HO := .ext fun h => h.CodeRec (.ref c) q
/-- a function object -/
def funO (f : Addr) (fd : FuncData) : HO := .ext fun h => h.get? f = some { cls := .type "function", data := .func fd }
/-- the frame of a lambda with a name kept at cc -/
abbrev lamCx (P : Program) (w : World) (K : PySem.W.Frag) (mg : Str → Option Value) (base : Heap) (N : List Str) (qual : Str) (scope : Scope) (f : Addr) (cd : Value) (cl : List (Str × Addr)) (A : Around) (outer : List Env) (s : Shared) (H : Hp) : Cx where
  prog := P
  w := w
  K := K
  mg := mg
  base := base
  A := A.deeper (PySem.W.envX qual scope s.heap.objs.size f cd cl)
  N := N
  s₀ := s
  H₀ := H
  env := PySem.W.envX qual scope s.heap.objs.size f cd cl
  outer := outer
  stack := PySem.W.envX qual scope s.heap.objs.size f cd cl :: outer
  ex := []
  calm := true
  fn := fun _ => false
  pn := []
  xe := fun _ _ => False
/-- the names of the lambda: two of its own, one that it keeps -/
structure LamScope (x1 x2 x3 : Str) (scope : Scope) : Prop where
  kind : scope.kind = .function
  co : scope.isCoroutine = false
  gen : scope.isGenerator = false
  k1 : scope.names.lookup x1 = some .local
  k2 : scope.names.lookup x2 = some .local
  k3 : scope.names.lookup x3 = some .free
  nocell : ∀ y ∈ scope.names, y.2 ≠ .cell
  one : ∀ y ∈ scope.names, y.2 = .free → y.1 = x3
  ne : x1 ≠ x2
section
variable {P : Program} {w : World} {K : PySem.W.Frag} {mg : Str → Option Value} {base : Heap} {A : Around} {outer : List Env} {s : Shared} {H : Hp} {x1 x2 x3 qual : Str} {scope : Scope} {f cc : Addr} {cd : Value}
end
/-! ### making one -/
/-- a code table with nothing in it, or with the lambda's code object -/
def Tab (H : Hp) (P : Addr) (pos : Pos) (q : Str) : Prop := ∃ ps, H P = some (.tbl ps) ∧ (ps = #[] ∨ ∃ c', ps = #[rawInt pos.line, rawInt pos.col, .ref c'] ∧ H c' = some (codeO c' q))
def tLam (P : Addr) (pos : Pos) (q : Str) (params : Arguments) (body : Expr) (scope : Scope) (cl : List (Str × Addr)) : TE := fun _ H Q => Tab H P pos q ∧ ∀ (f c' : Addr) (pm ctv : Value) (H2 : Hp), H f = none → (∀ b o, b ≠ P → H b = some o → H2 b = some o) →
  H2 P = some (.tbl #[rawInt pos.line, rawInt pos.col, .ref c']) → H2 c' = some (codeO c' q) → H2 f = some (funO f (PySem.W.kla_fn "<lambda>" q params body scope cl pm (.ref c') ctv)) → Q (.ref f) H2
section
variable {X : Cx}
/-- what is known of a base that has grown -/
def RbOk (X : Cx) (P : Addr) (σ : St) (base' : Heap) : Prop := base'.BuiltinsAt X.mg P ∧ ∀ (i : Nat) (x : Str) (v : V) (cc : Addr), X.N[i]? = some x → σ[i]? = some (some v) → X.env.scope.names.lookup x = some .cell → X.env.cells.lookup x = some cc → ∃ u, RelV v u ∧ base'.IsCell cc (some u)
def tCallR (X : Cx) (P : Addr) (spB : Heap → Sp) (E : St → XK) (t : TA) : TE := fun σ H Q => t σ H fun vs H1 => ∀ base', RbOk X P σ base' → spB base' vs H1 Q (E σ)
end
/-! ### the law's call where a code table is tracked -/
/-! ### calling a lambda that a local name holds; defs by their code; keywords -/
def CalF (P : Program) (w : World) (K : PySem.W.Frag) (mg : Str → Option Value) (base : Heap) (k : Nat) (f : Addr) (ps : List Str) (sp : Sp) : Prop :=
  ∃ fd, FnOk P w K mg base (CX1 P w) k f fd ps sp ∧ Binds K fd ps [] ∧ ∀ vs H Q E, sp vs H Q E → H f = some (funO f fd)
section
variable {X : Cx} {k i : Nat} {f : Addr} {ps : List Str} {sp : Sp} {x : Str} {p pos : Pos} {e : Expr} {es : List Expr} {t : TA} {E : St → XK}
end
section
variable {P : Program} {w : World} {K : PySem.W.Frag} {mg : Str → Option Value} {base : Heap}
/-- a def that may be called by its name, the last parameter by its keyword -/
structure CalK (P : Program) (w : World) (K : PySem.W.Frag) (mg : Str → Option Value) (base : Heap) (k : Nat) (x : Str) (ps ks : List Str) (g : List Value → List Value → List Value) (gV : List V → List V → List V) (sp : Sp) : Prop where
  ex : ∃ f fd, FnOk P w K mg base (CX1 P w) k f fd ps sp ∧ KBinds K fd ps ks g gV ∧ PySem.W.keepIn K (.ref f) = true ∧ mg x = some (.ref f)
end
section
variable {X : Cx} {k : Nat} {ps ks : List Str} {sp : Sp} {x : Str} {p pos : Pos} {e : Expr} {es : List Expr} {kws : List Keyword} {t tk : TA} {E : St → XK} {g : List Value → List Value → List Value} {gV : List V → List V → List V}
def tCallKS (sp : Sp) (gV : List V → List V → List V) (E : St → XK) (t tk : TA) : TE := fun σ H Q => t σ H fun vs H1 => tk σ H1 fun zs H2 => sp (gV vs zs) H2 Q (E σ)
end
end L2

/-! how deep the splitting of products goes -/
namespace En
/-- how great the two may be, by how deep the splitting may still go -/
def bnd : Nat → Nat
  | 0 => 65536
  | 1 => 65537
  | 2 => 131072
  | 3 => 65536 ^ 2
  | 4 => 65536 ^ 2 + 1
  | 5 => 2 * 65536 ^ 2
  | 6 => 2 * 65536 ^ 3
  | 7 => 2 * 65536 ^ 4
  | 8 => 2 * 65536 ^ 7
  | 9 => 2 * 65536 ^ 12
  | 10 => 2 * 65536 ^ 22
  | _ => 65536 ^ 44
end En

/-! roots: the step of Newton, and what the highest bits tell -/
namespace En
/-- Newton's step -/
def nextG (N k g : Nat) : Nat := (g * (k - 1) + N / g ^ (k - 1)) / k
end En
namespace En
theorem limbs_1 : limbs 1 = [1] := by rw [limbs_pos (by decide), show 1 / 65536 = 0 from rfl, limbs_zero]
theorem len_mod {x n : Nat} (h : 0 < n) : (limbs (x % n)).length ≤ (limbs n).length := len_mono (Nat.le_of_lt (Nat.mod_lt _ h))
end En
namespace En
end En

/-! wholes: sign and size -/
namespace En
theorem sign_eq (i : Int) : i.sign = if i < 0 then -1 else if i = 0 then 0 else 1 := by
  rcases Int.lt_trichotomy i 0 with h | h | h
  · rw [if_pos h, Int.sign_eq_neg_one_of_neg h]
  · rw [if_neg (by omega), if_pos h, h]
    rfl
  · rw [if_neg (by omega), if_neg (by omega), Int.sign_eq_one_of_pos h]
theorem sign_bd (i : Int) : -1 ≤ i.sign ∧ i.sign ≤ 1 := by
  rw [sign_eq]
  split
  · decide
  · split <;> decide
theorem signed_of {s : Int} {n : Nat} (h0 : 0 < n) (h : s = 1 ∨ s = -1) : (s * (n : Int)).sign = s ∧ (s * (n : Int)).natAbs = n := by
  rcases h with rfl | rfl
  · rw [Int.one_mul]
    exact ⟨Int.sign_eq_one_of_pos (by omega), by omega⟩
  · exact ⟨Int.sign_eq_neg_one_of_neg (by omega), by omega⟩
/-- which of two is greater -/
def cmpI (i j : Int) : Int := if i < j then -1 else if j < i then 1 else 0
theorem cmpI_sign {i j : Int} (h : i.sign ≠ j.sign) : cmpI i j = if j.sign < i.sign then 1 else -1 := by
  unfold cmpI
  rw [sign_eq, sign_eq] at *
  repeat' split at h
  all_goals (repeat' split) <;> first | rfl | omega
theorem cmpI_size {i j : Int} (h : i.sign = j.sign) : i.sign * cmp i.natAbs j.natAbs = cmpI i j := by
  unfold cmpI cmp
  rw [sign_eq, sign_eq] at *
  repeat' split at h
  all_goals (repeat' split) <;> first | rfl | omega
theorem cmpI_due (i j : Int) : cmpI i j = (if j < i then 1 else 0) - (if i < j then 1 else 0) := by unfold cmpI; (repeat' split) <;> omega
theorem add_like {i j : Int} (h : i.sign = j.sign) : i.sign * ((i.natAbs + j.natAbs : Nat) : Int) = i + j ∧ (0 < i.natAbs + j.natAbs → i.sign = 1 ∨ i.sign = -1) := by
  rw [sign_eq, sign_eq] at *
  repeat' split at h
  all_goals (repeat' split) <;> omega
theorem add_less {i j : Int} (h : i.sign ≠ j.sign) (hl : i.natAbs < j.natAbs) : j.sign * ((j.natAbs - i.natAbs : Nat) : Int) = i + j ∧ (j.sign = 1 ∨ j.sign = -1) := by
  rw [sign_eq, sign_eq] at *
  repeat' split at h
  all_goals (repeat' split) <;> omega
theorem add_more {i j : Int} (h : i.sign ≠ j.sign) (hl : ¬ i.natAbs < j.natAbs) : i.sign * ((i.natAbs - j.natAbs : Nat) : Int) = i + j ∧ (i.sign = 1 ∨ i.sign = -1) := by
  rw [sign_eq, sign_eq] at *
  repeat' split at h
  all_goals (repeat' split) <;> omega
theorem abs_nat (i : Int) : (if i < 0 then -i else i) = ((i.natAbs : Nat) : Int) := by split <;> omega
theorem len_abs_mul {i j : Int} : (limbs (i * j).natAbs).length ≤ (limbs i.natAbs).length + (limbs j.natAbs).length := by rw [Int.natAbs_mul]; exact mul_len _ _
end En

/-! bits turned, within so many -/
namespace En
/-- the lowest bits of a whole -/
def tc (W : Nat) (i : Int) : Nat := if i < 0 then W - 1 - (-1 - i).toNat else i.toNat
end En

/-! bits of wholes by the lowest bits of both -/
namespace En
open PySem
/-- what a way to join naturals does to wholes -/
def Joins (op : Nat → Nat → Nat) (opI : Int → Int → Int) : Prop := ∀ (k : Nat) (i j : Int), i.natAbs < 65536 ^ k → j.natAbs < 65536 ^ k →
  op (tc (65536 ^ (k + 1)) i) (tc (65536 ^ (k + 1)) j) < 65536 ^ (k + 1) ∧
  (op (tc (65536 ^ (k + 1)) i) (tc (65536 ^ (k + 1)) j) < 65536 ^ k → opI i j = ((op (tc (65536 ^ (k + 1)) i) (tc (65536 ^ (k + 1)) j) : Nat) : Int)) ∧
  (65536 ^ k ≤ op (tc (65536 ^ (k + 1)) i) (tc (65536 ^ (k + 1)) j) → opI i j = ((op (tc (65536 ^ (k + 1)) i) (tc (65536 ^ (k + 1)) j) : Nat) : Int) - ((65536 ^ (k + 1) : Nat) : Int))
end En

/-! a tuple times an int -/
namespace L2
open PySem PySem.Spec PyProof.Rows
section
variable {prog : Program} {w : World} {A : Around} {E : Value → Shared → Prop} {s : Shared}
end
section
variable {X : Cx}
/-- t * k, k from one on: by one the same object -/
def rRepT (K : PySem.W.Frag) : R2 := fun x y H Q => ∃ a xs k, x = .ref a ∧ y = .int k ∧ SqT K H a xs ∧ xs ≠ [] ∧ 1 ≤ k ∧ k < 2 ^ 40 ∧ xs.length * k.toNat ≤ sizeLine ∧
  (k = 1 → Q (.ref a) H) ∧ (k ≠ 1 → ∀ p, H p = none → Q (.ref p) (upd H p (.tup (List.replicate k.toNat xs).flatten)))
end
end L2

/-! wholes in the heap -/
namespace Toy
open PySem L2 En
theorem iteND {c A B : Prop} [Decidable c] (h1 : ¬ c → A) (h2 : c → B) : if (!decide c) = true then A else B := by
  by_cases h : c
  · rw [decide_eq_true h]
    exact iteF (h2 h)
  · exact iteNT h (h1 h)
theorem vi {x y : Int} (h : V.int x = V.int y) : x = y := by injection h
theorem vn {x y : Int} (h : ¬ V.int x = V.int y) : x ≠ y := fun z => h (by rw [z])
/-- at a stands the whole of i -/
def WhH (H : Hp) (a : Addr) (i : Int) : Prop := ∃ r, H a = some (.tup [.int i.sign, .ref r]) ∧ H r = some (.tup (lv (limbs i.natAbs)))
theorem WhH.same {H H' : Hp} {a : Addr} {i : Int} (h : WhH H a i) (s : Same H H') : WhH H' a i := let ⟨r, h1, h2⟩ := h; ⟨r, s _ _ h1, s _ _ h2⟩
theorem WhH.new {H : Hp} {t r : Addr} {i s : Int} {n : Nat} (ht : H t = none) (hr : H r = some (.tup (lv (limbs n)))) (hs : i.sign = s) (hn : i.natAbs = n) : WhH (upd H t (.tup [.int s, .ref r])) t i :=
  ⟨r, by rw [upd_same, hs], by rw [hn]; exact same_new ht _ _ _ hr⟩
/-- a whole as data -/
def dW (i : Int) : PyData := .tuple [.int i.sign, .tuple (di ((limbs i.natAbs).map fun d => ((d : Nat) : Int)))]
end Toy
namespace Toy
open PySem L2 En
theorem mulOkZ {x y : Int} {j k : Nat} (hx : x.natAbs < 65536 ^ j) (hy : y.natAbs < 65536 ^ k) (hj : j ≤ 60000) (hk : k ≤ 60000) : CMulB x y :=
  IntMulOk.of_bits (Nat.le_trans (PySem.intBits_le_iff.mpr (by rw [pow16]; exact hx)) (show 16 * j ≤ _ by omega)) (Nat.le_trans (PySem.intBits_le_iff.mpr (by rw [pow16]; exact hy)) (show 16 * k ≤ _ by omega))
theorem up_lt {x j k : Nat} (h : x < 65536 ^ j) (hk : j ≤ k) : x < 65536 ^ k := Nat.lt_of_lt_of_le h (Nat.pow_le_pow_right (by decide) hk)
theorem p_succ (k : Nat) : 65536 ^ (k + 1) = 65536 ^ k * 65536 := Nat.pow_succ ..
end Toy

/-! quotients of wholes, rounded by a way -/
namespace En
theorem fdiv_pp (a b : Nat) : Int.fdiv (a : Int) (b : Int) = ((a / b : Nat) : Int) := by
  rw [Int.fdiv_eq_ediv_of_nonneg _ (by omega)]
  rfl
theorem fdiv_np {a b : Nat} (hb : 0 < b) : Int.fdiv (-(a : Int)) (b : Int) = -((a / b + (if a % b = 0 then 0 else 1) : Nat) : Int) := by
  rw [Int.fdiv_eq_ediv_of_nonneg _ (by omega)]
  have e := Nat.div_add_mod a b
  have hl := Nat.mod_lt a hb
  by_cases h : a % b = 0
  · rw [if_pos h, Nat.add_zero]
    have e1 : -(a : Int) = (b : Int) * -((a / b : Nat) : Int) := by
      rw [Int.mul_neg, ← Int.natCast_mul]
      omega
    rw [e1, Int.mul_ediv_cancel_left _ (by omega)]
  · rw [if_neg h]
    have e1 : -(a : Int) = ((b : Int) - ((a % b : Nat) : Int)) + (b : Int) * -((a / b + 1 : Nat) : Int) := by
      rw [Int.mul_neg, ← Int.natCast_mul, Nat.mul_add, Nat.mul_one]
      omega
    rw [e1, Int.add_mul_ediv_left _ _ (by omega), Int.ediv_eq_zero_of_lt (by omega) (by omega)]
    omega
/-- signs and sizes of two numbers, the second one not nought -/
theorem sizes (i j : Int) (hj : j ≠ 0) : ∃ (a b : Nat), i.natAbs = a ∧ j.natAbs = b ∧ 0 < b ∧
    ((i.sign * j.sign = 0 ∧ a = 0 ∧ i = 0) ∨ (i.sign * j.sign = 1 ∧ 0 < a ∧ ((i = a ∧ j = b) ∨ (i = -(a : Int) ∧ j = -(b : Int)))) ∨ (i.sign * j.sign = -1 ∧ 0 < a ∧ ((i = -(a : Int) ∧ j = b) ∨ (i = a ∧ j = -(b : Int))))) := by
  refine ⟨_, _, rfl, rfl, by omega, ?_⟩
  rw [sign_eq, sign_eq]
  repeat' split
  all_goals omega
theorem fdiv_sign {i j : Int} (hj : j ≠ 0) : Int.fdiv i j = if i.sign * j.sign = -1 then -((i.natAbs / j.natAbs + (if i.natAbs % j.natAbs = 0 then 0 else 1) : Nat) : Int) else ((i.natAbs / j.natAbs : Nat) : Int) := by
  obtain ⟨a, b, ea, eb, hb, h⟩ := sizes i j hj
  rw [ea, eb]
  rcases h with ⟨hs, h0, hi⟩ | ⟨hs, h0, h⟩ | ⟨hs, h0, h⟩
  · rw [hs, if_neg (by decide), hi, h0]
    simp
  · rw [hs, if_neg (by decide)]
    rcases h with ⟨rfl, rfl⟩ | ⟨rfl, rfl⟩
    · exact fdiv_pp a b
    · rw [Int.neg_fdiv_neg]
      exact fdiv_pp a b
  · rw [hs, if_pos rfl]
    rcases h with ⟨rfl, rfl⟩ | ⟨rfl, rfl⟩
    · exact fdiv_np hb
    · rw [show (a : Int) = -(-(a : Int)) by omega, Int.neg_fdiv_neg]
      exact fdiv_np hb
theorem q_down {i j : Int} (hj : j ≠ 0) : i.sign * j.sign * ((i.natAbs / j.natAbs + (if i.natAbs % j.natAbs ≠ 0 ∧ i.sign * j.sign < 0 then 1 else 0) : Nat) : Int) = Int.fdiv i j := by
  rw [fdiv_sign hj]
  obtain ⟨a, b, ea, eb, hb, h⟩ := sizes i j hj
  rw [ea, eb]
  rcases h with ⟨hs, h0, hi⟩ | ⟨hs, h0, h⟩ | ⟨hs, h0, h⟩
  · rw [hs, h0]
    simp
  · rw [hs]
    simp
  · rw [hs, if_pos rfl]
    by_cases z : a % b = 0
    · rw [if_neg (fun y => y.1 z), if_pos z]
      omega
    · rw [if_pos ⟨z, by decide⟩, if_neg z]
      omega
end En

/-! // by any divisor of either sign; rows of texts and the like -/
namespace L2
open PySem PySem.Spec PyProof.Rows
section
variable {X : Cx}
/-- // by a divisor of either sign of at most 9000 bits -/
def CDivNL (_ j : Int) : Prop := j ≠ 0 ∧ j.natAbs.log2 < 9000
theorem op_fdivNL : OpR X (binaryOp .FloorDiv) (rI CDivNL fun i j => .int (i.fdiv j)) := opI fun _ _ _ _ _ _ _ hc q => floordiv_int hc.1 q (.inl (PyProof.noPylong_of_log2 hc.2))
variable {K : PySem.W.Frag} {o e : Expr} {es : List Expr} {to : TE} {t : TA} {name : Str} {apos cpos : Pos} {T id : String} {r : V → List V → Hp → VK → Prop}
end
end L2
namespace Toy
open PySem L2 En
theorem iteB {b : Bool} {A B : Prop} (h : b = true) (a : A) : if b = true then A else B := by rw [if_pos h]; exact a
theorem iteBF {b : Bool} {A B : Prop} (h : b = false) (a : B) : if b = true then A else B := by rw [h]; exact iteF a
theorem kit_str_str (K : PySem.W.Frag) : PySem.W.kitOne K (.type "str") (.type "str") = some true := by kernel_rfl
theorem kit_none_str (K : PySem.W.Frag) : PySem.W.kitOne K (.type "NoneType") (.type "str") = some false := by kernel_rfl
theorem kit_int_str (K : PySem.W.Frag) : PySem.W.kitOne K (.type "int") (.type "str") = some false := by kernel_rfl
theorem kit_list_str (K : PySem.W.Frag) : PySem.W.kitOne K (.type "list") (.type "str") = some false := by kernel_rfl
theorem kit_dict_str (K : PySem.W.Frag) : PySem.W.kitOne K (.type "dict") (.type "str") = some false := by kernel_rfl
/-- the ways -/
abbrev ways : List V := [.str "down", .str "up", .str "zero", .str "near"]
def Way (w : V) : Prop := w = .str "down" ∨ w = .str "up" ∨ w = .str "zero" ∨ w = .str "near"
theorem Way.str {w : V} (h : Way w) : ∃ x : Str, w = .str x ∧ inV (.str x) ways = true := by
  rcases h with rfl | rfl | rfl | rfl
  · exact ⟨_, rfl, by decide +kernel⟩
  · exact ⟨_, rfl, by decide +kernel⟩
  · exact ⟨_, rfl, by decide +kernel⟩
  · exact ⟨_, rfl, by decide +kernel⟩
/-- what is no way -/
def OddV (H : Hp) (w : V) : Prop := (∃ x : Str, w = .str x ∧ inV (.str x) ways = false) ∨ w = .non ∨ (∃ i, w = .int i) ∨ (∃ a xs, w = .ref a ∧ H a = some (.lst xs)) ∨ ∃ a kvs, w = .ref a ∧ H a = some (.dK kvs)
theorem OddV.kit {K : PySem.W.Frag} {H : Hp} {w : V} (h : OddV H w) : (∃ x : Str, w = .str x ∧ inV (.str x) ways = false) ∨ ∃ t, TyOf K H w t ∧ PySem.W.kitOne K t (.type "str") = some false := by
  rcases h with h | rfl | ⟨i, rfl⟩ | ⟨a, xs, rfl, h2⟩ | ⟨a, xs, rfl, h2⟩
  · exact .inl h
  · exact .inr ⟨_, TyOf.non, kit_none_str K⟩
  · exact .inr ⟨_, TyOf.int _, kit_int_str K⟩
  · exact .inr ⟨_, TyOf.lst h2, kit_list_str K⟩
  · exact .inr ⟨_, TyOf.dK h2, kit_dict_str K⟩
/-- whether the quotient lies one farther from nought -/
def beyond (w : V) (s : Int) (q r b : Nat) : Bool :=
  if w = .str "near" then decide (b < 2 * r ∨ (2 * r = b ∧ q % 2 = 1)) else if w = .str "zero" then false else if w = .str "down" then decide (r ≠ 0 ∧ s < 0) else decide (r ≠ 0 ∧ 0 < s)
theorem st_ne {x y : Str} (h : x ≠ y) : ¬ V.str x = V.str y := fun z => h (by injection z)
theorem by_near {s : Int} {q r b : Nat} : beyond (.str "near") s q r b = decide (b < 2 * r ∨ (2 * r = b ∧ q % 2 = 1)) := by unfold beyond; rw [if_pos rfl]
theorem by_zero {s : Int} {q r b : Nat} : beyond (.str "zero") s q r b = false := by unfold beyond; rw [if_neg (st_ne (by decide +kernel)), if_pos rfl]
theorem by_down {s : Int} {q r b : Nat} : beyond (.str "down") s q r b = decide (r ≠ 0 ∧ s < 0) := by unfold beyond; rw [if_neg (st_ne (by decide +kernel)), if_neg (st_ne (by decide +kernel)), if_pos rfl]
theorem by_up {s : Int} {q r b : Nat} : beyond (.str "up") s q r b = decide (r ≠ 0 ∧ 0 < s) := by unfold beyond; rw [if_neg (st_ne (by decide +kernel)), if_neg (st_ne (by decide +kernel)), if_neg (st_ne (by decide +kernel))]
/-- the quotient by a way -/
def quotW (w : V) (i j : Int) : Int := i.sign * j.sign * ((i.natAbs / j.natAbs + (if beyond w (i.sign * j.sign) (i.natAbs / j.natAbs) (i.natAbs % j.natAbs) j.natAbs = true then 1 else 0) : Nat) : Int)
theorem quot_down {i j : Int} (hj : j ≠ 0) : quotW (.str "down") i j = Int.fdiv i j := by
  rw [← q_down hj]
  unfold quotW
  rw [by_down]
  simp only [decide_eq_true_eq]
theorem quot_le (w : V) (i j : Int) : (quotW w i j).natAbs ≤ i.natAbs + 1 := by
  unfold quotW
  have h1 := sign_bd i
  have h2 := sign_bd j
  have h3 : i.natAbs / j.natAbs ≤ i.natAbs := Nat.div_le_self ..
  generalize i.natAbs / j.natAbs = q at *
  have h4 : (i.sign * j.sign).natAbs ≤ 1 := by
    rw [Int.natAbs_mul]
    have a1 : i.sign.natAbs ≤ 1 := by omega
    have a2 : j.sign.natAbs ≤ 1 := by omega
    exact Nat.le_trans (Nat.mul_le_mul a1 a2) (by decide)
  rw [Int.natAbs_mul, Int.natAbs_natCast]
  refine Nat.le_trans (Nat.mul_le_mul_right _ h4) ?_
  split <;> omega
/-- where it lies farther out, it is not nought -/
theorem quot_sign {w : V} (hw : Way w) {i j : Int} (hj : j ≠ 0) : 0 < i.natAbs / j.natAbs + (if beyond w (i.sign * j.sign) (i.natAbs / j.natAbs) (i.natAbs % j.natAbs) j.natAbs = true then 1 else 0) → i.sign * j.sign = 1 ∨ i.sign * j.sign = -1 := by
  intro h
  obtain ⟨a, b, ea, eb, hb, z⟩ := sizes i j hj
  rcases z with ⟨hs, h0, hi⟩ | ⟨hs, _⟩ | ⟨hs, _⟩
  · exfalso
    rw [ea, eb, h0, hs, Nat.zero_div, Nat.zero_mod] at h
    rcases hw with rfl | rfl | rfl | rfl
    · rw [by_down] at h
      simp at h
    · rw [by_up] at h
      simp at h
    · rw [by_zero] at h
      simp at h
    · rw [by_near, decide_eq_false (by omega)] at h
      simp at h
  · exact .inl hs
  · exact .inr hs
end Toy
namespace Toy
open PySem L2 En
end Toy
namespace L2
open PySem PySem.Spec PyProof.Rows
section
variable {X : Cx}
/-- a row of texts, numbers and None, as written -/
inductive ConEs : List Expr → List V → Prop where
  | nil : ConEs [] []
  | str {x : Str} {j : Nat} {p : Pos} {es : List Expr} {vs : List V} (h : ConEs es vs) : ConEs (.Constant (.str x) j p :: es) (.str x :: vs)
  | int {i : Int} {j : Nat} {p : Pos} {es : List Expr} {vs : List V} (h : ConEs es vs) : ConEs (.Constant (.int i) j p :: es) (.int i :: vs)
  | non {j : Nat} {p : Pos} {es : List Expr} {vs : List V} (h : ConEs es vs) : ConEs (.Constant .none j p :: es) (.non :: vs)
def tMix (vs : List V) (t : TA) : TA := fun σ H Q => t σ H fun us H1 => Q (vs ++ us) H1
end
end L2

/-! fractions in lowest terms -/
namespace En
/-- above and below in lowest terms -/
def num (a b : Int) : Int := a.sign * b.sign * ((a.natAbs / Nat.gcd a.natAbs b.natAbs : Nat) : Int)
def den (a b : Int) : Nat := b.natAbs / Nat.gcd a.natAbs b.natAbs
theorem gcd_pos_b {a b : Int} (hb : b ≠ 0) : 0 < Nat.gcd a.natAbs b.natAbs := Nat.gcd_pos_of_pos_right _ (by omega)
theorem den_pos {a b : Int} (hb : b ≠ 0) : 0 < den a b := Nat.div_pos (Nat.le_of_dvd (by omega) (Nat.gcd_dvd_right ..)) (gcd_pos_b hb)
theorem sign_sq {b : Int} (hb : b ≠ 0) : b.sign * b.sign = 1 := by
  rcases Int.lt_trichotomy b 0 with h | h | h
  · rw [Int.sign_eq_neg_one_of_neg h]; rfl
  · exact absurd h hb
  · rw [Int.sign_eq_one_of_pos h]; rfl
theorem num_gcd {a b : Int} (hb : b ≠ 0) : num a b * (b.sign * (Nat.gcd a.natAbs b.natAbs : Int)) = a := by
  unfold num
  have h1 : ((a.natAbs / Nat.gcd a.natAbs b.natAbs : Nat) : Int) * (Nat.gcd a.natAbs b.natAbs : Int) = (a.natAbs : Int) := by
    rw [← Int.natCast_mul, Nat.div_mul_cancel (Nat.gcd_dvd_left ..)]
  have h2 := sign_sq hb
  have h3 := Int.sign_mul_natAbs a
  generalize ((a.natAbs / Nat.gcd a.natAbs b.natAbs : Nat) : Int) = x at *
  generalize (Nat.gcd a.natAbs b.natAbs : Int) = g at *
  calc a.sign * b.sign * x * (b.sign * g) = a.sign * (b.sign * b.sign) * (x * g) := by
        rw [Int.mul_assoc (a.sign), Int.mul_assoc (a.sign), Int.mul_assoc (a.sign), Int.mul_assoc (b.sign), Int.mul_assoc (b.sign), Int.mul_left_comm x]
    _ = a.sign * (a.natAbs : Int) := by rw [h2, h1, Int.mul_one]
    _ = a := h3
theorem den_gcd {a b : Int} : (den a b : Int) * (b.sign * (Nat.gcd a.natAbs b.natAbs : Int)) = b := by
  unfold den
  have h1 : ((b.natAbs / Nat.gcd a.natAbs b.natAbs : Nat) : Int) * (Nat.gcd a.natAbs b.natAbs : Int) = (b.natAbs : Int) := by
    rw [← Int.natCast_mul, Nat.div_mul_cancel (Nat.gcd_dvd_right ..)]
  rw [Int.mul_left_comm, h1, Int.sign_mul_natAbs]
theorem num_den {a b : Int} (hb : b ≠ 0) : num a b * b = a * (den a b : Int) := by
  have h1 := num_gcd (a := a) hb
  have h2 := den_gcd (a := a) (b := b)
  generalize b.sign * (Nat.gcd a.natAbs b.natAbs : Int) = c at *
  generalize num a b = n at *
  generalize (den a b : Int) = d at *
  calc n * b = n * (d * c) := by rw [h2]
    _ = n * c * d := by rw [Int.mul_comm d c, Int.mul_assoc]
    _ = a * d := by rw [h1]
theorem num_abs {a b : Int} (hb : b ≠ 0) : (num a b).natAbs = a.natAbs / Nat.gcd a.natAbs b.natAbs := by
  unfold num
  rcases Int.lt_trichotomy a 0 with h | h | h
  · rw [Int.natAbs_mul, Int.natAbs_natCast, Int.natAbs_mul, Int.sign_eq_neg_one_of_neg h]
    have : b.sign.natAbs = 1 := by
      rcases Int.lt_trichotomy b 0 with z | z | z
      · rw [Int.sign_eq_neg_one_of_neg z]; rfl
      · exact absurd z hb
      · rw [Int.sign_eq_one_of_pos z]; rfl
    rw [this]
    simp
  · subst h
    simp
  · rw [Int.natAbs_mul, Int.natAbs_natCast, Int.natAbs_mul, Int.sign_eq_one_of_pos h]
    have : b.sign.natAbs = 1 := by
      rcases Int.lt_trichotomy b 0 with z | z | z
      · rw [Int.sign_eq_neg_one_of_neg z]; rfl
      · exact absurd z hb
      · rw [Int.sign_eq_one_of_pos z]; rfl
    rw [this]
    simp
theorem low_terms {a b : Int} (hb : b ≠ 0) : Nat.gcd (num a b).natAbs (den a b) = 1 := by
  rw [num_abs hb]
  unfold den
  exact Nat.gcd_div_gcd_div_gcd_of_pos_right (by omega)
/-- there is one form alone in lowest terms -/
theorem low_one {p p' : Int} {q q' : Nat} (hq : 0 < q) (hq' : 0 < q') (h : Nat.gcd p.natAbs q = 1) (h' : Nat.gcd p'.natAbs q' = 1) (e : p * (q' : Int) = p' * (q : Int)) : p = p' ∧ q = q' := by
  have e1 : p.natAbs * q' = p'.natAbs * q := by
    have := congrArg Int.natAbs e
    rw [Int.natAbs_mul, Int.natAbs_mul, Int.natAbs_natCast, Int.natAbs_natCast] at this
    exact this
  have d1 : q ∣ q' := by
    have : q ∣ p.natAbs * q' := by
      rw [e1]
      exact Nat.dvd_mul_left ..
    exact Nat.Coprime.dvd_of_dvd_mul_left (by rw [Nat.Coprime, Nat.gcd_comm]; exact h) this
  have d2 : q' ∣ q := by
    have : q' ∣ p'.natAbs * q := by
      rw [← e1]
      exact Nat.dvd_mul_left ..
    exact Nat.Coprime.dvd_of_dvd_mul_left (by rw [Nat.Coprime, Nat.gcd_comm]; exact h') this
  have eq := Nat.dvd_antisymm d1 d2
  subst eq
  exact ⟨Int.eq_of_mul_eq_mul_right (by omega) e, rfl⟩
theorem low_is {a b p : Int} {q : Nat} (hb : b ≠ 0) (hq : 0 < q) (h : Nat.gcd p.natAbs q = 1) (e : p * b = a * (q : Int)) : p = num a b ∧ q = den a b := by
  refine low_one hq (den_pos hb) h (low_terms hb) ?_
  have h1 := num_den (a := a) hb
  have h2 : p * (den a b : Int) * b = num a b * (q : Int) * b := by
    rw [Int.mul_right_comm, e, Int.mul_right_comm (num a b), h1, Int.mul_right_comm]
  exact Int.eq_of_mul_eq_mul_right hb h2
/-- Python's rest by either sign -/
theorem fmod_lt {a b : Int} (hb : b ≠ 0) : (a.fmod b).natAbs < b.natAbs := by
  rcases Int.lt_or_gt_of_ne hb with h | h
  · have e : a.fmod b = -((-a).fmod (-b)) := by rw [Int.neg_fmod_neg, Int.neg_neg]
    have h1 := Int.fmod_nonneg_of_pos (-a) (show (0 : Int) < -b by omega)
    have h2 := Int.fmod_lt_of_pos (-a) (show (0 : Int) < -b by omega)
    omega
  · have h1 := Int.fmod_nonneg_of_pos a h
    have h2 := Int.fmod_lt_of_pos a h
    omega
theorem gcd_fmod (a b : Int) : Nat.gcd b.natAbs (a.fmod b).natAbs = Nat.gcd a.natAbs b.natAbs := by
  have e := Int.mul_fdiv_add_fmod a b
  apply Nat.dvd_antisymm
  · refine Nat.dvd_gcd ?_ (Nat.gcd_dvd_left ..)
    have h1 : ((Nat.gcd b.natAbs (a.fmod b).natAbs : Nat) : Int) ∣ b := Int.ofNat_dvd_left.mpr (Nat.gcd_dvd_left ..)
    have h2 : ((Nat.gcd b.natAbs (a.fmod b).natAbs : Nat) : Int) ∣ a.fmod b := Int.ofNat_dvd_left.mpr (Nat.gcd_dvd_right ..)
    have h3 := Int.dvd_add (Int.dvd_mul_of_dvd_left (c := a.fdiv b) h1) h2
    rw [e] at h3
    exact Int.ofNat_dvd_left.mp h3
  · refine Nat.dvd_gcd (Nat.gcd_dvd_right ..) ?_
    have h1 : ((Nat.gcd a.natAbs b.natAbs : Nat) : Int) ∣ b := Int.ofNat_dvd_left.mpr (Nat.gcd_dvd_right ..)
    have h2 : ((Nat.gcd a.natAbs b.natAbs : Nat) : Int) ∣ a := Int.ofNat_dvd_left.mpr (Nat.gcd_dvd_left ..)
    have h3 := Int.dvd_sub h2 (Int.dvd_mul_of_dvd_left (c := a.fdiv b) h1)
    rw [show a - b * a.fdiv b = a.fmod b by omega] at h3
    exact Int.ofNat_dvd_left.mp h3
theorem fdiv_num {a b : Int} (hb : b ≠ 0) : a.fdiv (b.sign * (Nat.gcd a.natAbs b.natAbs : Int)) = num a b := by
  have h := num_gcd (a := a) hb
  have hc : b.sign * (Nat.gcd a.natAbs b.natAbs : Int) ≠ 0 := fun z => by
    have h2 := den_gcd (a := a) (b := b)
    rw [z, Int.mul_zero] at h2
    exact hb h2.symm
  generalize b.sign * (Nat.gcd a.natAbs b.natAbs : Int) = c at *
  generalize num a b = n at *
  rw [← h, Int.mul_fdiv_cancel _ hc]
theorem fdiv_den {a b : Int} (hb : b ≠ 0) : b.fdiv (b.sign * (Nat.gcd a.natAbs b.natAbs : Int)) = (den a b : Int) := by
  have h := den_gcd (a := a) (b := b)
  have hc : b.sign * (Nat.gcd a.natAbs b.natAbs : Int) ≠ 0 := fun z => by
    rw [z, Int.mul_zero] at h
    exact hb h.symm
  generalize (den a b : Int) = d at *
  generalize hcc : b.sign * (Nat.gcd a.natAbs b.natAbs : Int) = c at *
  rw [← h, Int.mul_fdiv_cancel _ hc]
theorem gcd_sign {a b : Int} (hb : b ≠ 0) : (if b < 0 then -(Nat.gcd a.natAbs b.natAbs : Int) else (Nat.gcd a.natAbs b.natAbs : Int)) = b.sign * (Nat.gcd a.natAbs b.natAbs : Int) := by
  split
  · rename_i h
    rw [Int.sign_eq_neg_one_of_neg h]
    omega
  · rw [Int.sign_eq_one_of_pos (by omega)]
    omega
theorem num_le {a b : Int} (hb : b ≠ 0) : (num a b).natAbs ≤ a.natAbs := by rw [num_abs hb]; exact Nat.div_le_self ..
theorem den_le {a b : Int} : den a b ≤ b.natAbs := Nat.div_le_self ..
end En
namespace En
end En
namespace En
end En
namespace En
end En

/-! fractions in the heap -/
namespace Toy
open PySem L2 En
/-- at a stands the fraction of p by q -/
def FrH (H : Hp) (a : Addr) (p : Int) (q : Nat) : Prop := ∃ t r, H a = some (.tup [.ref t, .ref r]) ∧ WhH H t p ∧ H r = some (.tup (lv (limbs q)))
theorem FrH.same {H H' : Hp} {a : Addr} {p : Int} {q : Nat} (h : FrH H a p q) (s : Same H H') : FrH H' a p q := let ⟨t, r, h1, h2, h3⟩ := h; ⟨t, r, s _ _ h1, h2.same s, s _ _ h3⟩
theorem FrH.new {H : Hp} {a t r : Addr} {p : Int} {q : Nat} (ha : H a = none) (h2 : WhH H t p) (h3 : H r = some (.tup (lv (limbs q)))) : FrH (upd H a (.tup [.ref t, .ref r])) a p q :=
  ⟨t, r, upd_same, h2.same (same_new ha _), same_new ha _ _ _ h3⟩
/-- a fraction as data -/
def dF (p : Int) (q : Nat) : PyData := .tuple [dW p, .tuple (di ((limbs q).map fun d => ((d : Nat) : Int)))]
theorem nat_abs_lt {i : Int} {k : Nat} (h : Nb i k) : i.natAbs < 65536 ^ k := by
  have h1 := h.1
  have h2 := h.2
  rw [show i.natAbs = i.toNat by omega]
  exact h2
theorem sgn_due (i : Int) : (if 0 < i then (1 : Int) else 0) - (if i < 0 then 1 else 0) = i.sign := by
  rw [sign_eq]
  (repeat' split) <;> omega
end Toy
namespace Toy
open PySem L2 En
/-- fraction_of: in lowest terms; by what is left out, by one; ByNought by nought -/
def sp_fraction_of (K : PySem.W.Frag) : Sp := fun vs H Q E => ∃ (a : Addr) (i : Int) (z : V), vs = [.ref a, z] ∧ WhH H a i ∧ (limbs i.natAbs).length ≤ 900 ∧
  ((z = .non ∧ ∀ (t : Addr) (H' : Hp), Same H H' → FrH H' t (num i 1) (den i 1) → Q (.ref t) H') ∨
   ∃ (b : Addr) (j : Int), z = .ref b ∧ WhH H b j ∧ (limbs j.natAbs).length ≤ 900 ∧ ((j ≠ 0 ∧ ∀ (t : Addr) (H' : Hp), Same H H' → FrH H' t (num i j) (den i j) → Q (.ref t) H') ∨ (j = 0 ∧ ∀ C, PySem.W.nsIn K mainGlobals "ByNought" = some (some (.ref C)) → E (.ref C) none H)))
/-- two fractions to one; what they come to, by their numbers -/
def sp_frac2 (above below : Int → Nat → Int → Nat → Int) : Sp := fun vs H Q _ => ∃ (a b : Addr) (p : Int) (q : Nat) (p' : Int) (q' : Nat), vs = [.ref a, .ref b] ∧ FrH H a p q ∧ FrH H b p' q' ∧ 0 < q ∧ 0 < q' ∧ Nat.gcd p.natAbs q = 1 ∧ Nat.gcd p'.natAbs q' = 1 ∧
  (limbs p.natAbs).length ≤ 200 ∧ (limbs q).length ≤ 200 ∧ (limbs p'.natAbs).length ≤ 200 ∧ (limbs q').length ≤ 200 ∧ ∀ (t : Addr) (H' : Hp), Same H H' → FrH H' t (num (above p q p' q') (below p q p' q')) (den (above p q p' q') (below p q p' q')) → Q (.ref t) H'
def sp_frac_plus (_K : PySem.W.Frag) : Sp := sp_frac2 (fun p q p' q' => p * q' + p' * q) (fun _ q _ q' => q * q')
def sp_frac_minus (_K : PySem.W.Frag) : Sp := sp_frac2 (fun p q p' q' => p * q' - p' * q) (fun _ q _ q' => q * q')
def sp_frac_times (_K : PySem.W.Frag) : Sp := sp_frac2 (fun p _ p' _ => p * p') (fun _ q _ q' => q * q')
/-- frac_over; ByNought by nought -/
def sp_frac_over (K : PySem.W.Frag) : Sp := fun vs H Q E => ∃ (a b : Addr) (p : Int) (q : Nat) (p' : Int) (q' : Nat), vs = [.ref a, .ref b] ∧ FrH H a p q ∧ FrH H b p' q' ∧ 0 < q ∧ 0 < q' ∧ Nat.gcd p.natAbs q = 1 ∧ Nat.gcd p'.natAbs q' = 1 ∧
  (limbs p.natAbs).length ≤ 200 ∧ (limbs q).length ≤ 200 ∧ (limbs p'.natAbs).length ≤ 200 ∧ (limbs q').length ≤ 200 ∧ ((p' ≠ 0 ∧ ∀ (t : Addr) (H' : Hp), Same H H' → FrH H' t (num (p * q') (p' * q)) (den (p * q') (p' * q)) → Q (.ref t) H') ∨ (p' = 0 ∧ ∀ C, PySem.W.nsIn K mainGlobals "ByNought" = some (some (.ref C)) → E (.ref C) none H))
/-- frac_ranked: which of two is greater -/
def sp_frac_ranked (_K : PySem.W.Frag) : Sp := fun vs H Q _ => ∃ (a b : Addr) (p : Int) (q : Nat) (p' : Int) (q' : Nat), vs = [.ref a, .ref b] ∧ FrH H a p q ∧ FrH H b p' q' ∧ 0 < q ∧ 0 < q' ∧ Nat.gcd p.natAbs q = 1 ∧ Nat.gcd p'.natAbs q' = 1 ∧
  (limbs p.natAbs).length ≤ 200 ∧ (limbs q).length ≤ 200 ∧ (limbs p'.natAbs).length ≤ 200 ∧ (limbs q').length ≤ 200 ∧ ∀ H' : Hp, Same H H' → Q (.int (cmpI (p * q') (p' * q))) H'
end Toy
namespace Toy
open PySem L2 En
/-- what a power comes to, by its two numbers -/
def powA (p : Int) (q : Nat) (c : Int) : Int := if 0 ≤ c then p ^ c.toNat else (q : Int) ^ (-c).toNat
def powB (p : Int) (q : Nat) (c : Int) : Int := if 0 ≤ c then (q : Int) ^ c.toNat else p ^ (-c).toNat
/-- frac_power; ByNought of nought to a count below nought -/
def sp_frac_power (K : PySem.W.Frag) : Sp := fun vs H Q E => ∃ (a : Addr) (p : Int) (q : Nat) (c : Int) (k : Nat), vs = [.ref a, .int c] ∧ FrH H a p q ∧ 0 < q ∧ Nat.gcd p.natAbs q = 1 ∧ p.natAbs < 65536 ^ k ∧ q < 65536 ^ k ∧ 1 ≤ k ∧ k ≤ 100 ∧ k * c.natAbs ≤ 130 ∧
  (((0 ≤ c ∨ p ≠ 0) ∧ ∀ (t : Addr) (H' : Hp), Same H H' → FrH H' t (num (powA p q c) (powB p q c)) (den (powA p q c) (powB p q c)) → Q (.ref t) H') ∨ (c < 0 ∧ p = 0 ∧ ∀ C, PySem.W.nsIn K mainGlobals "ByNought" = some (some (.ref C)) → E (.ref C) none H))
end Toy

/-! a def whose last parameter is handed in by its keyword -/
namespace L2
open PySem PySem.Spec PyProof.Rows
section
variable {P : Program} {w : World} {K : PySem.W.Frag} {mg : Str → Option Value} {base : Heap}
end
/-- one and one in the parameters' order -/
def g2 {α : Type} : List α → List α → List α
  | [a], [c] => [a, c]
  | _, _ => []
end L2
namespace L2
open PySem PySem.Spec PyProof.Rows
section
variable {X : Cx}
end
end L2
namespace Toy
open PySem L2 En
/-- the statements in an if -/
def ifBody : Stmt → List Stmt
  | .If _ b _ _ => b
  | _ => []
/-- the courses of rounding -/
abbrev courses : List V := [.str "down", .str "up", .str "zero", .str "away", .str "half_even", .str "half_zero", .str "half_away"]
def Course (w : V) : Prop := w = .str "down" ∨ w = .str "up" ∨ w = .str "zero" ∨ w = .str "away" ∨ w = .str "half_even" ∨ w = .str "half_zero" ∨ w = .str "half_away"
def OddC (H : Hp) (w : V) : Prop := (∃ x : Str, w = .str x ∧ inV (.str x) courses = false) ∨ w = .non ∨ (∃ i, w = .int i) ∨ (∃ a xs, w = .ref a ∧ H a = some (.lst xs)) ∨ ∃ a kvs, w = .ref a ∧ H a = some (.dK kvs)
/-- a fraction rounded by a course: the greatest not above, the least not below, that nearer to nought, the other one -/
def rLow (a b : Int) : Int := a / b
def rHigh (a b : Int) : Int := a / b + (if a % b = 0 then 0 else 1)
def rInn (a b : Int) : Int := if a < 0 then rHigh a b else rLow a b
def rOut (a b : Int) : Int := rLow a b + rHigh a b - rInn a b
def roundC (w : V) (a b : Int) : Int :=
  if w = .str "down" then rLow a b else if w = .str "up" then rHigh a b else if w = .str "zero" then rInn a b else if w = .str "away" then rOut a b
  else if 2 * (a % b) - b ≠ 0 then (if 0 < 2 * (a % b) - b then rHigh a b else rLow a b)
  else if w = .str "half_even" then rLow a b + rLow a b % 2 else if w = .str "half_away" then rOut a b else rInn a b
/-- nearest_whole: the whole by a course; NoWay of what is none -/
def sp_nearest_whole (K : PySem.W.Frag) : Sp := fun vs H Q E => ∃ (a : Addr) (p : Int) (q : Nat) (v : V), vs = [.ref a, v] ∧ FrH H a p q ∧ 0 < q ∧ Nat.gcd p.natAbs q = 1 ∧ (limbs p.natAbs).length ≤ 200 ∧ (limbs q).length ≤ 200 ∧
  ((Course v ∧ ∀ (t : Addr) (H' : Hp), Same H H' → WhH H' t (roundC v p (q : Int)) → Q (.ref t) H') ∨ (OddC H v ∧ ∀ C, PySem.W.nsIn K mainGlobals "NoWay" = some (some (.ref C)) → E (.ref C) none H))
end Toy

/-! continued fractions -/
namespace En
/-- the chain of two numbers, the second from nought on -/
def chain (a : Int) (b : Nat) : List Int := if h : b = 0 then [] else a / (b : Int) :: chain (b : Int) (a % (b : Int)).toNat
  termination_by b
  decreasing_by
    have h1 := Int.emod_nonneg a (show (b : Int) ≠ 0 by omega)
    have h2 := Int.emod_lt_of_pos a (show (0 : Int) < (b : Int) by omega)
    omega
/-- what a list of numbers stands for, as two numbers -/
def tog : List Int → Int × Int
  | [] => (1, 0)
  | x :: xs => (x * (tog xs).1 + (tog xs).2, (tog xs).1)
end En
namespace En
end En

/-! lists of wholes in the heap -/
namespace Toy
open PySem L2 En
/-- at a stands a list of the wholes of numbers -/
def WsH (H : Hp) (a : Addr) (xs : List Int) : Prop := ∃ rs : List Addr, H a = some (.lst (rs.map V.ref)) ∧ rs.length = xs.length ∧ ∀ (i : Nat) r x, rs[i]? = some r → xs[i]? = some x → WhH H r x
/-- chain_of: a new list of wholes -/
def sp_chain_of (_K : PySem.W.Frag) : Sp := fun vs H Q _ => ∃ (a : Addr) (p : Int) (q : Nat), vs = [.ref a] ∧ FrH H a p q ∧ 0 < q ∧ Nat.gcd p.natAbs q = 1 ∧ (limbs p.natAbs).length ≤ 30 ∧ (limbs q).length ≤ 30 ∧
  ∀ (l : Addr) (H' : Hp), Same H H' → H l = none → WsH H' l (chain p q) → Q (.ref l) H'
/-- a list of which a fraction is told -/
def IsChain (xs : List Int) : Prop := xs ≠ [] ∧ ∀ x ∈ xs.tail, 1 ≤ x
/-- unchained: the fraction; NoChain of a list that is none -/
def sp_unchained (K : PySem.W.Frag) : Sp := fun vs H Q E => ∃ (l : Addr) (xs : List Int), vs = [.ref l] ∧ WsH H l xs ∧ xs.length ≤ 1000 ∧ (∀ x ∈ xs, x.natAbs < 65536 ^ 30) ∧
  ((IsChain xs ∧ ∀ (t : Addr) (H' : Hp), Same H H' → FrH H' t (num (tog xs).1 (tog xs).2) (den (tog xs).1 (tog xs).2) → Q (.ref t) H') ∨ (¬ IsChain xs ∧ ∀ C, PySem.W.nsIn K mainGlobals "NoChain" = some (some (.ref C)) → ∀ H', Same H H' → E (.ref C) none H'))
end Toy
namespace Toy
open PySem L2 En
end Toy

/-! how near the first parts of a chain come -/
namespace En
/-- what is left behind so many steps -/
def rem (a : Int) (b : Nat) : Nat → Nat
  | 0 => (a % (b : Int)).toNat
  | k + 1 => rem (b : Int) (a % (b : Int)).toNat k
def sg (k : Nat) : Int := if k % 2 = 0 then 1 else -1
end En
namespace En
end En

/-! lists of fractions in the heap -/
namespace Toy
open PySem L2 En
/-- at a stands a list of n fractions, the i-th that of f i -/
def FsH (H : Hp) (a : Addr) (n : Nat) (f : Nat → Int × Int) : Prop := ∃ rs : List Addr, H a = some (.lst (rs.map V.ref)) ∧ rs.length = n ∧ ∀ (i : Nat) r, rs[i]? = some r → FrH H r (num (f i).1 (f i).2) (den (f i).1 (f i).2)
/-- approaches: the fractions of the first wholes of the chain -/
def sp_approaches (_K : PySem.W.Frag) : Sp := fun vs H Q _ => ∃ (a : Addr) (p : Int) (q : Nat), vs = [.ref a] ∧ FrH H a p q ∧ 0 < q ∧ Nat.gcd p.natAbs q = 1 ∧ (limbs p.natAbs).length ≤ 30 ∧ (limbs q).length ≤ 30 ∧
  ∀ (l : Addr) (H' : Hp), Same H H' → H l = none → FsH H' l (chain p q).length (fun i => tog ((chain p q).take (i + 1))) → Q (.ref l) H'
end Toy

/-! the nearest fraction with a lower number that is not too great -/
namespace En
/-- how far p by q is from a by b, times b and q -/
def off (a b p q : Int) : Nat := (a * q - p * b).natAbs
/-- nearer, or as near with a lesser lower number, or with the same and not greater -/
def bet (a b p q x y : Int) : Prop := (off a b p q : Int) * y < (off a b x y : Int) * q ∨ ((off a b p q : Int) * y = (off a b x y : Int) * q ∧ (q < y ∨ (q = y ∧ p ≤ x)))
theorem bet_refl (a b p q : Int) : bet a b p q p q := .inr ⟨rfl, .inr ⟨rfl, Int.le_refl _⟩⟩
theorem bet_trans {a b p q x y u v : Int} (hq : 0 < q) (hy : 0 < y) (hv : 0 < v) (h1 : bet a b p q x y) (h2 : bet a b x y u v) : bet a b p q u v := by
  unfold bet at *
  generalize (off a b p q : Int) = A at *
  generalize (off a b x y : Int) = B at *
  generalize (off a b u v : Int) = C at *
  have key : A * y ≤ B * q → B * v ≤ C * y → A * v * y ≤ C * q * y := fun k1 k2 => by
    have m1 := Int.mul_le_mul_of_nonneg_right k1 (Int.le_of_lt hv)
    have m2 := Int.mul_le_mul_of_nonneg_right k2 (Int.le_of_lt hq)
    have e1 : A * y * v = A * v * y := Int.mul_right_comm ..
    have e2 : B * q * v = B * v * q := Int.mul_right_comm ..
    have e3 : C * y * q = C * q * y := Int.mul_right_comm ..
    omega
  have keyS : A * y < B * q → B * v ≤ C * y → A * v * y < C * q * y := fun k1 k2 => by
    have m1 := Int.mul_lt_mul_of_pos_right k1 hv
    have m2 := Int.mul_le_mul_of_nonneg_right k2 (Int.le_of_lt hq)
    have e1 : A * y * v = A * v * y := Int.mul_right_comm ..
    have e2 : B * q * v = B * v * q := Int.mul_right_comm ..
    have e3 : C * y * q = C * q * y := Int.mul_right_comm ..
    omega
  have keyS2 : A * y ≤ B * q → B * v < C * y → A * v * y < C * q * y := fun k1 k2 => by
    have m1 := Int.mul_le_mul_of_nonneg_right k1 (Int.le_of_lt hv)
    have m2 := Int.mul_lt_mul_of_pos_right k2 hq
    have e1 : A * y * v = A * v * y := Int.mul_right_comm ..
    have e2 : B * q * v = B * v * q := Int.mul_right_comm ..
    have e3 : C * y * q = C * q * y := Int.mul_right_comm ..
    omega
  rcases h1 with h1 | ⟨h1, h1'⟩
  · rcases h2 with h2 | ⟨h2, _⟩
    · exact .inl (Int.lt_of_mul_lt_mul_right (keyS h1 (Int.le_of_lt h2)) (Int.le_of_lt hy))
    · exact .inl (Int.lt_of_mul_lt_mul_right (keyS h1 (Int.le_of_eq h2)) (Int.le_of_lt hy))
  · rcases h2 with h2 | ⟨h2, h2'⟩
    · exact .inl (Int.lt_of_mul_lt_mul_right (keyS2 (Int.le_of_eq h1) h2) (Int.le_of_lt hy))
    · refine .inr ⟨?_, by omega⟩
      have e1 : A * y * v = A * v * y := Int.mul_right_comm ..
      have e2 : B * q * v = B * v * q := Int.mul_right_comm ..
      have e3 : C * y * q = C * q * y := Int.mul_right_comm ..
      have m1 := congrArg (· * v) h1
      have m2 := congrArg (· * q) h2
      exact Int.eq_of_mul_eq_mul_right (Int.ne_of_gt hy) (by omega)
/-- the nearest of those with a lower number up to n -/
def IsBest (a b n p q : Int) : Prop := 1 ≤ q ∧ q ≤ n ∧ Nat.gcd p.natAbs q.natAbs = 1 ∧ ∀ x y : Int, 1 ≤ y → y ≤ n → bet a b p q x y
theorem best_one {a b n p q p' q' : Int} (h : IsBest a b n p q) (h' : IsBest a b n p' q') : p = p' ∧ q = q' := by
  obtain ⟨h1, h2, _, h4⟩ := h
  obtain ⟨g1, g2, _, g4⟩ := h'
  have k1 := h4 p' q' g1 g2
  have k2 := g4 p q h1 h2
  unfold bet at k1 k2
  generalize (off a b p q : Int) * q' = X at *
  generalize (off a b p' q' : Int) * q = Y at *
  omega
/-- a fraction below and one above, next to one another: no other up to n is nearer -/
theorem next_best {a b n p1 q1 p2 q2 : Int} (hb : 0 < b) (h1 : 1 ≤ q1) (h2 : 1 ≤ q2) (hn : n < q1 + q2) (det : p2 * q1 - p1 * q2 = 1) (lo : p1 * b ≤ a * q1) (hi : a * q2 ≤ p2 * b) (x y : Int) (hy : 1 ≤ y) (hyn : y ≤ n) : bet a b p1 q1 x y ∨ bet a b p2 q2 x y := by
  have ey : (x * q1 - p1 * y) * q2 + (p2 * y - x * q2) * q1 = y := by grind
  rcases Int.lt_or_le 0 (x * q1 - p1 * y) with hu | hu
  · rcases Int.lt_or_le 0 (p2 * y - x * q2) with hv | hv
    · exfalso
      have m1 : 1 * q2 ≤ (x * q1 - p1 * y) * q2 := Int.mul_le_mul_of_nonneg_right (by omega) (by omega)
      have m2 : 1 * q1 ≤ (p2 * y - x * q2) * q1 := Int.mul_le_mul_of_nonneg_right (by omega) (by omega)
      omega
    · right
      -- x by y is not below the upper one
      have o2 : (off a b p2 q2 : Int) = p2 * b - a * q2 := by unfold off; omega
      have hxy : a * y ≤ x * b := by
        have k1 : (p2 * y) * b ≤ (x * q2) * b := Int.mul_le_mul_of_nonneg_right (by omega) (by omega)
        have k2 : a * q2 * y ≤ p2 * b * y := Int.mul_le_mul_of_nonneg_right hi (by omega)
        have k3 : (a * y) * q2 ≤ (x * b) * q2 := by
          have e1 : a * y * q2 = a * q2 * y := Int.mul_right_comm ..
          have e2 : x * b * q2 = x * q2 * b := Int.mul_right_comm ..
          have e3 : p2 * b * y = p2 * y * b := Int.mul_right_comm ..
          omega
        exact Int.le_of_mul_le_mul_right k3 (by omega)
      have ox : (off a b x y : Int) = x * b - a * y := by unfold off; omega
      unfold bet
      rw [o2, ox]
      have dif : (x * b - a * y) * q2 - (p2 * b - a * q2) * y = b * (x * q2 - p2 * y) := by grind
      rcases Int.lt_or_le (p2 * y) (x * q2) with hs | hs
      · left
        have := Int.mul_pos hb (show 0 < x * q2 - p2 * y by omega)
        omega
      · right
        have e0 : x * q2 = p2 * y := by omega
        refine ⟨?_, ?_⟩
        · have : b * (x * q2 - p2 * y) = 0 := by rw [e0, Int.sub_self, Int.mul_zero]
          omega
        · have et : y = (x * q1 - p1 * y) * q2 := by
            rw [show p2 * y - x * q2 = 0 by omega, Int.zero_mul, Int.add_zero] at ey
            exact ey.symm
          rcases Int.lt_or_le 1 (x * q1 - p1 * y) with hk | hk
          · left
            have m := Int.mul_lt_mul_of_pos_right hk (show 0 < q2 by omega)
            omega
          · right
            have e1 : x * q1 - p1 * y = 1 := by omega
            rw [e1, Int.one_mul] at et
            refine ⟨et.symm, ?_⟩
            rw [et] at e0
            exact Int.le_of_eq (Int.eq_of_mul_eq_mul_right (by omega) e0).symm
  · left
    have hv : 0 < p2 * y - x * q2 := by
      rcases Int.lt_or_le 0 (p2 * y - x * q2) with hv | hv
      · exact hv
      · exfalso
        have m1 : (x * q1 - p1 * y) * q2 ≤ 0 := Int.mul_nonpos_of_nonpos_of_nonneg hu (by omega)
        have m2 : (p2 * y - x * q2) * q1 ≤ 0 := Int.mul_nonpos_of_nonpos_of_nonneg hv (by omega)
        omega
    have o1 : (off a b p1 q1 : Int) = a * q1 - p1 * b := by unfold off; omega
    have hxy : x * b ≤ a * y := by
      have k1 : (x * q1) * b ≤ (p1 * y) * b := Int.mul_le_mul_of_nonneg_right (by omega) (by omega)
      have k2 : p1 * b * y ≤ a * q1 * y := Int.mul_le_mul_of_nonneg_right lo (by omega)
      have k3 : (x * b) * q1 ≤ (a * y) * q1 := by
        have e1 : a * y * q1 = a * q1 * y := Int.mul_right_comm ..
        have e2 : x * b * q1 = x * q1 * b := Int.mul_right_comm ..
        have e3 : p1 * b * y = p1 * y * b := Int.mul_right_comm ..
        omega
      exact Int.le_of_mul_le_mul_right k3 (by omega)
    have ox : (off a b x y : Int) = a * y - x * b := by unfold off; omega
    unfold bet
    rw [o1, ox]
    have dif : (a * y - x * b) * q1 - (a * q1 - p1 * b) * y = b * (p1 * y - x * q1) := by grind
    rcases Int.lt_or_le (x * q1) (p1 * y) with hs | hs
    · left
      have := Int.mul_pos hb (show 0 < p1 * y - x * q1 by omega)
      omega
    · right
      have e0 : x * q1 = p1 * y := by omega
      refine ⟨?_, ?_⟩
      · have : b * (p1 * y - x * q1) = 0 := by rw [e0, Int.sub_self, Int.mul_zero]
        omega
      · have et : y = (p2 * y - x * q2) * q1 := by
          rw [show x * q1 - p1 * y = 0 by omega, Int.zero_mul, Int.zero_add] at ey
          exact ey.symm
        rcases Int.lt_or_le 1 (p2 * y - x * q2) with hk | hk
        · left
          have m := Int.mul_lt_mul_of_pos_right hk (show 0 < q1 by omega)
          omega
        · right
          have e1 : p2 * y - x * q2 = 1 := by omega
          rw [e1, Int.one_mul] at et
          refine ⟨et.symm, ?_⟩
          rw [et] at e0
          exact Int.le_of_eq (Int.eq_of_mul_eq_mul_right (by omega) e0).symm
end En

/-! quotient and rest by sign and size; bonds; chains from their first number on -/
namespace En
/-- quotient and rest of a number by a natural, by its sign and size -/
theorem parts_of (p : Int) {q : Nat} (hq : 0 < q) : p.natAbs % q < q ∧
    ((p < 0 ∧ p.sign = -1 ∧ p / (q : Int) = -((p.natAbs / q : Nat) : Int) - (if p.natAbs % q = 0 then 0 else 1) ∧ p % (q : Int) = (if p.natAbs % q = 0 then 0 else (q : Int) - ((p.natAbs % q : Nat) : Int))) ∨
     (0 ≤ p ∧ (p.sign = 1 ∨ (p.sign = 0 ∧ p.natAbs / q = 0 ∧ p.natAbs % q = 0)) ∧ p / (q : Int) = ((p.natAbs / q : Nat) : Int) ∧ p % (q : Int) = ((p.natAbs % q : Nat) : Int))) := by
  refine ⟨Nat.mod_lt _ hq, ?_⟩
  rcases Int.lt_or_le p 0 with h | h
  · left
    have e := Nat.div_add_mod p.natAbs q
    have hl := Nat.mod_lt p.natAbs hq
    refine ⟨h, Int.sign_eq_neg_one_of_neg h, ?_⟩
    generalize hm : p.natAbs / q = m at *
    generalize hr : p.natAbs % q = r at *
    have ep : p = -((q * m + r : Nat) : Int) := by omega
    by_cases z : r = 0
    · rw [if_pos z, if_pos z]
      have e1 : p = (q : Int) * -(m : Int) := by
        rw [ep, z, Nat.add_zero, Int.natCast_mul, Int.mul_neg]
      have hqn : (q : Int) ≠ 0 := by omega
      refine ⟨?_, ?_⟩
      · rw [e1, Int.mul_ediv_cancel_left _ hqn]
        omega
      · rw [e1, Int.mul_emod_right]
    · rw [if_neg z, if_neg z]
      have e1 : p = ((q : Int) - (r : Int)) + (q : Int) * (-(m : Int) - 1) := by
        rw [ep, Int.mul_sub, Int.mul_neg, Int.natCast_add, Int.natCast_mul]
        omega
      refine ⟨?_, ?_⟩
      · rw [e1, Int.add_mul_ediv_left _ _ (by omega), Int.ediv_eq_zero_of_lt (by omega) (by omega)]
        omega
      · rw [e1, Int.add_mul_emod_self_left, Int.emod_eq_of_lt (by omega) (by omega)]
  · right
    have e : p = ((p.natAbs : Nat) : Int) := by omega
    refine ⟨h, ?_, ?_, ?_⟩
    · rcases Int.lt_or_eq_of_le h with z | z
      · exact .inl (Int.sign_eq_one_of_pos z)
      · right
        rw [← z]
        simp
    · conv => lhs; rw [e]
      rfl
    · conv => lhs; rw [e]
      rfl
/-- what comes of the quotients from two first numbers on -/
def bz : List Nat → Int → Int → Int
  | [], e, _ => e
  | q :: qs, e, n => bz qs n (e - n * (q : Int))
/-- what stands ahead of the last part of a chain -/
def tg2 : List Int → Int × Int
  | [] => (0, 1)
  | x :: xs => (x * (tg2 xs).1 + (tg2 xs).2, (tg2 xs).1)
/-- two numbers that differ crosswise by one have nothing in common -/
theorem coprime_of {p q u v : Int} (h : p * v - u * q = 1 ∨ p * v - u * q = -1) : Nat.gcd p.natAbs q.natAbs = 1 := by
  have h1 : ((Nat.gcd p.natAbs q.natAbs : Nat) : Int) ∣ p := Int.ofNat_dvd_left.mpr (Nat.gcd_dvd_left ..)
  have h2 : ((Nat.gcd p.natAbs q.natAbs : Nat) : Int) ∣ q := Int.ofNat_dvd_left.mpr (Nat.gcd_dvd_right ..)
  have h3 := Int.dvd_sub (Int.dvd_mul_of_dvd_left (c := v) h1) (Int.dvd_mul_of_dvd_right (b := u) h2)
  have h4 : ((Nat.gcd p.natAbs q.natAbs : Nat) : Int) ∣ 1 := by
    rcases h with h | h
    · rw [h] at h3
      exact h3
    · rw [h] at h3
      exact Int.dvd_neg.mp h3
  have := Int.ofNat_dvd_left.mp h4
  exact Nat.eq_one_of_dvd_one this
end En
namespace En
end En
namespace En
theorem div_small (p : Int) {q : Nat} (hq : 0 < q) : (p / (q : Int)).natAbs ≤ p.natAbs := by
  obtain ⟨_, hp⟩ := parts_of p hq
  have hd : p.natAbs / q ≤ p.natAbs := Nat.div_le_self ..
  have e0 := Nat.div_add_mod p.natAbs q
  have h1 : 1 * (p.natAbs / q) ≤ q * (p.natAbs / q) := Nat.mul_le_mul_right _ hq
  generalize p.natAbs / q = m at *
  generalize p.natAbs % q = r at *
  generalize q * m = z at *
  rcases hp with ⟨hp0, _, e1, _⟩ | ⟨hp0, _, e1, _⟩
  · rw [e1]
    split
    · omega
    · omega
  · rw [e1]
    omega
end En

/-! wholes and fractions that may be the module's own; how a quotient is rounded by sign and size -/
namespace L2
open PySem PySem.Spec PyProof.Rows
section
variable {P : Program} {w : World} {K : PySem.W.Frag} {mg : Str → Option Value} {base : Heap}
end
section
variable {X : Cx}
end
end L2
namespace Toy
open PySem L2 En
/-- at a stands the whole of i, tracked or of the module -/
def WhK (K : PySem.W.Frag) (H : Hp) (a : Addr) (i : Int) : Prop := ∃ r, SqT K H a [.int i.sign, .ref r] ∧ SqT K H r (lv (limbs i.natAbs))
theorem WhH.k {K : PySem.W.Frag} {H : Hp} {a : Addr} {i : Int} (h : WhH H a i) : WhK K H a i := let ⟨r, h1, h2⟩ := h; ⟨r, SqT.of h1, SqT.of h2⟩
theorem WhK.same {K : PySem.W.Frag} {H H' : Hp} {a : Addr} {i : Int} (h : WhK K H a i) (s : Same H H') : WhK K H' a i := let ⟨r, h1, h2⟩ := h; ⟨r, s.tup h1, s.tup h2⟩
theorem whK_0 {K : PySem.W.Frag} {H : Hp} {a r : Addr} (h1 : SqT K H a [.int 0, .ref r]) (h2 : SqT K H r []) : WhK K H a 0 := ⟨r, h1, by rw [show (0 : Int).natAbs = 0 from rfl, limbs_zero]; exact h2⟩
theorem whK_1 {K : PySem.W.Frag} {H : Hp} {a r : Addr} (h1 : SqT K H a [.int 1, .ref r]) (h2 : SqT K H r [.int 1]) : WhK K H a 1 := ⟨r, h1, by rw [show (1 : Int).natAbs = 1 from rfl, limbs_1]; exact h2⟩
/-- the fraction of p by q, tracked or of the module -/
def FrK (K : PySem.W.Frag) (H : Hp) (a : Addr) (p : Int) (q : Nat) : Prop := ∃ t r, SqT K H a [.ref t, .ref r] ∧ WhK K H t p ∧ SqT K H r (lv (limbs q))
theorem FrH.k {K : PySem.W.Frag} {H : Hp} {a : Addr} {p : Int} {q : Nat} (h : FrH H a p q) : FrK K H a p q := let ⟨t, r, h1, h2, h3⟩ := h; ⟨t, r, SqT.of h1, h2.k, SqT.of h3⟩
theorem FrK.same {K : PySem.W.Frag} {H H' : Hp} {a : Addr} {p : Int} {q : Nat} (h : FrK K H a p q) (s : Same H H') : FrK K H' a p q := let ⟨t, r, h1, h2, h3⟩ := h; ⟨t, r, s.tup h1, h2.same s, s.tup h3⟩
end Toy
namespace Toy
open PySem L2 En
/-- whether a quotient is rounded to one farther from nought -/
def beyondC (w : V) (s : Int) (q r b : Nat) : Bool :=
  if r = 0 then false else if w = .str "zero" then false else if w = .str "away" then true else if w = .str "down" then decide (s < 0) else if w = .str "up" then decide (0 < s)
  else (decide (b < 2 * r) || (decide (2 * r = b) && (if w = .str "half_even" then decide (q % 2 = 1) else decide (w = .str "half_away"))))
section
variable {s : Int} {q r b : Nat}
theorem bc_nought (w : V) (h : r = 0) : beyondC w s q r b = false := by unfold beyondC; rw [if_pos h]
theorem bc_zero : beyondC (.str "zero") s q r b = false := by
  unfold beyondC
  split
  · rfl
  · rw [if_pos rfl]
theorem bc_away (h : r ≠ 0) : beyondC (.str "away") s q r b = true := by unfold beyondC; rw [if_neg h, if_neg (st_ne (by decide +kernel)), if_pos rfl]
theorem bc_down (h : r ≠ 0) : beyondC (.str "down") s q r b = decide (s < 0) := by unfold beyondC; rw [if_neg h, if_neg (st_ne (by decide +kernel)), if_neg (st_ne (by decide +kernel)), if_pos rfl]
theorem bc_up (h : r ≠ 0) : beyondC (.str "up") s q r b = decide (0 < s) := by unfold beyondC; rw [if_neg h, if_neg (st_ne (by decide +kernel)), if_neg (st_ne (by decide +kernel)), if_neg (st_ne (by decide +kernel)), if_pos rfl]
theorem bc_even (h : r ≠ 0) : beyondC (.str "half_even") s q r b = (decide (b < 2 * r) || (decide (2 * r = b) && decide (q % 2 = 1))) := by
  unfold beyondC
  rw [if_neg h, if_neg (st_ne (by decide +kernel)), if_neg (st_ne (by decide +kernel)), if_neg (st_ne (by decide +kernel)), if_neg (st_ne (by decide +kernel)), if_pos rfl]
theorem bc_hzero (h : r ≠ 0) : beyondC (.str "half_zero") s q r b = (decide (b < 2 * r) || (decide (2 * r = b) && false)) := by
  unfold beyondC
  rw [if_neg h, if_neg (st_ne (by decide +kernel)), if_neg (st_ne (by decide +kernel)), if_neg (st_ne (by decide +kernel)), if_neg (st_ne (by decide +kernel)), if_neg (st_ne (by decide +kernel)), decide_eq_false (st_ne (by decide +kernel))]
theorem bc_haway (h : r ≠ 0) : beyondC (.str "half_away") s q r b = (decide (b < 2 * r) || (decide (2 * r = b) && true)) := by
  unfold beyondC
  rw [if_neg h, if_neg (st_ne (by decide +kernel)), if_neg (st_ne (by decide +kernel)), if_neg (st_ne (by decide +kernel)), if_neg (st_ne (by decide +kernel)), if_neg (st_ne (by decide +kernel)), decide_eq_true rfl]
end
/-- a way of divided as one of the courses -/
def wayC (w : V) : V := if w = .str "near" then .str "half_even" else w
theorem Way.course {w : V} (h : Way w) : Course (wayC w) := by
  unfold wayC
  rcases h with rfl | rfl | rfl | rfl
  · rw [if_neg (st_ne (by decide +kernel))]; exact .inl rfl
  · rw [if_neg (st_ne (by decide +kernel))]; exact .inr (.inl rfl)
  · rw [if_neg (st_ne (by decide +kernel))]; exact .inr (.inr (.inl rfl))
  · rw [if_pos rfl]; exact .inr (.inr (.inr (.inr (.inl rfl))))
theorem way_beyond {w : V} (h : Way w) {s : Int} {q r b : Nat} (hb : 0 < b) : beyondC (wayC w) s q r b = beyond w s q r b := by
  unfold wayC
  by_cases hr : r = 0
  · rw [bc_nought _ hr]
    rcases h with rfl | rfl | rfl | rfl
    · rw [by_down, decide_eq_false (fun y => y.1 hr)]
    · rw [by_up, decide_eq_false (fun y => y.1 hr)]
    · rw [by_zero]
    · rw [by_near, decide_eq_false (by omega)]
  · rcases h with rfl | rfl | rfl | rfl
    · rw [if_neg (st_ne (by decide +kernel)), bc_down hr, by_down]
      simp [hr]
    · rw [if_neg (st_ne (by decide +kernel)), bc_up hr, by_up]
      simp [hr]
    · rw [if_neg (st_ne (by decide +kernel)), bc_zero, by_zero]
    · rw [if_pos rfl, bc_even hr, by_near]
      simp
theorem len_prod (m n : Nat) : (limbs (m * n)).length ≤ (limbs m).length + (limbs n).length := by
  refine limbs_len ?_
  rw [Nat.pow_add]
  exact Nat.mul_lt_mul'' (lt_pow_len m) (lt_pow_len n)
theorem len_sum {i j : Int} {k : Nat} (hi : (limbs i.natAbs).length ≤ k) (hj : (limbs j.natAbs).length ≤ k) : (limbs (i + j).natAbs).length ≤ k + 1 := by
  refine limbs_len ?_
  have h1 := Nat.lt_of_lt_of_le (lt_pow_len i.natAbs) (Nat.pow_le_pow_right (by decide) hi)
  have h2 := Nat.lt_of_lt_of_le (lt_pow_len j.natAbs) (Nat.pow_le_pow_right (by decide) hj)
  have h3 := Int.natAbs_add_le i j
  have h4 := p_succ k
  omega
end Toy

/-! the way to the nearest fraction along the chain -/
namespace En
theorem off_eq {a b p q s r : Int} (hs : s = 1 ∨ s = -1) (hr : 0 ≤ r) (h : a * q - p * b = s * r) : (off a b p q : Int) = r := by
  unfold off
  rw [h]
  rcases hs with rfl | rfl <;> omega
theorem pick_best {a b n p1 q1 p2 q2 : Int} (hb : 0 < b) (h1 : 1 ≤ q1) (h2 : 1 ≤ q2) (l1 : q1 ≤ n) (l2 : q2 ≤ n) (hn : n < q1 + q2)
    (hd : (p2 * q1 - p1 * q2 = 1 ∧ p1 * b ≤ a * q1 ∧ a * q2 ≤ p2 * b) ∨ (p1 * q2 - p2 * q1 = 1 ∧ p2 * b ≤ a * q2 ∧ a * q1 ≤ p1 * b)) (hbet : bet a b p1 q1 p2 q2) : IsBest a b n p1 q1 := by
  refine ⟨h1, l1, ?_, fun x y hy hyn => ?_⟩
  · refine coprime_of (u := p2) (v := q2) ?_
    rcases hd with ⟨h, _⟩ | ⟨h, _⟩
    · right; omega
    · left; omega
  · have hh : bet a b p1 q1 x y ∨ bet a b p2 q2 x y := by
      rcases hd with ⟨d, lo, hi⟩ | ⟨d, lo, hi⟩
      · exact next_best hb h1 h2 hn d lo hi x y hy hyn
      · exact (next_best hb h2 h1 (by omega) d lo hi x y hy hyn).symm
    rcases hh with h | h
    · exact h
    · exact bet_trans (by omega) (by omega) (by omega) hbet h
/-- two parts of a chain on end, and what is left of the two numbers -/
def Appr (a b P0 Q0 P1 Q1 s A D : Int) : Prop := (s = 1 ∨ s = -1) ∧ P1 * Q0 - P0 * Q1 = -s ∧ a * Q1 - P1 * b = s * D ∧ a * Q0 - P0 * b = -s * A ∧ 0 ≤ D ∧ D ≤ b ∧
  ((P0 = 0 ∧ Q0 = 1 ∧ P1 = 1 ∧ Q1 = 0 ∧ s = -1 ∧ A = a ∧ D = b) ∨ (1 ≤ Q1 ∧ 0 ≤ Q0 ∧ Q0 ≤ Q1 ∧ D < A ∧ A ≤ b ∧ (s = -1 → 1 ≤ Q0) ∧ (1 ≤ Q0 ∨ Q1 = 1)))
theorem appr_start {a b : Int} (hb : 0 < b) : Appr a b 0 1 1 0 (-1) a b := ⟨.inr rfl, by omega, by omega, by omega, by omega, by omega, .inl ⟨rfl, rfl, rfl, rfl, rfl, rfl, rfl⟩⟩
theorem appr_step {a b P0 Q0 P1 Q1 s A D : Int} (h : Appr a b P0 Q0 P1 Q1 s A D) (hD : 0 < D) : Appr a b P1 Q1 (P1 * (A / D) + P0) (Q1 * (A / D) + Q0) (-s) D (A % D) ∧ 1 ≤ Q1 * (A / D) + Q0 := by
  obtain ⟨hs, det, f1, f0, _, hDb, hk⟩ := h
  have e := Int.mul_ediv_add_emod A D
  have e0 := Int.emod_nonneg A (show D ≠ 0 by omega)
  have e1 := Int.emod_lt_of_pos A hD
  have hq : 1 ≤ Q1 * (A / D) + Q0 ∧ ((1 ≤ Q1 * (A / D) + Q0 ∧ 0 ≤ Q1 ∧ Q1 ≤ Q1 * (A / D) + Q0 ∧ A % D < D ∧ D ≤ b ∧ (-s = -1 → 1 ≤ Q1) ∧ (1 ≤ Q1 ∨ Q1 * (A / D) + Q0 = 1))) := by
    rcases hk with ⟨_, h2, _, h4, h5, _, _⟩ | ⟨h1, h2, h3, h4, h5, h6, h7⟩
    · rw [h4, h2]
      omega
    · have hx : 1 ≤ A / D := Int.le_ediv_of_mul_le hD (by omega)
      have m : Q1 * 1 ≤ Q1 * (A / D) := Int.mul_le_mul_of_nonneg_left hx (by omega)
      omega
  refine ⟨⟨by omega, ?_, ?_, ?_, e0, by omega, .inr hq.2⟩, hq.1⟩
  · generalize A / D = x at *
    generalize A % D = r at *
    grind
  · generalize A / D = x at *
    generalize A % D = r at *
    grind
  · grind
theorem appr_end {a b P0 Q0 P1 Q1 s A : Int} (hb : 0 < b) (h : Appr a b P0 Q0 P1 Q1 s A 0) (hg : Nat.gcd a.natAbs b.natAbs = 1) : P1 = a ∧ Q1 = b := by
  obtain ⟨hs, det, f1, f0, _, _, hk⟩ := h
  rcases hk with ⟨_, _, _, _, _, _, h7⟩ | ⟨h1, _⟩
  · omega
  have hc : Nat.gcd P1.natAbs Q1.natAbs = 1 := coprime_of (u := P0) (v := Q0) (by rcases hs with rfl | rfl <;> omega)
  rw [Int.mul_zero] at f1
  have eb : ((b.natAbs : Nat) : Int) = b := by omega
  have eq : ((Q1.natAbs : Nat) : Int) = Q1 := by omega
  obtain ⟨k1, k2⟩ := low_one (p := P1) (q := Q1.natAbs) (p' := a) (q' := b.natAbs) (by omega) (by omega) hc hg (by rw [eb, eq]; omega)
  exact ⟨k1, by omega⟩
theorem best_self {a b n : Int} (hb : 0 < b) (hn : b ≤ n) (hg : Nat.gcd a.natAbs b.natAbs = 1) : IsBest a b n a b := by
  refine ⟨by omega, hn, hg, fun x y hy hyn => ?_⟩
  have o0 : (off a b a b : Int) = 0 := by unfold off; simp
  unfold bet
  rw [o0, Int.zero_mul]
  rcases Nat.eq_zero_or_pos (off a b x y) with z | z
  · right
    rw [z]
    refine ⟨by simp, ?_⟩
    have e : a * y = x * b := by unfold off at z; omega
    have e1 : a.natAbs * y.natAbs = x.natAbs * b.natAbs := by rw [← Int.natAbs_mul, ← Int.natAbs_mul, e]
    have d : b.natAbs ∣ y.natAbs := by
      have : b.natAbs ∣ a.natAbs * y.natAbs := by rw [e1]; exact Nat.dvd_mul_left ..
      exact Nat.Coprime.dvd_of_dvd_mul_left (by rw [Nat.Coprime, Nat.gcd_comm]; exact hg) this
    have hle := Nat.le_of_dvd (by omega) d
    rcases Int.lt_or_eq_of_le (show b ≤ y by omega) with k | k
    · exact .inl k
    · right
      refine ⟨k, ?_⟩
      rw [← k] at e
      have := Int.eq_of_mul_eq_mul_right (show b ≠ 0 by omega) e
      omega
  · left
    exact Int.mul_pos (by omega) hb
/-- the last part and the one beside it -/
theorem appr_best {a b n P0 Q0 P1 Q1 s A D : Int} (hb : 0 < b) (h : Appr a b P0 Q0 P1 Q1 s A D) (hD : 0 < D) (h1 : 1 ≤ Q1) (h2 : Q1 ≤ n) (h3 : n < Q1 * (A / D) + Q0) :
    0 ≤ (n - Q0) / Q1 ∧ 0 ≤ Q0 ∧ Q0 ≤ n ∧ 1 ≤ (n - Q0) / Q1 * Q1 + Q0 ∧ (n - Q0) / Q1 * Q1 + Q0 ≤ n ∧
      (bet a b P1 Q1 ((n - Q0) / Q1 * P1 + P0) ((n - Q0) / Q1 * Q1 + Q0) → IsBest a b n P1 Q1) ∧ (bet a b ((n - Q0) / Q1 * P1 + P0) ((n - Q0) / Q1 * Q1 + Q0) P1 Q1 → IsBest a b n ((n - Q0) / Q1 * P1 + P0) ((n - Q0) / Q1 * Q1 + Q0)) ∧
      ((off a b P1 Q1 : Int) * ((n - Q0) / Q1 * Q1 + Q0) ≤ (off a b ((n - Q0) / Q1 * P1 + P0) ((n - Q0) / Q1 * Q1 + Q0) : Int) * Q1 → bet a b P1 Q1 ((n - Q0) / Q1 * P1 + P0) ((n - Q0) / Q1 * Q1 + Q0)) := by
  obtain ⟨hs, det, f1, f0, _, hDb, hk⟩ := h
  rcases hk with ⟨_, _, _, h4, _, _, _⟩ | ⟨_, k2, k3, k4, k5, k6, k7⟩
  · omega
  have e := Int.mul_ediv_add_emod (n - Q0) Q1
  have e0 := Int.emod_nonneg (n - Q0) (show Q1 ≠ 0 by omega)
  have e1 := Int.emod_lt_of_pos (n - Q0) (show 0 < Q1 by omega)
  have d := Int.mul_ediv_add_emod A D
  have d0 := Int.emod_nonneg A (show D ≠ 0 by omega)
  have hc0 : 0 ≤ (n - Q0) / Q1 := Int.ediv_nonneg (by omega) (by omega)
  generalize hc : (n - Q0) / Q1 = c at *
  generalize (n - Q0) % Q1 = m at *
  generalize hx : A / D = x at *
  generalize hR : A % D = R at *
  have hcx : c + 1 ≤ x := by
    rcases Int.lt_or_le c x with z | z
    · omega
    · exfalso
      have := Int.mul_le_mul_of_nonneg_left z (show 0 ≤ Q1 by omega)
      omega
  have ec : c * Q1 = Q1 * c := Int.mul_comm ..
  have hQA : 1 ≤ c * Q1 + Q0 := by
    rcases k7 with z | z
    · have := Int.mul_nonneg hc0 (show 0 ≤ Q1 by omega)
      omega
    · rw [z] at e ec e1 ⊢
      omega
  have fA : a * (c * Q1 + Q0) - (c * P1 + P0) * b = -s * (A - c * D) := by grind
  have hDc : D * (c + 1) ≤ D * x := Int.mul_le_mul_of_nonneg_left hcx (by omega)
  rw [Int.mul_add, Int.mul_one] at hDc
  have ecD : c * D = D * c := Int.mul_comm ..
  have rA : D ≤ A - c * D := by omega
  have o1 := off_eq hs (show 0 ≤ D by omega) f1
  have oA := off_eq (a := a) (b := b) (p := c * P1 + P0) (q := c * Q1 + Q0) (s := -s) (r := A - c * D) (by omega) (by omega) fA
  have dA : (c * P1 + P0) * Q1 - P1 * (c * Q1 + Q0) = s := by grind
  have side1 : 0 ≤ D := by omega
  have sides : ((c * P1 + P0) * Q1 - P1 * (c * Q1 + Q0) = 1 ∧ P1 * b ≤ a * Q1 ∧ a * (c * Q1 + Q0) ≤ (c * P1 + P0) * b) ∨ (P1 * (c * Q1 + Q0) - (c * P1 + P0) * Q1 = 1 ∧ (c * P1 + P0) * b ≤ a * (c * Q1 + Q0) ∧ a * Q1 ≤ P1 * b) := by
    rcases hs with rfl | rfl
    · left
      refine ⟨by omega, by omega, by omega⟩
    · right
      refine ⟨by omega, by omega, by omega⟩
  have hQn : c * Q1 + Q0 ≤ n := by omega
  refine ⟨hc0, k2, by omega, hQA, hQn, fun hbt => pick_best hb h1 hQA h2 hQn (by omega) sides hbt, fun hbt => pick_best hb hQA h1 hQn h2 (by omega) (sides.symm.imp (fun ⟨x, y, z⟩ => ⟨x, y, z⟩) (fun ⟨x, y, z⟩ => ⟨x, y, z⟩)) hbt, fun hle => ?_⟩
  rw [o1, oA] at hle
  unfold bet
  rw [o1, oA]
  rcases Int.lt_or_eq_of_le hle with z | z
  · exact .inl z
  · right
    refine ⟨z, ?_⟩
    have m1 : D * Q1 ≤ (A - c * D) * Q1 := Int.mul_le_mul_of_nonneg_right rA (by omega)
    have hle2 : Q1 ≤ c * Q1 + Q0 := by
      rcases Int.lt_or_le (c * Q1 + Q0) Q1 with y | y
      · exfalso
        have := Int.mul_lt_mul_of_pos_left y hD
        omega
      · exact y
    rcases Int.lt_or_eq_of_le hle2 with y | y
    · exact .inl y
    · right
      refine ⟨y, ?_⟩
      rw [← y] at z dA
      have eo : D = A - c * D := Int.eq_of_mul_eq_mul_right (show Q1 ≠ 0 by omega) z
      have e3 : (c * P1 + P0 - P1) * Q1 = s := by rw [Int.sub_mul]; exact dA
      rcases hs with rfl | rfl
      · rcases Int.lt_or_le (c * P1 + P0) P1 with w | w
        · exfalso
          have := Int.mul_neg_of_neg_of_pos (show c * P1 + P0 - P1 < 0 by omega) (show 0 < Q1 by omega)
          omega
        · exact w
      · exfalso
        have hQ0 := k6 rfl
        have hq1 : Q1 = 1 := by
          rcases Int.lt_or_le 1 Q1 with w | w
          · exfalso
            rcases Int.lt_or_le (c * P1 + P0 - P1) 0 with v | v
            · have := Int.mul_le_mul_of_nonneg_right (show c * P1 + P0 - P1 ≤ -1 by omega) (show 0 ≤ Q1 by omega)
              omega
            · have := Int.mul_nonneg v (show 0 ≤ Q1 by omega)
              omega
          · omega
        rw [hq1, Int.mul_one] at y
        have hc1 : c = 0 := by omega
        rw [hc1] at eo
        omega
/-- the bounds of a part -/
theorem appr_size {a b P0 Q0 P1 Q1 s A D : Int} (hb : 0 < b) (h : Appr a b P0 Q0 P1 Q1 s A D) : P1.natAbs ≤ a.natAbs * Q1.natAbs + 1 := by
  obtain ⟨hs, _, f1, _, h0, hDb, _⟩ := h
  have e1 : P1.natAbs * b.natAbs ≤ a.natAbs * Q1.natAbs + b.natAbs := by
    have e : P1 * b = a * Q1 - s * D := by omega
    have := congrArg Int.natAbs e
    rw [Int.natAbs_mul] at this
    rw [this]
    have t := Int.natAbs_sub_le (a * Q1) (s * D)
    rw [Int.natAbs_mul, Int.natAbs_mul] at t
    have hsa : s.natAbs = 1 := by rcases hs with rfl | rfl <;> rfl
    rw [hsa, Nat.one_mul] at t
    omega
  have hb1 : 1 ≤ b.natAbs := by omega
  have e2 : a.natAbs * Q1.natAbs * 1 ≤ a.natAbs * Q1.natAbs * b.natAbs := Nat.mul_le_mul_left _ hb1
  have e3 : P1.natAbs * b.natAbs ≤ (a.natAbs * Q1.natAbs + 1) * b.natAbs := by
    rw [Nat.add_mul, Nat.one_mul]
    omega
  exact Nat.le_of_mul_le_mul_right e3 hb1
end En
namespace En
/-- of one lower number only the two next to the fraction count -/
theorem cand_best {a b y : Int} (hb : 0 < b) (hy : 1 ≤ y) (x : Int) : bet a b (a * y / b) y x y ∨ bet a b (a * y / b + 1) y x y := by
  have e := Int.mul_ediv_add_emod (a * y) b
  have e0 := Int.emod_nonneg (a * y) (show b ≠ 0 by omega)
  have e1 := Int.emod_lt_of_pos (a * y) hb
  generalize a * y / b = u at *
  generalize (a * y) % b = r at *
  have eu : u * b = b * u := Int.mul_comm ..
  rcases Int.lt_or_le u x with h | h
  · right
    have m : b * (u + 1) ≤ b * x := Int.mul_le_mul_of_nonneg_left (by omega) (by omega)
    have ex : x * b = b * x := Int.mul_comm ..
    have e2 : (u + 1) * b = b * (u + 1) := Int.mul_comm ..
    rw [Int.mul_add, Int.mul_one] at m e2
    have o1 : (off a b (u + 1) y : Int) = b - r := by unfold off; omega
    have o2 : (off a b x y : Int) = x * b - a * y := by unfold off; omega
    unfold bet
    rw [o1, o2]
    rcases Int.lt_or_eq_of_le (show u + 1 ≤ x by omega) with z | z
    · left
      have m2 : b * (u + 1) < b * x := Int.mul_lt_mul_of_pos_left z hb
      rw [Int.mul_add, Int.mul_one] at m2
      exact Int.mul_lt_mul_of_pos_right (by omega) (by omega)
    · right
      refine ⟨?_, .inr ⟨rfl, by omega⟩⟩
      rw [← z] at ex ⊢
      rw [e2]
      congr 1
      omega
  · left
    have m : b * x ≤ b * u := Int.mul_le_mul_of_nonneg_left h (by omega)
    have ex : x * b = b * x := Int.mul_comm ..
    have o1 : (off a b u y : Int) = r := by unfold off; omega
    have o2 : (off a b x y : Int) = a * y - x * b := by unfold off; omega
    unfold bet
    rw [o1, o2]
    rcases Int.lt_or_eq_of_le h with z | z
    · left
      have m2 : b * x < b * u := Int.mul_lt_mul_of_pos_left z hb
      exact Int.mul_lt_mul_of_pos_right (by omega) (by omega)
    · right
      refine ⟨?_, .inr ⟨rfl, by omega⟩⟩
      rw [z, eu]
      congr 1
      omega
/-- lowest terms are not worse -/
theorem red_best {a b u y : Int} (hy : 1 ≤ y) : bet a b (u / ((Nat.gcd u.natAbs y.natAbs : Nat) : Int)) (y / ((Nat.gcd u.natAbs y.natAbs : Nat) : Int)) u y ∧
    Nat.gcd (u / ((Nat.gcd u.natAbs y.natAbs : Nat) : Int)).natAbs (y / ((Nat.gcd u.natAbs y.natAbs : Nat) : Int)).natAbs = 1 ∧ 1 ≤ y / ((Nat.gcd u.natAbs y.natAbs : Nat) : Int) ∧ y / ((Nat.gcd u.natAbs y.natAbs : Nat) : Int) ≤ y ∧ 0 < Nat.gcd u.natAbs y.natAbs ∧ (Nat.gcd u.natAbs y.natAbs : Int) ≤ y := by
  have hg0 : 0 < Nat.gcd u.natAbs y.natAbs := Nat.gcd_pos_of_pos_right _ (by omega)
  have hgy : Nat.gcd u.natAbs y.natAbs ≤ y.natAbs := Nat.le_of_dvd (by omega) (Nat.gcd_dvd_right ..)
  have h1 : ((Nat.gcd u.natAbs y.natAbs : Nat) : Int) ∣ u := Int.ofNat_dvd_left.mpr (Nat.gcd_dvd_left ..)
  have h2 : ((Nat.gcd u.natAbs y.natAbs : Nat) : Int) ∣ y := Int.ofNat_dvd_left.mpr (Nat.gcd_dvd_right ..)
  have hcop : Nat.gcd (u / ((Nat.gcd u.natAbs y.natAbs : Nat) : Int)).natAbs (y / ((Nat.gcd u.natAbs y.natAbs : Nat) : Int)).natAbs = 1 := by
    rw [Int.natAbs_ediv_of_dvd h1, Int.natAbs_ediv_of_dvd h2, Int.natAbs_natCast]
    exact Nat.gcd_div_gcd_div_gcd_of_pos_right (by omega)
  have e1 := Int.ediv_mul_cancel h1
  have e2 := Int.ediv_mul_cancel h2
  have hg1 : (0 : Int) < ((Nat.gcd u.natAbs y.natAbs : Nat) : Int) := by omega
  generalize hgg : ((Nat.gcd u.natAbs y.natAbs : Nat) : Int) = g at *
  generalize u / g = u' at *
  generalize y / g = y' at *
  have hy' : 1 ≤ y' := by
    rcases Int.lt_or_le y' 1 with z | z
    · exfalso
      have := Int.mul_le_mul_of_nonneg_right (show y' ≤ 0 by omega) (show 0 ≤ g by omega)
      omega
    · exact z
  have hyy : y' * 1 ≤ y' * g := Int.mul_le_mul_of_nonneg_left (by omega) (by omega)
  refine ⟨?_, hcop, hy', by omega, hg0, by omega⟩
  have eo : (off a b u y : Int) = (off a b u' y' : Int) * g := by
    unfold off
    have : a * y - u * b = (a * y' - u' * b) * g := by rw [← e1, ← e2]; grind
    rw [this, Int.natAbs_mul, Int.natCast_mul, Int.natAbs_of_nonneg (show 0 ≤ g by omega)]
  right
  refine ⟨?_, ?_⟩
  · rw [eo, ← e2, Int.mul_assoc, Int.mul_comm g]
  · rcases Int.lt_or_le 1 g with z | z
    · left
      have := Int.mul_lt_mul_of_pos_left z (show 0 < y' by omega)
      omega
    · right
      have : g = 1 := by omega
      rw [this, Int.mul_one] at e1 e2
      exact ⟨e2, by omega⟩
theorem all_step {a b i p0 q0 p q : Int} (hb : 0 < b) (hi : 0 ≤ i) (hq0 : 1 ≤ q0) (hq : 1 ≤ q) (h0 : ∀ x y : Int, 1 ≤ y → y ≤ i → bet a b p0 q0 x y) (b0 : bet a b p q p0 q0)
    (b1 : bet a b p q (a * (i + 1) / b / ((Nat.gcd (a * (i + 1) / b).natAbs (i + 1).natAbs : Nat) : Int)) ((i + 1) / ((Nat.gcd (a * (i + 1) / b).natAbs (i + 1).natAbs : Nat) : Int)))
    (b2 : bet a b p q ((a * (i + 1) / b + 1) / ((Nat.gcd (a * (i + 1) / b + 1).natAbs (i + 1).natAbs : Nat) : Int)) ((i + 1) / ((Nat.gcd (a * (i + 1) / b + 1).natAbs (i + 1).natAbs : Nat) : Int))) :
    ∀ x y : Int, 1 ≤ y → y ≤ i + 1 → bet a b p q x y := by
  intro x y hy hyi
  rcases Int.lt_or_le i y with z | z
  · have ey : y = i + 1 := by omega
    subst ey
    obtain ⟨r1, _, r2, _⟩ := red_best (a := a) (b := b) (u := a * (i + 1) / b) hy
    obtain ⟨s1, _, s2, _⟩ := red_best (a := a) (b := b) (u := a * (i + 1) / b + 1) hy
    rcases cand_best hb hy x (a := a) with h | h
    · exact bet_trans (by omega) (by omega) (by omega) b1 (bet_trans (by omega) (by omega) (by omega) r1 h)
    · exact bet_trans (by omega) (by omega) (by omega) b2 (bet_trans (by omega) (by omega) (by omega) s1 h)
  · exact bet_trans (by omega) (by omega) (by omega) b0 (h0 x y hy z)
end En

/-! the nearest fraction in the heap -/
namespace Toy
open PySem L2 En
theorem down_int (p : Int) {j : Int} (hj : 0 < j) : quotW (.str "down") p j = p / j ∧ p - quotW (.str "down") p j * j = p % j := by
  have e1 : quotW (.str "down") p j = p / j := by
    rw [quot_down (by omega), Int.fdiv_eq_ediv_of_nonneg _ (by omega)]
  refine ⟨e1, ?_⟩
  have e := Int.mul_ediv_add_emod p j
  rw [e1, Int.mul_comm]
  omega
theorem div_len (p : Int) {j : Int} (hj : 0 < j) : (limbs (p / j).natAbs).length ≤ (limbs p.natAbs).length := by
  have h := div_small p (q := j.toNat) (by omega)
  rw [Int.toNat_of_nonneg (by omega)] at h
  exact len_mono h
/-- two tuples of two numbers each: the one that is better than both -/
def sp_better (_K : PySem.W.Frag) : Sp := fun vs H Q _ => ∃ (a b : Int) (t1 t2 : Addr) (p1 q1 p2 q2 : Int), vs = [.int a, .int b, .ref t1, .ref t2] ∧ H t1 = some (.tup [.int p1, .int q1]) ∧ H t2 = some (.tup [.int p2, .int q2]) ∧
  a.natAbs < 65536 ^ 200 ∧ b.natAbs < 65536 ^ 200 ∧ p1.natAbs < 65536 ^ 200 ∧ q1.natAbs < 65536 ^ 200 ∧ p2.natAbs < 65536 ^ 200 ∧ q2.natAbs < 65536 ^ 200 ∧
  ∀ (t : Addr) (p q : Int), ((t = t1 ∧ p = p1 ∧ q = q1) ∨ (t = t2 ∧ p = p2 ∧ q = q2)) → bet a b p q p1 q1 → bet a b p q p2 q2 → Q (.ref t) H
/-- closest: the nearest; ByNought up to nought -/
def sp_closest (K : PySem.W.Frag) : Sp := fun vs H Q E => ∃ (a m : Addr) (p : Int) (q n : Nat), vs = [.ref a, .ref m] ∧ FrH H a p q ∧ H m = some (.tup (lv (limbs n))) ∧ 0 < q ∧ Nat.gcd p.natAbs q = 1 ∧ (limbs p.natAbs).length ≤ 30 ∧ (limbs q).length ≤ 30 ∧ (limbs n).length ≤ 30 ∧
  ((0 < n ∧ ∀ (t : Addr) (P : Int) (D : Nat) (H' : Hp), Same H H' → FrH H' t P D → IsBest p (q : Int) (n : Int) P (D : Int) → Q (.ref t) H') ∨ (n = 0 ∧ ∀ C, PySem.W.nsIn K mainGlobals "ByNought" = some (some (.ref C)) → E (.ref C) none H))
/-- the two last parts on the way -/
def sp_last_two (K : PySem.W.Frag) : Sp := fun vs H Q _ => ∃ (a m : Addr) (p : Int) (q n : Nat), vs = [.ref a, .ref m] ∧ FrH H a p q ∧ H m = some (.tup (lv (limbs n))) ∧ 0 < q ∧ Nat.gcd p.natAbs q = 1 ∧ (limbs p.natAbs).length ≤ 30 ∧ (limbs q).length ≤ 30 ∧ (limbs n).length ≤ 30 ∧ 0 < n ∧ n < q ∧
  ∀ (t t0 t1 : Addr) (P0 Q0 P1 Q1 s A D : Int) (H' : Hp), Same H H' → H' t = some (.tup [.ref t0, .ref t1]) → FrK K H' t0 P0 Q0.toNat → FrH H' t1 P1 Q1.toNat → Appr p (q : Int) P0 Q0 P1 Q1 s A D → 0 < D → 1 ≤ Q1 → Q1 ≤ (n : Int) → (n : Int) < Q1 * (A / D) + Q0 →
    (limbs P0.natAbs).length ≤ 100 → (limbs P1.natAbs).length ≤ 100 → Q (.ref t) H'
/-- the state of the way -/
def ltInv (K : PySem.W.Frag) (H : Hp) (fr mo : Addr) (p : Int) (q n : Nat) (w : Nat) (σ : St) (H1 : Hp) : Prop :=
  ∃ (ab be t0 t1 tp tp0 tp1 tl : Addr) (P0 Q0 P1 Q1 s A D : Int), w = D.toNat ∧ σ = [some (.ref fr), some (.ref mo), some (.ref ab), some (.ref be), some (.ref t0), some (.ref t1), some (.ref tp), some (.ref tl)] ∧ Same H H1 ∧
    Appr p (q : Int) P0 Q0 P1 Q1 s A D ∧ 0 < D ∧ D ≤ (q : Int) ∧ WhH H1 be D ∧ H1 tp = some (.tup [.ref tp0, .ref tp1]) ∧ WhH H1 tp0 (A / D) ∧ WhH H1 tp1 (A % D) ∧ FrK K H1 t0 P0 Q0.toNat ∧ FrK K H1 t1 P1 Q1.toNat ∧ (1 ≤ Q1 → FrH H1 t1 P1 Q1.toNat) ∧
    FrH H1 tl (P1 * (A / D) + P0) (Q1 * (A / D) + Q0).toNat ∧ 0 ≤ Q0 ∧ 0 ≤ Q1 ∧ Q1 ≤ (n : Int) ∧ Q0 ≤ (n : Int) + 1 ∧ (limbs P0.natAbs).length ≤ 100 ∧ (limbs P1.natAbs).length ≤ 100 ∧ (limbs (A / D).natAbs).length ≤ 100
end Toy

namespace Toy
open PySem L2 En
set_option maxHeartbeats 4000000
def top (i : Nat) : Stmt := PySem.Challenge.pw_endless_k34_whole_closest.main.body.getD i (.Pass ⟨0, 0, 0, 0⟩)

structure Glb (K : PySem.W.Frag) (mg : Str → Option Value) : Prop where
  len_ : mg "len" = none
  abs_ : mg "abs" = none
  max_ : mg "max" = none
  min_ : mg "min" = none
  int_ : mg "int" = none
  bool_ : mg "bool" = none
  tuple_ : mg "tuple" = none
  list_ : mg "list" = none
  str_ : mg "str" = none
  range_ : mg "range" = none
  isinstance_ : mg "isinstance" = none
  reversed_ : mg "reversed" = none
  enumerate_ : mg "enumerate" = none
  ValueError_ : mg "ValueError" = none
  g_BITS : ∃ t, mg "BITS" = some (.int 16 t)
  g_BASE : ∃ t, mg "BASE" = some (.int 65536 t)
  g_WAYS : ∃ a, mg "WAYS" = some (.ref a) ∧ ∀ H : Hp, SqT K H a [.str "down", .str "up", .str "zero", .str "near"]
  g_EARLIEST : ∃ a0 a1 a2 a3, mg "EARLIEST" = some (.ref a0) ∧ (∀ H : Hp, SqT K H a0 [.ref a1, .ref a3]) ∧ (∀ H : Hp, SqT K H a1 [.int 0, .ref a2]) ∧ (∀ H : Hp, SqT K H a2 []) ∧ (∀ H : Hp, SqT K H a3 [.int 1])
  g_AHEAD : ∃ a0 a1 a2 a3, mg "AHEAD" = some (.ref a0) ∧ (∀ H : Hp, SqT K H a0 [.ref a1, .ref a3]) ∧ (∀ H : Hp, SqT K H a1 [.int 1, .ref a2]) ∧ (∀ H : Hp, SqT K H a2 [.int 1]) ∧ (∀ H : Hp, SqT K H a3 [])
  x_NumberError : ∃ C, Xc K "NumberError" C ∧ mg "NumberError" = some (.ref C)
  x_NoNatural : ∃ C, PySem.W.nsIn K mainGlobals "NoNatural" = some (some (.ref C)) ∧ mg "NoNatural" = some (.ref C)
  x_BelowNought : ∃ C, Xc K "BelowNought" C ∧ mg "BelowNought" = some (.ref C)
  x_NoCount : ∃ C, Xc K "NoCount" C ∧ mg "NoCount" = some (.ref C)
  x_ByNought : ∃ C, Xc K "ByNought" C ∧ mg "ByNought" = some (.ref C)
  x_NoWay : ∃ C, Xc K "NoWay" C ∧ mg "NoWay" = some (.ref C)
  x_NoChain : ∃ C, PySem.W.nsIn K mainGlobals "NoChain" = some (some (.ref C)) ∧ mg "NoChain" = some (.ref C)
  x_NoRoot : ∃ C, PySem.W.nsIn K mainGlobals "NoRoot" = some (some (.ref C)) ∧ mg "NoRoot" = some (.ref C)
  x_NoBase : ∃ C, PySem.W.nsIn K mainGlobals "NoBase" = some (some (.ref C)) ∧ mg "NoBase" = some (.ref C)
  x_NoDigit : ∃ C, PySem.W.nsIn K mainGlobals "NoDigit" = some (some (.ref C)) ∧ mg "NoDigit" = some (.ref C)
  x_TooLong : ∃ C, PySem.W.nsIn K mainGlobals "TooLong" = some (some (.ref C)) ∧ mg "TooLong" = some (.ref C)
  x_NoText : ∃ C, PySem.W.nsIn K mainGlobals "NoText" = some (some (.ref C)) ∧ mg "NoText" = some (.ref C)
  x_NoName : ∃ C, PySem.W.nsIn K mainGlobals "NoName" = some (some (.ref C)) ∧ mg "NoName" = some (.ref C)
  cg : PySem.W.specialIn K (.builtin "object.__class__") "__get__" = some (some (.builtin "getset_descriptor.__get__"))
  ct : PySem.W.takesIn K (.builtin "object.__class__") = some true
  i_ByNought_NumberError : ∀ R C : Addr, PySem.W.nsIn K mainGlobals "ByNought" = some (some (.ref R)) → PySem.W.nsIn K mainGlobals "NumberError" = some (some (.ref C)) → PySem.W.kitOne K (.ref R) (.ref C) = some true
  i_ByNought_NoNatural : ∀ R C : Addr, PySem.W.nsIn K mainGlobals "ByNought" = some (some (.ref R)) → PySem.W.nsIn K mainGlobals "NoNatural" = some (some (.ref C)) → PySem.W.kitOne K (.ref R) (.ref C) = some false
  i_ByNought_BelowNought : ∀ R C : Addr, PySem.W.nsIn K mainGlobals "ByNought" = some (some (.ref R)) → PySem.W.nsIn K mainGlobals "BelowNought" = some (some (.ref C)) → PySem.W.kitOne K (.ref R) (.ref C) = some false
  i_ByNought_NoCount : ∀ R C : Addr, PySem.W.nsIn K mainGlobals "ByNought" = some (some (.ref R)) → PySem.W.nsIn K mainGlobals "NoCount" = some (some (.ref C)) → PySem.W.kitOne K (.ref R) (.ref C) = some false
  i_ByNought_ByNought : ∀ R C : Addr, PySem.W.nsIn K mainGlobals "ByNought" = some (some (.ref R)) → PySem.W.nsIn K mainGlobals "ByNought" = some (some (.ref C)) → PySem.W.kitOne K (.ref R) (.ref C) = some true
  i_ByNought_NoWay : ∀ R C : Addr, PySem.W.nsIn K mainGlobals "ByNought" = some (some (.ref R)) → PySem.W.nsIn K mainGlobals "NoWay" = some (some (.ref C)) → PySem.W.kitOne K (.ref R) (.ref C) = some false
  i_ByNought_NoChain : ∀ R C : Addr, PySem.W.nsIn K mainGlobals "ByNought" = some (some (.ref R)) → PySem.W.nsIn K mainGlobals "NoChain" = some (some (.ref C)) → PySem.W.kitOne K (.ref R) (.ref C) = some false
  i_ByNought_NoRoot : ∀ R C : Addr, PySem.W.nsIn K mainGlobals "ByNought" = some (some (.ref R)) → PySem.W.nsIn K mainGlobals "NoRoot" = some (some (.ref C)) → PySem.W.kitOne K (.ref R) (.ref C) = some false
  i_ByNought_NoBase : ∀ R C : Addr, PySem.W.nsIn K mainGlobals "ByNought" = some (some (.ref R)) → PySem.W.nsIn K mainGlobals "NoBase" = some (some (.ref C)) → PySem.W.kitOne K (.ref R) (.ref C) = some false
  i_ByNought_NoDigit : ∀ R C : Addr, PySem.W.nsIn K mainGlobals "ByNought" = some (some (.ref R)) → PySem.W.nsIn K mainGlobals "NoDigit" = some (some (.ref C)) → PySem.W.kitOne K (.ref R) (.ref C) = some false
  i_ByNought_TooLong : ∀ R C : Addr, PySem.W.nsIn K mainGlobals "ByNought" = some (some (.ref R)) → PySem.W.nsIn K mainGlobals "TooLong" = some (some (.ref C)) → PySem.W.kitOne K (.ref R) (.ref C) = some false
  i_ByNought_NoText : ∀ R C : Addr, PySem.W.nsIn K mainGlobals "ByNought" = some (some (.ref R)) → PySem.W.nsIn K mainGlobals "NoText" = some (some (.ref C)) → PySem.W.kitOne K (.ref R) (.ref C) = some false
  i_ByNought_NoName : ∀ R C : Addr, PySem.W.nsIn K mainGlobals "ByNought" = some (some (.ref R)) → PySem.W.nsIn K mainGlobals "NoName" = some (some (.ref C)) → PySem.W.kitOne K (.ref R) (.ref C) = some false
  iv_ByNought : ∀ R : Addr, PySem.W.nsIn K mainGlobals "ByNought" = some (some (.ref R)) → PySem.W.kitOne K (.ref R) (.type "ValueError") = some true
  t_ByNought_NumberError : ∀ R C : Addr, PySem.W.nsIn K mainGlobals "ByNought" = some (some (.ref R)) → PySem.W.nsIn K mainGlobals "NumberError" = some (some (.ref C)) → PySem.W.subIn K (.ref R) (.ref C) = some true

abbrev sd_number_of : Stmt := top 17
abbrev nm_number_of : List Str := ["natural", "number", "limb"]
abbrev pr_number_of : List Str := ["natural"]
theorem sc_number_of : FnScope nm_number_of pr_number_of (defScope sd_number_of) := ⟨rfl, rfl, rfl, by decide +kernel, rfl, by decide +kernel, by decide +kernel⟩
/-- number_of: the number of a natural -/
def sp_number_of (K : PySem.W.Frag) : Sp := fun vs H Q _ => ∃ (a : Addr) (n : Nat), vs = [.ref a] ∧ SqT K H a (lv (limbs n)) ∧ Q (.int (n : Int)) H
theorem div_stepN (n k : Nat) : n / 65536 ^ (k + 1) * 65536 + limbAt n k = n / 65536 ^ k := by
  unfold limbAt
  rw [Nat.pow_succ, ← Nat.div_div_eq_div_mul]
  omega
theorem ok_number_of {P : Program} {w : World} {K : PySem.W.Frag} {mg : Str → Option Value} {base : Heap} {f : Addr} {fd : FuncData} (D : DefAt K mg "number_of" sd_number_of pr_number_of f fd) (B : Glb K mg)  : Cal P w K mg base 1 "number_of" pr_number_of (sp_number_of K) := by
  refine D.cal sc_number_of (fun vs H Q E h => ?_) (fun cdv A outer s H vs Q E hr h => ?_)
  · obtain ⟨a, n, rfl, _⟩ := h
    rfl
  obtain ⟨a, n, rfl, hA, q⟩ := h
  refine ⟨_, (pss_cons (ps_set (i := 1) sc_number_of.nd rfl (Or.inl rfl) pe_int)
    (pss_cons (ps_for PassesOwn.never rfl (pi_revT rfl B.reversed_ (pa_cons (pv 0) pa_nil)) (pg_name (i := 2) sc_number_of.nd rfl (Or.inl rfl)) (pss_one (ps_set (i := 1) sc_number_of.nd rfl (Or.inl rfl) (pe_op op_add (pe_op op_mul (pv 1) (pe_const B.g_BASE rfl)) (pv 2)))))
    (pss_one (ps_ret (pv 1))))), ?_⟩
  have la : (lv (limbs n)).length = (limbs n).length := lv_length _
  refine ⟨_, rfl, a, lv (limbs n), rfl, hA, ?_⟩
  refine for_revT (xs := lv (limbs n)) (fun i σ H1 => H1 = H ∧ ∃ x, σ = [some (.ref a), some (.int ((n / 65536 ^ ((limbs n).length - i) : Nat) : Int)), x]) ⟨rfl, none, by rw [Nat.sub_zero, div_len_zero]; rfl⟩ (fun i σ H1 _ ⟨e, _⟩ => by rw [e]; exact hA) ?_ ?_
  · rintro i y σ H1 hi hy ⟨rfl, x, rfl⟩
    rw [la] at hi hy
    rw [lv_get (limbs_get (by omega))] at hy
    cases hy
    refine ⟨_, rfl, _, _, rfl, rfl, .inr ⟨by decide, by decide⟩, _, rfl, _, _, rfl, rfl, rfl, some (.int ((limbAt n ((limbs n).length - 1 - i) : Nat) : Int)), ?_⟩
    have e := div_stepN n ((limbs n).length - 1 - i)
    rw [show (limbs n).length - 1 - i + 1 = (limbs n).length - i by omega] at e
    rw [show (limbs n).length - (i + 1) = (limbs n).length - 1 - i by omega, ← e]
    rw [Int.natCast_add, Int.natCast_mul]
    rfl
  · rintro σ H1 ⟨rfl, x, rfl⟩
    rw [la, Nat.sub_self, Nat.pow_zero, Nat.div_one]
    exact ⟨_, rfl, q⟩

abbrev sd_trimmed : Stmt := top 18
abbrev nm_trimmed : List Str := ["limbs", "length"]
abbrev pr_trimmed : List Str := ["limbs"]
theorem sc_trimmed : FnScope nm_trimmed pr_trimmed (defScope sd_trimmed) := ⟨rfl, rfl, rfl, by decide +kernel, rfl, by decide +kernel, by decide +kernel⟩
/-- trimmed: of a list or a tuple of limbs the natural -/
def sp_trimmed (K : PySem.W.Frag) : Sp := fun vs H Q _ => ∃ (a : Addr) (l : List Nat), vs = [.ref a] ∧ (SqL K H a (lv l) ∨ H a = some (.tup (lv l))) ∧ Dig l ∧ l.length ≤ 500000 ∧ ∀ (r : Addr) (H' : Hp), Same H H' → H' r = some (.tup (lv (limbs (val l)))) → Q (.ref r) H'
theorem ix_both {K : PySem.W.Frag} {H : Hp} {a : Addr} {xs : List V} {i : Int} {v : V} {Q : VK} (hS : SqL K H a xs ∨ H a = some (.tup xs)) (hx : atI xs i = some v) (q : Q v H) : rIxL K (.ref a) (.int i) H Q ∨ rIxT K (.ref a) (.int i) H Q :=
  hS.elim (fun hS => .inl ⟨a, _, _, _, rfl, rfl, hS, hx, q⟩) (fun hS => .inr ⟨a, _, _, _, rfl, rfl, SqT.of hS, hx, q⟩)
theorem ok_trimmed {P : Program} {w : World} {K : PySem.W.Frag} {mg : Str → Option Value} {base : Heap} {f : Addr} {fd : FuncData} (D : DefAt K mg "trimmed" sd_trimmed pr_trimmed f fd) (B : Glb K mg)  : Cal P w K mg base 1 "trimmed" pr_trimmed (sp_trimmed K) := by
  refine D.cal sc_trimmed (fun vs H Q E h => ?_) (fun cdv A outer s H vs Q E hr h => ?_)
  · obtain ⟨a, l, rfl, _⟩ := h
    rfl
  obtain ⟨a, l, rfl, hS, hd, hl, q⟩ := h
  refine ⟨_, (pss_cons (ps_set (i := 1) sc_trimmed.nd rfl (Or.inl rfl) (pe_callB call_len_seq rfl B.len_ PySem.boot_len (pa_cons (pv 0) pa_nil)))
    (pss_cons (ps_while PassesOwn.never (PW.pt (pw_and (pt_cmpR op_gt (pv 1) pe_int (nomark _)) (pw_and1 (pt_cmpR op_eq (pe_ix (IxR.or ix_list ix_tup) (pv 0) (pe_op op_sub (pv 1) pe_int) (fun _ _ => rfl)) pe_int (nomark _))))) (pss_one (ps_aug (i := 1) sc_trimmed.nd rfl (Or.inl rfl) pe_int ip_sub)))
    (pss_one (ps_ret (pe_callTy call_tuple_of rfl B.tuple_ PyProof.Rows.boot_tuple (pa_cons (pe_slice (SlR.or sl_list sl_tupA) (pv 0) po_none (po_some (pv 1))) pa_nil)))))), ?_⟩
  have ll : (lv l).length = l.length := lv_length l
  refine ⟨_, rfl, a, lv l, rfl, hS.imp id SqT.of, ?_⟩
  refine ⟨fun m σ H1 => H1 = H ∧ ∃ k : Nat, m = k ∧ σ = [some (.ref a), some (.int (k : Int))] ∧ k ≤ l.length ∧ ∀ (i : Nat) d, k ≤ i → l[i]? = some d → d = 0, ⟨l.length, rfl, l.length, rfl, by rw [← ll]; rfl, Nat.le_refl _, fun i d hi e => ?_⟩, ?_⟩
  · rw [List.getElem?_eq_none hi] at e
    cases e
  rintro k σ H1 ⟨rfl, k', rfl, rfl, hk, hz⟩
  have fin : (k = 0 ∨ ∃ d, l[k - 1]? = some d ∧ d ≠ 0) → ∀ (r : Addr) (H' : Hp), Same H1 H' → H' r = some (.tup (cutV (lv l) none (some (k : Int)))) → Q (.ref r) H' := fun hend r H' sm e => by
    refine q r H' sm ?_
    rw [e]
    unfold cutV
    rw [HT.sIx_none, HT.sIx_nat, List.drop_zero, Nat.sub_zero, ll, Nat.min_eq_left hk, ← take_limbs hd hk hz hend]
    unfold lv
    rw [List.map_take]
  have whole : HT.sIx (lv l).length (lv l).length (some (k : Int)) = (lv l).length → cutV (lv l) none (some (k : Int)) = lv l := fun e => by
    unfold cutV
    rw [HT.sIx_none, List.drop_zero, Nat.sub_zero, e, List.take_length]
  have out : ∀ hend : (k = 0 ∨ ∃ d, l[k - 1]? = some d ∧ d ≠ 0), ∀ Q' : VK, (∀ v H', Q v H' → Q' v H') →
      (rSlL K (.ref a) none (some (k : Int)) H1 (fun v H2 => ∃ p ys, [v] = [.ref p] ∧ ((SqL K H2 p ys ∧ ∀ l, H2 l = none → Q' (.ref l) (upd H2 l (.tup ys))) ∨ (SqT K H2 p ys ∧ Q' (.ref p) H2))) ∨
       rSlTA K (.ref a) none (some (k : Int)) H1 (fun v H2 => ∃ p ys, [v] = [.ref p] ∧ ((SqL K H2 p ys ∧ ∀ l, H2 l = none → Q' (.ref l) (upd H2 l (.tup ys))) ∨ (SqT K H2 p ys ∧ Q' (.ref p) H2)))) := fun hend Q' hq => by
    rcases hS with hS | hS
    · refine .inl ⟨a, _, rfl, hS, fun p hp => ⟨p, _, rfl, .inl ⟨SqL.of upd_same, fun r hr' => hq _ _ ?_⟩⟩⟩
      exact fin hend r _ ((same_new hp _).trans (same_new hr' _)) upd_same
    · refine .inr ⟨a, _, rfl, SqT.of hS, fun _ e => ⟨a, _, rfl, .inr ⟨SqT.of hS, hq _ _ (fin hend a _ (Same.refl _) (by rw [whole e]; exact hS))⟩⟩, fun _ p hp => ⟨p, _, rfl, .inr ⟨SqT.of upd_same, hq _ _ (fin hend p _ (same_new hp _) upd_same)⟩⟩⟩
  refine ⟨_, rfl, _, _, rfl, rfl, _, rfl, iteD (fun c => ?_) (fun c => ?_)⟩
  · have hk1 : k - 1 < l.length := by omega
    have hx : atI (lv l) ((k : Int) - 1) = some (.int ((l[k - 1] : Nat) : Int)) := by
      rw [show (k : Int) - 1 = ((k - 1 : Nat) : Int) by omega]
      exact atI_nat (lv_get (List.getElem?_eq_getElem hk1))
    refine ⟨_, rfl, _, rfl, _, _, rfl, rfl, ?_⟩
    refine ix_both hS hx ?_
    refine ⟨rfl, _, rfl, iteD (fun c2 => ?_) (fun c2 => ?_)⟩
    · have e0 : l[k - 1] = 0 := by injection c2 with c2; omega
      refine ⟨fun σ' H' => ∃ m', m' < k ∧ H' = H1 ∧ ∃ k' : Nat, m' = k' ∧ σ' = [some (.ref a), some (.int (k' : Int))] ∧ k' ≤ l.length ∧ ∀ (i : Nat) d, k' ≤ i → l[i]? = some d → d = 0, fun _ _ z => z, ?_⟩
      refine ⟨_, rfl, _, _, rfl, rfl, k - 1, by omega, rfl, k - 1, rfl, ?_, by omega, fun i d hi e => ?_⟩
      · rw [show (((k - 1 : Nat) : Nat) : Int) = (k : Int) - 1 by omega]
        rfl
      · by_cases hik : i = k - 1
        · rw [hik, List.getElem?_eq_getElem hk1] at e
          injection e with e
          omega
        · exact hz i d (by omega) e
    · have e0 : l[k - 1] ≠ 0 := fun z => c2 (by rw [z]; rfl)
      refine ⟨_, rfl, _, rfl, _, rfl, ?_⟩
      exact out (.inr ⟨_, List.getElem?_eq_getElem hk1, e0⟩) _ fun _ _ z => z
  · refine ⟨_, rfl, _, rfl, _, rfl, ?_⟩
    exact out (.inl (by omega)) _ fun _ _ z => z

abbrev sd_limb_at : Stmt := top 19
abbrev nm_limb_at : List Str := ["natural", "place"]
abbrev pr_limb_at : List Str := ["natural", "place"]
theorem sc_limb_at : FnScope nm_limb_at pr_limb_at (defScope sd_limb_at) := ⟨rfl, rfl, rfl, by decide +kernel, rfl, by decide +kernel, by decide +kernel⟩
/-- limb_at: the limb at a place, nought behind the last one -/
def sp_limb_at (K : PySem.W.Frag) : Sp := fun vs H Q _ => ∃ (a : Addr) (n p : Nat), vs = [.ref a, .int (p : Int)] ∧ SqT K H a (lv (limbs n)) ∧ Q (.int ((limbAt n p : Nat) : Int)) H
theorem ok_limb_at {P : Program} {w : World} {K : PySem.W.Frag} {mg : Str → Option Value} {base : Heap} {f : Addr} {fd : FuncData} (D : DefAt K mg "limb_at" sd_limb_at pr_limb_at f fd) (B : Glb K mg)  : Cal P w K mg base 1 "limb_at" pr_limb_at (sp_limb_at K) := by
  refine D.cal sc_limb_at (fun vs H Q E h => ?_) (fun cdv A outer s H vs Q E hr h => ?_)
  · obtain ⟨a, n, p, rfl, _⟩ := h
    rfl
  obtain ⟨a, n, p, rfl, hS, q⟩ := h
  refine ⟨_, (pss_one (ps_ret (pe_ifExp (pt_cmpR op_lt (pv 1) (pe_callB call_len_seq rfl B.len_ PySem.boot_len (pa_cons (pv 0) pa_nil)) (nomark _)) (pe_ix ix_tup (pv 0) (pv 1) (fun _ _ => rfl)) pe_int))), ?_⟩
  have ll : (lv (limbs n)).length = (limbs n).length := lv_length _
  refine ⟨_, rfl, _, rfl, a, _, rfl, .inr hS, _, _, rfl, rfl, _, rfl, iteD (fun c => ?_) (fun c => ?_)⟩
  · exact ⟨_, rfl, _, rfl, a, _, _, _, rfl, rfl, hS, atI_nat (lv_get (limbs_get (by omega))), q⟩
  · rw [limbAt_out (by omega)] at q
    exact q

abbrev sd_refuse_below_nought : Stmt := top 21
abbrev nm_refuse_below_nought : List Str := ["count"]
abbrev pr_refuse_below_nought : List Str := ["count"]
theorem sc_refuse_below_nought : FnScope nm_refuse_below_nought pr_refuse_below_nought (defScope sd_refuse_below_nought) := ⟨rfl, rfl, rfl, by decide +kernel, rfl, by decide +kernel, by decide +kernel⟩
/-- refuse_below_nought: NoCount of what is below nought -/
def sp_refuse_below_nought (K : PySem.W.Frag) : Sp := fun vs H Q E => ∃ i : Int, vs = [.int i] ∧ ((0 ≤ i ∧ Q .non H) ∨ (i < 0 ∧ ∀ C, PySem.W.nsIn K mainGlobals "NoCount" = some (some (.ref C)) → E (.ref C) none H))
theorem ok_refuse_below_nought {P : Program} {w : World} {K : PySem.W.Frag} {mg : Str → Option Value} {base : Heap} {f : Addr} {fd : FuncData} (D : DefAt K mg "refuse_below_nought" sd_refuse_below_nought pr_refuse_below_nought f fd) (B : Glb K mg)  : Cal P w K mg base 1 "refuse_below_nought" pr_refuse_below_nought (sp_refuse_below_nought K) := by
  refine D.calX sc_refuse_below_nought (fun vs H Q E h => ?_) (fun cdv A outer s H vs Q E hr h => ?_)
  · obtain ⟨i, rfl, _⟩ := h
    rfl
  obtain ⟨i, rfl, q⟩ := h
  obtain ⟨C_NoCount, x_NoCount, m_NoCount⟩ := B.x_NoCount
  have n_NoCount := x_NoCount.nm
  refine ⟨_, (pss_one (ps_if (pt_cmpR op_lt (pv 0) pe_int (nomark _)) (pss_one (ps_raise x_NoCount m_NoCount rfl (pa_cons pe_str pa_nil))) pss_nil)), ?_⟩
  refine ⟨_, rfl, _, _, rfl, rfl, _, rfl, iteD (fun c => ?_) (fun c => ?_)⟩
  · rcases q with ⟨h, _⟩ | ⟨_, q⟩
    · omega
    · exact ⟨(by show 1 ≤ sizeLine; decide), q _ n_NoCount⟩
  · rcases q with ⟨_, q⟩ | ⟨h, _⟩
    · exact q
    · omega

abbrev sd_compared : Stmt := top 29
abbrev nm_compared : List Str := ["one", "other", "place"]
abbrev pr_compared : List Str := ["one", "other"]
theorem sc_compared : FnScope nm_compared pr_compared (defScope sd_compared) := ⟨rfl, rfl, rfl, by decide +kernel, rfl, by decide +kernel, by decide +kernel⟩
/-- compared: of two naturals -1, 0 or 1 -/
def sp_compared (K : PySem.W.Frag) : Sp := fun vs H Q _ => ∃ (a b : Addr) (m n : Nat), vs = [.ref a, .ref b] ∧ SqT K H a (lv (limbs m)) ∧ SqT K H b (lv (limbs n)) ∧ (limbs m).length ≤ 100000 ∧ Q (.int (cmp m n)) H
theorem ok_compared {P : Program} {w : World} {K : PySem.W.Frag} {mg : Str → Option Value} {base : Heap} {f : Addr} {fd : FuncData} (D : DefAt K mg "compared" sd_compared pr_compared f fd) (B : Glb K mg)  : Cal P w K mg base 1 "compared" pr_compared (sp_compared K) := by
  refine D.cal sc_compared (fun vs H Q E h => ?_) (fun cdv A outer s H vs Q E hr h => ?_)
  · obtain ⟨a, b, m, n, rfl, _⟩ := h
    rfl
  obtain ⟨a, b, m, n, rfl, hA, hB, hm, q⟩ := h
  refine ⟨_, (pss_cons (ps_if (pt_cmpR op_ne (pe_callB call_len_seq rfl B.len_ PySem.boot_len (pa_cons (pv 0) pa_nil)) (pe_callB call_len_seq rfl B.len_ PySem.boot_len (pa_cons (pv 1) pa_nil)) (nomark _)) (pss_one (ps_ret (pe_ifExp (pt_cmpR op_gt (pe_callB call_len_seq rfl B.len_ PySem.boot_len (pa_cons (pv 0) pa_nil)) (pe_callB call_len_seq rfl B.len_ PySem.boot_len (pa_cons (pv 1) pa_nil)) (nomark _)) pe_int (pe_un un_neg pe_int)))) pss_nil)
    (pss_cons (ps_for PassesOwn.never rfl (pi_rangeD rfl B.range_ (pa_cons (pe_op op_sub (pe_callB call_len_seq rfl B.len_ PySem.boot_len (pa_cons (pv 0) pa_nil)) pe_int) (pa_cons (pe_un un_neg pe_int) (pa_cons (pe_un un_neg pe_int) pa_nil)))) (pg_name (i := 2) sc_compared.nd rfl (Or.inl rfl)) (pss_one (ps_if (pt_cmpR op_ne (pe_ix ix_tup (pv 0) (pv 2) (fun _ _ => rfl)) (pe_ix ix_tup (pv 1) (pv 2) (fun _ _ => rfl)) (nomark _)) (pss_one (ps_ret (pe_ifExp (pt_cmpR op_gt (pe_ix ix_tup (pv 0) (pv 2) (fun _ _ => rfl)) (pe_ix ix_tup (pv 1) (pv 2) (fun _ _ => rfl)) (nomark _)) pe_int (pe_un un_neg pe_int)))) pss_nil)))
    (pss_one (ps_ret pe_int)))), ?_⟩
  have la : (lv (limbs m)).length = (limbs m).length := lv_length _
  have lb : (lv (limbs n)).length = (limbs n).length := lv_length _
  refine ⟨_, rfl, a, _, rfl, .inr hA, _, rfl, b, _, rfl, .inr hB, rfl, _, rfl, ?_⟩
  by_cases e : (limbs m).length = (limbs n).length
  · refine iteNS (by rw [la, lb, e]) ?_
    refine ⟨_, rfl, a, _, rfl, .inr hA, _, _, rfl, rfl, _, rfl, _, rfl, _, _, rfl, ⟨by omega, by omega, by omega, by omega⟩, ?_⟩
    refine for_rangeD (fun i σ H1 => H1 = H ∧ (∃ x, σ = [some (.ref a), some (.ref b), x]) ∧ m / 65536 ^ ((limbs m).length - i) = n / 65536 ^ ((limbs m).length - i)) ⟨rfl, ⟨_, rfl⟩, ?_⟩ ?_ ?_
    · rw [Nat.sub_zero, div_len_zero, e, div_len_zero]
    · rintro i σ H1 hi ⟨rfl, ⟨x, rfl⟩, hq⟩
      have hi' : i < (limbs m).length := by omega
      have ep : (limbs m).length - i = ((limbs m).length - 1 - i) + 1 := by omega
      have ei : (((lv (limbs m)).length : Nat) : Int) - 1 - (i : Int) = (((limbs m).length - 1 - i : Nat) : Int) := by omega
      have hx : atI (lv (limbs m)) ((((lv (limbs m)).length : Nat) : Int) - 1 - (i : Int)) = some (.int ((limbAt m ((limbs m).length - 1 - i) : Nat) : Int)) := by
        rw [ei]
        exact atI_nat (lv_get (limbs_get (by omega)))
      have hy : atI (lv (limbs n)) ((((lv (limbs m)).length : Nat) : Int) - 1 - (i : Int)) = some (.int ((limbAt n ((limbs m).length - 1 - i) : Nat) : Int)) := by
        rw [ei]
        exact atI_nat (lv_get (limbs_get (by omega)))
      rw [ep] at hq
      have d1 := div_step m ((limbs m).length - 1 - i)
      have d2 := div_step n ((limbs m).length - 1 - i)
      rw [hq] at d1
      generalize n / 65536 ^ ((limbs m).length - 1 - i + 1) = z at d1 d2
      refine ⟨_, rfl, _, rfl, a, _, _, _, rfl, rfl, hA, hx, _, rfl, _, rfl, b, _, _, _, rfl, rfl, hB, hy, rfl, _, rfl, ?_⟩
      by_cases el : limbAt m ((limbs m).length - 1 - i) = limbAt n ((limbs m).length - 1 - i)
      · refine iteNS (by rw [el]) ?_
        refine ⟨rfl, ⟨_, rfl⟩, ?_⟩
        rw [show (limbs m).length - (i + 1) = (limbs m).length - 1 - i by omega, d1, d2, el]
      · refine iteNT (fun z => el (by injection z with z; omega)) ?_
        refine ⟨_, rfl, _, rfl, a, _, _, _, rfl, rfl, hA, hx, _, rfl, _, rfl, b, _, _, _, rfl, rfl, hB, hy, _, _, rfl, rfl, _, rfl, iteD (fun c => ?_) (fun c => ?_)⟩
        · have e1 : cmp m n = 1 := cmp_of_div_gt (i := (limbs m).length - 1 - i) (by omega)
          rw [e1] at q
          exact q
        · have e1 : cmp m n = -1 := cmp_of_div_lt (i := (limbs m).length - 1 - i) (by omega)
          rw [e1] at q
          exact ⟨_, rfl, q⟩
    · rintro σ H1 ⟨rfl, ⟨x, rfl⟩, hq⟩
      rw [show (limbs m).length - ((((lv (limbs m)).length : Nat) : Int) - 1 - -1).toNat = 0 by omega, Nat.pow_zero, Nat.div_one, Nat.div_one] at hq
      subst hq
      rw [cmp_self] at q
      exact q
  · refine iteNT (fun z => e (by injection z with z; omega)) ?_
    refine ⟨_, rfl, a, _, rfl, .inr hA, _, rfl, b, _, rfl, .inr hB, _, _, rfl, rfl, _, rfl, iteD (fun c => ?_) (fun c => ?_)⟩
    · have e1 : cmp m n = 1 := cmp_len_gt (by omega)
      rw [e1] at q
      exact q
    · have e1 : cmp m n = -1 := cmp_len_lt (by omega)
      rw [e1] at q
      exact ⟨_, rfl, q⟩

abbrev sd_refuse_nought : Stmt := top 34
abbrev nm_refuse_nought : List Str := ["natural"]
abbrev pr_refuse_nought : List Str := ["natural"]
theorem sc_refuse_nought : FnScope nm_refuse_nought pr_refuse_nought (defScope sd_refuse_nought) := ⟨rfl, rfl, rfl, by decide +kernel, rfl, by decide +kernel, by decide +kernel⟩
/-- refuse_nought: ByNought of nought -/
def sp_refuse_nought (K : PySem.W.Frag) : Sp := fun vs H Q E => ∃ (a : Addr) (n : Nat), vs = [.ref a] ∧ SqT K H a (lv (limbs n)) ∧ ((0 < n ∧ Q .non H) ∨ (n = 0 ∧ ∀ C, PySem.W.nsIn K mainGlobals "ByNought" = some (some (.ref C)) → E (.ref C) none H))
theorem ok_refuse_nought {P : Program} {w : World} {K : PySem.W.Frag} {mg : Str → Option Value} {base : Heap} {f : Addr} {fd : FuncData} (D : DefAt K mg "refuse_nought" sd_refuse_nought pr_refuse_nought f fd) (B : Glb K mg)  : Cal P w K mg base 1 "refuse_nought" pr_refuse_nought (sp_refuse_nought K) := by
  refine D.calX sc_refuse_nought (fun vs H Q E h => ?_) (fun cdv A outer s H vs Q E hr h => ?_)
  · obtain ⟨a, n, rfl, _⟩ := h
    rfl
  obtain ⟨a, n, rfl, hA, q⟩ := h
  obtain ⟨C_ByNought, x_ByNought, m_ByNought⟩ := B.x_ByNought
  have n_ByNought := x_ByNought.nm
  refine ⟨_, (pss_one (ps_if (pt_cmpR op_eq (pe_callB call_len_seq rfl B.len_ PySem.boot_len (pa_cons (pv 0) pa_nil)) pe_int (nomark _)) (pss_one (ps_raise x_ByNought m_ByNought rfl (pa_cons pe_str pa_nil))) pss_nil)), ?_⟩
  have la : (lv (limbs n)).length = (limbs n).length := lv_length _
  refine ⟨_, rfl, a, _, rfl, .inr hA, rfl, _, rfl, iteD (fun c => ?_) (fun c => ?_)⟩
  · rcases q with ⟨h, _⟩ | ⟨_, q⟩
    · injection c with c
      have := len_pos h
      omega
    · exact ⟨(by show 1 ≤ sizeLine; decide), q _ n_ByNought⟩
  · rcases q with ⟨_, q⟩ | ⟨h, _⟩
    · exact q
    · subst h
      exact absurd (by rw [la, limbs_zero]; rfl) c

abbrev sd_signed : Stmt := top 41
abbrev nm_signed : List Str := ["sign", "natural"]
abbrev pr_signed : List Str := ["sign", "natural"]
theorem sc_signed : FnScope nm_signed pr_signed (defScope sd_signed) := ⟨rfl, rfl, rfl, by decide +kernel, rfl, by decide +kernel, by decide +kernel⟩
/-- signed: the whole of a sign and a natural -/
def sp_signed (K : PySem.W.Frag) : Sp := fun vs H Q _ => ∃ (s : Int) (r : Addr) (n : Nat), vs = [.int s, .ref r] ∧ H r = some (.tup (lv (limbs n))) ∧ (0 < n → s = 1 ∨ s = -1) ∧ ∀ (t : Addr) (H' : Hp), Same H H' → WhH H' t (s * (n : Int)) → Q (.ref t) H'
theorem ok_signed {P : Program} {w : World} {K : PySem.W.Frag} {mg : Str → Option Value} {base : Heap} {f : Addr} {fd : FuncData} (D : DefAt K mg "signed" sd_signed pr_signed f fd) (B : Glb K mg)  : Cal P w K mg base 1 "signed" pr_signed (sp_signed K) := by
  refine D.cal sc_signed (fun vs H Q E h => ?_) (fun cdv A outer s H vs Q E hr h => ?_)
  · obtain ⟨s, r, n, rfl, _⟩ := h
    rfl
  obtain ⟨sg, r, n, rfl, hR, hs, q⟩ := h
  refine ⟨_, (pss_one (ps_ret (pe_ifExp (pt_cmpR op_gt (pe_callB call_len_seq rfl B.len_ PySem.boot_len (pa_cons (pv 1) pa_nil)) pe_int (nomark _)) (pe_tup (pa_cons (pv 0) (pa_cons (pv 1) pa_nil))) (pe_tup (pa_cons pe_int (pa_cons (pe_tup pa_nil) pa_nil)))))), ?_⟩
  have lr : (lv (limbs n)).length = (limbs n).length := lv_length _
  refine ⟨_, rfl, r, _, rfl, .inr (SqT.of hR), _, _, rfl, rfl, _, rfl, iteD (fun c => ?_) (fun c => ?_)⟩
  · have hn : 0 < n := by
      rcases Nat.eq_zero_or_pos n with z | z
      · rw [z, limbs_zero] at c
        exact absurd c (by decide)
      · exact z
    obtain ⟨e1, e2⟩ := signed_of hn (hs hn)
    exact ⟨_, rfl, _, rfl, (by show 2 ≤ sizeLine; decide), fun t ht => q t _ (same_new ht _) (WhH.new ht hR e1 e2)⟩
  · have hn : n = 0 := by
      rcases Nat.eq_zero_or_pos n with z | z
      · exact z
      · have := len_pos z
        omega
    subst hn
    refine ⟨(by show 0 ≤ sizeLine; decide), fun p hp => ⟨(by show 2 ≤ sizeLine; decide), fun t ht => q t _ ((same_new hp _).trans (same_new ht _)) ?_⟩⟩
    have e : sg * ((0 : Nat) : Int) = 0 := Int.mul_zero _
    rw [e]
    exact WhH.new (n := 0) ht (by rw [upd_same, limbs_zero]; rfl) rfl rfl

abbrev sd_turned : Stmt := top 42
abbrev nm_turned : List Str := ["whole"]
abbrev pr_turned : List Str := ["whole"]
theorem sc_turned : FnScope nm_turned pr_turned (defScope sd_turned) := ⟨rfl, rfl, rfl, by decide +kernel, rfl, by decide +kernel, by decide +kernel⟩
/-- turned: the whole of the other sign -/
def sp_turned (K : PySem.W.Frag) : Sp := fun vs H Q _ => ∃ (a : Addr) (i : Int), vs = [.ref a] ∧ ((WhH H a i ∧ ∀ (t : Addr) (H' : Hp), Same H H' → WhH H' t (-i) → Q (.ref t) H') ∨ (WhK K H a i ∧ ∀ (t : Addr) (H' : Hp), Same H H' → WhK K H' t (-i) → Q (.ref t) H'))
theorem ok_turned {P : Program} {w : World} {K : PySem.W.Frag} {mg : Str → Option Value} {base : Heap} {f : Addr} {fd : FuncData} (D : DefAt K mg "turned" sd_turned pr_turned f fd) (B : Glb K mg)  : Cal P w K mg base 1 "turned" pr_turned (sp_turned K) := by
  refine D.cal sc_turned (fun vs H Q E h => ?_) (fun cdv A outer s H vs Q E hr h => ?_)
  · obtain ⟨a, i, rfl, _⟩ := h
    rfl
  obtain ⟨a, i, rfl, q⟩ := h
  refine ⟨_, (pss_one (ps_ret (pe_tup (pa_cons (pe_un un_neg (pe_ix ix_tup (pv 0) pe_int (fun _ _ => rfl))) (pa_cons (pe_ix ix_tup (pv 0) pe_int (fun _ _ => rfl)) pa_nil))))), ?_⟩
  rcases q with ⟨⟨r, hA, hR⟩, q⟩ | ⟨⟨r, hA, hR⟩, q⟩
  · exact ⟨_, rfl, a, _, _, _, rfl, rfl, SqT.of hA, rfl, _, rfl, _, rfl, a, _, _, _, rfl, rfl, SqT.of hA, rfl, (by show 2 ≤ sizeLine; decide), fun t ht => q t _ (same_new ht _) (WhH.new ht hR (Int.sign_neg ..) (Int.natAbs_neg ..))⟩
  · refine ⟨_, rfl, a, _, _, _, rfl, rfl, hA, rfl, _, rfl, _, rfl, a, _, _, _, rfl, rfl, hA, rfl, (by show 2 ≤ sizeLine; decide), fun t ht => q t _ (same_new ht _) ⟨r, SqT.of ?_, ?_⟩⟩
    · rw [upd_same, Int.sign_neg]
    · rw [Int.natAbs_neg]
      exact (same_new ht _).tup hR

abbrev sd_refuse_no_way : Stmt := top 54
abbrev nm_refuse_no_way : List Str := ["way", "ways"]
abbrev pr_refuse_no_way : List Str := ["way", "ways"]
theorem sc_refuse_no_way : FnScope nm_refuse_no_way pr_refuse_no_way (defScope sd_refuse_no_way) := ⟨rfl, rfl, rfl, by decide +kernel, rfl, by decide +kernel, by decide +kernel⟩
/-- refuse_no_way: NoWay of what is none of a row of texts -/
def sp_refuse_no_way (K : PySem.W.Frag) : Sp := fun vs H Q E => ∃ (v : V) (a : Addr) (xs : List V), vs = [v, .ref a] ∧ SqT K H a xs ∧ xs.all flatV = true ∧ (((∃ x : Str, v = .str x ∧ inV (.str x) xs = true) ∧ Q .non H) ∨
  (((∃ x : Str, v = .str x ∧ inV (.str x) xs = false) ∨ ∃ t, TyOf K H v t ∧ PySem.W.kitOne K t (.type "str") = some false) ∧ ∀ C, PySem.W.nsIn K mainGlobals "NoWay" = some (some (.ref C)) → E (.ref C) none H))
theorem ok_refuse_no_way {P : Program} {w : World} {K : PySem.W.Frag} {mg : Str → Option Value} {base : Heap} {f : Addr} {fd : FuncData} (D : DefAt K mg "refuse_no_way" sd_refuse_no_way pr_refuse_no_way f fd) (B : Glb K mg)  : Cal P w K mg base 1 "refuse_no_way" pr_refuse_no_way (sp_refuse_no_way K) := by
  refine D.calX sc_refuse_no_way (fun vs H Q E h => ?_) (fun cdv A outer s H vs Q E hr h => ?_)
  · obtain ⟨v, a, xs, rfl, _⟩ := h
    rfl
  obtain ⟨v, a, xs, rfl, hS, hf, q⟩ := h
  obtain ⟨C_NoWay, x_NoWay, m_NoWay⟩ := B.x_NoWay
  have n_NoWay := x_NoWay.nm
  refine ⟨_, (pss_one (ps_if (PW.pt (pw_or (pt_not (pt_val (pe_callB call_isinst rfl B.isinstance_ PyProof.Rows.boot_isinstance (pa_cons (pv 0) (pa_cons (pe_ty B.str_ PyProof.Rows.boot_str rfl) pa_nil))))) (pw_or1 (pt_cmpR op_notIn_seq (pv 0) (pv 1) rfl)))) (pss_one (ps_raise x_NoWay m_NoWay rfl (pa_cons pe_str pa_nil))) pss_nil)), ?_⟩
  rcases q with ⟨⟨x, rfl, hx⟩, q⟩ | ⟨hw, q⟩
  · refine ⟨_, rfl, _, _, _, _, rfl, TyOf.str _, kit_str_str K, _, rfl, iteF ?_⟩
    refine ⟨_, rfl, _, rfl, a, _, rfl, .inr hS, rfl, hf, _, rfl, iteBF ?_ q⟩
    show (!inV (.str x) xs) = false
    rw [hx]
    rfl
  · rcases hw with ⟨x, rfl, hx⟩ | ⟨t, ht, hk⟩
    · refine ⟨_, rfl, _, _, _, _, rfl, TyOf.str _, kit_str_str K, _, rfl, iteF ?_⟩
      refine ⟨_, rfl, _, rfl, a, _, rfl, .inr hS, rfl, hf, _, rfl, iteB ?_ ?_⟩
      · show (!inV (.str x) xs) = true
        rw [hx]
        rfl
      · exact ⟨(by show 1 ≤ sizeLine; decide), q _ n_NoWay⟩
    · refine ⟨_, rfl, _, _, _, _, rfl, ht, hk, _, rfl, iteT ?_⟩
      exact ⟨(by show 1 ≤ sizeLine; decide), q _ n_NoWay⟩

abbrev sd_cell : Stmt := top 69
abbrev nm_cell : List Str := ["_law_script", "_law_k", "_law_cell_here", "_law_mark"]
abbrev pr_cell : List Str := ["_law_script", "_law_k"]
theorem sc_cell : FnScope nm_cell pr_cell (defScope sd_cell) := ⟨rfl, rfl, rfl, by decide +kernel, rfl, by decide +kernel, by decide +kernel⟩
/-- a cell of the script: some int -/
def sp_cell (K : PySem.W.Frag) : Sp := fun vs H Q _ => ∃ (a : Addr) (ns : List Int) (k : Nat), vs = [.ref a, .int (k : Int)] ∧ SqL K H a (ns.map V.int) ∧ k < 1000 ∧ ∀ c : Int, Q (.int c) H
theorem ok_cell {P : Program} {w : World} {K : PySem.W.Frag} {mg : Str → Option Value} {base : Heap} {f : Addr} {fd : FuncData} (D : DefAt K mg "_law_cell" sd_cell pr_cell f fd) (B : Glb K mg)  : Cal P w K mg base 1 "_law_cell" pr_cell (sp_cell K) := by
  refine D.cal sc_cell (fun vs H Q E h => ?_) (fun cdv A outer s H vs Q E hr h => ?_)
  · obtain ⟨a, ns, k, rfl, _⟩ := h
    rfl
  obtain ⟨a, ns, k, rfl, hS, hk, q⟩ := h
  obtain ⟨tR, pR, qR⟩ : ∃ t, PSs (cxOf (CX1 P w) P w K mg base nm_cell "_law_cell" (defScope sd_cell) f cdv A outer s H E).nox ((defBody sd_cell).drop 2) t ∧ ∀ v : Int, t { nx := fun _ H' => Q .non H', rt := Q } [some (.ref a), some (.int (k : Int)), some (.int v), none] H := by
    refine ⟨_, (pss_cons (ps_set (i := 3) sc_cell.nd rfl (Or.inl rfl) (pe_op op_mod (pe_op op_mul (pe_op op_add (pe_op op_mod (pv 2) pe_int) (pe_op op_mul pe_int (pe_op op_add (pv 1) pe_int))) pe_int) pe_int))
    (pss_cons (ps_set (i := 3) sc_cell.nd rfl (Or.inl rfl) (pe_op op_mod (pe_op op_mul (pe_op op_mod (pe_op op_mul (pv 3) (pv 3)) pe_int) pe_int) pe_int))
    (pss_one (ps_ret (pe_op op_add (pe_op op_mul (pe_op op_add (pe_op op_mul (pe_op op_fdivL (pv 2) pe_int) pe_int) (pv 3)) pe_int) (pe_op op_mod (pe_op op_mul (pv 3) (pv 3)) pe_int)))))), fun v => ?_⟩
    refine ⟨_, rfl, _, _, rfl, rfl, (by show (0 : Int) < _; first | decide | omega), _, rfl, _, _, rfl, rfl, _, _, rfl, rfl, (by first | exact .inr ⟨by decide, by decide⟩ | exact .inl ⟨by decide, by decide⟩ | exact .inl (mod31 _ (by decide) (by decide)) | exact .inr (mod31 _ (by decide) (by decide)) | exact .inr ⟨by omega, by omega⟩ | exact .inl ⟨by omega, by omega⟩), _, _, rfl, rfl, _, _, rfl, rfl, (by first | exact .inr ⟨by decide, by decide⟩ | exact .inl ⟨by decide, by decide⟩ | exact .inl (mod31 _ (by decide) (by decide)) | exact .inr (mod31 _ (by decide) (by decide)) | exact .inr ⟨by omega, by omega⟩ | exact .inl ⟨by omega, by omega⟩), _, _, rfl, rfl, (by show (0 : Int) < _; first | decide | omega), ?_⟩
    refine ⟨_, rfl, _, rfl, _, _, rfl, rfl, (by first | exact .inr ⟨by decide, by decide⟩ | exact .inl ⟨by decide, by decide⟩ | exact .inl (mod31 _ (by decide) (by decide)) | exact .inr (mod31 _ (by decide) (by decide)) | exact .inr ⟨by omega, by omega⟩ | exact .inl ⟨by omega, by omega⟩), _, _, rfl, rfl, (by show (0 : Int) < _; first | decide | omega), _, _, rfl, rfl, (by first | exact .inr ⟨by decide, by decide⟩ | exact .inl ⟨by decide, by decide⟩ | exact .inl (mod31 _ (by decide) (by decide)) | exact .inr (mod31 _ (by decide) (by decide)) | exact .inr ⟨by omega, by omega⟩ | exact .inl ⟨by omega, by omega⟩), _, _, rfl, rfl, (by show (0 : Int) < _; first | decide | omega), ?_⟩
    exact ⟨_, rfl, _, _, rfl, rfl, ⟨by decide, by decide +kernel⟩, _, _, rfl, rfl, (by first | exact .inr ⟨by decide, by decide⟩ | exact .inl ⟨by decide, by decide⟩ | exact .inl (mod31 _ (by decide) (by decide)) | exact .inr (mod31 _ (by decide) (by decide)) | exact .inr ⟨by omega, by omega⟩ | exact .inl ⟨by omega, by omega⟩), _, rfl, _, _, rfl, rfl, _, _, rfl, rfl, (by first | exact .inr ⟨by decide, by decide⟩ | exact .inl ⟨by decide, by decide⟩ | exact .inl (mod31 _ (by decide) (by decide)) | exact .inr (mod31 _ (by decide) (by decide)) | exact .inr ⟨by omega, by omega⟩ | exact .inl ⟨by omega, by omega⟩), _, rfl, _, rfl, _, _, rfl, rfl, (by first | exact .inr ⟨by decide, by decide⟩ | exact .inl ⟨by decide, by decide⟩ | exact .inl (mod31 _ (by decide) (by decide)) | exact .inr (mod31 _ (by decide) (by decide)) | exact .inr ⟨by omega, by omega⟩ | exact .inl ⟨by omega, by omega⟩), _, _, rfl, rfl, (by show (0 : Int) < _; first | decide | omega), _, _, rfl, rfl, q _⟩
  refine ⟨_, (pss_cons (ps_set (i := 2) sc_cell.nd rfl (Or.inl rfl) pe_int)
    (pss_cons (ps_if (pt_cmpR op_lt (pv 1) (pe_callB call_len_seq rfl B.len_ PySem.boot_len (pa_cons (pv 0) pa_nil)) (nomark _)) (pss_one (ps_set (i := 2) sc_cell.nd rfl (Or.inl rfl) (pe_ix ix_list (pv 0) (pv 1) (fun _ _ => rfl)))) pss_nil)
    pR)), ?_⟩
  have hl : (ns.map V.int).length = ns.length := List.length_map _
  refine ⟨_, rfl, _, rfl, a, _, rfl, .inl hS, _, _, rfl, rfl, _, rfl, ?_⟩
  refine ite2 (fun c => ?_) (fun c => ?_)
  · have c' : (k : Int) < (((ns.map V.int).length : Nat) : Int) := of_decide_eq_true c
    rw [hl] at c'
    obtain ⟨v, hv⟩ := script_at (ns := ns) (k := k) (by omega)
    exact ⟨_, rfl, _, rfl, a, _, _, _, rfl, rfl, hS, hv, qR v⟩
  · exact qR 0

abbrev sd_mixed : Stmt := top 70
abbrev nm_mixed : List Str := ["_law_cell_here", "_law_k", "_law_mark"]
abbrev pr_mixed : List Str := ["_law_cell_here", "_law_k"]
theorem sc_mixed : FnScope nm_mixed pr_mixed (defScope sd_mixed) := ⟨rfl, rfl, rfl, by decide +kernel, rfl, by decide +kernel, by decide +kernel⟩
/-- some int from nought on -/
def sp_mixed (K : PySem.W.Frag) : Sp := fun vs H Q _ => ∃ c k : Int, vs = [.int c, .int k] ∧ ∀ z : Int, Q (.int z) H
theorem ok_mixed {P : Program} {w : World} {K : PySem.W.Frag} {mg : Str → Option Value} {base : Heap} {f : Addr} {fd : FuncData} (D : DefAt K mg "_law_mixed" sd_mixed pr_mixed f fd) (B : Glb K mg)  : Cal P w K mg base 1 "_law_mixed" pr_mixed (sp_mixed K) := by
  refine D.cal sc_mixed (fun vs H Q E h => ?_) (fun cdv A outer s H vs Q E hr h => ?_)
  · obtain ⟨c, k, rfl, _⟩ := h
    rfl
  obtain ⟨c, k, rfl, q⟩ := h
  refine ⟨_, (pss_cons (ps_set (i := 2) sc_mixed.nd rfl (Or.inl rfl) (pe_op op_mod (pe_op op_mul (pe_op op_add (pe_op op_mod (pv 0) pe_int) (pe_op op_mul pe_int (pe_op op_add (pv 1) pe_int))) pe_int) pe_int))
    (pss_one (ps_ret (pe_op op_mod (pe_op op_mul (pe_op op_mod (pe_op op_mul (pv 2) (pv 2)) pe_int) pe_int) pe_int)))), ?_⟩
  refine ⟨_, rfl, _, _, rfl, rfl, (by show (0 : Int) < _; first | decide | omega), _, rfl, _, _, rfl, rfl, _, _, rfl, rfl, (by first | exact .inr ⟨by decide, by decide⟩ | exact .inl ⟨by decide, by decide⟩ | exact .inl (mod31 _ (by decide) (by decide)) | exact .inr (mod31 _ (by decide) (by decide)) | exact .inr ⟨by omega, by omega⟩ | exact .inl ⟨by omega, by omega⟩), _, _, rfl, rfl, _, _, rfl, rfl, (by first | exact .inr ⟨by decide, by decide⟩ | exact .inl ⟨by decide, by decide⟩ | exact .inl (mod31 _ (by decide) (by decide)) | exact .inr (mod31 _ (by decide) (by decide)) | exact .inr ⟨by omega, by omega⟩ | exact .inl ⟨by omega, by omega⟩), _, _, rfl, rfl, (by show (0 : Int) < _; first | decide | omega), ?_⟩
  exact ⟨_, rfl, _, rfl, _, _, rfl, rfl, (by first | exact .inr ⟨by decide, by decide⟩ | exact .inl ⟨by decide, by decide⟩ | exact .inl (mod31 _ (by decide) (by decide)) | exact .inr (mod31 _ (by decide) (by decide)) | exact .inr ⟨by omega, by omega⟩ | exact .inl ⟨by omega, by omega⟩), _, _, rfl, rfl, (by show (0 : Int) < _; first | decide | omega), _, _, rfl, rfl, (by first | exact .inr ⟨by decide, by decide⟩ | exact .inl ⟨by decide, by decide⟩ | exact .inl (mod31 _ (by decide) (by decide)) | exact .inr (mod31 _ (by decide) (by decide)) | exact .inr ⟨by omega, by omega⟩ | exact .inl ⟨by omega, by omega⟩), _, _, rfl, rfl, (by show (0 : Int) < _; first | decide | omega), q _⟩

abbrev sd_value : Stmt := top 71
abbrev nm_value : List Str := ["_law_limbs", "_law_found", "_law_limb_here"]
abbrev pr_value : List Str := ["_law_limbs"]
theorem sc_value : FnScope nm_value pr_value (defScope sd_value) := ⟨rfl, rfl, rfl, by decide +kernel, rfl, by decide +kernel, by decide +kernel⟩
/-- value: the number of a list or a tuple of limbs -/
def sp_value (K : PySem.W.Frag) : Sp := fun vs H Q _ => ∃ (a : Addr) (l : List Nat), vs = [.ref a] ∧ (SqL K H a (lv l) ∨ SqT K H a (lv l)) ∧ Q (.int ((val l : Nat) : Int)) H
theorem val_drop {l : List Nat} {i d : Nat} (h : l[i]? = some d) : val (l.drop i) = d + 65536 * val (l.drop (i + 1)) := by
  have hi := (List.getElem?_eq_some_iff.mp h)
  obtain ⟨hi, e⟩ := hi
  rw [List.drop_eq_getElem_cons hi, e]
  rfl
theorem ok_value {P : Program} {w : World} {K : PySem.W.Frag} {mg : Str → Option Value} {base : Heap} {f : Addr} {fd : FuncData} (D : DefAt K mg "_law_value" sd_value pr_value f fd) (B : Glb K mg)  : Cal P w K mg base 1 "_law_value" pr_value (sp_value K) := by
  refine D.cal sc_value (fun vs H Q E h => ?_) (fun cdv A outer s H vs Q E hr h => ?_)
  · obtain ⟨a, l, rfl, _⟩ := h
    rfl
  obtain ⟨a, l, rfl, hA, q⟩ := h
  refine ⟨_, (pss_cons (ps_set (i := 1) sc_value.nd rfl (Or.inl rfl) pe_int)
    (pss_cons (ps_for PassesOwn.never rfl (pi_revB rfl B.reversed_ (pa_cons (pv 0) pa_nil)) (pg_name (i := 2) sc_value.nd rfl (Or.inl rfl)) (pss_one (ps_set (i := 1) sc_value.nd rfl (Or.inl rfl) (pe_op op_add (pe_op op_mul (pv 1) pe_int) (pv 2)))))
    (pss_one (ps_ret (pv 1))))), ?_⟩
  have la : (lv l).length = l.length := lv_length _
  refine ⟨_, rfl, a, lv l, rfl, ?_⟩
  refine for_revB (xs := lv l) (fun i σ H1 => H1 = H ∧ ∃ x, σ = [some (.ref a), some (.int ((val (l.drop (l.length - i)) : Nat) : Int)), x]) hA ⟨rfl, none, by rw [Nat.sub_zero, List.drop_length]; rfl⟩ (fun i σ H1 ⟨e, _⟩ => e) ?_ ?_
  · rintro i y σ H1 hi hy ⟨rfl, x, rfl⟩
    rw [la] at hi hy
    have hg : l[l.length - 1 - i]? = some (l[l.length - 1 - i]'(by omega)) := List.getElem?_eq_getElem (by omega)
    rw [lv_get hg] at hy
    cases hy
    refine ⟨_, rfl, _, _, rfl, rfl, .inr ⟨by decide, by decide⟩, _, rfl, _, _, rfl, rfl, rfl, some (.int ((l[l.length - 1 - i]'(by omega) : Nat) : Int)), ?_⟩
    have e := val_drop hg
    rw [show l.length - 1 - i + 1 = l.length - i by omega] at e
    rw [show l.length - (i + 1) = l.length - 1 - i by omega, e, Nat.add_comm, Nat.mul_comm, Int.natCast_add, Int.natCast_mul]
    rfl
  · rintro σ H1 ⟨rfl, x, rfl⟩
    rw [la, Nat.sub_self, List.drop_zero]
    exact ⟨_, rfl, q⟩

abbrev sd_natural : Stmt := top 72
abbrev nm_natural : List Str := ["_law_number_here", "_law_found"]
abbrev pr_natural : List Str := ["_law_number_here"]
theorem sc_natural : FnScope nm_natural pr_natural (defScope sd_natural) := ⟨rfl, rfl, rfl, by decide +kernel, rfl, by decide +kernel, by decide +kernel⟩
/-- natural: the limbs of a number as a new tuple -/
def sp_natural (K : PySem.W.Frag) : Sp := fun vs H Q _ => ∃ n : Nat, vs = [.int (n : Int)] ∧ (limbs n).length ≤ 100000 ∧ ∀ (r : Addr) (H' : Hp), Same H H' → H' r = some (.tup (lv (limbs n))) → Q (.ref r) H'
theorem ok_natural {P : Program} {w : World} {K : PySem.W.Frag} {mg : Str → Option Value} {base : Heap} {f : Addr} {fd : FuncData} (D : DefAt K mg "_law_natural" sd_natural pr_natural f fd) (B : Glb K mg)  : Cal P w K mg base 1 "_law_natural" pr_natural (sp_natural K) := by
  refine D.cal sc_natural (fun vs H Q E h => ?_) (fun cdv A outer s H vs Q E hr h => ?_)
  · obtain ⟨n, rfl, _⟩ := h
    rfl
  obtain ⟨n, rfl, hn, q⟩ := h
  refine ⟨_, (pss_cons (ps_set (i := 1) sc_natural.nd rfl (Or.inl rfl) (pe_tup pa_nil))
    (pss_cons (ps_while PassesOwn.never (pt_cmpR op_gt (pv 0) pe_int (nomark _)) (pss_cons (ps_set (i := 1) sc_natural.nd rfl (Or.inl rfl) (pe_op op_catTA (pv 1) (pe_tup (pa_cons (pe_op op_mod (pv 0) pe_int) pa_nil))))
    (pss_one (ps_set (i := 0) sc_natural.nd rfl (Or.inl rfl) (pe_op op_fdiv (pv 0) pe_int)))))
    (pss_one (ps_ret (pv 1))))), ?_⟩
  refine ⟨(by show 0 ≤ sizeLine; decide), fun p hp => ?_⟩
  refine while_by (fun σ H1 => ∃ (m : Nat) (l : List Nat) (r : Addr), σ = [some (.int (m : Int)), some (.ref r)] ∧ Same H H1 ∧ H1 r = some (.tup (lv l)) ∧ l ++ limbs m = limbs n)
    (fun σ _ => match σ with | some (.int m) :: _ => m.toNat | _ => 0) ⟨n, [], p, rfl, same_new hp _, upd_same, rfl⟩ ?_ ?_
  · rintro σ H1 ⟨m, l, r, rfl, sm, hl, e⟩
    have elen : l.length + (limbs m).length = (limbs n).length := by rw [← e, List.length_append]
    refine ⟨_, rfl, _, _, rfl, rfl, _, rfl, ?_⟩
    refine ite2 (fun c => ?_) (fun c => ?_)
    · have c' : 0 < (m : Int) := of_decide_eq_true c
      have lm : limbs m = m % 65536 :: limbs (m / 65536) := limbs_pos (by omega)
      have lm1 : 1 ≤ (limbs m).length := by rw [lm]; exact Nat.succ_le_succ (Nat.zero_le _)
      have e1 : (m : Int) / 65536 = ((m / 65536 : Nat) : Int) := by omega
      have e2 : (m : Int) % 65536 = ((m % 65536 : Nat) : Int) := by omega
      refine ⟨_, rfl, _, rfl, _, _, rfl, rfl, (by show (0 : Int) < 65536; decide), (by show 1 ≤ sizeLine; decide), fun t ht => ?_⟩
      have s1 := same_new ht (.tup [.int ((m : Int) % 65536)])
      have ht2 : (upd H1 t (.tup [.int ((m : Int) % 65536)])) t = some (.tup (lv [m % 65536])) := by
        rw [upd_same, e2]
        rfl
      refine cat_all (s1 _ _ hl) ht2 (by show l.length + 1 ≤ 1000000; omega) fun H2 g s2 h2 => ?_
      refine ⟨_, rfl, _, _, rfl, rfl, ⟨by decide, by decide⟩, ?_⟩
      refine ⟨⟨m / 65536, l ++ [m % 65536], g, ?_, sm.trans (s1.trans s2), h2, ?_⟩, ?_⟩
      · rw [← e1]
        rfl
      · rw [List.append_assoc, List.singleton_append, ← lm]
        exact e
      · show ((m : Int) / 65536).toNat < (m : Int).toNat
        omega
    · have c' : ¬ 0 < (m : Int) := of_decide_eq_false (Bool.eq_false_iff.mpr c)
      have m0 : m = 0 := by omega
      subst m0
      rw [limbs_zero, List.append_nil] at e
      subst e
      exact ⟨_, rfl, q r _ sm hl⟩
  · rintro σ H1 Q1 Q2 hq ⟨v, hv, i, j, hi, hj, k, hk, z⟩
    exact ⟨v, hv, i, j, hi, hj, k, hk, hq _ _ z⟩

abbrev sd_limb : Stmt := top 74
abbrev nm_limb : List Str := ["_law_cell_here", "_law_kind_here"]
abbrev pr_limb : List Str := ["_law_cell_here"]
theorem sc_limb : FnScope nm_limb pr_limb (defScope sd_limb) := ⟨rfl, rfl, rfl, by decide +kernel, rfl, by decide +kernel, by decide +kernel⟩
/-- a limb drawn -/
def sp_limb (K : PySem.W.Frag) : Sp := fun vs H Q _ => ∃ c : Int, vs = [.int c] ∧ ∀ (z : Nat) (H' : Hp), z < 65536 → Same H H' → Q (.int (z : Int)) H'
theorem ok_limb {P : Program} {w : World} {K : PySem.W.Frag} {mg : Str → Option Value} {base : Heap} {f : Addr} {fd : FuncData} (D : DefAt K mg "_law_limb" sd_limb pr_limb f fd) (B : Glb K mg)  : Cal P w K mg base 1 "_law_limb" pr_limb (sp_limb K) := by
  refine D.cal sc_limb (fun vs H Q E h => ?_) (fun cdv A outer s H vs Q E hr h => ?_)
  · obtain ⟨c, rfl, _⟩ := h
    rfl
  obtain ⟨c, rfl, q⟩ := h
  refine ⟨_, (pss_cons (ps_set (i := 1) sc_limb.nd rfl (Or.inl rfl) (pe_op op_mod (pv 0) pe_int))
    (pss_cons (ps_if (pt_cmpR op_lt (pv 1) pe_int (nomark _)) (pss_one (ps_ret (pe_ix ix_list (pe_lst (pa_cons pe_int (pa_cons pe_int (pa_cons pe_int (pa_cons pe_int pa_nil))))) (pv 1) (fun _ _ => rfl)))) pss_nil)
    (pss_one (ps_ret (pe_op op_mod (pe_op op_fdiv (pv 0) pe_int) pe_int))))), ?_⟩
  refine ⟨_, rfl, _, _, rfl, rfl, (by show (0 : Int) < _; first | decide | omega), ?_⟩
  refine ⟨_, rfl, _, _, rfl, rfl, _, rfl, iteD (fun c4 => ?_) (fun _ => ?_)⟩
  · refine ⟨(by show 4 ≤ sizeLine; decide), fun p hp => ?_⟩
    have h : c % 6 = 0 ∨ c % 6 = 1 ∨ c % 6 = 2 ∨ c % 6 = 3 := by omega
    have s1 := same_new hp (.lst [.int 0, .int 65535, .int 32768, .int 1])
    rcases h with h | h | h | h
    · exact ⟨_, rfl, p, _, _, _, rfl, rfl, SqL.of upd_same, (by rw [h]; rfl), q 0 _ (by decide) s1⟩
    · exact ⟨_, rfl, p, _, _, _, rfl, rfl, SqL.of upd_same, (by rw [h]; rfl), q 65535 _ (by decide) s1⟩
    · exact ⟨_, rfl, p, _, _, _, rfl, rfl, SqL.of upd_same, (by rw [h]; rfl), q 32768 _ (by decide) s1⟩
    · exact ⟨_, rfl, p, _, _, _, rfl, rfl, SqL.of upd_same, (by rw [h]; rfl), q 1 _ (by decide) s1⟩
  · refine ⟨_, rfl, _, _, rfl, rfl, ⟨by decide, by decide⟩, _, _, rfl, rfl, (by show (0 : Int) < _; first | decide | omega), ?_⟩
    have e : c / 6 % 65536 = (((c / 6 % 65536).toNat : Nat) : Int) := by omega
    have q2 := q (c / 6 % 65536).toNat H (by omega) (Same.refl _)
    rw [← e] at q2
    exact q2

abbrev sd_common : Stmt := top 80
abbrev nm_common : List Str := ["_law_one", "_law_other", "_law_rest"]
abbrev pr_common : List Str := ["_law_one", "_law_other"]
theorem sc_common : FnScope nm_common pr_common (defScope sd_common) := ⟨rfl, rfl, rfl, by decide +kernel, rfl, by decide +kernel, by decide +kernel⟩
/-- common: the greatest that divides both -/
def sp_common (K : PySem.W.Frag) : Sp := fun vs H Q _ => ∃ (a b : Int), vs = [.int a, .int b] ∧ Q (.int ((Nat.gcd a.natAbs b.natAbs : Nat) : Int)) H
theorem ok_common {P : Program} {w : World} {K : PySem.W.Frag} {mg : Str → Option Value} {base : Heap} {f : Addr} {fd : FuncData} (D : DefAt K mg "_law_common" sd_common pr_common f fd) (B : Glb K mg)  : Cal P w K mg base 1 "_law_common" pr_common (sp_common K) := by
  refine D.cal sc_common (fun vs H Q E h => ?_) (fun cdv A outer s H vs Q E hr h => ?_)
  · obtain ⟨a, b, rfl, _⟩ := h
    rfl
  obtain ⟨a, b, rfl, q⟩ := h
  refine ⟨_, (pss_cons (ps_while PassesOwn.never (pt_cmpR op_ne (pv 1) pe_int (nomark _)) (pss_cons (ps_set (i := 2) sc_common.nd rfl (Or.inl rfl) (pe_op op_modN (pv 0) (pv 1)))
    (pss_cons (ps_set (i := 0) sc_common.nd rfl (Or.inl rfl) (pv 1))
    (pss_one (ps_set (i := 1) sc_common.nd rfl (Or.inl rfl) (pv 2))))))
    (pss_one (ps_ret (pe_callB call_abs rfl B.abs_ PyProof.Rows.boot_abs (pa_cons (pv 0) pa_nil))))), ?_⟩
  refine while_by (fun σ H1 => ∃ (x y : Int) (z : Option V), σ = [some (.int x), some (.int y), z] ∧ H1 = H ∧ Nat.gcd x.natAbs y.natAbs = Nat.gcd a.natAbs b.natAbs)
    (fun σ _ => match σ with | _ :: some (.int y) :: _ => y.natAbs | _ => 0) ⟨a, b, none, rfl, rfl, rfl⟩ ?_ ?_
  · rintro σ H1 ⟨x, y, z, rfl, rfl, e⟩
    refine ⟨_, rfl, rfl, _, rfl, iteND (fun c => ?_) (fun c => ?_)⟩
    · have hy : y ≠ 0 := vn c
      refine ⟨_, rfl, _, rfl, _, _, rfl, rfl, hy, ?_⟩
      refine ⟨_, rfl, ?_⟩
      refine ⟨_, rfl, ⟨y, x.fmod y, some (.int (x.fmod y)), rfl, rfl, ?_⟩, ?_⟩
      · rw [gcd_fmod]
        exact e
      · show (x.fmod y).natAbs < y.natAbs
        exact fmod_lt hy
    · have hy : y = 0 := vi c
      subst hy
      rw [Int.natAbs_zero, Nat.gcd_zero_right] at e
      refine ⟨_, rfl, _, rfl, ?_⟩
      show Q (V.int (if x < 0 then -x else x)) H1
      rw [abs_nat, e]
      exact q
  · rintro σ H1 Q1 Q2 hq ⟨v, hv, h1, k, hk, z⟩
    exact ⟨v, hv, h1, k, hk, hq _ _ z⟩

abbrev sd_kind : Stmt := top 83
abbrev nm_kind : List Str := ["_law_error", "_law_found", "_law_names"]
abbrev pr_kind : List Str := ["_law_error"]
theorem sc_kind : FnScope nm_kind pr_kind (defScope sd_kind) := ⟨rfl, rfl, rfl, by decide +kernel, rfl, by decide +kernel, by decide +kernel⟩
/-- kind: of an exception of ByNought alone its word -/
def sp_kind (K : PySem.W.Frag) : Sp := fun vs H Q _ => ∃ ea C : Addr, vs = [.ref ea] ∧ H ea = some (isX ea C) ∧ Xc K "ByNought" C ∧ ∀ H' : Hp, Same H H' → Q (.str "nought") H'
theorem ok_kind {P : Program} {w : World} {K : PySem.W.Frag} {mg : Str → Option Value} {base : Heap} {f : Addr} {fd : FuncData} (D : DefAt K mg "_law_kind" sd_kind pr_kind f fd) (B : Glb K mg)  : CalH P w K mg base 1 "_law_kind" pr_kind (sp_kind K) := by
  refine D.calH sc_kind (fun vs H Q E h => ?_) (fun cdv A outer s H vs Q hr h => ?_)
  · obtain ⟨ea, C, rfl, _⟩ := h
    rfl
  obtain ⟨ea, C, rfl, hX, xc, q⟩ := h
  obtain ⟨C_NumberError, x_NumberError, m_NumberError⟩ := B.x_NumberError
  have n_NumberError := x_NumberError.nm
  obtain ⟨C_NoNatural, n_NoNatural, m_NoNatural⟩ := B.x_NoNatural
  obtain ⟨C_BelowNought, x_BelowNought, m_BelowNought⟩ := B.x_BelowNought
  have n_BelowNought := x_BelowNought.nm
  obtain ⟨C_NoCount, x_NoCount, m_NoCount⟩ := B.x_NoCount
  have n_NoCount := x_NoCount.nm
  obtain ⟨C_ByNought, x_ByNought, m_ByNought⟩ := B.x_ByNought
  have n_ByNought := x_ByNought.nm
  obtain ⟨C_NoWay, x_NoWay, m_NoWay⟩ := B.x_NoWay
  have n_NoWay := x_NoWay.nm
  obtain ⟨C_NoChain, n_NoChain, m_NoChain⟩ := B.x_NoChain
  obtain ⟨C_NoRoot, n_NoRoot, m_NoRoot⟩ := B.x_NoRoot
  obtain ⟨C_NoBase, n_NoBase, m_NoBase⟩ := B.x_NoBase
  obtain ⟨C_NoDigit, n_NoDigit, m_NoDigit⟩ := B.x_NoDigit
  obtain ⟨C_TooLong, n_TooLong, m_TooLong⟩ := B.x_TooLong
  obtain ⟨C_NoText, n_NoText, m_NoText⟩ := B.x_NoText
  obtain ⟨C_NoName, n_NoName, m_NoName⟩ := B.x_NoName
  obtain ⟨t4, p4', q4⟩ : ∃ t, PSsI (cxH P w K mg base nm_kind "_law_kind" (defScope sd_kind) f cdv A outer s H) ((defBody sd_kind).drop 4) t ∧ ∀ (H1 : Hp) (p7 : Addr), Same H H1 → H1 p7 = some (.lst ([false, false, false, true, false, false, false, false, false, false, false, false].map V.bl)) → t { nx := fun _ H' => Q .non H', rt := Q } [some (.ref ea), some (.ref p7), none] H1 := by
    obtain ⟨t5, p5, q5⟩ : ∃ t, PSsI (cxH P w K mg base nm_kind "_law_kind" (defScope sd_kind) f cdv A outer s H) ((defBody sd_kind).drop 5) t ∧ ∀ (H1 : Hp) (p7 : Addr), Same H H1 → H1 p7 = some (.lst ([false, false, false, true, false, false, false, false, false, false, false, false].map V.bl)) → t { nx := fun _ H' => Q .non H', rt := Q } [some (.ref ea), some (.ref p7), none] H1 := by
      refine ⟨_, (pssI_strs (i := 2) sc_kind.nd rfl (Or.inl rfl) (.cons (.cons (.cons (.cons (.cons (.cons (.cons (.cons (.cons (.cons (.cons (.cons .nil)))))))))))) (PSsI.mk (pss_one (ps_ret (pe_ix ix_list (pv 2) (pe_bm PySem.F.plainAttrs_list PySem.F.slot_list_index PySem.F.type_list_index mt_indexB (pv 1) (pa_cons pe_bl pa_nil)) (fun _ _ => rfl)))))), fun H1 p7 s1 hF => ?_⟩
      refine ⟨(by show 12 ≤ sizeLine; decide), fun p8 h8 => ?_⟩
      have s8 := same_new h8 (.lst [.str "natural", .str "below", .str "count", .str "nought", .str "way", .str "chain", .str "root", .str "base", .str "digit", .str "long", .str "text", .str "name"])
      refine ⟨_, rfl, _, rfl, .inl ⟨rfl, _, SqL.of (s8 _ _ hF)⟩, p7, [false, false, false, true, false, false, false, false, false, false, false, false], 3, rfl, rfl, s8 _ _ hF, rfl, (by decide), (by decide), p8, _, _, _, rfl, rfl, SqL.of upd_same, rfl, ?_⟩
      exact q _ (s1.trans s8)
    refine ⟨_, (pssI_cons (ps_if (PW.pt (pw_or (pt_not (pt_val (pe_callB (call_isinstX B.cg B.ct) rfl B.isinstance_ PyProof.Rows.boot_isinstance (pa_cons (pv 0) (pa_cons (pe_glob (v := .ref C_NumberError) rfl m_NumberError rfl) pa_nil))))) (pw_or (pt_not (pt_val (pe_callB (call_isinstX B.cg B.ct) rfl B.isinstance_ PyProof.Rows.boot_isinstance (pa_cons (pv 0) (pa_cons (pe_ty B.ValueError_ PyProof.Rows.Boot.«ValueError» rfl) pa_nil))))) (pw_or1 (pt_cmpR op_ne (pe_bm PySem.F.plainAttrs_list PySem.F.slot_list_count PySem.F.type_list_count mt_countB (pv 1) (pa_cons pe_bl pa_nil)) pe_int (nomark _)))))) (pss_one (ps_ret pe_str)) pss_nil)
    p5), fun H1 p7 s1 hF => ?_⟩
    refine ⟨_, rfl, ea, C, _, _, _, _, rfl, (s1 _ _ hX), xc, (fun _ z => z), B.i_ByNought_NumberError _ _ xc.nm n_NumberError, _, rfl, iteF ⟨_, rfl, ea, C, _, _, _, _, rfl, s1 _ _ hX, xc, (fun _ z => z), B.iv_ByNought _ xc.nm, _, rfl, iteF ?_⟩⟩
    exact ⟨_, rfl, .inl ⟨rfl, _, SqL.of hF⟩, p7, [false, false, false, true, false, false, false, false, false, false, false, false], rfl, rfl, hF, rfl, _, rfl, iteNS (by rfl) (q5 H1 p7 s1 hF)⟩
  have p4 := p4'.out
  obtain ⟨t3, p3, q3⟩ : ∃ t, PSs (cxH P w K mg base nm_kind "_law_kind" (defScope sd_kind) f cdv A outer s H) ((defBody sd_kind).drop 3) t ∧ ∀ (H1 : Hp) (p5 : Addr), Same H H1 → H1 p5 = some (.lst [V.bl false, V.bl false, V.bl false, V.bl true, V.bl false, V.bl false, V.bl false, V.bl false, V.bl false]) → t { nx := fun _ H' => Q .non H', rt := Q } [some (.ref ea), some (.ref p5), none] H1 := by
    refine ⟨_, (pss_cons (ps_set (i := 1) sc_kind.nd rfl (Or.inl rfl) (pe_op op_cat (pv 1) (pe_lst (pa_cons (pe_callB (call_isinstX B.cg B.ct) rfl B.isinstance_ PyProof.Rows.boot_isinstance (pa_cons (pv 0) (pa_cons (pe_glob (v := .ref C_TooLong) rfl m_TooLong rfl) pa_nil))) (pa_cons (pe_callB (call_isinstX B.cg B.ct) rfl B.isinstance_ PyProof.Rows.boot_isinstance (pa_cons (pv 0) (pa_cons (pe_glob (v := .ref C_NoText) rfl m_NoText rfl) pa_nil))) (pa_cons (pe_callB (call_isinstX B.cg B.ct) rfl B.isinstance_ PyProof.Rows.boot_isinstance (pa_cons (pv 0) (pa_cons (pe_glob (v := .ref C_NoName) rfl m_NoName rfl) pa_nil))) pa_nil))))))
    p4), fun H1 p5 s5 h5 => ?_⟩
    refine ⟨_, rfl, _, rfl, ea, C, _, _, _, _, rfl, (s5 _ _ hX), xc, (fun _ z => z), B.i_ByNought_TooLong _ _ xc.nm n_TooLong,
      _, rfl, ea, C, _, _, _, _, rfl, (s5 _ _ hX), xc, (fun _ z => z), B.i_ByNought_NoText _ _ xc.nm n_NoText,
      _, rfl, ea, C, _, _, _, _, rfl, (s5 _ _ hX), xc, (fun _ z => z), B.i_ByNought_NoName _ _ xc.nm n_NoName, (by show 3 ≤ sizeLine; decide), fun p6 h6 => ?_⟩
    have s6 := same_new h6 (.lst [V.bl false, V.bl false, V.bl false])
    refine ⟨p5, p6, _, _, rfl, rfl, s6 _ _ h5, upd_same, (by show 12 ≤ sizeLine; decide), fun p7 h7 => ?_⟩
    exact q4 _ p7 (s5.trans (s6.trans (same_new h7 _))) upd_same
  obtain ⟨t2, p2, q2⟩ : ∃ t, PSs (cxH P w K mg base nm_kind "_law_kind" (defScope sd_kind) f cdv A outer s H) ((defBody sd_kind).drop 2) t ∧ ∀ (H1 : Hp) (p5 : Addr), Same H H1 → H1 p5 = some (.lst [V.bl false, V.bl false, V.bl false, V.bl true, V.bl false, V.bl false]) → t { nx := fun _ H' => Q .non H', rt := Q } [some (.ref ea), some (.ref p5), none] H1 := by
    refine ⟨_, (pss_cons (ps_set (i := 1) sc_kind.nd rfl (Or.inl rfl) (pe_op op_cat (pv 1) (pe_lst (pa_cons (pe_callB (call_isinstX B.cg B.ct) rfl B.isinstance_ PyProof.Rows.boot_isinstance (pa_cons (pv 0) (pa_cons (pe_glob (v := .ref C_NoRoot) rfl m_NoRoot rfl) pa_nil))) (pa_cons (pe_callB (call_isinstX B.cg B.ct) rfl B.isinstance_ PyProof.Rows.boot_isinstance (pa_cons (pv 0) (pa_cons (pe_glob (v := .ref C_NoBase) rfl m_NoBase rfl) pa_nil))) (pa_cons (pe_callB (call_isinstX B.cg B.ct) rfl B.isinstance_ PyProof.Rows.boot_isinstance (pa_cons (pv 0) (pa_cons (pe_glob (v := .ref C_NoDigit) rfl m_NoDigit rfl) pa_nil))) pa_nil))))))
    p3), fun H1 p5 s5 h5 => ?_⟩
    refine ⟨_, rfl, _, rfl, ea, C, _, _, _, _, rfl, (s5 _ _ hX), xc, (fun _ z => z), B.i_ByNought_NoRoot _ _ xc.nm n_NoRoot,
      _, rfl, ea, C, _, _, _, _, rfl, (s5 _ _ hX), xc, (fun _ z => z), B.i_ByNought_NoBase _ _ xc.nm n_NoBase,
      _, rfl, ea, C, _, _, _, _, rfl, (s5 _ _ hX), xc, (fun _ z => z), B.i_ByNought_NoDigit _ _ xc.nm n_NoDigit, (by show 3 ≤ sizeLine; decide), fun p6 h6 => ?_⟩
    have s6 := same_new h6 (.lst [V.bl false, V.bl false, V.bl false])
    refine ⟨p5, p6, _, _, rfl, rfl, s6 _ _ h5, upd_same, (by show 9 ≤ sizeLine; decide), fun p7 h7 => ?_⟩
    exact q3 _ p7 (s5.trans (s6.trans (same_new h7 _))) upd_same
  obtain ⟨t1, p1, q1⟩ : ∃ t, PSs (cxH P w K mg base nm_kind "_law_kind" (defScope sd_kind) f cdv A outer s H) ((defBody sd_kind).drop 1) t ∧ ∀ (H1 : Hp) (p5 : Addr), Same H H1 → H1 p5 = some (.lst [V.bl false, V.bl false, V.bl false]) → t { nx := fun _ H' => Q .non H', rt := Q } [some (.ref ea), some (.ref p5), none] H1 := by
    refine ⟨_, (pss_cons (ps_set (i := 1) sc_kind.nd rfl (Or.inl rfl) (pe_op op_cat (pv 1) (pe_lst (pa_cons (pe_callB (call_isinstX B.cg B.ct) rfl B.isinstance_ PyProof.Rows.boot_isinstance (pa_cons (pv 0) (pa_cons (pe_glob (v := .ref C_ByNought) rfl m_ByNought rfl) pa_nil))) (pa_cons (pe_callB (call_isinstX B.cg B.ct) rfl B.isinstance_ PyProof.Rows.boot_isinstance (pa_cons (pv 0) (pa_cons (pe_glob (v := .ref C_NoWay) rfl m_NoWay rfl) pa_nil))) (pa_cons (pe_callB (call_isinstX B.cg B.ct) rfl B.isinstance_ PyProof.Rows.boot_isinstance (pa_cons (pv 0) (pa_cons (pe_glob (v := .ref C_NoChain) rfl m_NoChain rfl) pa_nil))) pa_nil))))))
    p2), fun H1 p5 s5 h5 => ?_⟩
    refine ⟨_, rfl, _, rfl, ea, C, _, _, _, _, rfl, (s5 _ _ hX), xc, (fun _ z => z), B.i_ByNought_ByNought _ _ xc.nm n_ByNought,
      _, rfl, ea, C, _, _, _, _, rfl, (s5 _ _ hX), xc, (fun _ z => z), B.i_ByNought_NoWay _ _ xc.nm n_NoWay,
      _, rfl, ea, C, _, _, _, _, rfl, (s5 _ _ hX), xc, (fun _ z => z), B.i_ByNought_NoChain _ _ xc.nm n_NoChain, (by show 3 ≤ sizeLine; decide), fun p6 h6 => ?_⟩
    have s6 := same_new h6 (.lst [V.bl true, V.bl false, V.bl false])
    refine ⟨p5, p6, _, _, rfl, rfl, s6 _ _ h5, upd_same, (by show 6 ≤ sizeLine; decide), fun p7 h7 => ?_⟩
    exact q2 _ p7 (s5.trans (s6.trans (same_new h7 _))) upd_same
  refine ⟨_, (pss_cons (ps_set (i := 1) sc_kind.nd rfl (Or.inl rfl) (pe_lst (pa_cons (pe_callB (call_isinstX B.cg B.ct) rfl B.isinstance_ PyProof.Rows.boot_isinstance (pa_cons (pv 0) (pa_cons (pe_glob (v := .ref C_NoNatural) rfl m_NoNatural rfl) pa_nil))) (pa_cons (pe_callB (call_isinstX B.cg B.ct) rfl B.isinstance_ PyProof.Rows.boot_isinstance (pa_cons (pv 0) (pa_cons (pe_glob (v := .ref C_BelowNought) rfl m_BelowNought rfl) pa_nil))) (pa_cons (pe_callB (call_isinstX B.cg B.ct) rfl B.isinstance_ PyProof.Rows.boot_isinstance (pa_cons (pv 0) (pa_cons (pe_glob (v := .ref C_NoCount) rfl m_NoCount rfl) pa_nil))) pa_nil)))))
    p1), ?_⟩
  refine ⟨_, rfl, ea, C, _, _, _, _, rfl, hX, xc, (fun _ z => z), B.i_ByNought_NoNatural _ _ xc.nm n_NoNatural,
    _, rfl, ea, C, _, _, _, _, rfl, hX, xc, (fun _ z => z), B.i_ByNought_BelowNought _ _ xc.nm n_BelowNought,
    _, rfl, ea, C, _, _, _, _, rfl, hX, xc, (fun _ z => z), B.i_ByNought_NoCount _ _ xc.nm n_NoCount, (by show 3 ≤ sizeLine; decide), fun p1' h1 => ?_⟩
  exact q1 _ p1' (same_new h1 _) upd_same

abbrev sd_better : Stmt := top 85
abbrev nm_better : List Str := ["_law_above", "_law_below", "_law_one", "_law_other", "_law_far", "_law_near"]
abbrev pr_better : List Str := ["_law_above", "_law_below", "_law_one", "_law_other"]
theorem sc_better : FnScope nm_better pr_better (defScope sd_better) := ⟨rfl, rfl, rfl, by decide +kernel, rfl, by decide +kernel, by decide +kernel⟩
theorem off_lt {a b p q : Int} (h1 : a.natAbs < 65536 ^ 200) (h2 : b.natAbs < 65536 ^ 200) (h3 : p.natAbs < 65536 ^ 200) (h4 : q.natAbs < 65536 ^ 200) : (a * q - p * b).natAbs < 65536 ^ 401 := by
  have m1 : (a * q).natAbs < 65536 ^ 200 * 65536 ^ 200 := by rw [Int.natAbs_mul]; exact Nat.mul_lt_mul'' h1 h4
  have m2 : (p * b).natAbs < 65536 ^ 200 * 65536 ^ 200 := by rw [Int.natAbs_mul]; exact Nat.mul_lt_mul'' h3 h2
  have t := Int.natAbs_sub_le (a * q) (p * b)
  have e : (65536 : Nat) ^ 401 = 65536 ^ 200 * 65536 ^ 200 * 65536 := rfl
  rw [e]
  generalize (65536 : Nat) ^ 200 * 65536 ^ 200 = z at *
  omega
theorem abs_lt {x : Int} {k : Nat} (h : x.natAbs < 65536 ^ k) : (if x < 0 then -x else x).natAbs < 65536 ^ k := by
  split
  · rw [Int.natAbs_neg]; exact h
  · exact h
theorem ok_better {P : Program} {w : World} {K : PySem.W.Frag} {mg : Str → Option Value} {base : Heap} {f : Addr} {fd : FuncData} (D : DefAt K mg "_law_better" sd_better pr_better f fd) (B : Glb K mg)  : Cal P w K mg base 1 "_law_better" pr_better (sp_better K) := by
  refine D.cal sc_better (fun vs H Q E h => ?_) (fun cdv A outer s H vs Q E hr h => ?_)
  · obtain ⟨a, b, t1, t2, p1, q1, p2, q2, rfl, _⟩ := h
    rfl
  obtain ⟨a, b, t1, t2, p1, q1, p2, q2, rfl, hT1, hT2, b1, b2, b3, b4, b5, b6, q⟩ := h
  have o1 := off_lt b1 b2 b3 b4
  have o2 := off_lt b1 b2 b5 b6
  have hX : (if a * q1 - p1 * b < 0 then -(a * q1 - p1 * b) else a * q1 - p1 * b) * q2 = (off a b p1 q1 : Int) * q2 := by rw [abs_nat]; rfl
  have hY : (if a * q2 - p2 * b < 0 then -(a * q2 - p2 * b) else a * q2 - p2 * b) * q1 = (off a b p2 q2 : Int) * q1 := by rw [abs_nat]; rfl
  refine ⟨_, (pss_cons (ps_set (i := 4) sc_better.nd rfl (Or.inl rfl) (pe_op op_mulB (pe_callB call_abs rfl B.abs_ PyProof.Rows.boot_abs (pa_cons (pe_op op_sub (pe_op op_mulB (pv 0) (pe_ix ix_tup (pv 2) pe_int (fun _ _ => rfl))) (pe_op op_mulB (pe_ix ix_tup (pv 2) pe_int (fun _ _ => rfl)) (pv 1))) pa_nil)) (pe_ix ix_tup (pv 3) pe_int (fun _ _ => rfl))))
    (pss_cons (ps_set (i := 5) sc_better.nd rfl (Or.inl rfl) (pe_op op_mulB (pe_callB call_abs rfl B.abs_ PyProof.Rows.boot_abs (pa_cons (pe_op op_sub (pe_op op_mulB (pv 0) (pe_ix ix_tup (pv 3) pe_int (fun _ _ => rfl))) (pe_op op_mulB (pe_ix ix_tup (pv 3) pe_int (fun _ _ => rfl)) (pv 1))) pa_nil)) (pe_ix ix_tup (pv 2) pe_int (fun _ _ => rfl))))
    (pss_cons (ps_if (pt_cmpR op_ne (pv 4) (pv 5) (nomark _)) (pss_one (ps_ret (pe_ifExp (pt_cmpR op_lt (pv 4) (pv 5) (nomark _)) (pv 2) (pv 3)))) pss_nil)
    (pss_cons (ps_if (pt_cmpR op_ne (pe_ix ix_tup (pv 2) pe_int (fun _ _ => rfl)) (pe_ix ix_tup (pv 3) pe_int (fun _ _ => rfl)) (nomark _)) (pss_one (ps_ret (pe_ifExp (pt_cmpR op_lt (pe_ix ix_tup (pv 2) pe_int (fun _ _ => rfl)) (pe_ix ix_tup (pv 3) pe_int (fun _ _ => rfl)) (nomark _)) (pv 2) (pv 3)))) pss_nil)
    (pss_one (ps_ret (pe_ifExp (pt_cmpR op_le (pe_ix ix_tup (pv 2) pe_int (fun _ _ => rfl)) (pe_ix ix_tup (pv 3) pe_int (fun _ _ => rfl)) (nomark _)) (pv 2) (pv 3)))))))), ?_⟩
  refine ⟨_, rfl, _, rfl, t1, _, _, _, rfl, rfl, SqT.of hT1, rfl, _, _, rfl, rfl, mulOkZ b1 b4 (by decide) (by decide), _, rfl, t1, _, _, _, rfl, rfl, SqT.of hT1, rfl, _, rfl, _, _, rfl, rfl, mulOkZ b3 b2 (by decide) (by decide), _, _, rfl, rfl, _, rfl, _, rfl, t2, _, _, _, rfl, rfl, SqT.of hT2, rfl, _, _, rfl, rfl, mulOkZ (abs_lt o1) b6 (by decide) (by decide), ?_⟩
  refine ⟨_, rfl, _, rfl, t2, _, _, _, rfl, rfl, SqT.of hT2, rfl, _, _, rfl, rfl, mulOkZ b1 b6 (by decide) (by decide), _, rfl, t2, _, _, _, rfl, rfl, SqT.of hT2, rfl, _, rfl, _, _, rfl, rfl, mulOkZ b5 b2 (by decide) (by decide), _, _, rfl, rfl, _, rfl, _, rfl, t1, _, _, _, rfl, rfl, SqT.of hT1, rfl, _, _, rfl, rfl, mulOkZ (abs_lt o2) b4 (by decide) (by decide), ?_⟩
  dsimp only
  rw [hX, hY]
  refine ⟨_, rfl, _, rfl, rfl, _, rfl, iteND (fun c => ?_) (fun c => ?_)⟩
  · have c' := vn c
    refine ⟨_, rfl, _, rfl, _, _, rfl, rfl, _, rfl, iteD (fun d => ?_) (fun d => ?_)⟩
    · exact ⟨_, rfl, q t1 p1 q1 (.inl ⟨rfl, rfl, rfl⟩) (bet_refl ..) (.inl d)⟩
    · exact ⟨_, rfl, q t2 p2 q2 (.inr ⟨rfl, rfl, rfl⟩) (.inl (by omega)) (bet_refl ..)⟩
  have c' := vi c
  refine ⟨_, rfl, t1, _, _, _, rfl, rfl, SqT.of hT1, rfl, _, rfl, t2, _, _, _, rfl, rfl, SqT.of hT2, rfl, rfl, _, rfl, iteND (fun d => ?_) (fun d => ?_)⟩
  · have d' := vn d
    refine ⟨_, rfl, t1, _, _, _, rfl, rfl, SqT.of hT1, rfl, _, rfl, t2, _, _, _, rfl, rfl, SqT.of hT2, rfl, _, _, rfl, rfl, _, rfl, iteD (fun e => ?_) (fun e => ?_)⟩
    · exact ⟨_, rfl, q t1 p1 q1 (.inl ⟨rfl, rfl, rfl⟩) (bet_refl ..) (.inr ⟨c', .inl e⟩)⟩
    · exact ⟨_, rfl, q t2 p2 q2 (.inr ⟨rfl, rfl, rfl⟩) (.inr ⟨c'.symm, .inl (by omega)⟩) (bet_refl ..)⟩
  have d' := vi d
  refine ⟨_, rfl, t1, _, _, _, rfl, rfl, SqT.of hT1, rfl, _, rfl, t2, _, _, _, rfl, rfl, SqT.of hT2, rfl, _, _, rfl, rfl, _, rfl, iteD (fun e => ?_) (fun e => ?_)⟩
  · exact ⟨_, rfl, q t1 p1 q1 (.inl ⟨rfl, rfl, rfl⟩) (bet_refl ..) (.inr ⟨c', .inr ⟨d', e⟩⟩)⟩
  · exact ⟨_, rfl, q t2 p2 q2 (.inr ⟨rfl, rfl, rfl⟩) (.inr ⟨c'.symm, .inr ⟨d'.symm, by omega⟩⟩) (bet_refl ..)⟩

abbrev sd_moved_up : Stmt := top 22
abbrev nm_moved_up : List Str := ["natural", "count", "limbs", "carry", "limb", "moved"]
abbrev pr_moved_up : List Str := ["natural", "count"]
theorem sc_moved_up : FnScope nm_moved_up pr_moved_up (defScope sd_moved_up) := ⟨rfl, rfl, rfl, by decide +kernel, rfl, by decide +kernel, by decide +kernel⟩
/-- moved_up: times two to the power of the count; NoCount below nought -/
def sp_moved_up (K : PySem.W.Frag) : Sp := fun vs H Q E => ∃ (a : Addr) (n : Nat) (c : Int), vs = [.ref a, .int c] ∧ SqT K H a (lv (limbs n)) ∧ (limbs n).length ≤ 80000 ∧
  ((0 ≤ c ∧ c ≤ 100000 ∧ ∀ (r : Addr) (H' : Hp), Same H H' → H' r = some (.tup (lv (limbs (n * 2 ^ c.toNat)))) → Q (.ref r) H') ∨ (c < 0 ∧ ∀ C, PySem.W.nsIn K mainGlobals "NoCount" = some (some (.ref C)) → E (.ref C) none H))
theorem rep_zero (k : Nat) : (List.replicate k [V.int 0]).flatten = lv (List.replicate k 0) := by
  unfold lv
  induction k with
  | zero => rfl
  | succ k ih => rw [List.replicate_succ, List.flatten_cons, ih, List.replicate_succ]; rfl
theorem ok_moved_up {P : Program} {w : World} {K : PySem.W.Frag} {mg : Str → Option Value} {base : Heap} {f : Addr} {fd : FuncData} (D : DefG (some (.int 1)) K mg "moved_up" sd_moved_up pr_moved_up f fd) (B : Glb K mg) (c_refuse_below_nought : Cal P w K mg base 1 "refuse_below_nought" pr_refuse_below_nought (sp_refuse_below_nought K)) (c_trimmed : Cal P w K mg base 1 "trimmed" pr_trimmed (sp_trimmed K)) : CalG (some (.int 1)) P w K mg base 2 "moved_up" pr_moved_up (sp_moved_up K) := by
  refine D.calX sc_moved_up (fun vs H Q E h => ?_) (fun cdv A outer s H vs Q E hr h => ?_)
  · obtain ⟨a, n, c, rfl, _⟩ := h
    rfl
  obtain ⟨a, n, c, rfl, hA, hn, q⟩ := h
  refine ⟨_, (pss_cons (ps_expr (pe_calS c_refuse_below_nought passX.s (hr.mono (by decide)) rfl (pa_cons (pv 1) pa_nil)))
    (pss_cons (ps_if (pt_cmpR op_eq (pe_callB call_len_seq rfl B.len_ PySem.boot_len (pa_cons (pv 0) pa_nil)) pe_int (nomark _)) (pss_one (ps_ret (pe_tup pa_nil))) pss_nil)
    (pss_cons (ps_set (i := 2) sc_moved_up.nd rfl (Or.inl rfl) (pe_op op_rep (pe_lst (pa_cons pe_int pa_nil)) (pe_op op_fdiv (pv 1) (pe_const B.g_BITS rfl))))
    (pss_cons (ps_set (i := 3) sc_moved_up.nd rfl (Or.inl rfl) pe_int)
    (pss_cons (PS.nox (ps_for PassesOwn.never rfl (pi_tup (pv 0)) (pg_name (i := 4) sc_moved_up.nd rfl (Or.inl rfl)) (pss_cons (ps_set (i := 5) sc_moved_up.nd rfl (Or.inl rfl) (pe_op op_add (pe_op op_shl (pv 4) (pe_op op_mod (pv 1) (pe_const B.g_BITS rfl))) (pv 3)))
    (pss_cons (ps_expr (pe_bm PySem.F.plainAttrs_list PySem.F.slot_list_append PySem.F.type_list_append mt_append (pv 2) (pa_cons (pe_op op_mod (pv 5) (pe_const B.g_BASE rfl)) pa_nil)))
    (pss_one (ps_set (i := 3) sc_moved_up.nd rfl (Or.inl rfl) (pe_op op_fdiv (pv 5) (pe_const B.g_BASE rfl))))))))
    (pss_cons (ps_expr (pe_bm PySem.F.plainAttrs_list PySem.F.slot_list_append PySem.F.type_list_append mt_append (pv 2) (pa_cons (pv 3) pa_nil)))
    (pss_one (ps_ret (pe_cal c_trimmed (hr.mono (by decide)) rfl (pa_cons (pv 2) pa_nil)))))))))), ?_⟩
  rcases q with ⟨hc, hc2, q⟩ | ⟨hc, q⟩
  case inr => exact ⟨_, rfl, c, rfl, .inr ⟨hc, q⟩⟩
  have la : (lv (limbs n)).length = (limbs n).length := lv_length _
  refine ⟨_, rfl, c, rfl, .inl ⟨hc, ?_⟩⟩
  refine ⟨_, rfl, a, _, rfl, .inr hA, rfl, _, rfl, iteD (fun e => ?_) (fun _ => ?_)⟩
  · have e0 : n = 0 := by
      injection e with e
      have h1 := lt_pow_len n
      rw [show (limbs n).length = 0 by omega, Nat.pow_zero] at h1
      omega
    subst e0
    refine ⟨(by show 0 ≤ sizeLine; decide), fun p hp => q p _ (same_new hp _) ?_⟩
    rw [upd_same, Nat.zero_mul, limbs_zero]
    rfl
  refine ⟨(by show 1 ≤ sizeLine; decide), fun p hp => ?_⟩
  have ecq : (c / 16).toNat = c.toNat / 16 := by omega
  refine ⟨_, rfl, _, _, rfl, rfl, ⟨by decide, by decide⟩, p, _, _, rfl, rfl, upd_same, (by show -(2 ^ 63) ≤ c / 16; omega), (by show c / 16 < 2 ^ 63; omega), (by show 1 * (c / 16).toNat ≤ sizeLine; rw [ecq]; exact le_line (by omega)), fun p2 hp2 => ?_⟩
  rw [rep_zero, ecq]
  have s0 : Same H (upd H p (.lst [.int 0])) := same_new hp _
  have s2 := s0.trans (same_new hp2 (.lst (lv (List.replicate (c.toNat / 16) 0))))
  have hp2n : H p2 = none := s0.free hp2
  have hP2 := two16_le c.toNat
  have hP0 : 0 < 2 ^ (c.toNat % 16) := Nat.pow_pos (by decide)
  generalize hP : 2 ^ (c.toNat % 16) = P at *
  generalize hq : c.toNat / 16 = q16 at *
  refine ⟨_, rfl, a, rfl, ⟨_, s2.tup hA⟩, ?_⟩
  refine for_tup (K := K) (a := a) (xs := lv (limbs n)) (fun i σ H1 => ∃ x y, σ = [some (.ref a), some (.int c), some (.ref p2), some (.int ((upAt n P i : Nat) : Int)), x, y] ∧ Same H H1 ∧ H1 p2 = some (.lst (lv (List.replicate q16 0 ++ lows (n * P) i)))) ⟨none, none, by rw [upAt_zero]; rfl, s2, ?_⟩ (fun i σ H1 _ ⟨_, _, _, sm, _⟩ => sm.tup hA) ?_ ?_
  · rw [upd_same]
    show some (HO.lst (lv (List.replicate q16 0))) = some (.lst (lv (List.replicate q16 0 ++ [])))
    rw [List.append_nil]
  · rintro i y σ H1 hi ⟨x, y2, rfl, sm, hl⟩
    have hil : i < (limbs n).length := by rw [← la]; exact (List.getElem?_eq_some_iff.mp hi).1
    rw [lv_get (limbs_get hil)] at hi
    cases hi
    have l1 := limbAt_lt n i
    have e1 : ((limbAt n i : Nat) : Int) * 2 ^ (c % 16).toNat + ((upAt n P i : Nat) : Int) = ((limbAt n i * P + upAt n P i : Nat) : Int) := by
      rw [show (c % 16).toNat = c.toNat % 16 by omega, cast2, hP, ← Int.natCast_mul, ← Int.natCast_add]
    refine ⟨_, rfl, _, rfl, _, _, rfl, rfl, (by show (0 : Int) < 16; decide), _, _, rfl, rfl, ⟨by show (0 : Int) ≤ c % 16; omega, by show c % 16 ≤ 1000000; omega, by show (((limbAt n i : Nat) : Int)).natAbs < 2 ^ 64; omega⟩, _, rfl, _, _, rfl, rfl, ?_⟩
    refine ⟨_, rfl, .inl ⟨rfl, _, SqL.of hl⟩, _, rfl, _, _, rfl, rfl, (by show (0 : Int) < 65536; decide), p2, _, _, rfl, rfl, hl, (by rw [lv_length, List.length_append, lows_length, List.length_replicate]; exact lt_line (by omega)), ?_⟩
    refine ⟨_, rfl, _, _, rfl, rfl, ⟨by decide, by decide⟩, some (.int ((limbAt n i : Nat) : Int)), some (.int ((limbAt n i * P + upAt n P i : Nat) : Int)), ?_, fun b o hb => ?_, ?_⟩
    · dsimp only
      rw [e1, upAt_succ, show ((limbAt n i * P + upAt n P i : Nat) : Int) / 65536 = (((limbAt n i * P + upAt n P i) / 65536 : Nat) : Int) by omega]
      rfl
    · rw [upd_ne (ne_of_none hb hp2n)]
      exact sm _ _ hb
    · dsimp only
      rw [upd_same, e1, lows_succ, ← List.append_assoc, lv_snoc, limbAt_mul, show ((limbAt n i * P + upAt n P i : Nat) : Int) % 65536 = (((limbAt n i * P + upAt n P i) % 65536 : Nat) : Int) by omega]
  · rintro σ H1 ⟨x, y, rfl, sm, hl⟩
    rw [la] at hl ⊢
    refine ⟨_, rfl, .inl ⟨rfl, _, SqL.of hl⟩, _, rfl, p2, _, _, rfl, rfl, hl, (by rw [lv_length, List.length_append, lows_length, List.length_replicate]; exact lt_line (by omega)), ?_⟩
    rw [upAt_last (by omega) hP0]
    refine ⟨_, rfl, p2, List.replicate q16 0 ++ lows (n * P) ((limbs n).length + 1), rfl, .inl (SqL.of ?_), (dig_zeros _).append (lows_dig _ _), by rw [List.length_append, lows_length, List.length_replicate]; omega, fun r H2 s3 h3 => q r H2 (fun b o hb => ?_) ?_⟩
    · rw [upd_same, lows_succ, ← List.append_assoc, lv_snoc]
    · refine s3 _ _ ?_
      rw [upd_ne (ne_of_none hb hp2n)]
      exact sm _ _ hb
    · rw [h3, val_zeros, val_lows_all (mul_lt_pow (by omega) hP0), two_split, hP, hq]
      congr 4
      rw [Nat.mul_left_comm]

abbrev sd_bit_at : Stmt := top 23
abbrev nm_bit_at : List Str := ["natural", "place"]
abbrev pr_bit_at : List Str := ["natural", "place"]
theorem sc_bit_at : FnScope nm_bit_at pr_bit_at (defScope sd_bit_at) := ⟨rfl, rfl, rfl, by decide +kernel, rfl, by decide +kernel, by decide +kernel⟩
/-- bit_at: the bit at a place; NoCount of one below nought -/
def sp_bit_at (K : PySem.W.Frag) : Sp := fun vs H Q E => ∃ (a : Addr) (n : Nat) (p : Int), vs = [.ref a, .int p] ∧ SqT K H a (lv (limbs n)) ∧
  ((0 ≤ p ∧ Q (.int ((n / 2 ^ p.toNat % 2 : Nat) : Int)) H) ∨ (p < 0 ∧ ∀ C, PySem.W.nsIn K mainGlobals "NoCount" = some (some (.ref C)) → E (.ref C) none H))
theorem ok_bit_at {P : Program} {w : World} {K : PySem.W.Frag} {mg : Str → Option Value} {base : Heap} {f : Addr} {fd : FuncData} (D : DefAt K mg "bit_at" sd_bit_at pr_bit_at f fd) (B : Glb K mg) (c_refuse_below_nought : Cal P w K mg base 1 "refuse_below_nought" pr_refuse_below_nought (sp_refuse_below_nought K)) (c_limb_at : Cal P w K mg base 1 "limb_at" pr_limb_at (sp_limb_at K)) : Cal P w K mg base 2 "bit_at" pr_bit_at (sp_bit_at K) := by
  refine D.calX sc_bit_at (fun vs H Q E h => ?_) (fun cdv A outer s H vs Q E hr h => ?_)
  · obtain ⟨a, n, p, rfl, _⟩ := h
    rfl
  obtain ⟨a, n, p, rfl, hA, q⟩ := h
  refine ⟨_, (pss_cons (ps_expr (pe_calS c_refuse_below_nought passX.s (hr.mono (by decide)) rfl (pa_cons (pv 1) pa_nil)))
    (pss_one (ps_ret (pe_op op_and (pe_op op_shr (pe_cal c_limb_at (hr.mono (by decide)) rfl (pa_cons (pv 0) (pa_cons (pe_op op_fdiv (pv 1) (pe_const B.g_BITS rfl)) pa_nil))) (pe_op op_mod (pv 1) (pe_const B.g_BITS rfl))) pe_int)))), ?_⟩
  rcases q with ⟨hp, q⟩ | ⟨hp, q⟩
  · refine ⟨_, rfl, p, rfl, .inl ⟨hp, ?_⟩⟩
    refine ⟨_, rfl, _, rfl, _, _, rfl, rfl, ⟨by decide, by decide⟩, a, n, p.toNat / 16, ?_, hA, _, rfl, _, _, rfl, rfl, (by show (0 : Int) < 16; decide), _, _, rfl, rfl, (by show (0 : Int) ≤ p % 16; omega), _, _, rfl, rfl, ?_⟩
    · show [V.ref a, V.int (p / 16)] = [V.ref a, V.int ((p.toNat / 16 : Nat) : Int)]
      rw [show p / 16 = ((p.toNat / 16 : Nat) : Int) by omega]
    · have e1 : (p % 16).toNat = p.toNat % 16 := by omega
      have e2 : ((limbAt n (p.toNat / 16) : Nat) : Int) / 2 ^ (p % 16).toNat = ((limbAt n (p.toNat / 16) / 2 ^ (p.toNat % 16) : Nat) : Int) := by rw [e1, cast2, Int.natCast_ediv]
      show Q (V.int (Builtin.bitAnd (((limbAt n (p.toNat / 16) : Nat) : Int) / 2 ^ (p % 16).toNat) 1)) H
      rw [e2, show (1 : Int) = ((1 : Nat) : Int) from rfl, bitAnd_nat, Nat.and_one_is_mod, bit_limb]
      exact q
  · exact ⟨_, rfl, p, rfl, .inr ⟨hp, q⟩⟩

abbrev sd_carried : Stmt := top 25
abbrev nm_carried : List Str := ["columns", "limbs", "carry", "column", "here"]
abbrev pr_carried : List Str := ["columns"]
theorem sc_carried : FnScope nm_carried pr_carried (defScope sd_carried) := ⟨rfl, rfl, rfl, by decide +kernel, rfl, by decide +kernel, by decide +kernel⟩
/-- carried: the natural of columns, a new tuple -/
def sp_carried (K : PySem.W.Frag) : Sp := fun vs H Q _ => ∃ (a : Addr) (l : List Nat), vs = [.ref a] ∧ SqL K H a (lv l) ∧ l.length ≤ 200000 ∧ val l < 65536 ^ l.length ∧ ∀ (r : Addr) (H' : Hp), Same H H' → H' r = some (.tup (lv (limbs (val l)))) → Q (.ref r) H'
theorem ok_carried {P : Program} {w : World} {K : PySem.W.Frag} {mg : Str → Option Value} {base : Heap} {f : Addr} {fd : FuncData} (D : DefAt K mg "carried" sd_carried pr_carried f fd) (B : Glb K mg) (c_trimmed : Cal P w K mg base 1 "trimmed" pr_trimmed (sp_trimmed K)) : Cal P w K mg base 2 "carried" pr_carried (sp_carried K) := by
  refine D.cal sc_carried (fun vs H Q E h => ?_) (fun cdv A outer s H vs Q E hr h => ?_)
  · obtain ⟨a, l, rfl, _⟩ := h
    rfl
  obtain ⟨a, l, rfl, hA, hl, hv, q⟩ := h
  refine ⟨_, (pss_cons (ps_set (i := 1) sc_carried.nd rfl (Or.inl rfl) (pe_lst pa_nil))
    (pss_cons (ps_set (i := 2) sc_carried.nd rfl (Or.inl rfl) pe_int)
    (pss_cons (ps_for PassesOwn.never rfl (pi_list (pv 0)) (pg_name (i := 3) sc_carried.nd rfl (Or.inl rfl)) (pss_cons (ps_set (i := 4) sc_carried.nd rfl (Or.inl rfl) (pe_op op_add (pv 3) (pv 2)))
    (pss_cons (ps_expr (pe_bm PySem.F.plainAttrs_list PySem.F.slot_list_append PySem.F.type_list_append mt_append (pv 1) (pa_cons (pe_op op_mod (pv 4) (pe_const B.g_BASE rfl)) pa_nil)))
    (pss_one (ps_set (i := 2) sc_carried.nd rfl (Or.inl rfl) (pe_op op_fdiv (pv 4) (pe_const B.g_BASE rfl)))))))
    (pss_one (ps_ret (pe_cal c_trimmed (hr.mono (by decide)) rfl (pa_cons (pv 1) pa_nil))))))), ?_⟩
  have ll : (lv l).length = l.length := lv_length l
  refine ⟨(by show 0 ≤ sizeLine; decide), fun p hp => ?_⟩
  have s0 : Same H (upd H p (.lst [])) := same_new hp _
  refine ⟨_, rfl, a, rfl, ⟨_, s0.seq hA⟩, ?_⟩
  refine for_list (K := K) (a := a) (xs := lv l) (fun i σ H1 => ∃ x y, σ = [some (.ref a), some (.ref p), some (.int ((onAt l i : Nat) : Int)), x, y] ∧ Same H H1 ∧ H1 p = some (.lst (lv (lows (val l) i)))) ⟨none, none, by rw [onAt_zero]; rfl, s0, upd_same⟩ (fun i σ H1 _ ⟨_, _, _, sm, _⟩ => sm.seq hA) ?_ ?_
  · rintro i y σ H1 hi ⟨x, y2, rfl, sm, hl1⟩
    have hil : i < l.length := by rw [← ll]; exact (List.getElem?_eq_some_iff.mp hi).1
    obtain ⟨d, hg⟩ : ∃ d, l[i]? = some d := ⟨_, List.getElem?_eq_getElem hil⟩
    rw [lv_get hg] at hi
    cases hi
    have e1 : (d : Int) + ((onAt l i : Nat) : Int) = ((d + onAt l i : Nat) : Int) := by omega
    refine ⟨_, rfl, _, rfl, _, _, rfl, rfl, ?_⟩
    refine ⟨_, rfl, .inl ⟨rfl, _, SqL.of hl1⟩, _, rfl, _, _, rfl, rfl, (by show (0 : Int) < 65536; decide), p, _, _, rfl, rfl, hl1, (by rw [lv_length, lows_length]; exact lt_line (by omega)), ?_⟩
    refine ⟨_, rfl, _, _, rfl, rfl, ⟨by decide, by decide⟩, some (.int (d : Int)), some (.int ((d + onAt l i : Nat) : Int)), ?_, fun b o hb => ?_, ?_⟩
    · dsimp only
      rw [e1, onAt_succ hg, show ((d + onAt l i : Nat) : Int) / 65536 = (((d + onAt l i) / 65536 : Nat) : Int) by omega]
      rfl
    · rw [upd_ne (ne_of_none hb hp)]
      exact sm _ _ hb
    · dsimp only
      rw [upd_same, e1, lows_succ, lv_snoc, limbAt_cols hg, show ((d + onAt l i : Nat) : Int) % 65536 = (((d + onAt l i) % 65536 : Nat) : Int) by omega]
  · rintro σ H1 ⟨x, y, rfl, sm, hl1⟩
    rw [ll] at hl1
    refine ⟨_, rfl, p, lows (val l) l.length, rfl, .inl (SqL.of hl1), lows_dig _ _, by rw [lows_length]; omega, fun r H2 s2 h2 => q r H2 (sm.trans s2) ?_⟩
    rw [h2, val_lows_all hv]

abbrev sd_carries : Stmt := top 30
abbrev nm_carries : List Str := ["one", "other", "gone_on", "carry", "place"]
abbrev pr_carries : List Str := ["one", "other"]
theorem sc_carries : FnScope nm_carries pr_carries (defScope sd_carries) := ⟨rfl, rfl, rfl, by decide +kernel, rfl, by decide +kernel, by decide +kernel⟩
/-- carries: what goes on from each place of a sum, a new list -/
def sp_carries (K : PySem.W.Frag) : Sp := fun vs H Q _ => ∃ (a b : Addr) (m n : Nat), vs = [.ref a, .ref b] ∧ SqT K H a (lv (limbs m)) ∧ SqT K H b (lv (limbs n)) ∧ (limbs m).length ≤ 100000 ∧ (limbs n).length ≤ 100000 ∧
  ∀ (r : Addr) (H' : Hp), Same H H' → H r = none → H' r = some (.lst (lv (gone m n (max (limbs m).length (limbs n).length)))) → Q (.ref r) H'
theorem ok_carries {P : Program} {w : World} {K : PySem.W.Frag} {mg : Str → Option Value} {base : Heap} {f : Addr} {fd : FuncData} (D : DefAt K mg "carries" sd_carries pr_carries f fd) (B : Glb K mg) (c_limb_at : Cal P w K mg base 1 "limb_at" pr_limb_at (sp_limb_at K)) : Cal P w K mg base 2 "carries" pr_carries (sp_carries K) := by
  refine D.cal sc_carries (fun vs H Q E h => ?_) (fun cdv A outer s H vs Q E hr h => ?_)
  · obtain ⟨a, b, m, n, rfl, _⟩ := h
    rfl
  obtain ⟨a, b, m, n, rfl, hA, hB, hm, hn, q⟩ := h
  refine ⟨_, (pss_cons (ps_set (i := 2) sc_carries.nd rfl (Or.inl rfl) (pe_lst pa_nil))
    (pss_cons (ps_set (i := 3) sc_carries.nd rfl (Or.inl rfl) pe_int)
    (pss_cons (ps_for PassesOwn.never rfl (pi_range1 rfl B.range_ (pa_cons (pe_callB (call_max2 rfl) rfl B.max_ PyProof.Rows.boot_max (pa_cons (pe_callB call_len_seq rfl B.len_ PySem.boot_len (pa_cons (pv 0) pa_nil)) (pa_cons (pe_callB call_len_seq rfl B.len_ PySem.boot_len (pa_cons (pv 1) pa_nil)) pa_nil))) pa_nil)) (pg_name (i := 4) sc_carries.nd rfl (Or.inl rfl)) (pss_cons (ps_set (i := 3) sc_carries.nd rfl (Or.inl rfl) (pe_op op_fdiv (pe_op op_add (pe_op op_add (pe_cal c_limb_at (hr.mono (by decide)) rfl (pa_cons (pv 0) (pa_cons (pv 4) pa_nil))) (pe_cal c_limb_at (hr.mono (by decide)) rfl (pa_cons (pv 1) (pa_cons (pv 4) pa_nil)))) (pv 3)) (pe_const B.g_BASE rfl)))
    (pss_one (ps_expr (pe_bm PySem.F.plainAttrs_list PySem.F.slot_list_append PySem.F.type_list_append mt_append (pv 2) (pa_cons (pv 3) pa_nil))))))
    (pss_one (ps_ret (pv 2)))))), ?_⟩
  have la : (lv (limbs m)).length = (limbs m).length := lv_length _
  have lb : (lv (limbs n)).length = (limbs n).length := lv_length _
  refine ⟨(by show 0 ≤ sizeLine; decide), fun p hp => ?_⟩
  have s0 : Same H (upd H p (.lst [])) := same_new hp _
  refine ⟨_, rfl, a, _, rfl, .inr (s0.tup hA), _, rfl, b, _, rfl, .inr (s0.tup hB), _, _, rfl, _, rfl, by split <;> omega, by split <;> omega, ?_⟩
  have eN : (if ((((lv (limbs n)).length : Nat) : Int) > (((lv (limbs m)).length : Nat) : Int)) then (((lv (limbs n)).length : Nat) : Int) else (((lv (limbs m)).length : Nat) : Int)).toNat = max (limbs m).length (limbs n).length := by split <;> omega
  refine for_range (fun i σ H1 => ∃ x, σ = [some (.ref a), some (.ref b), some (.ref p), some (.int ((carryAt m n i : Nat) : Int)), x] ∧ Same H H1 ∧ H1 p = some (.lst (lv (gone m n i)))) ⟨none, by rw [carryAt_zero]; rfl, s0, upd_same⟩ ?_ ?_
  · rintro i σ H1 hi ⟨x, rfl, sm, hl⟩
    have hi' : i < max (limbs m).length (limbs n).length := by rw [← eN]; exact hi
    have e1 : (((limbAt m i : Nat) : Int) + ((limbAt n i : Nat) : Int) + ((carryAt m n i : Nat) : Int)) / 65536 = ((carryAt m n (i + 1) : Nat) : Int) := by
      rw [carryAt_succ]
      omega
    refine ⟨_, rfl, _, rfl, a, m, i, (by rw [Int.zero_add]; rfl), sm.tup hA, ?_⟩
    refine ⟨_, rfl, _, rfl, b, n, i, (by rw [Int.zero_add]; rfl), sm.tup hB, ?_⟩
    refine ⟨_, _, rfl, rfl, _, rfl, _, _, rfl, rfl, _, _, rfl, rfl, ⟨by decide, by decide⟩, ?_⟩
    refine ⟨_, rfl, .inl ⟨rfl, _, SqL.of hl⟩, _, rfl, p, _, _, rfl, rfl, hl, (by rw [lv_length, gone_length]; exact lt_line (by omega)), ?_⟩
    refine ⟨_, by rw [← e1]; rfl, fun c o hc => ?_, ?_⟩
    · rw [upd_ne (ne_of_none hc hp)]
      exact sm c o hc
    · rw [upd_same, gone_succ, lv_snoc, ← e1]
  · rintro σ H1 ⟨x, rfl, sm, hl⟩
    refine ⟨_, rfl, q p H1 sm hp ?_⟩
    rw [← eN]
    exact hl

abbrev sd_minus : Stmt := top 32
abbrev nm_minus : List Str := ["one", "other", "limbs", "borrow", "place", "limb", "left"]
abbrev pr_minus : List Str := ["one", "other"]
theorem sc_minus : FnScope nm_minus pr_minus (defScope sd_minus) := ⟨rfl, rfl, rfl, by decide +kernel, rfl, by decide +kernel, by decide +kernel⟩
/-- minus: the natural of the difference, a new tuple; BelowNought where the second one is greater -/
def sp_minus (K : PySem.W.Frag) : Sp := fun vs H Q E => ∃ (a b : Addr) (m n : Nat), vs = [.ref a, .ref b] ∧ SqT K H a (lv (limbs m)) ∧ SqT K H b (lv (limbs n)) ∧ (limbs m).length ≤ 90000 ∧
  ((n ≤ m ∧ ∀ (r : Addr) (H' : Hp), Same H H' → H' r = some (.tup (lv (limbs (m - n)))) → Q (.ref r) H') ∨ (m < n ∧ ∀ C, PySem.W.nsIn K mainGlobals "BelowNought" = some (some (.ref C)) → E (.ref C) none H))
theorem ok_minus {P : Program} {w : World} {K : PySem.W.Frag} {mg : Str → Option Value} {base : Heap} {f : Addr} {fd : FuncData} (D : DefAt K mg "minus" sd_minus pr_minus f fd) (B : Glb K mg) (c_trimmed : Cal P w K mg base 1 "trimmed" pr_trimmed (sp_trimmed K)) (c_compared : Cal P w K mg base 1 "compared" pr_compared (sp_compared K)) (c_limb_at : Cal P w K mg base 1 "limb_at" pr_limb_at (sp_limb_at K)) : Cal P w K mg base 2 "minus" pr_minus (sp_minus K) := by
  refine D.calX sc_minus (fun vs H Q E h => ?_) (fun cdv A outer s H vs Q E hr h => ?_)
  · obtain ⟨a, b, m, n, rfl, _⟩ := h
    rfl
  obtain ⟨a, b, m, n, rfl, hA, hB, hm, q⟩ := h
  obtain ⟨C_BelowNought, x_BelowNought, m_BelowNought⟩ := B.x_BelowNought
  have n_BelowNought := x_BelowNought.nm
  refine ⟨_, (pss_cons (ps_if (pt_cmpR op_lt (pe_cal c_compared (hr.mono (by decide)) rfl (pa_cons (pv 0) (pa_cons (pv 1) pa_nil))) pe_int (nomark _)) (pss_one (ps_raise x_BelowNought m_BelowNought rfl (pa_cons pe_str pa_nil))) pss_nil)
    (pss_cons (ps_set (i := 2) sc_minus.nd rfl (Or.inl rfl) (pe_lst pa_nil))
    (pss_cons (ps_set (i := 3) sc_minus.nd rfl (Or.inl rfl) pe_int)
    (pss_cons (PS.nox (ps_for PassesOwn.never rfl (pi_enumT rfl B.enumerate_ (pa_cons (pv 0) pa_nil)) (pg_tup rfl (pgs_cons (pg_name (i := 4) sc_minus.nd rfl (Or.inl rfl)) (pgs_cons (pg_name (i := 5) sc_minus.nd rfl (Or.inl rfl)) pgs_nil))) (pss_cons (ps_set (i := 6) sc_minus.nd rfl (Or.inl rfl) (pe_op op_sub (pe_op op_sub (pv 5) (pe_cal c_limb_at (hr.mono (by decide)) rfl (pa_cons (pv 1) (pa_cons (pv 4) pa_nil)))) (pv 3)))
    (pss_cons (ps_expr (pe_bm PySem.F.plainAttrs_list PySem.F.slot_list_append PySem.F.type_list_append mt_append (pv 2) (pa_cons (pe_op op_mod (pv 6) (pe_const B.g_BASE rfl)) pa_nil)))
    (pss_one (ps_set (i := 3) sc_minus.nd rfl (Or.inl rfl) (pe_ifExp (pt_cmpR op_lt (pv 6) pe_int (nomark _)) pe_int pe_int)))))))
    (pss_one (ps_ret (pe_cal c_trimmed (hr.mono (by decide)) rfl (pa_cons (pv 2) pa_nil)))))))), ?_⟩
  have la : (lv (limbs m)).length = (limbs m).length := lv_length _
  refine ⟨_, rfl, _, rfl, a, b, m, n, rfl, hA, hB, by omega, _, _, rfl, rfl, _, rfl, iteD (fun c => ?_) (fun c => ?_)⟩
  · have hmn : m < n := by
      unfold cmp at c
      split at c
      · assumption
      · split at c <;> omega
    rcases q with ⟨h, _⟩ | ⟨_, q⟩
    · omega
    · exact ⟨(by show 1 ≤ sizeLine; decide), q _ n_BelowNought⟩
  have hmn : n ≤ m := by
    unfold cmp at c
    split at c
    · exact absurd (by decide) c
    · omega
  have q : ∀ (r : Addr) (H' : Hp), Same H H' → H' r = some (.tup (lv (limbs (m - n)))) → Q (.ref r) H' := by
    rcases q with ⟨_, q⟩ | ⟨h, _⟩
    · exact q
    · omega
  refine ⟨(by show 0 ≤ sizeLine; decide), fun p hp => ?_⟩
  have s0 : Same H (upd H p (.lst [])) := same_new hp _
  refine ⟨_, rfl, a, rfl, ⟨_, s0.tup hA⟩, ?_⟩
  refine for_enumT (xs := lv (limbs m)) (fun i σ H1 => ∃ x y z, σ = [some (.ref a), some (.ref b), some (.ref p), some (.int ((borrowAt m n i : Nat) : Int)), x, y, z] ∧ Same H H1 ∧ H1 p = some (.lst (lv (lows (m - n) i)))) ⟨none, none, none, by rw [borrowAt_zero]; rfl, s0, upd_same⟩ (fun i σ H1 _ ⟨_, _, _, _, sm, _⟩ => sm.tup hA) ?_ ?_
  · rintro i y σ H1 t hi ⟨x, y2, z, rfl, sm, hl⟩ ht
    have hil : i < (limbs m).length := by rw [← la]; exact (List.getElem?_eq_some_iff.mp hi).1
    rw [lv_get (limbs_get hil)] at hi
    cases hi
    have st : Same H1 (upd H1 t (.tup [.int (i : Int), .int ((limbAt m i : Nat) : Int)])) := same_new ht _
    have hl2 := st _ _ hl
    have e1 := limbAt_sub hmn i
    refine ⟨t, _, rfl, SqT.of upd_same, rfl, _, _, rfl, _, _, rfl, rfl, ?_⟩
    refine ⟨_, rfl, _, rfl, _, rfl, b, n, i, rfl, (sm.trans st).tup hB, _, _, rfl, rfl, _, rfl, _, _, rfl, rfl, ?_⟩
    refine ⟨_, rfl, .inl ⟨rfl, _, SqL.of hl2⟩, _, rfl, _, _, rfl, rfl, (by show (0 : Int) < 65536; decide), p, _, _, rfl, rfl, hl2, (by rw [lv_length, lows_length]; exact lt_line (by omega)), ?_⟩
    have fin : ∀ v : Int, v = ((borrowAt m n (i + 1) : Nat) : Int) → ∃ x y z, [some (V.ref a), some (.ref b), some (.ref p), some (.int v), some (.int (i : Int)), some (.int ((limbAt m i : Nat) : Int)), some (.int (((limbAt m i : Nat) : Int) - ((limbAt n i : Nat) : Int) - ((borrowAt m n i : Nat) : Int)))] = [some (.ref a), some (.ref b), some (.ref p), some (.int ((borrowAt m n (i + 1) : Nat) : Int)), x, y, z] ∧
        Same H (upd (upd H1 t (.tup [.int (i : Int), .int ((limbAt m i : Nat) : Int)])) p (.lst (lv (lows (m - n) i) ++ [.int ((((limbAt m i : Nat) : Int) - ((limbAt n i : Nat) : Int) - ((borrowAt m n i : Nat) : Int)) % 65536)]))) ∧
        (upd (upd H1 t (.tup [.int (i : Int), .int ((limbAt m i : Nat) : Int)])) p (.lst (lv (lows (m - n) i) ++ [.int ((((limbAt m i : Nat) : Int) - ((limbAt n i : Nat) : Int) - ((borrowAt m n i : Nat) : Int)) % 65536)]))) p = some (.lst (lv (lows (m - n) (i + 1)))) := fun v hv => by
      refine ⟨_, _, _, by rw [hv], fun b o hb => ?_, ?_⟩
      · rw [upd_ne (ne_of_none hb hp)]
        exact st _ _ (sm _ _ hb)
      · rw [upd_same, lows_succ, lv_snoc, e1]
    have bs := borrowAt_succ m n i
    refine ⟨_, rfl, _, _, rfl, rfl, _, rfl, iteD (fun c => ?_) (fun c => ?_)⟩
    · rw [if_pos c] at bs
      exact fin 1 (by rw [bs]; rfl)
    · rw [if_neg c] at bs
      exact fin 0 (by rw [bs]; rfl)
  · rintro σ H1 ⟨x, y, z, rfl, sm, hl⟩
    refine ⟨_, rfl, p, lows (m - n) (limbs m).length, rfl, ?_, lows_dig _ _, by rw [lows_length]; omega, fun r H2 s2 h2 => q r H2 (sm.trans s2) ?_⟩
    · rw [← la]
      exact .inl (SqL.of hl)
    · rw [h2, val_lows_all (Nat.lt_of_le_of_lt (Nat.sub_le ..) (lt_pow_len m))]

abbrev sd_ranked : Stmt := top 43
abbrev nm_ranked : List Str := ["one", "other"]
abbrev pr_ranked : List Str := ["one", "other"]
theorem sc_ranked : FnScope nm_ranked pr_ranked (defScope sd_ranked) := ⟨rfl, rfl, rfl, by decide +kernel, rfl, by decide +kernel, by decide +kernel⟩
/-- ranked: which of two wholes is greater -/
def sp_ranked (K : PySem.W.Frag) : Sp := fun vs H Q _ => ∃ (a b : Addr) (i j : Int), vs = [.ref a, .ref b] ∧ WhH H a i ∧ WhH H b j ∧ (limbs i.natAbs).length ≤ 90000 ∧ Q (.int (cmpI i j)) H
theorem ok_ranked {P : Program} {w : World} {K : PySem.W.Frag} {mg : Str → Option Value} {base : Heap} {f : Addr} {fd : FuncData} (D : DefAt K mg "ranked" sd_ranked pr_ranked f fd) (B : Glb K mg) (c_compared : Cal P w K mg base 1 "compared" pr_compared (sp_compared K)) : Cal P w K mg base 2 "ranked" pr_ranked (sp_ranked K) := by
  refine D.cal sc_ranked (fun vs H Q E h => ?_) (fun cdv A outer s H vs Q E hr h => ?_)
  · obtain ⟨a, b, i, j, rfl, _⟩ := h
    rfl
  obtain ⟨a, b, i, j, rfl, ⟨ra, hA, hRa⟩, ⟨rb, hB, hRb⟩, hi, q⟩ := h
  refine ⟨_, (pss_cons (ps_if (pt_cmpR op_ne (pe_ix ix_tup (pv 0) pe_int (fun _ _ => rfl)) (pe_ix ix_tup (pv 1) pe_int (fun _ _ => rfl)) (nomark _)) (pss_one (ps_ret (pe_ifExp (pt_cmpR op_gt (pe_ix ix_tup (pv 0) pe_int (fun _ _ => rfl)) (pe_ix ix_tup (pv 1) pe_int (fun _ _ => rfl)) (nomark _)) pe_int (pe_un un_neg pe_int)))) pss_nil)
    (pss_one (ps_ret (pe_op op_mul (pe_ix ix_tup (pv 0) pe_int (fun _ _ => rfl)) (pe_cal c_compared (hr.mono (by decide)) rfl (pa_cons (pe_ix ix_tup (pv 0) pe_int (fun _ _ => rfl)) (pa_cons (pe_ix ix_tup (pv 1) pe_int (fun _ _ => rfl)) pa_nil))))))), ?_⟩
  have hb := sign_bd i
  refine ⟨_, rfl, a, _, _, _, rfl, rfl, SqT.of hA, rfl, _, rfl, b, _, _, _, rfl, rfl, SqT.of hB, rfl, rfl, _, rfl, iteND (fun c => ?_) (fun c => ?_)⟩
  · rw [cmpI_sign (vn c)] at q
    refine ⟨_, rfl, a, _, _, _, rfl, rfl, SqT.of hA, rfl, _, rfl, b, _, _, _, rfl, rfl, SqT.of hB, rfl, _, _, rfl, rfl, _, rfl, iteD (fun d => ?_) (fun d => ?_)⟩
    · rw [if_pos d] at q
      exact q
    · rw [if_neg d] at q
      exact ⟨_, rfl, q⟩
  · refine ⟨_, rfl, a, _, _, _, rfl, rfl, SqT.of hA, rfl, _, rfl, a, _, _, _, rfl, rfl, SqT.of hA, rfl, _, rfl, b, _, _, _, rfl, rfl, SqT.of hB, rfl, ra, rb, i.natAbs, j.natAbs, rfl, SqT.of hRa, SqT.of hRb, by omega, _, _, rfl, rfl, .inl ⟨by omega, by omega⟩, ?_⟩
    show Q (V.int (i.sign * cmp i.natAbs j.natAbs)) H
    rw [cmpI_size (vi c)]
    exact q

abbrev sd_is : Stmt := top 73
abbrev nm_is : List Str := ["_law_found", "_law_number_here", "_law_limb_here"]
abbrev pr_is : List Str := ["_law_found", "_law_number_here"]
theorem sc_is : FnScope nm_is pr_is (defScope sd_is) := ⟨rfl, rfl, rfl, by decide +kernel, rfl, by decide +kernel, by decide +kernel⟩
/-- is: of the natural of a number True -/
def sp_is (K : PySem.W.Frag) : Sp := fun vs H Q _ => ∃ (a : Addr) (n : Nat), vs = [.ref a, .int (n : Int)] ∧ H a = some (.tup (lv (limbs n))) ∧ (limbs n).length ≤ 100000 ∧ ∀ H', Same H H' → Q (.bl true) H'
theorem ok_is {P : Program} {w : World} {K : PySem.W.Frag} {mg : Str → Option Value} {base : Heap} {f : Addr} {fd : FuncData} (D : DefAt K mg "_law_is" sd_is pr_is f fd) (B : Glb K mg) (c_natural : Cal P w K mg base 1 "_law_natural" pr_natural (sp_natural K)) : Cal P w K mg base 2 "_law_is" pr_is (sp_is K) := by
  refine D.cal sc_is (fun vs H Q E h => ?_) (fun cdv A outer s H vs Q E hr h => ?_)
  · obtain ⟨a, n, rfl, _⟩ := h
    rfl
  obtain ⟨a, n, rfl, hA, hn, q⟩ := h
  refine ⟨_, (pss_cons (ps_if (pt_not (pt_val (pe_callB call_isinst rfl B.isinstance_ PyProof.Rows.boot_isinstance (pa_cons (pv 0) (pa_cons (pe_ty B.tuple_ PyProof.Rows.boot_tuple rfl) pa_nil))))) (pss_one (ps_ret pe_bl)) pss_nil)
    (pss_cons (ps_for PassesOwn.never rfl (pi_tup (pv 0)) (pg_name (i := 2) sc_is.nd rfl (Or.inl rfl)) (pss_one (ps_if (PW.pt (pw_or (pt_not (pt_val (pe_callB call_isinst rfl B.isinstance_ PyProof.Rows.boot_isinstance (pa_cons (pv 2) (pa_cons (pe_ty B.int_ PyProof.Rows.boot_int rfl) pa_nil))))) (pw_or1 (pt_val (pe_callB call_isinst rfl B.isinstance_ PyProof.Rows.boot_isinstance (pa_cons (pv 2) (pa_cons (pe_ty B.bool_ PyProof.Rows.boot_bool rfl) pa_nil))))))) (pss_one (ps_ret pe_bl)) pss_nil)))
    (pss_one (ps_ret (pe_cmpR (op_eqD hr.units) (pv 0) (pe_cal c_natural (hr.mono (by decide)) rfl (pa_cons (pv 1) pa_nil)) (nomark _)))))), ?_⟩
  have ll : (lv (limbs n)).length = (limbs n).length := lv_length _
  refine ⟨_, rfl, _, _, _, _, rfl, TyOf.tup hA, kit_tuple K, _, rfl, iteF ?_⟩
  refine ⟨_, rfl, a, rfl, ⟨_, SqT.of hA⟩, ?_⟩
  refine for_tup (xs := lv (limbs n)) (fun i σ H1 => H1 = H ∧ ∃ x, σ = [some (.ref a), some (.int (n : Int)), x]) ⟨rfl, none, rfl⟩ (fun i σ H1 _ ⟨e, _⟩ => by rw [e]; exact SqT.of hA) ?_ ?_
  · rintro i y σ H1 hi ⟨rfl, x, rfl⟩
    have hil : i < (limbs n).length := by rw [← ll]; exact (List.getElem?_eq_some_iff.mp hi).1
    rw [lv_get (limbs_get hil)] at hi
    cases hi
    refine ⟨_, rfl, _, _, _, _, rfl, TyOf.int _, kit_int_int K, _, rfl, iteF ⟨_, rfl, _, _, _, _, rfl, TyOf.int _, kit_int_bool K, _, rfl, iteF ?_⟩⟩
    exact ⟨rfl, _, rfl⟩
  · rintro σ H1 ⟨rfl, x, rfl⟩
    refine ⟨_, rfl, _, rfl, n, rfl, hn, fun r H3 s4 h3 => ?_⟩
    have hA3 : SqT K H3 a (lv (limbs n)) := SqT.of (s4 _ _ hA)
    have hB3 : SqT K H3 r (lv (limbs n)) := SqT.of h3
    rw [lv_ints] at hA3 hB3
    refine eqT_ints hA3 hB3 ?_
    rw [decide_eq_true rfl]
    exact q _ s4

abbrev sd_number : Stmt := top 75
abbrev nm_number : List Str := ["_law_cell_here", "_law_most", "_law_kind_here", "_law_rest", "_law_size"]
abbrev pr_number : List Str := ["_law_cell_here", "_law_most"]
theorem sc_number : FnScope nm_number pr_number (defScope sd_number) := ⟨rfl, rfl, rfl, by decide +kernel, rfl, by decide +kernel, by decide +kernel⟩
abbrev cn_number_1 : List Str := ["_law_k", "_law_rest"]
theorem nd_number_1 : cn_number_1.Nodup := by decide +kernel
abbrev cn_number_2 : List Str := ["_law_k", "_law_rest"]
theorem nd_number_2 : cn_number_2.Nodup := by decide +kernel
/-- number: one from nought on, of at most four limbs more than asked -/
def sp_number (K : PySem.W.Frag) : Sp := fun vs H Q _ => ∃ (c : Int) (most : Nat), vs = [.int c, .int (most : Int)] ∧ 1 ≤ most ∧ most ≤ 2000 ∧ ∀ (n : Int) (H' : Hp), Nb n (most + 4) → Same H H' → Q (.int n) H'
theorem ok_number {P : Program} {w : World} {K : PySem.W.Frag} {mg : Str → Option Value} {base : Heap} {f : Addr} {fd : FuncData} (D : DefAt K mg "_law_number" sd_number pr_number f fd) (B : Glb K mg) (c_value : Cal P w K mg base 1 "_law_value" pr_value (sp_value K)) (c_limb : Cal P w K mg base 1 "_law_limb" pr_limb (sp_limb K)) (c_mixed : Cal P w K mg base 1 "_law_mixed" pr_mixed (sp_mixed K)) : Cal P w K mg base 2 "_law_number" pr_number (sp_number K) := by
  refine D.cal sc_number (fun vs H Q E h => ?_) (fun cdv A outer s H vs Q E hr h => ?_)
  · obtain ⟨c, most, rfl, _⟩ := h
    rfl
  obtain ⟨c, most, rfl, hm1, hm2, q⟩ := h
  obtain ⟨tR, pR, qR⟩ : ∃ t, PSs (cxOf (CX1 P w) P w K mg base nm_number "_law_number" (defScope sd_number) f cdv A outer s H E).nox ((defBody sd_number).drop 5) t ∧ ∀ (kd rest : Int) (sz : Nat), 1 ≤ sz → sz ≤ most → t { nx := fun _ H' => Q .non H', rt := Q } [some (.int c), some (.int (most : Int)), some (.int kd), some (.int rest), some (.int (sz : Int))] H := by
    refine ⟨_, (pss_cons (ps_if (pt_cmpR op_eq (pv 2) pe_int (nomark _)) (pss_one (ps_ret (pe_cal c_value (hr.mono (by decide)) rfl (pa_cons (pe_op op_rep (pe_lst (pa_cons (pe_cal c_limb (hr.mono (by decide)) rfl (pa_cons (pe_op op_fdiv (pv 3) (pv 1)) pa_nil)) pa_nil)) (pv 4)) pa_nil)))) pss_nil)
    (pss_cons (ps_if (pt_cmpR op_eq (pv 2) pe_int (nomark _)) (pss_one (ps_ret (pe_cal c_value (hr.mono (by decide)) rfl (pa_cons (pe_comp cn_number_1 [none, some 3] (defScope sd_number) nm_number rfl (pi_range1 rfl B.range_ (pa_cons (pv 4) pa_nil)) (fun _ _ _ _ _ => ⟨(pg_name (i := 0) nd_number_1 rfl (Or.inl rfl) (Or.inr rfl)), pts_nil, (pe_cal c_limb (hr.mono (by decide)) rfl (pa_cons (pe_cal c_mixed (hr.mono (by decide)) rfl (pa_cons (pv 1) (pa_cons (pv 0) pa_nil))) pa_nil))⟩)) pa_nil)))) pss_nil)
    (pss_cons (ps_if (pt_cmpR op_eq (pv 2) pe_int (nomark _)) (pss_one (ps_ret (pe_cal c_value (hr.mono (by decide)) rfl (pa_cons (pe_comp cn_number_2 [none, some 3] (defScope sd_number) nm_number rfl (pi_range1 rfl B.range_ (pa_cons (pv 4) pa_nil)) (fun _ _ _ _ _ => ⟨(pg_name (i := 0) nd_number_2 rfl (Or.inl rfl) (Or.inr rfl)), pts_nil, (pe_op op_mod (pe_op op_fdiv (pe_cal c_mixed (hr.mono (by decide)) rfl (pa_cons (pv 1) (pa_cons (pv 0) pa_nil))) pe_int) pe_int)⟩)) pa_nil)))) pss_nil)
    (pss_one (ps_ret (pe_op op_mod (pv 3) (pe_op op_shl pe_int (pe_op op_mul pe_int (pe_op op_add pe_int (pe_op op_mod (pv 4) pe_int)))))))))), fun kd rest sz hz1 hz2 => ?_⟩
    refine ⟨_, rfl, rfl, _, rfl, iteD (fun _ => ?_) (fun _ => ?_)⟩
    · refine ⟨_, rfl, _, rfl, _, _, rfl, rfl, ⟨by omega, by omega⟩, _, rfl, fun z H1 hz s1 => ⟨(by show 1 ≤ sizeLine; decide), fun p hp => ?_⟩⟩
      refine ⟨_, rfl, p, (sz : Int), _, rfl, rfl, upd_same, by omega, by omega, ?_, fun p2 hp2 => ?_⟩
      · rw [Int.toNat_natCast]
        exact le_line (by show 1 * sz ≤ 1000000; omega)
      rw [Int.toNat_natCast, rep_lv]
      exact ⟨p2, List.replicate sz z, rfl, .inl (SqL.of upd_same), q _ _ (Nb.val (dig_rep hz) (by rw [List.length_replicate]; omega)) (s1.trans ((same_new hp _).trans (same_new hp2 _)))⟩
    refine ⟨_, rfl, rfl, _, rfl, iteD (fun _ => ?_) (fun _ => ?_)⟩
    · refine ⟨_, rfl, _, rfl, by omega, by omega, ?_⟩
      rw [Int.toNat_natCast]
      refine fun l hl => ⟨fun i w ys σ1 H3 => w = sz - i ∧ i ≤ sz ∧ (∃ x, σ1 = [x, some (.int rest)]) ∧ (∃ ds, ys = lv ds ∧ ds.length = i ∧ Dig ds) ∧ Same H H3 ∧ H3 l = some (.lst ys), ⟨sz, by omega, by omega, ⟨_, rfl⟩, ⟨[], rfl, rfl, Dig.nil⟩, same_new hl _, upd_same⟩, ?_⟩
      rintro i w ys σ1 H3 ⟨rfl, hi, ⟨x, rfl⟩, ⟨ds, rfl, rfl, hd⟩, s3, hl3⟩
      refine ⟨hl3, ?_⟩
      by_cases hik : ds.length < sz
      · refine .inr ⟨hik, by rw [lv_length]; exact lt_line (by omega), ?_⟩
        rintro x3 H4 ⟨rfl, rfl⟩
        refine ⟨_, rfl, _, rfl, _, _, rfl, fun z2 => ⟨_, rfl, fun z H5 hz s5 => ?_⟩⟩
        refine ⟨s5 _ _ hl3, sz - (ds.length + 1), by omega, rfl, by omega, ⟨_, rfl⟩, ⟨ds ++ [z], (lv_snoc ..).symm, by simp, dig_snoc hd hz⟩, fun b o hb => ?_, upd_same⟩
        rw [upd_ne (ne_of_none hb hl)]
        exact s5 _ _ (s3 _ _ hb)
      · refine .inl ⟨Nat.le_of_not_lt hik, ?_⟩
        exact ⟨l, ds, rfl, .inl (SqL.of hl3), q _ _ (Nb.val hd (by omega)) s3⟩
    refine ⟨_, rfl, rfl, _, rfl, iteD (fun _ => ?_) (fun _ => ?_)⟩
    · refine ⟨_, rfl, _, rfl, by omega, by omega, ?_⟩
      rw [Int.toNat_natCast]
      refine fun l hl => ⟨fun i w ys σ1 H3 => w = sz - i ∧ i ≤ sz ∧ (∃ x, σ1 = [x, some (.int rest)]) ∧ (∃ ds, ys = lv ds ∧ ds.length = i ∧ Dig ds) ∧ Same H H3 ∧ H3 l = some (.lst ys), ⟨sz, by omega, by omega, ⟨_, rfl⟩, ⟨[], rfl, rfl, Dig.nil⟩, same_new hl _, upd_same⟩, ?_⟩
      rintro i w ys σ1 H3 ⟨rfl, hi, ⟨x, rfl⟩, ⟨ds, rfl, rfl, hd⟩, s3, hl3⟩
      refine ⟨hl3, ?_⟩
      by_cases hik : ds.length < sz
      · refine .inr ⟨hik, by rw [lv_length]; exact lt_line (by omega), ?_⟩
        rintro x3 H4 ⟨rfl, rfl⟩
        refine ⟨_, rfl, _, rfl, _, _, rfl, fun z2 => ⟨_, _, rfl, rfl, ⟨by decide, by decide⟩, _, _, rfl, rfl, (by show (0 : Int) < 65536; decide), ?_⟩⟩
        have e : z2 / 7 % 65536 = (((z2 / 7 % 65536).toNat : Nat) : Int) := by omega
        refine ⟨hl3, sz - (ds.length + 1), by omega, rfl, by omega, ⟨_, rfl⟩, ⟨ds ++ [(z2 / 7 % 65536).toNat], ?_, by simp, dig_snoc hd (by omega)⟩, fun b o hb => ?_, upd_same⟩
        · rw [lv_snoc, ← e]
        · rw [upd_ne (ne_of_none hb hl)]
          exact s3 _ _ hb
      · refine .inl ⟨Nat.le_of_not_lt hik, ?_⟩
        exact ⟨l, ds, rfl, .inl (SqL.of hl3), q _ _ (Nb.val hd (by omega)) s3⟩
    have h4 : (sz : Int) % 4 = ((sz % 4 : Nat) : Int) := by omega
    refine ⟨_, rfl, _, rfl, _, _, rfl, rfl, (by show (0 : Int) < 4; decide), _, _, rfl, rfl, _, _, rfl, rfl, .inl ⟨by decide, by decide⟩, _, _, rfl, rfl, ⟨by omega, by omega, by decide⟩, _, _, rfl, rfl, ?_, ?_⟩
    · show (0 : Int) < 1 * 2 ^ (16 * (1 + (sz : Int) % 4)).toNat
      rw [Int.one_mul]
      exact Int.pow_pos (by decide)
    · refine q _ _ ?_ (Same.refl _)
      show Nb (rest % (1 * 2 ^ (16 * (1 + (sz : Int) % 4)).toNat)) _
      rw [Int.one_mul, show (16 * (1 + (sz : Int) % 4)).toNat = 16 * (1 + sz % 4) by omega]
      exact Nb.mono (Nb.modPow rest (1 + sz % 4)) (by omega)
  refine ⟨_, (pss_cons (ps_set (i := 2) sc_number.nd rfl (Or.inl rfl) (pe_op op_mod (pv 0) pe_int))
    (pss_cons (ps_set (i := 3) sc_number.nd rfl (Or.inr rfl) (pe_op op_fdiv (pv 0) pe_int))
    (pss_cons (ps_if (pt_cmpR op_eq (pv 2) pe_int (nomark _)) (pss_one (ps_ret (pe_ix ix_list (pe_lst (pa_cons pe_int (pa_cons (pe_op op_mod (pe_op op_fdiv (pv 3) pe_int) pe_int) (pa_cons pe_int (pa_cons (pe_op op_mod (pe_op op_fdiv (pv 3) pe_int) pe_int) (pa_cons pe_int (pa_cons (pe_op op_mod (pe_op op_fdiv (pv 3) pe_int) pe_int) pa_nil))))))) (pe_op op_mod (pv 3) pe_int) (fun _ _ => rfl)))) pss_nil)
    (pss_cons (ps_if (pt_cmpR op_eq (pv 2) pe_int (nomark _)) (pss_one (ps_ret (pe_callB (call_max2 rfl) rfl B.max_ PyProof.Rows.boot_max (pa_cons pe_int (pa_cons (pe_op op_sub (pe_op op_add (pe_op op_shl pe_int (pe_op op_mod (pv 3) (pe_op op_mul pe_int (pv 1)))) (pe_op op_mod (pe_op op_fdiv (pv 3) (pe_op op_mul pe_int (pv 1))) pe_int)) pe_int) pa_nil))))) pss_nil)
    (pss_cons (ps_set (i := 4) sc_number.nd rfl (Or.inl rfl) (pe_op op_add pe_int (pe_op op_mod (pv 3) (pv 1))))
    pR))))), ?_⟩
  refine ⟨_, rfl, _, _, rfl, rfl, (by show (0 : Int) < _; first | decide | omega), ?_⟩
  refine ⟨_, rfl, _, _, rfl, rfl, ⟨by decide, by decide⟩, ?_⟩
  have sr := Same.refl H
  refine ⟨_, rfl, rfl, _, rfl, iteD (fun _ => ?_) (fun _ => ?_)⟩
  · refine ⟨_, rfl, _, _, rfl, rfl, ⟨by decide, by decide⟩, _, _, rfl, rfl, (by show (0 : Int) < _; first | decide | omega), _, rfl, _, _, rfl, rfl, ⟨by decide, by decide⟩, _, _, rfl, rfl, (by show (0 : Int) < _; first | decide | omega), _, rfl, _, _, rfl, rfl, ⟨by decide, by decide⟩, _, _, rfl, rfl, (by show (0 : Int) < _; first | decide | omega), (by show 6 ≤ sizeLine; decide), fun p hp => ?_⟩
    obtain ⟨z, hz, hz2⟩ := menu6V (.int 0) (.int (c / 6 / 6 % 70000)) (.int 1) (.int (c / 6 / 6 % 300)) (.int 0) (.int (c / 6 / 6 % 10)) (c / 6)
    refine ⟨_, rfl, _, _, rfl, rfl, (by show (0 : Int) < 6; decide), p, _, _, _, rfl, rfl, SqL.of upd_same, hz, ?_⟩
    obtain ⟨v, rfl, v0, v1⟩ : ∃ v : Int, z = .int v ∧ 0 ≤ v ∧ v < 4294967296 := by
      rcases hz2 with e | e | e | e | e | e
      · exact ⟨_, e, by decide, by decide⟩
      · exact ⟨_, e, by omega, by omega⟩
      · exact ⟨_, e, by decide, by decide⟩
      · exact ⟨_, e, by omega, by omega⟩
      · exact ⟨_, e, by decide, by decide⟩
      · exact ⟨_, e, by omega, by omega⟩
    exact q _ _ (Nb.two v0 v1 (by omega)) (same_new hp _)
  refine ⟨_, rfl, rfl, _, rfl, iteD (fun _ => ?_) (fun _ => ?_)⟩
  · have w0 := Int.emod_nonneg (c / 6) (show (16 : Int) * (most : Int) ≠ 0 by omega)
    have w1 := Int.emod_lt_of_pos (c / 6) (show (0 : Int) < (16 : Int) * (most : Int) by omega)
    refine ⟨_, rfl, _, rfl, _, _, rfl, rfl, .inl ⟨by decide, by decide⟩, _, _, rfl, rfl, (by show (0 : Int) < 16 * (most : Int); omega), _, _, rfl, rfl, ⟨w0, by omega, by decide⟩,
      _, rfl, _, rfl, _, _, rfl, rfl, .inl ⟨by decide, by decide⟩, _, _, rfl, rfl, ⟨by omega, by omega⟩, _, _, rfl, rfl, (by show (0 : Int) < 3; decide), _, _, rfl, rfl, _, _, rfl, rfl, _, _, rfl, ?_⟩
    refine q _ _ (Nb.mono (Nb.near (e := (c / 6 % (16 * (most : Int))).toNat) (r := c / 6 / (16 * (most : Int)) % 3) (k := most) (by omega) (by omega) (by omega) ?_ ?_) (by omega)) sr
    · split
      · exact .inl (by rw [Int.one_mul])
      · exact .inr rfl
    · split <;> omega
  have w0 := Int.emod_nonneg (c / 6) (show (most : Int) ≠ 0 by omega)
  have w1 := Int.emod_lt_of_pos (c / 6) (show (0 : Int) < (most : Int) by omega)
  refine ⟨_, rfl, _, rfl, _, _, rfl, rfl, (by show (0 : Int) < (most : Int); omega), _, _, rfl, rfl, ?_⟩
  have e : 1 + c / 6 % (most : Int) = ((1 + (c / 6 % (most : Int)).toNat : Nat) : Int) := by omega
  have q2 := qR (c % 6) (c / 6) (1 + (c / 6 % (most : Int)).toNat) (by omega) (by omega)
  rw [← e] at q2
  exact q2

abbrev sd_whole : Stmt := top 78
abbrev nm_whole : List Str := ["_law_number_here"]
abbrev pr_whole : List Str := ["_law_number_here"]
theorem sc_whole : FnScope nm_whole pr_whole (defScope sd_whole) := ⟨rfl, rfl, rfl, by decide +kernel, rfl, by decide +kernel, by decide +kernel⟩
/-- whole: the whole of a number, made here -/
def sp_whole (K : PySem.W.Frag) : Sp := fun vs H Q _ => ∃ i : Int, vs = [.int i] ∧ (limbs i.natAbs).length ≤ 100000 ∧ ∀ (t : Addr) (H' : Hp), Same H H' → WhH H' t i → Q (.ref t) H'
theorem ok_whole {P : Program} {w : World} {K : PySem.W.Frag} {mg : Str → Option Value} {base : Heap} {f : Addr} {fd : FuncData} (D : DefAt K mg "_law_whole" sd_whole pr_whole f fd) (B : Glb K mg) (c_natural : Cal P w K mg base 1 "_law_natural" pr_natural (sp_natural K)) : Cal P w K mg base 2 "_law_whole" pr_whole (sp_whole K) := by
  refine D.cal sc_whole (fun vs H Q E h => ?_) (fun cdv A outer s H vs Q E hr h => ?_)
  · obtain ⟨i, rfl, _⟩ := h
    rfl
  obtain ⟨i, rfl, hi, q⟩ := h
  refine ⟨_, (pss_one (ps_ret (pe_tup (pa_cons (pe_op op_sub (pe_callTy call_int1 rfl B.int_ PyProof.Rows.boot_int (pa_cons (pe_cmpR op_gt (pv 0) pe_int (nomark _)) pa_nil)) (pe_callTy call_int1 rfl B.int_ PyProof.Rows.boot_int (pa_cons (pe_cmpR op_lt (pv 0) pe_int (nomark _)) pa_nil))) (pa_cons (pe_cal c_natural (hr.mono (by decide)) rfl (pa_cons (pe_callB call_abs rfl B.abs_ PyProof.Rows.boot_abs (pa_cons (pv 0) pa_nil)) pa_nil)) pa_nil))))), ?_⟩
  refine ⟨_, rfl, _, _, rfl, rfl, .inr ⟨_, rfl, _, rfl, _, _, rfl, rfl, .inr ⟨_, rfl, _, _, rfl, rfl, _, rfl, _, rfl, i.natAbs, (by rw [← abs_nat i]; rfl), hi, fun r H1 s1 h1 => ⟨(by show 2 ≤ sizeLine; decide), fun t ht => ?_⟩⟩⟩⟩
  refine q t _ (s1.trans (same_new ht _)) (WhH.new ht h1 ?_ rfl)
  rw [← sgn_due]
  simp only [decide_eq_true_eq]

abbrev sd_by_all : Stmt := top 86
abbrev nm_by_all : List Str := ["_law_above", "_law_below", "_law_most", "_law_best", "_law_lower", "_law_upper", "_law_common_here"]
abbrev pr_by_all : List Str := ["_law_above", "_law_below", "_law_most"]
theorem sc_by_all : FnScope nm_by_all pr_by_all (defScope sd_by_all) := ⟨rfl, rfl, rfl, by decide +kernel, rfl, by decide +kernel, by decide +kernel⟩
/-- by_all: the nearest, by trying each lower number -/
def sp_by_all (_K : PySem.W.Frag) : Sp := fun vs H Q _ => ∃ (a b : Int) (n : Nat), vs = [.int a, .int b, .int (n : Int)] ∧ 0 < b ∧ a.natAbs < 65536 ^ 100 ∧ b.natAbs < 65536 ^ 100 ∧ 1 ≤ n ∧ n ≤ 40 ∧
  ∀ (t : Addr) (p q : Int) (H' : Hp), Same H H' → H' t = some (.tup [.int p, .int q]) → IsBest a b (n : Int) p q → p.natAbs < 65536 ^ 110 → Q (.ref t) H'
theorem log2_int {j : Int} {k : Nat} (h0 : 0 < j) (h : j.natAbs < 65536 ^ k) (hk : k ≤ 500) : j.natAbs.log2 < 9000 := by
  have h2 : j.natAbs.log2 < 16 * k := (Nat.log2_lt (by omega)).mpr (by rw [pow16]; exact h)
  omega
theorem ok_by_all {P : Program} {w : World} {K : PySem.W.Frag} {mg : Str → Option Value} {base : Heap} {f : Addr} {fd : FuncData} (D : DefAt K mg "_law_by_all" sd_by_all pr_by_all f fd) (B : Glb K mg) (c_common : Cal P w K mg base 1 "_law_common" pr_common (sp_common K)) (c_better : Cal P w K mg base 1 "_law_better" pr_better (sp_better K)) : Cal P w K mg base 2 "_law_by_all" pr_by_all (sp_by_all K) := by
  refine D.cal sc_by_all (fun vs H Q E h => ?_) (fun cdv A outer s H vs Q E hr h => ?_)
  · obtain ⟨a, b, n, rfl, _⟩ := h
    rfl
  obtain ⟨a, b, n, rfl, hb, ba, bb, hn1, hn2, q⟩ := h
  have lb := log2_int hb bb (by decide)
  have sm : ∀ {j : Int}, 0 < j → j ≤ 100 → j.natAbs.log2 < 9000 := fun {j} h1 h2 => log2_int (k := 1) h1 (by omega) (by decide)
  have div_abs : ∀ (x : Int) {j : Int}, 0 < j → (x / j).natAbs ≤ x.natAbs := fun x {j} hj => by
    have h := div_small x (q := j.toNat) (by omega)
    rw [Int.toNat_of_nonneg (by omega)] at h
    exact h
  have pz : (65536 : Nat) ^ 100 * 65536 ≤ 65536 ^ 110 := by
    rw [← Nat.pow_succ]
    exact Nat.pow_le_pow_right (by decide) (by decide)
  have pw : (65536 : Nat) ^ 110 ≤ 65536 ^ 200 := Nat.pow_le_pow_right (by decide) (by decide)
  have pv1 : (1 : Nat) ≤ 65536 ^ 100 := Nat.pow_pos (by decide)
  have d0 := div_abs a hb
  have b0 : (a / b).natAbs < 65536 ^ 110 := by omega
  refine ⟨_, (pss_cons (ps_set (i := 3) sc_by_all.nd rfl (Or.inl rfl) (pe_tup (pa_cons (pe_op op_fdivL (pv 0) (pv 1)) (pa_cons pe_int pa_nil))))
    (pss_cons (ps_for PassesOwn.never rfl (pi_range2 rfl B.range_ (pa_cons pe_int (pa_cons (pe_op op_add (pv 2) pe_int) pa_nil))) (pg_name (i := 4) sc_by_all.nd rfl (Or.inl rfl)) (pss_cons (ps_set (i := 5) sc_by_all.nd rfl (Or.inl rfl) (pe_op op_fdivL (pe_op op_mulB (pv 0) (pv 4)) (pv 1)))
    (pss_cons (ps_set (i := 6) sc_by_all.nd rfl (Or.inl rfl) (pe_cal c_common (hr.mono (by decide)) rfl (pa_cons (pv 5) (pa_cons (pv 4) pa_nil))))
    (pss_cons (ps_set (i := 3) sc_by_all.nd rfl (Or.inl rfl) (pe_cal c_better (hr.mono (by decide)) rfl (pa_cons (pv 0) (pa_cons (pv 1) (pa_cons (pv 3) (pa_cons (pe_tup (pa_cons (pe_op op_fdivL (pv 5) (pv 6)) (pa_cons (pe_op op_fdivL (pv 4) (pv 6)) pa_nil))) pa_nil))))))
    (pss_cons (ps_set (i := 6) sc_by_all.nd rfl (Or.inl rfl) (pe_cal c_common (hr.mono (by decide)) rfl (pa_cons (pe_op op_add (pv 5) pe_int) (pa_cons (pv 4) pa_nil))))
    (pss_one (ps_set (i := 3) sc_by_all.nd rfl (Or.inl rfl) (pe_cal c_better (hr.mono (by decide)) rfl (pa_cons (pv 0) (pa_cons (pv 1) (pa_cons (pv 3) (pa_cons (pe_tup (pa_cons (pe_op op_fdivL (pe_op op_add (pv 5) pe_int) (pv 6)) (pa_cons (pe_op op_fdivL (pv 4) (pv 6)) pa_nil))) pa_nil))))))))))))
    (pss_one (ps_ret (pv 3))))), ?_⟩
  refine ⟨_, rfl, _, rfl, _, _, rfl, rfl, ⟨hb, lb⟩, (by show 2 ≤ sizeLine; decide), fun t0 ht0 => ?_⟩
  refine ⟨_, rfl, _, _, rfl, rfl, _, _, rfl, ⟨by omega, by omega, by omega, by omega⟩, ?_⟩
  refine for_range (fun i σ H1 => ∃ (t : Addr) (p q : Int) (u1 u2 u3 : Option V), σ = [some (.int a), some (.int b), some (.int (n : Int)), some (.ref t), u1, u2, u3] ∧ Same H H1 ∧ H1 t = some (.tup [.int p, .int q]) ∧ 1 ≤ q ∧ q ≤ (n : Int) ∧ Nat.gcd p.natAbs q.natAbs = 1 ∧ (∀ x y : Int, 1 ≤ y → y ≤ (i : Int) → bet a b p q x y) ∧ p.natAbs < 65536 ^ 110)
    ⟨t0, a / b, 1, none, none, none, rfl, same_new ht0 _, upd_same, by omega, by omega, Nat.gcd_one_right _, fun x y h1 h2 => by omega, b0⟩ ?_ ?_
  · rintro i σ H1 hi ⟨t, p, q0, u1, u2, u3, rfl, s1, hT, k1, k2, k3, k4, k5⟩
    have hi' : i < n := by omega
    rw [show (1 : Int) + (i : Int) = (i : Int) + 1 by omega]
    have hL : (1 : Int) ≤ (i : Int) + 1 := by omega
    have bm : (a * ((i : Int) + 1)).natAbs ≤ a.natAbs * 41 := by
      rw [Int.natAbs_mul]
      exact Nat.mul_le_mul_left _ (by omega)
    have bL : ((i : Int) + 1).natAbs < 65536 ^ 1 := by omega
    have bu := div_abs (a * ((i : Int) + 1)) hb
    obtain ⟨r1, r2, r3, r4, r5, r6⟩ := red_best (a := a) (b := b) (u := a * ((i : Int) + 1) / b) hL
    obtain ⟨v1, v2, v3, v4, v5, v6⟩ := red_best (a := a) (b := b) (u := a * ((i : Int) + 1) / b + 1) hL
    have as := fun (p2 q2 : Int) => all_step (a := a) (p0 := p) (p := p2) (q := q2) hb (show (0 : Int) ≤ (i : Int) by omega) k1
    generalize hu : a * ((i : Int) + 1) / b = u at *
    have bu1 : u.natAbs < 65536 ^ 110 := by omega
    have bu2 : (u + 1).natAbs < 65536 ^ 110 := by omega
    refine ⟨_, rfl, _, rfl, _, _, rfl, rfl, mulOkZ (k := 1) ba bL (by decide) (by decide), _, rfl, _, _, rfl, rfl, ⟨hb, lb⟩, ?_⟩
    dsimp only
    rw [hu]
    refine ⟨_, rfl, _, rfl, u, (i : Int) + 1, rfl, ?_⟩
    have c1 := div_abs u (j := ((Nat.gcd u.natAbs ((i : Int) + 1).natAbs : Nat) : Int)) (by omega)
    have c2 := div_abs (u + 1) (j := ((Nat.gcd (u + 1).natAbs ((i : Int) + 1).natAbs : Nat) : Int)) (by omega)
    refine ⟨_, rfl, _, rfl, _, rfl, _, rfl, _, rfl, _, _, rfl, rfl, ⟨by omega, sm (by omega) (by omega)⟩, _, rfl, _, rfl, _, _, rfl, rfl, ⟨by omega, sm (by omega) (by omega)⟩, (by show 2 ≤ sizeLine; decide), fun t2 ht2 => ?_⟩
    have s2 := same_new ht2 (.tup [.int (u / ((Nat.gcd u.natAbs ((i : Int) + 1).natAbs : Nat) : Int)), .int (((i : Int) + 1) / ((Nat.gcd u.natAbs ((i : Int) + 1).natAbs : Nat) : Int))])
    refine ⟨a, b, t, t2, p, q0, _, _, rfl, s2 _ _ hT, upd_same, up_lt ba (by decide), up_lt bb (by decide), up_lt k5 (by decide), up_lt (k := 200) (j := 1) (by omega) (by decide), up_lt (k := 200) (j := 110) (by omega) (by decide), up_lt (k := 200) (j := 1) (by omega) (by decide), fun t3 p3 q3 hc3 b31 b32 => ?_⟩
    have f3 : upd H1 t2 (.tup [.int (u / ((Nat.gcd u.natAbs ((i : Int) + 1).natAbs : Nat) : Int)), .int (((i : Int) + 1) / ((Nat.gcd u.natAbs ((i : Int) + 1).natAbs : Nat) : Int))]) t3 = some (.tup [.int p3, .int q3]) ∧ 1 ≤ q3 ∧ q3 ≤ (n : Int) ∧ Nat.gcd p3.natAbs q3.natAbs = 1 ∧ p3.natAbs < 65536 ^ 110 := by
      rcases hc3 with ⟨rfl, rfl, rfl⟩ | ⟨rfl, rfl, rfl⟩
      · exact ⟨s2 _ _ hT, k1, k2, k3, k5⟩
      · exact ⟨upd_same, r3, by omega, r2, by omega⟩
    obtain ⟨g1, g2, g3, g4, g5⟩ := f3
    refine ⟨_, rfl, _, _, rfl, rfl, _, rfl, u + 1, (i : Int) + 1, rfl, ?_⟩
    refine ⟨_, rfl, _, rfl, _, rfl, _, rfl, _, _, rfl, rfl, _, rfl, _, _, rfl, rfl, ⟨by omega, sm (by omega) (by omega)⟩, _, rfl, _, rfl, _, _, rfl, rfl, ⟨by omega, sm (by omega) (by omega)⟩, (by show 2 ≤ sizeLine; decide), fun t4 ht4 => ?_⟩
    have s4 := same_new ht4 (.tup [.int ((u + 1) / ((Nat.gcd (u + 1).natAbs ((i : Int) + 1).natAbs : Nat) : Int)), .int (((i : Int) + 1) / ((Nat.gcd (u + 1).natAbs ((i : Int) + 1).natAbs : Nat) : Int))])
    refine ⟨a, b, t3, t4, p3, q3, _, _, rfl, s4 _ _ g1, upd_same, up_lt ba (by decide), up_lt bb (by decide), up_lt g5 (by decide), up_lt (k := 200) (j := 1) (by omega) (by decide), up_lt (k := 200) (j := 110) (by omega) (by decide), up_lt (k := 200) (j := 1) (by omega) (by decide), fun t5 p5 q5 hc5 b51 b52 => ?_⟩
    have f5 : upd (upd H1 t2 (.tup [.int (u / ((Nat.gcd u.natAbs ((i : Int) + 1).natAbs : Nat) : Int)), .int (((i : Int) + 1) / ((Nat.gcd u.natAbs ((i : Int) + 1).natAbs : Nat) : Int))])) t4 (.tup [.int ((u + 1) / ((Nat.gcd (u + 1).natAbs ((i : Int) + 1).natAbs : Nat) : Int)), .int (((i : Int) + 1) / ((Nat.gcd (u + 1).natAbs ((i : Int) + 1).natAbs : Nat) : Int))]) t5 = some (.tup [.int p5, .int q5]) ∧ 1 ≤ q5 ∧ q5 ≤ (n : Int) ∧ Nat.gcd p5.natAbs q5.natAbs = 1 ∧ p5.natAbs < 65536 ^ 110 := by
      rcases hc5 with ⟨rfl, rfl, rfl⟩ | ⟨rfl, rfl, rfl⟩
      · exact ⟨s4 _ _ g1, g2, g3, g4, g5⟩
      · exact ⟨upd_same, v3, by omega, v2, by omega⟩
    obtain ⟨m1, m2, m3, m4, m5⟩ := f5
    refine ⟨t5, p5, q5, _, _, _, rfl, s1.trans (s2.trans s4), m1, m2, m3, m4, fun x y hy hyi => ?_, m5⟩
    exact as p5 q5 m2 k4 (bet_trans (by omega) (by omega) (by omega) b51 b31) (bet_trans (by omega) (by omega) (by omega) b51 b32) b52 x y hy (by omega)
  · rintro σ H1 ⟨t, p, q0, u1, u2, u3, rfl, s1, hT, k1, k2, k3, k4, k5⟩
    exact ⟨_, rfl, q t p q0 H1 s1 hT ⟨k1, k2, k3, fun x y h1 h2 => k4 x y h1 (by omega)⟩ k5⟩

abbrev sd_by_chain : Stmt := top 87
abbrev nm_by_chain : List Str := ["_law_above", "_law_below", "_law_most", "_law_before", "_law_here", "_law_up", "_law_low", "_law_later", "_law_count", "_law_beside"]
abbrev pr_by_chain : List Str := ["_law_above", "_law_below", "_law_most"]
theorem sc_by_chain : FnScope nm_by_chain pr_by_chain (defScope sd_by_chain) := ⟨rfl, rfl, rfl, by decide +kernel, rfl, by decide +kernel, by decide +kernel⟩
/-- by_chain: the nearest, along the chain -/
def sp_by_chain (_K : PySem.W.Frag) : Sp := fun vs H Q _ => ∃ (a b : Int) (n : Nat), vs = [.int a, .int b, .int (n : Int)] ∧ 0 < b ∧ Nat.gcd a.natAbs b.natAbs = 1 ∧ a.natAbs < 65536 ^ 20 ∧ b.natAbs < 65536 ^ 20 ∧ 1 ≤ n ∧ n < 65536 ^ 20 ∧
  ∀ (t : Addr) (p q : Int) (H' : Hp), Same H H' → H' t = some (.tup [.int p, .int q]) → IsBest a b (n : Int) p q → p.natAbs < 65536 ^ 110 → Q (.ref t) H'
theorem ok_by_chain {P : Program} {w : World} {K : PySem.W.Frag} {mg : Str → Option Value} {base : Heap} {f : Addr} {fd : FuncData} (D : DefAt K mg "_law_by_chain" sd_by_chain pr_by_chain f fd) (B : Glb K mg) (c_better : Cal P w K mg base 1 "_law_better" pr_better (sp_better K)) : Cal P w K mg base 2 "_law_by_chain" pr_by_chain (sp_by_chain K) := by
  refine D.cal sc_by_chain (fun vs H Q E h => ?_) (fun cdv A outer s H vs Q E hr h => ?_)
  · obtain ⟨a, b, n, rfl, _⟩ := h
    rfl
  obtain ⟨a, b, n, rfl, hb, hg, ba, bb, hn1, bn, q⟩ := h
  have p20 : (65536 : Nat) ^ 20 * 65536 ^ 20 = 65536 ^ 40 := rfl
  have p50 : (65536 : Nat) ^ 40 * 65536 ≤ 65536 ^ 50 := by
    rw [← Nat.pow_succ]
    exact Nat.pow_le_pow_right (by decide) (by decide)
  have psz : ∀ {P0 Q0 P1 Q1 s A D : Int}, Appr a b P0 Q0 P1 Q1 s A D → 0 ≤ Q1 → Q1 ≤ (n : Int) → P1.natAbs < 65536 ^ 50 := fun {P0 Q0 P1 Q1 s A D} hap h1 h2 => by
    have h3 := appr_size hb hap
    have h4 : a.natAbs * Q1.natAbs < 65536 ^ 20 * 65536 ^ 20 := Nat.mul_lt_mul'' ba (by omega)
    rw [p20] at h4
    generalize (65536 : Nat) ^ 40 = z at *
    generalize (65536 : Nat) ^ 50 = y at *
    omega
  refine ⟨_, (pss_cons (ps_set (i := 3) sc_by_chain.nd rfl (Or.inl rfl) (pe_tup (pa_cons pe_int (pa_cons pe_int pa_nil))))
    (pss_cons (ps_set (i := 4) sc_by_chain.nd rfl (Or.inl rfl) (pe_tup (pa_cons pe_int (pa_cons pe_int pa_nil))))
    (pss_cons (ps_set (i := 5) sc_by_chain.nd rfl (Or.inl rfl) (pv 0))
    (pss_cons (ps_set (i := 6) sc_by_chain.nd rfl (Or.inl rfl) (pv 1))
    (pss_cons (ps_while PassesOwn.never (pt_cmpR op_ne (pv 6) pe_int (nomark _)) (pss_cons (ps_set (i := 7) sc_by_chain.nd rfl (Or.inl rfl) (pe_tup (pa_cons (pe_op op_add (pe_op op_mulB (pe_op op_fdivL (pv 5) (pv 6)) (pe_ix ix_tup (pv 4) pe_int (fun _ _ => rfl))) (pe_ix ix_tup (pv 3) pe_int (fun _ _ => rfl))) (pa_cons (pe_op op_add (pe_op op_mulB (pe_op op_fdivL (pv 5) (pv 6)) (pe_ix ix_tup (pv 4) pe_int (fun _ _ => rfl))) (pe_ix ix_tup (pv 3) pe_int (fun _ _ => rfl))) pa_nil))))
    (pss_cons (ps_if (pt_cmpR op_gt (pe_ix ix_tup (pv 7) pe_int (fun _ _ => rfl)) (pv 2) (nomark _)) (pss_cons (ps_set (i := 8) sc_by_chain.nd rfl (Or.inl rfl) (pe_op op_fdivL (pe_op op_sub (pv 2) (pe_ix ix_tup (pv 3) pe_int (fun _ _ => rfl))) (pe_ix ix_tup (pv 4) pe_int (fun _ _ => rfl))))
    (pss_cons (ps_set (i := 9) sc_by_chain.nd rfl (Or.inl rfl) (pe_tup (pa_cons (pe_op op_add (pe_op op_mulB (pv 8) (pe_ix ix_tup (pv 4) pe_int (fun _ _ => rfl))) (pe_ix ix_tup (pv 3) pe_int (fun _ _ => rfl))) (pa_cons (pe_op op_add (pe_op op_mulB (pv 8) (pe_ix ix_tup (pv 4) pe_int (fun _ _ => rfl))) (pe_ix ix_tup (pv 3) pe_int (fun _ _ => rfl))) pa_nil))))
    (pss_one (ps_ret (pe_cal c_better (hr.mono (by decide)) rfl (pa_cons (pv 0) (pa_cons (pv 1) (pa_cons (pv 4) (pa_cons (pv 9) pa_nil))))))))) pss_nil)
    (pss_cons (ps_par rfl sc_by_chain.nd (i := 3) (j := 4) rfl rfl (by decide) rfl rfl (pa_cons (pv 4) (pa_cons (pv 7) pa_nil)) rfl)
    (pss_one (ps_par rfl sc_by_chain.nd (i := 5) (j := 6) rfl rfl (by decide) rfl rfl (pa_cons (pv 6) (pa_cons (pe_op op_mod (pv 5) (pv 6)) pa_nil)) rfl))))))
    (pss_one (ps_ret (pv 4)))))))), ?_⟩
  refine ⟨(by show 2 ≤ sizeLine; decide), fun t0 ht0 => ?_⟩
  refine ⟨(by show 2 ≤ sizeLine; decide), fun t1 ht1 => ?_⟩
  refine ⟨_, rfl, _, rfl, ?_⟩
  have s0 := same_new ht0 (.tup [.int 0, .int 1])
  have s1 := same_new ht1 (.tup [.int 1, .int 0])
  refine ⟨fun w σ H1 => ∃ (t0 t1 : Addr) (P0 Q0 P1 Q1 s A D : Int) (u1 u2 u3 : Option V), w = D.toNat ∧ σ = [some (.int a), some (.int b), some (.int (n : Int)), some (.ref t0), some (.ref t1), some (.int A), some (.int D), u1, u2, u3] ∧ Same H H1 ∧ H1 t0 = some (.tup [.int P0, .int Q0]) ∧ H1 t1 = some (.tup [.int P1, .int Q1]) ∧ Appr a b P0 Q0 P1 Q1 s A D ∧
      P0.natAbs < 65536 ^ 50 ∧ P1.natAbs < 65536 ^ 50 ∧ 0 ≤ Q0 ∧ Q0 ≤ (n : Int) + 1 ∧ 0 ≤ Q1 ∧ Q1 ≤ (n : Int) ∧ A.natAbs < 65536 ^ 20,
    ⟨b.toNat, t0, t1, 0, 1, 1, 0, -1, a, b, none, none, none, rfl, rfl, s0.trans s1, s1 _ _ upd_same, upd_same, appr_start hb, Nat.pow_pos (by decide), (by show 1 < 65536 ^ 50; decide), by omega, by omega, by omega, by omega, ba⟩, ?_⟩
  rintro w σ H1 ⟨t0, t1, P0, Q0, P1, Q1, s, A, D, u1, u2, u3, rfl, rfl, sm, hT0, hT1, hap, bP0, bP1, hQ0, hQ0n, hQ1, hQ1n, bA⟩
  obtain ⟨_, _, _, _, hD0, hDb, hk⟩ := id hap
  have bQ1 : Q1.natAbs < 65536 ^ 20 := by omega
  have bQ0 : Q0.natAbs < 65536 ^ 21 := by
    have : (65536 : Nat) ^ 20 * 65536 = 65536 ^ 21 := rfl
    omega
  refine ⟨_, rfl, rfl, _, rfl, iteND (fun c => ?_) (fun c => ?_)⟩
  · have hD : 0 < D := by
      have := vn c
      omega
    have bD : D.natAbs < 65536 ^ 20 := by omega
    have lD := log2_int hD bD (by decide)
    have bx : (A / D).natAbs < 65536 ^ 20 := by
      have h := div_small A (q := D.toNat) (by omega)
      rw [Int.toNat_of_nonneg (by omega)] at h
      omega
    obtain ⟨hap2, hQ2⟩ := appr_step hap hD
    have eP : A / D * P1 + P0 = P1 * (A / D) + P0 := by rw [Int.mul_comm]
    have eQ : A / D * Q1 + Q0 = Q1 * (A / D) + Q0 := by rw [Int.mul_comm]
    refine ⟨fun σ' H' => ∃ m', m' < D.toNat ∧ ∃ (t0 t1 : Addr) (P0 Q0 P1 Q1 s A D : Int) (u1 u2 u3 : Option V), m' = D.toNat ∧ σ' = [some (.int a), some (.int b), some (.int (n : Int)), some (.ref t0), some (.ref t1), some (.int A), some (.int D), u1, u2, u3] ∧ Same H H' ∧ H' t0 = some (.tup [.int P0, .int Q0]) ∧ H' t1 = some (.tup [.int P1, .int Q1]) ∧ Appr a b P0 Q0 P1 Q1 s A D ∧
      P0.natAbs < 65536 ^ 50 ∧ P1.natAbs < 65536 ^ 50 ∧ 0 ≤ Q0 ∧ Q0 ≤ (n : Int) + 1 ∧ 0 ≤ Q1 ∧ Q1 ≤ (n : Int) ∧ A.natAbs < 65536 ^ 20, fun _ _ z => z, ?_⟩
    refine ⟨_, rfl, _, rfl, _, _, rfl, rfl, ⟨hD, lD⟩, _, rfl, t1, _, _, _, rfl, rfl, SqT.of hT1, rfl, _, _, rfl, rfl, mulOkZ bx bP1 (by decide) (by decide), _, rfl, t0, _, _, _, rfl, rfl, SqT.of hT0, rfl, _, _, rfl, rfl,
      _, rfl, _, rfl, _, _, rfl, rfl, ⟨hD, lD⟩, _, rfl, t1, _, _, _, rfl, rfl, SqT.of hT1, rfl, _, _, rfl, rfl, mulOkZ bx bQ1 (by decide) (by decide), _, rfl, t0, _, _, _, rfl, rfl, SqT.of hT0, rfl, _, _, rfl, rfl, (by show 2 ≤ sizeLine; decide), fun tl htl => ?_⟩
    dsimp only at htl ⊢
    rw [eP, eQ]
    have sl := same_new htl (.tup [.int (P1 * (A / D) + P0), .int (Q1 * (A / D) + Q0)])
    refine ⟨_, rfl, tl, _, _, _, rfl, rfl, SqT.of upd_same, rfl, _, rfl, _, _, rfl, rfl, _, rfl, iteD (fun d => ?_) (fun d => ?_)⟩
    · have hq1 : 1 ≤ Q1 := by
        rcases hk with ⟨_, z1, _, z2, _⟩ | ⟨z, _⟩
        · rw [z1, z2] at d
          omega
        · exact z
      obtain ⟨z1, z2, z3, z4, z5, z6, z7, z8⟩ := appr_best hb hap hD hq1 hQ1n d
      have lQ := log2_int (show 0 < Q1 by omega) bQ1 (by decide)
      have bc : (((n : Int) - Q0) / Q1).natAbs < 65536 ^ 20 := by
        have h := div_small ((n : Int) - Q0) (q := Q1.toNat) (by omega)
        rw [Int.toNat_of_nonneg (by omega)] at h
        omega
      refine ⟨_, rfl, _, rfl, t0, _, _, _, rfl, rfl, SqT.of (sl _ _ hT0), rfl, _, _, rfl, rfl, _, rfl, t1, _, _, _, rfl, rfl, SqT.of (sl _ _ hT1), rfl, _, _, rfl, rfl, ⟨by omega, lQ⟩, ?_⟩
      dsimp only
      generalize ((n : Int) - Q0) / Q1 = c2 at *
      refine ⟨_, rfl, _, rfl, t1, _, _, _, rfl, rfl, SqT.of (sl _ _ hT1), rfl, _, _, rfl, rfl, mulOkZ bc bP1 (by decide) (by decide), _, rfl, t0, _, _, _, rfl, rfl, SqT.of (sl _ _ hT0), rfl, _, _, rfl, rfl,
        _, rfl, _, rfl, t1, _, _, _, rfl, rfl, SqT.of (sl _ _ hT1), rfl, _, _, rfl, rfl, mulOkZ bc bQ1 (by decide) (by decide), _, rfl, t0, _, _, _, rfl, rfl, SqT.of (sl _ _ hT0), rfl, _, _, rfl, rfl, (by show 2 ≤ sizeLine; decide), fun ts hts => ?_⟩
      have ss := same_new hts (.tup [.int (c2 * P1 + P0), .int (c2 * Q1 + Q0)])
      have bPA : (c2 * P1 + P0).natAbs < 65536 ^ 110 := by
        have h1 : (c2 * P1).natAbs < 65536 ^ 20 * 65536 ^ 50 := by rw [Int.natAbs_mul]; exact Nat.mul_lt_mul'' bc bP1
        have h2 := Int.natAbs_add_le (c2 * P1) P0
        have h3 : (65536 : Nat) ^ 20 * 65536 ^ 50 + 65536 ^ 50 ≤ 65536 ^ 110 := by decide +kernel
        omega
      refine ⟨_, rfl, _, rfl, _, rfl, _, rfl, a, b, t1, ts, P1, Q1, c2 * P1 + P0, c2 * Q1 + Q0, rfl, ss _ _ (sl _ _ hT1), upd_same, up_lt ba (by decide), up_lt bb (by decide), up_lt bP1 (by decide), up_lt bQ1 (by decide), up_lt bPA (by decide), up_lt (j := 20) (by omega) (by decide), fun t p qq hc b1 b2 => ?_⟩
      rcases hc with ⟨rfl, rfl, rfl⟩ | ⟨rfl, rfl, rfl⟩
      · exact q _ _ _ _ (sm.trans (sl.trans ss)) (ss _ _ (sl _ _ hT1)) (z6 b2) (up_lt bP1 (by decide))
      · exact q _ _ _ _ (sm.trans (sl.trans ss)) upd_same (z7 b1) bPA
    · have hle : Q1 * (A / D) + Q0 ≤ (n : Int) := by omega
      have hm1 := Int.emod_lt_of_pos A hD
      have hm0 := Int.emod_nonneg A (show D ≠ 0 by omega)
      refine ⟨_, rfl, _, rfl, _, _, rfl, ?_⟩
      refine ⟨_, rfl, _, rfl, _, rfl, _, _, rfl, rfl, hD, _, _, rfl, ?_⟩
      refine ⟨(A % D).toNat, by omega, t1, tl, P1, Q1, P1 * (A / D) + P0, Q1 * (A / D) + Q0, -s, D, A % D, _, _, _, rfl, rfl, sm.trans sl, sl _ _ hT1, upd_same, hap2, bP1, psz hap2 (by omega) hle, hQ1, by omega, by omega, hle, bD⟩
  · have hD : D = 0 := vi c
    subst hD
    obtain ⟨e1, e2⟩ := appr_end hb hap hg
    exact ⟨_, rfl, q t1 P1 Q1 H1 sm hT1 (by rw [e1, e2]; exact best_self hb (by omega) hg) (up_lt bP1 (by decide))⟩

abbrev sd_times_limb : Stmt := top 26
abbrev nm_times_limb : List Str := ["natural", "limb"]
abbrev pr_times_limb : List Str := ["natural", "limb"]
theorem sc_times_limb : FnScope nm_times_limb pr_times_limb (defScope sd_times_limb) := ⟨rfl, rfl, rfl, by decide +kernel, rfl, by decide +kernel, by decide +kernel⟩
abbrev cn_times_limb_1 : List Str := ["each", "limb"]
theorem nd_times_limb_1 : cn_times_limb_1.Nodup := by decide +kernel
/-- times_limb: the natural of the product, a new tuple -/
def sp_times_limb (K : PySem.W.Frag) : Sp := fun vs H Q _ => ∃ (a : Addr) (m d : Nat), vs = [.ref a, .int (d : Int)] ∧ SqT K H a (lv (limbs m)) ∧ d < 65536 ∧ (limbs m).length ≤ 100000 ∧ ∀ (r : Addr) (H' : Hp), Same H H' → H' r = some (.tup (lv (limbs (m * d)))) → Q (.ref r) H'
theorem ok_times_limb {P : Program} {w : World} {K : PySem.W.Frag} {mg : Str → Option Value} {base : Heap} {f : Addr} {fd : FuncData} (D : DefAt K mg "times_limb" sd_times_limb pr_times_limb f fd) (B : Glb K mg) (c_carried : Cal P w K mg base 2 "carried" pr_carried (sp_carried K)) : Cal P w K mg base 3 "times_limb" pr_times_limb (sp_times_limb K) := by
  refine D.cal sc_times_limb (fun vs H Q E h => ?_) (fun cdv A outer s H vs Q E hr h => ?_)
  · obtain ⟨a, m, d, rfl, _⟩ := h
    rfl
  obtain ⟨a, m, d, rfl, hA, hd, hm, q⟩ := h
  refine ⟨_, (pss_one (ps_ret (pe_cal c_carried (hr.mono (by decide)) rfl (pa_cons (pe_op op_cat (pe_comp cn_times_limb_1 [none, some 1] (defScope sd_times_limb) nm_times_limb rfl (pi_tup (pv 0)) (fun _ _ _ _ _ => ⟨(pg_name (i := 0) nd_times_limb_1 rfl (Or.inl rfl) (Or.inr rfl)), pts_nil, (pe_op op_mul (pv 0) (pv 1))⟩)) (pe_lst (pa_cons pe_int pa_nil))) pa_nil)))), ?_⟩
  refine ⟨_, rfl, a, rfl, ⟨_, hA⟩, fun c hc => ?_⟩
  refine ⟨fun i w ys σ1 H3 => w = (limbs m).length - i ∧ i ≤ (limbs m).length ∧ (∃ x, σ1 = [x, some (.int (d : Int))]) ∧ ys = lv ((lows m i).map (· * d)) ∧ Same H H3 ∧ H3 c = some (.lst ys), ⟨(limbs m).length, rfl, by omega, ⟨_, rfl⟩, rfl, same_new hc _, upd_same⟩, ?_⟩
  rintro i w ys σ1 H3 ⟨rfl, hi, ⟨x, rfl⟩, rfl, s3, hl3⟩
  refine ⟨hl3, ?_⟩
  by_cases hik : i < (limbs m).length
  · refine .inr ⟨⟨_, _, s3.tup hA, lv_get (limbs_get hik)⟩, by rw [lv_length, List.length_map, lows_length]; exact lt_line (by omega), ?_⟩
    rintro x3 H4 ⟨rfl, hx3⟩
    have ex := hx3 _ (s3.tup hA)
    rw [lv_get (limbs_get hik)] at ex
    cases ex
    have hli := limbAt_lt m i
    refine ⟨_, rfl, _, rfl, _, _, rfl, rfl, .inl ⟨by omega, by omega⟩, ?_⟩
    refine ⟨hl3, (limbs m).length - (i + 1), by omega, rfl, by omega, ⟨_, rfl⟩, ?_, fun b o hb => ?_, upd_same⟩
    · dsimp only
      rw [lows_succ, List.map_append, lv_append, ← Int.natCast_mul]
      rfl
    · rw [upd_ne (ne_of_none hb hc)]
      exact s3 _ _ hb
  · have eik : i = (limbs m).length := by omega
    subst eik
    refine .inl ⟨⟨_, s3.tup hA, by rw [lv_length]; exact Nat.le_refl _⟩, ?_⟩
    refine ⟨(by show 1 ≤ sizeLine; decide), fun p2 hp2 => ?_⟩
    refine ⟨c, p2, _, _, rfl, rfl, (same_new hp2 _) _ _ hl3, upd_same, (by rw [lv_length, List.length_map, lows_length]; exact le_line (by simp only [List.length_singleton]; omega)), fun g hg => ?_⟩
    have ev : val ((lows m (limbs m).length).map (· * d) ++ [0]) = m * d := by rw [val_snoc0, val_map_mul, val_lows_all (lt_pow_len m)]
    refine ⟨g, (lows m (limbs m).length).map (· * d) ++ [0], rfl, SqL.of ?_, ?_, ?_, fun r H5 s5 h5 => q r H5 (s3.trans ((same_new hp2 _).trans ((same_new hg _).trans s5))) ?_⟩
    · rw [upd_same, lv_append]
      rfl
    · rw [List.length_append, List.length_map, lows_length]
      simp only [List.length_singleton]
      omega
    · rw [ev, List.length_append, List.length_map, lows_length]
      exact mulLimb_lt hd
    · rw [h5, ev]

abbrev sd_times : Stmt := top 27
abbrev nm_times : List Str := ["one", "other", "columns", "place", "limb", "offset", "each"]
abbrev pr_times : List Str := ["one", "other"]
theorem sc_times : FnScope nm_times pr_times (defScope sd_times) := ⟨rfl, rfl, rfl, by decide +kernel, rfl, by decide +kernel, by decide +kernel⟩
/-- times: the natural of the product, a new tuple -/
def sp_times (K : PySem.W.Frag) : Sp := fun vs H Q _ => ∃ (a b : Addr) (m n : Nat), vs = [.ref a, .ref b] ∧ SqT K H a (lv (limbs m)) ∧ SqT K H b (lv (limbs n)) ∧ (limbs m).length ≤ 90000 ∧ (limbs n).length ≤ 90000 ∧
  ∀ (r : Addr) (H' : Hp), Same H H' → H' r = some (.tup (lv (limbs (m * n)))) → Q (.ref r) H'
theorem lv_set (l : List Nat) (i d : Nat) : (lv l).set i (.int (d : Int)) = lv (l.set i d) := by unfold lv; rw [List.map_set]
theorem ok_times {P : Program} {w : World} {K : PySem.W.Frag} {mg : Str → Option Value} {base : Heap} {f : Addr} {fd : FuncData} (D : DefAt K mg "times" sd_times pr_times f fd) (B : Glb K mg) (c_carried : Cal P w K mg base 2 "carried" pr_carried (sp_carried K)) : Cal P w K mg base 3 "times" pr_times (sp_times K) := by
  refine D.cal sc_times (fun vs H Q E h => ?_) (fun cdv A outer s H vs Q E hr h => ?_)
  · obtain ⟨a, b, m, n, rfl, _⟩ := h
    rfl
  obtain ⟨a, b, m, n, rfl, hA, hB, hm, hn, q⟩ := h
  refine ⟨_, (pss_cons (ps_set (i := 2) sc_times.nd rfl (Or.inl rfl) (pe_op op_rep (pe_lst (pa_cons pe_int pa_nil)) (pe_op op_add (pe_callB call_len_seq rfl B.len_ PySem.boot_len (pa_cons (pv 0) pa_nil)) (pe_callB call_len_seq rfl B.len_ PySem.boot_len (pa_cons (pv 1) pa_nil)))))
    (pss_cons (ps_for PassesOwn.never rfl (pi_enumT rfl B.enumerate_ (pa_cons (pv 1) pa_nil)) (pg_tup rfl (pgs_cons (pg_name (i := 3) sc_times.nd rfl (Or.inl rfl)) (pgs_cons (pg_name (i := 4) sc_times.nd rfl (Or.inl rfl)) pgs_nil))) (pss_one (ps_for PassesOwn.never rfl (pi_enumT rfl B.enumerate_ (pa_cons (pv 0) pa_nil)) (pg_tup rfl (pgs_cons (pg_name (i := 5) sc_times.nd rfl (Or.inl rfl)) (pgs_cons (pg_name (i := 6) sc_times.nd rfl (Or.inl rfl)) pgs_nil))) (pss_one (ps_augS (pv 2) (pe_op op_add (pv 3) (pv 5)) get_list (pe_op op_mul (pv 6) (pv 4)) ip_add set_list)))))
    (pss_one (ps_ret (pe_cal c_carried (hr.mono (by decide)) rfl (pa_cons (pv 2) pa_nil)))))), ?_⟩
  have la : (lv (limbs m)).length = (limbs m).length := lv_length _
  have lb : (lv (limbs n)).length = (limbs n).length := lv_length _
  refine ⟨(by show 1 ≤ sizeLine; decide), fun p hp => ?_⟩
  have s0 : Same H (upd H p (.lst [.int 0])) := same_new hp _
  refine ⟨_, rfl, a, _, rfl, .inr (s0.tup hA), _, rfl, b, _, rfl, .inr (s0.tup hB), _, _, rfl, rfl, p, (((limbs m).length + (limbs n).length : Nat) : Int), _, rfl, (by rw [la, lb]; rfl), upd_same, by omega, by omega, ?_, fun c hc => ?_⟩
  · rw [Int.toNat_natCast]
    exact le_line (by show 1 * ((limbs m).length + (limbs n).length) ≤ 1000000; omega)
  rw [Int.toNat_natCast]
  have erep : (List.replicate ((limbs m).length + (limbs n).length) [V.int 0]).flatten = lv (List.replicate ((limbs m).length + (limbs n).length) 0) := rep_lv _ 0
  rw [erep]
  have s2 := s0.trans (same_new hc (.lst (lv (List.replicate ((limbs m).length + (limbs n).length) 0))))
  have hcn : H c = none := s0.free hc
  refine ⟨_, rfl, b, rfl, ⟨_, s2.tup hB⟩, ?_⟩
  refine for_enumT (xs := lv (limbs n)) (fun i σ H1 => ∃ x y z u cs, σ = [some (.ref a), some (.ref b), some (.ref c), x, y, z, u] ∧ Same H H1 ∧ H1 c = some (.lst (lv cs)) ∧ cs.length = (limbs m).length + (limbs n).length ∧ val cs = m * (n % 65536 ^ i)) ⟨none, none, none, none, _, rfl, s2, upd_same, List.length_replicate, by rw [val_rep0, Nat.pow_zero, Nat.mod_one, Nat.mul_zero]⟩ (fun i σ H1 _ ⟨_, _, _, _, _, _, sm, _⟩ => sm.tup hB) ?_ ?_
  · rintro i y σ H1 t hi ⟨x, y2, z, u, cs, rfl, sm, hl, hcl, hcv⟩ ht
    have hil : i < (limbs n).length := by rw [← lb]; exact (List.getElem?_eq_some_iff.mp hi).1
    rw [lv_get (limbs_get hil)] at hi
    cases hi
    have st : Same H1 (upd H1 t (.tup [.int (i : Int), .int ((limbAt n i : Nat) : Int)])) := same_new ht _
    have hl2 := st _ _ hl
    refine ⟨t, _, rfl, SqT.of upd_same, rfl, _, _, rfl, _, _, rfl, rfl, ?_⟩
    refine ⟨_, rfl, a, rfl, ⟨_, (sm.trans st).tup hA⟩, ?_⟩
    refine for_enumT (xs := lv (limbs m)) (fun j σ H2 => ∃ z u cs, σ = [some (.ref a), some (.ref b), some (.ref c), some (.int (i : Int)), some (.int ((limbAt n i : Nat) : Int)), z, u] ∧ Same H H2 ∧ H2 c = some (.lst (lv cs)) ∧ cs.length = (limbs m).length + (limbs n).length ∧ val cs = m * (n % 65536 ^ i) + 65536 ^ i * (limbAt n i * (m % 65536 ^ j))) ⟨_, _, cs, rfl, sm.trans st, hl2, hcl, by rw [hcv, Nat.pow_zero, Nat.mod_one, Nat.mul_zero, Nat.mul_zero, Nat.add_zero]⟩ (fun j σ H2 _ ⟨_, _, _, _, sm, _⟩ => sm.tup hA) ?_ ?_
    · rintro j y σ H3 t2 hj ⟨z, u, cs, rfl, sm3, hl3, hcl3, hcv3⟩ ht2
      have hjl : j < (limbs m).length := by rw [← la]; exact (List.getElem?_eq_some_iff.mp hj).1
      rw [lv_get (limbs_get hjl)] at hj
      cases hj
      have st2 : Same H3 (upd H3 t2 (.tup [.int (j : Int), .int ((limbAt m j : Nat) : Int)])) := same_new ht2 _
      have hl4 := st2 _ _ hl3
      have hij : i + j < cs.length := by omega
      obtain ⟨w, hw⟩ : ∃ w, cs[i + j]? = some w := ⟨_, List.getElem?_eq_getElem hij⟩
      have eij : (i : Int) + (j : Int) = ((i + j : Nat) : Int) := by omega
      have b1 := limbAt_lt m j
      refine ⟨t2, _, rfl, SqT.of upd_same, rfl, _, _, rfl, _, _, rfl, rfl, ?_⟩
      refine ⟨_, rfl, _, rfl, _, rfl, _, _, rfl, rfl, c, _, _, _, rfl, rfl, SqL.of hl4, (by rw [eij]; exact atI_nat (lv_get hw)), _, rfl, _, rfl, _, _, rfl, rfl, .inl ⟨by omega, by omega⟩, _, _, rfl, rfl, c, _, _, i + j, rfl, rfl, hl4, (by rw [eij, lv_length]; exact ixN_nat hij), ?_⟩
      refine ⟨_, _, cs.set (i + j) (w + limbAt n i * limbAt m j), rfl, fun b o hb => ?_, ?_, by rw [List.length_set]; exact hcl3, ?_⟩
      · rw [upd_ne (ne_of_none hb hcn)]
        exact st2 _ _ (sm3 _ _ hb)
      · rw [upd_same, ← lv_set, Int.natCast_add, Int.natCast_mul, Int.mul_comm ((limbAt m j : Nat) : Int)]
      · have e : 65536 ^ (i + j) * (limbAt n i * limbAt m j) = 65536 ^ i * (limbAt n i * (65536 ^ j * limbAt m j)) := by rw [Nat.pow_add, Nat.mul_assoc, Nat.mul_left_comm (65536 ^ j)]
        rw [val_set hw, hcv3, mod_step m j, e, Nat.mul_add (limbAt n i), Nat.mul_add (65536 ^ i), Nat.add_assoc]
    · rintro σ H3 ⟨z, u, cs, rfl, sm3, hl3, hcl3, hcv3⟩
      refine ⟨_, _, _, _, cs, rfl, sm3, hl3, hcl3, ?_⟩
      rw [la, Nat.mod_eq_of_lt (lt_pow_len m)] at hcv3
      rw [hcv3, mod_step n i, Nat.mul_add]
      congr 1
      rw [Nat.mul_left_comm m, Nat.mul_comm m]
  · rintro σ H1 ⟨x, y, z, u, cs, rfl, sm, hl, hcl, hcv⟩
    rw [lb, Nat.mod_eq_of_lt (lt_pow_len n)] at hcv
    refine ⟨_, rfl, c, cs, rfl, SqL.of hl, by omega, by rw [hcv, hcl]; exact mul_lt_len m n, fun r H2 s3 h3 => q r H2 (sm.trans s3) ?_⟩
    rw [h3, hcv]

abbrev sd_plus : Stmt := top 31
abbrev nm_plus : List Str := ["one", "other", "came"]
abbrev pr_plus : List Str := ["one", "other"]
theorem sc_plus : FnScope nm_plus pr_plus (defScope sd_plus) := ⟨rfl, rfl, rfl, by decide +kernel, rfl, by decide +kernel, by decide +kernel⟩
abbrev cn_plus_1 : List Str := ["place", "carry", "one", "other"]
theorem nd_plus_1 : cn_plus_1.Nodup := by decide +kernel
/-- plus: the natural of the sum, a new tuple -/
def sp_plus (K : PySem.W.Frag) : Sp := fun vs H Q _ => ∃ (a b : Addr) (m n : Nat), vs = [.ref a, .ref b] ∧ SqT K H a (lv (limbs m)) ∧ SqT K H b (lv (limbs n)) ∧ (limbs m).length ≤ 90000 ∧ (limbs n).length ≤ 90000 ∧
  ∀ (r : Addr) (H' : Hp), Same H H' → H' r = some (.tup (lv (limbs (m + n)))) → Q (.ref r) H'
/-- what comes to each place -/
def come (m n k : Nat) : List Nat := (List.range (k + 1)).map fun i => carryAt m n i
theorem come_eq (m n k : Nat) : 0 :: gone m n k = come m n k := by
  unfold come gone
  rw [List.range_succ_eq_map, List.map_cons, List.map_map, carryAt_zero]
  rfl
theorem come_get {m n k i : Nat} (h : i < k + 1) : (come m n k)[i]? = some (carryAt m n i) := by
  unfold come
  rw [List.getElem?_map, List.getElem?_range h]
  rfl
theorem come_length (m n k : Nat) : (come m n k).length = k + 1 := by unfold come; rw [List.length_map, List.length_range]
theorem ok_plus {P : Program} {w : World} {K : PySem.W.Frag} {mg : Str → Option Value} {base : Heap} {f : Addr} {fd : FuncData} (D : DefAt K mg "plus" sd_plus pr_plus f fd) (B : Glb K mg) (c_trimmed : Cal P w K mg base 1 "trimmed" pr_trimmed (sp_trimmed K)) (c_carries : Cal P w K mg base 2 "carries" pr_carries (sp_carries K)) (c_limb_at : Cal P w K mg base 1 "limb_at" pr_limb_at (sp_limb_at K)) : Cal P w K mg base 3 "plus" pr_plus (sp_plus K) := by
  refine D.cal sc_plus (fun vs H Q E h => ?_) (fun cdv A outer s H vs Q E hr h => ?_)
  · obtain ⟨a, b, m, n, rfl, _⟩ := h
    rfl
  obtain ⟨a, b, m, n, rfl, hA, hB, hm, hn, q⟩ := h
  refine ⟨_, (pss_cons (ps_set (i := 2) sc_plus.nd rfl (Or.inl rfl) (pe_op op_cat (pe_lst (pa_cons pe_int pa_nil)) (pe_cal c_carries (hr.mono (by decide)) rfl (pa_cons (pv 0) (pa_cons (pv 1) pa_nil)))))
    (pss_one (ps_ret (pe_cal c_trimmed (hr.mono (by decide)) rfl (pa_cons (pe_comp cn_plus_1 [none, none, some 0, some 1] (defScope sd_plus) nm_plus rfl (pi_enumL rfl B.enumerate_ (pa_cons (pv 2) pa_nil)) (fun _ _ _ _ _ => ⟨(pg_tupK (K := K) (n := 2) rfl rfl (pgs_cons (pg_name (i := 0) nd_plus_1 rfl (Or.inl rfl) (Or.inr rfl)) (pgs_cons (pg_name (i := 1) nd_plus_1 rfl (Or.inl rfl) (Or.inr rfl)) pgs_nil))), pts_nil, (pe_op op_mod (pe_op op_add (pe_op op_add (pe_cal c_limb_at (hr.mono (by decide)) rfl (pa_cons (pv 2) (pa_cons (pv 0) pa_nil))) (pe_cal c_limb_at (hr.mono (by decide)) rfl (pa_cons (pv 3) (pa_cons (pv 0) pa_nil)))) (pv 1)) (pe_const B.g_BASE rfl))⟩)) pa_nil))))), ?_⟩
  refine ⟨(by show 1 ≤ sizeLine; decide), fun p hp => ?_⟩
  have s0 : Same H (upd H p (.lst [.int 0])) := same_new hp _
  refine ⟨_, rfl, _, rfl, a, b, m, n, rfl, s0.tup hA, s0.tup hB, by omega, by omega, fun r H1 s1 hr1 h1 => ?_⟩
  refine ⟨p, r, _, _, rfl, rfl, s1 _ _ upd_same, h1, (by rw [lv_length, gone_length]; exact le_line (by simp only [List.length_singleton]; omega)), fun c hc => ?_⟩
  have s2 : Same H (upd H1 c (.lst ([V.int 0] ++ lv (gone m n (max (limbs m).length (limbs n).length))))) := s0.trans (s1.trans (same_new hc _))
  generalize hK : max (limbs m).length (limbs n).length = k at *
  have ecome : [V.int 0] ++ lv (gone m n k) = lv (come m n k) := by rw [← come_eq]; rfl
  rw [ecome] at s2 ⊢
  have hC : (upd H1 c (.lst (lv (come m n k)))) c = some (.lst (lv (come m n k))) := upd_same
  generalize hH2 : upd H1 c (.lst (lv (come m n k))) = H2 at *
  refine ⟨_, rfl, c, rfl, ⟨_, SqL.of hC⟩, fun l hl => ?_⟩
  refine ⟨fun i w ys σ1 H3 => w = k + 1 - i ∧ i ≤ k + 1 ∧ (∃ x y, σ1 = [x, y, some (.ref a), some (.ref b)]) ∧ ys = lv (lows (m + n) i) ∧ Same H2 H3 ∧ H3 l = some (.lst ys), ⟨k + 1, rfl, by omega, ⟨_, _, rfl⟩, rfl, same_new hl _, upd_same⟩, ?_⟩
  rintro i w ys σ1 H3 ⟨rfl, hi, ⟨x, y, rfl⟩, rfl, s3, hl3⟩
  refine ⟨hl3, ?_⟩
  have lk : (max (limbs m).length (limbs n).length) ≤ 90000 := by omega
  by_cases hik : i < k + 1
  · refine .inr ⟨⟨_, _, SqL.of (s3 _ _ hC), lv_get (come_get hik)⟩, by rw [lv_length, lows_length]; exact lt_line (by omega), ?_⟩
    rintro x3 H4 ⟨t, z, ht, hz, rfl, rfl⟩
    have ez := hz _ (SqL.of (s3 _ _ hC))
    rw [lv_get (come_get hik)] at ez
    cases ez
    have s4 : Same H (upd H3 t (.tup [.int (i : Int), .int ((carryAt m n i : Nat) : Int)])) := s2.trans (s3.trans (same_new ht _))
    refine ⟨t, _, rfl, SqT.of upd_same, rfl, _, _, rfl, _, _, rfl, rfl, ?_⟩
    refine ⟨_, rfl, _, rfl, a, m, i, rfl, s4.tup hA, _, rfl, _, rfl, b, n, i, rfl, s4.tup hB, _, _, rfl, rfl, _, rfl, _, _, rfl, rfl, _, _, rfl, rfl, (by show (0 : Int) < 65536; decide), ?_⟩
    refine ⟨by rw [upd_ne (ne_of_none hl3 ht)]; exact hl3, k + 1 - (i + 1), by omega, rfl, by omega, ⟨_, _, rfl⟩, ?_, fun b o hb => ?_, upd_same⟩
    · rw [lows_succ, lv_snoc, limbAt_add]
      congr 2
    · rw [upd_ne (ne_of_none hb hl), upd_ne (ne_of_none (s3 _ _ hb) ht)]
      exact s3 _ _ hb
  · have eik : i = k + 1 := by omega
    subst eik
    refine .inl ⟨⟨_, SqL.of (s3 _ _ hC), by rw [lv_length, come_length]; exact Nat.le_refl _⟩, ?_⟩
    refine ⟨l, lows (m + n) (k + 1), rfl, .inl (SqL.of hl3), lows_dig _ _, by rw [lows_length]; omega, fun r2 H5 s5 h5 => q r2 H5 (s2.trans (s3.trans s5)) ?_⟩
    rw [h5, val_lows, Nat.mod_eq_of_lt (by rw [← hK]; exact add_lt_pow)]

abbrev sd_half_goes_beyond : Stmt := top 55
abbrev nm_half_goes_beyond : List Str := ["often", "way"]
abbrev pr_half_goes_beyond : List Str := ["often", "way"]
theorem sc_half_goes_beyond : FnScope nm_half_goes_beyond pr_half_goes_beyond (defScope sd_half_goes_beyond) := ⟨rfl, rfl, rfl, by decide +kernel, rfl, by decide +kernel, by decide +kernel⟩
/-- half_goes_beyond: whether a half is rounded to one farther from nought -/
def sp_half_goes_beyond (K : PySem.W.Frag) : Sp := fun vs H Q E => ∃ (o : Addr) (n : Nat) (v : V), vs = [.ref o, v] ∧ SqT K H o (lv (limbs n)) ∧ ((v = .str "half_even" ∧ Q (.bl (decide (n % 2 = 1))) H) ∨ (v = .str "half_away" ∧ Q (.bl true) H) ∨ (v = .str "half_zero" ∧ Q (.bl false) H))
theorem ok_half_goes_beyond {P : Program} {w : World} {K : PySem.W.Frag} {mg : Str → Option Value} {base : Heap} {f : Addr} {fd : FuncData} (D : DefAt K mg "half_goes_beyond" sd_half_goes_beyond pr_half_goes_beyond f fd) (B : Glb K mg) (c_bit_at : Cal P w K mg base 2 "bit_at" pr_bit_at (sp_bit_at K)) : Cal P w K mg base 3 "half_goes_beyond" pr_half_goes_beyond (sp_half_goes_beyond K) := by
  refine D.calX sc_half_goes_beyond (fun vs H Q E h => ?_) (fun cdv A outer s H vs Q E hr h => ?_)
  · obtain ⟨o, n, v, rfl, _⟩ := h
    rfl
  obtain ⟨o, n, v, rfl, hO, q⟩ := h
  refine ⟨_, (pss_cons (ps_if (pt_cmpR op_eq (pv 1) pe_str (nomark _)) (pss_one (ps_ret (pe_cmpR op_eq (pe_calS c_bit_at passX.s (hr.mono (by decide)) rfl (pa_cons (pv 0) (pa_cons pe_int pa_nil))) pe_int (nomark _)))) pss_nil)
    (pss_one (ps_ret (pe_cmpR op_eq (pv 1) pe_str (nomark _))))), ?_⟩
  rcases q with ⟨rfl, q⟩ | ⟨rfl, q⟩ | ⟨rfl, q⟩
  · refine ⟨_, rfl, rfl, _, rfl, iteDT rfl ?_⟩
    refine ⟨_, rfl, o, n, 0, rfl, hO, .inl ⟨by decide, rfl, ?_⟩⟩
    have e3 : decide (V.int ((n / 2 ^ (0 : Int).toNat % 2 : Nat) : Int) = V.int 1) = decide (n % 2 = 1) := by
      rw [decide_eq_decide]
      show V.int ((n / 2 ^ 0 % 2 : Nat) : Int) = V.int 1 ↔ _
      rw [Nat.pow_zero, Nat.div_one]
      constructor
      · intro h
        have := vi h
        omega
      · intro h
        rw [h]
        rfl
    rw [e3]
    exact q
  · refine ⟨_, rfl, rfl, _, rfl, iteDF (st_ne (by decide +kernel)) ?_⟩
    refine ⟨_, rfl, rfl, ?_⟩
    rw [decide_eq_true rfl]
    exact q
  · refine ⟨_, rfl, rfl, _, rfl, iteDF (st_ne (by decide +kernel)) ?_⟩
    refine ⟨_, rfl, rfl, ?_⟩
    rw [decide_eq_false (st_ne (by decide +kernel))]
    exact q

abbrev sd_l_signed : Stmt := top 76
abbrev nm_l_signed : List Str := ["_law_cell_here", "_law_most"]
abbrev pr_l_signed : List Str := ["_law_cell_here", "_law_most"]
theorem sc_l_signed : FnScope nm_l_signed pr_l_signed (defScope sd_l_signed) := ⟨rfl, rfl, rfl, by decide +kernel, rfl, by decide +kernel, by decide +kernel⟩
/-- signed: a number of any sign -/
def sp_l_signed (K : PySem.W.Frag) : Sp := fun vs H Q _ => ∃ (c : Int) (most : Nat), vs = [.int c, .int (most : Int)] ∧ 1 ≤ most ∧ most ≤ 2000 ∧ ∀ (i : Int) (H' : Hp), i.natAbs < 65536 ^ (most + 4) → Same H H' → Q (.int i) H'
theorem ok_l_signed {P : Program} {w : World} {K : PySem.W.Frag} {mg : Str → Option Value} {base : Heap} {f : Addr} {fd : FuncData} (D : DefAt K mg "_law_signed" sd_l_signed pr_l_signed f fd) (B : Glb K mg) (c_number : Cal P w K mg base 2 "_law_number" pr_number (sp_number K)) : Cal P w K mg base 3 "_law_signed" pr_l_signed (sp_l_signed K) := by
  refine D.cal sc_l_signed (fun vs H Q E h => ?_) (fun cdv A outer s H vs Q E hr h => ?_)
  · obtain ⟨c, most, rfl, _⟩ := h
    rfl
  obtain ⟨c, most, rfl, h1, h2, q⟩ := h
  refine ⟨_, (pss_one (ps_ret (pe_op op_mul (pe_cal c_number (hr.mono (by decide)) rfl (pa_cons (pe_op op_fdiv (pv 0) pe_int) (pa_cons (pv 1) pa_nil))) (pe_op op_sub pe_int (pe_op op_mul pe_int (pe_op op_mod (pv 0) pe_int)))))), ?_⟩
  refine ⟨_, rfl, _, _, rfl, rfl, ⟨by decide, by decide⟩, _, rfl, c / 2, most, rfl, h1, h2, fun n H1 hn s1 => ?_⟩
  refine ⟨_, rfl, _, _, rfl, rfl, (by show (0 : Int) < _; first | decide | omega), _, _, rfl, rfl, .inl ⟨by decide, by decide⟩, _, _, rfl, rfl, _, _, rfl, rfl, .inr ⟨by omega, by omega⟩, q _ _ ?_ s1⟩
  have h3 := nat_abs_lt hn
  rw [Int.natAbs_mul]
  have h4 : (1 - 2 * (c % 2)).natAbs = 1 := by omega
  rw [h4, Nat.mul_one]
  exact h3

abbrev sd_is_whole : Stmt := top 79
abbrev nm_is_whole : List Str := ["_law_found", "_law_number_here"]
abbrev pr_is_whole : List Str := ["_law_found", "_law_number_here"]
theorem sc_is_whole : FnScope nm_is_whole pr_is_whole (defScope sd_is_whole) := ⟨rfl, rfl, rfl, by decide +kernel, rfl, by decide +kernel, by decide +kernel⟩
/-- is_whole: of the whole of a number True -/
def sp_is_whole (K : PySem.W.Frag) : Sp := fun vs H Q _ => ∃ (a : Addr) (j : Int), vs = [.ref a, .int j] ∧ WhH H a j ∧ (limbs j.natAbs).length ≤ 100000 ∧ ∀ H', Same H H' → Q (.bl true) H'
theorem ok_is_whole {P : Program} {w : World} {K : PySem.W.Frag} {mg : Str → Option Value} {base : Heap} {f : Addr} {fd : FuncData} (D : DefAt K mg "_law_is_whole" sd_is_whole pr_is_whole f fd) (B : Glb K mg) (c_is : Cal P w K mg base 2 "_law_is" pr_is (sp_is K)) : Cal P w K mg base 3 "_law_is_whole" pr_is_whole (sp_is_whole K) := by
  refine D.cal sc_is_whole (fun vs H Q E h => ?_) (fun cdv A outer s H vs Q E hr h => ?_)
  · obtain ⟨a, j, rfl, _⟩ := h
    rfl
  obtain ⟨a, j, rfl, hW, hj, q⟩ := h
  obtain ⟨ra, hA, hR⟩ := id hW
  refine ⟨_, (pss_cons (ps_if (PW.pt (pw_or (pt_not (pt_val (pe_callB call_isinst rfl B.isinstance_ PyProof.Rows.boot_isinstance (pa_cons (pv 0) (pa_cons (pe_ty B.tuple_ PyProof.Rows.boot_tuple rfl) pa_nil))))) (pw_or (pt_cmpR op_ne (pe_callB call_len_seq rfl B.len_ PySem.boot_len (pa_cons (pv 0) pa_nil)) pe_int (nomark _)) (pw_or (pt_not (pt_val (pe_callB call_isinst rfl B.isinstance_ PyProof.Rows.boot_isinstance (pa_cons (pe_ix ix_tup (pv 0) pe_int (fun _ _ => rfl)) (pa_cons (pe_ty B.int_ PyProof.Rows.boot_int rfl) pa_nil))))) (pw_or1 (pt_val (pe_callB call_isinst rfl B.isinstance_ PyProof.Rows.boot_isinstance (pa_cons (pe_ix ix_tup (pv 0) pe_int (fun _ _ => rfl)) (pa_cons (pe_ty B.bool_ PyProof.Rows.boot_bool rfl) pa_nil))))))))) (pss_one (ps_ret pe_bl)) pss_nil)
    (pss_one (ps_ret (pe_and (pe_cmpR op_eq (pe_ix ix_tup (pv 0) pe_int (fun _ _ => rfl)) (pe_op op_sub (pe_callTy call_int1 rfl B.int_ PyProof.Rows.boot_int (pa_cons (pe_cmpR op_gt (pv 1) pe_int (nomark _)) pa_nil)) (pe_callTy call_int1 rfl B.int_ PyProof.Rows.boot_int (pa_cons (pe_cmpR op_lt (pv 1) pe_int (nomark _)) pa_nil))) (nomark _)) (pe_one (pe_cal c_is (hr.mono (by decide)) rfl (pa_cons (pe_ix ix_tup (pv 0) pe_int (fun _ _ => rfl)) (pa_cons (pe_callB call_abs rfl B.abs_ PyProof.Rows.boot_abs (pa_cons (pv 1) pa_nil)) pa_nil)))))))), ?_⟩
  refine ⟨_, rfl, _, _, _, _, rfl, TyOf.tup hA, kit_tuple K, _, rfl, iteF ?_⟩
  refine ⟨_, rfl, a, _, rfl, .inr (SqT.of hA), rfl, _, rfl, iteNS rfl ?_⟩
  refine ⟨_, rfl, a, _, _, _, rfl, rfl, SqT.of hA, rfl, _, _, _, _, rfl, TyOf.int _, kit_int_int K, _, rfl, iteF ?_⟩
  refine ⟨_, rfl, a, _, _, _, rfl, rfl, SqT.of hA, rfl, _, _, _, _, rfl, TyOf.int _, kit_int_bool K, _, rfl, iteF ?_⟩
  refine ⟨_, rfl, a, _, _, _, rfl, rfl, SqT.of hA, rfl, _, rfl, _, _, rfl, rfl, .inr ⟨_, rfl, _, rfl, _, _, rfl, rfl, .inr ⟨_, rfl, _, _, rfl, rfl, rfl, _, rfl, iteDT ?_ ?_⟩⟩⟩
  · rw [← sgn_due]
    simp only [decide_eq_true_eq]
  · exact ⟨_, rfl, a, _, _, _, rfl, rfl, SqT.of hA, rfl, _, rfl, _, rfl, ra, j.natAbs, (by rw [← abs_nat j]; rfl), hR, hj, fun H' s' => q _ s'⟩

abbrev sd_fraction : Stmt := top 81
abbrev nm_fraction : List Str := ["_law_above", "_law_below", "_law_common_here"]
abbrev pr_fraction : List Str := ["_law_above", "_law_below"]
theorem sc_fraction : FnScope nm_fraction pr_fraction (defScope sd_fraction) := ⟨rfl, rfl, rfl, by decide +kernel, rfl, by decide +kernel, by decide +kernel⟩
/-- fraction: of two numbers in lowest terms, made here -/
def sp_fraction (K : PySem.W.Frag) : Sp := fun vs H Q _ => ∃ (a b : Int), vs = [.int a, .int b] ∧ b ≠ 0 ∧ a.natAbs < 65536 ^ 500 ∧ b.natAbs < 65536 ^ 500 ∧ ∀ (t : Addr) (H' : Hp), Same H H' → FrH H' t (num a b) (den a b) → Q (.ref t) H'
theorem log2_500 {j : Int} (h0 : j ≠ 0) (h : j.natAbs < 65536 ^ 500) : j.natAbs.log2 < 9000 := by
  have h2 : j.natAbs.log2 < 16 * 500 := (Nat.log2_lt (by omega)).mpr (by rw [pow16]; exact h)
  omega
theorem gcd_c {a b : Int} (hb : b ≠ 0) (h : b.natAbs < 65536 ^ 500) : b.sign * (Nat.gcd a.natAbs b.natAbs : Int) ≠ 0 ∧ (b.sign * (Nat.gcd a.natAbs b.natAbs : Int)).natAbs < 65536 ^ 500 := by
  have hg := gcd_pos_b (a := a) hb
  have hl : Nat.gcd a.natAbs b.natAbs ≤ b.natAbs := Nat.le_of_dvd (by omega) (Nat.gcd_dvd_right ..)
  have e := gcd_sign (a := a) hb
  rw [← e]
  split <;> exact ⟨by omega, by omega⟩
theorem ok_fraction {P : Program} {w : World} {K : PySem.W.Frag} {mg : Str → Option Value} {base : Heap} {f : Addr} {fd : FuncData} (D : DefAt K mg "_law_fraction" sd_fraction pr_fraction f fd) (B : Glb K mg) (c_common : Cal P w K mg base 1 "_law_common" pr_common (sp_common K)) (c_whole : Cal P w K mg base 2 "_law_whole" pr_whole (sp_whole K)) (c_natural : Cal P w K mg base 1 "_law_natural" pr_natural (sp_natural K)) : Cal P w K mg base 3 "_law_fraction" pr_fraction (sp_fraction K) := by
  refine D.cal sc_fraction (fun vs H Q E h => ?_) (fun cdv A outer s H vs Q E hr h => ?_)
  · obtain ⟨a, b, rfl, _⟩ := h
    rfl
  obtain ⟨a, b, rfl, hb, ha', hb', q⟩ := h
  obtain ⟨tR, pR, qR⟩ : ∃ t, PSs (cxOf (CX1 P w) P w K mg base nm_fraction "_law_fraction" (defScope sd_fraction) f cdv A outer s H E).nox ((defBody sd_fraction).drop 2) t ∧ t { nx := fun _ H' => Q .non H', rt := Q } [some (.int a), some (.int b), some (.int (b.sign * (Nat.gcd a.natAbs b.natAbs : Int)))] H := by
    refine ⟨_, (pss_one (ps_ret (pe_tup (pa_cons (pe_cal c_whole (hr.mono (by decide)) rfl (pa_cons (pe_op op_fdivNL (pv 0) (pv 2)) pa_nil)) (pa_cons (pe_cal c_natural (hr.mono (by decide)) rfl (pa_cons (pe_op op_fdivNL (pv 1) (pv 2)) pa_nil)) pa_nil))))), ?_⟩
    obtain ⟨c1, c2⟩ := gcd_c (a := a) hb hb'
    have lg := log2_500 c1 c2
    have l1 : (limbs (num a b).natAbs).length ≤ 500 := limbs_len (Nat.lt_of_le_of_lt (num_le hb) ha')
    have l2 : (limbs (den a b)).length ≤ 500 := limbs_len (Nat.lt_of_le_of_lt den_le hb')
    refine ⟨_, rfl, _, rfl, _, _, rfl, rfl, ⟨c1, lg⟩, num a b, (by rw [← fdiv_num hb]; rfl), by omega, fun t1 H1 s1 w1 => ?_⟩
    refine ⟨_, rfl, _, rfl, _, _, rfl, rfl, ⟨c1, lg⟩, den a b, (by rw [← fdiv_den hb]; rfl), by omega, fun r2 H2 s2 h2 => ⟨(by show 2 ≤ sizeLine; decide), fun t ht => ?_⟩⟩
    exact q t _ (s1.trans (s2.trans (same_new ht _))) (FrH.new ht (w1.same s2) h2)
  refine ⟨_, (pss_cons (ps_set (i := 2) sc_fraction.nd rfl (Or.inl rfl) (pe_cal c_common (hr.mono (by decide)) rfl (pa_cons (pv 0) (pa_cons (pv 1) pa_nil))))
    (pss_cons (ps_if (pt_cmpR op_lt (pv 1) pe_int (nomark _)) (pss_one (ps_set (i := 2) sc_fraction.nd rfl (Or.inl rfl) (pe_un un_neg (pv 2)))) pss_nil)
    pR)), ?_⟩
  have e := gcd_sign (a := a) hb
  refine ⟨_, rfl, _, rfl, a, b, rfl, ?_⟩
  refine ⟨_, rfl, _, _, rfl, rfl, _, rfl, iteD (fun c => ?_) (fun c => ?_)⟩
  · rw [if_pos c] at e
    refine ⟨_, rfl, _, rfl, ?_⟩
    rw [← e] at qR
    exact qR
  · rw [if_neg c] at e
    rw [← e] at qR
    exact qR

abbrev sd_step_of : Stmt := top 35
abbrev nm_step_of : List Str := ["dividend", "other", "low", "often", "product"]
abbrev pr_step_of : List Str := ["dividend", "other"]
theorem sc_step_of : FnScope nm_step_of pr_step_of (defScope sd_step_of) := ⟨rfl, rfl, rfl, by decide +kernel, rfl, by decide +kernel, by decide +kernel⟩
/-- step_of: how often the second one goes in, and what is left -/
def sp_step_of (K : PySem.W.Frag) : Sp := fun vs H Q _ => ∃ (a b : Addr) (D V : Nat), vs = [.ref a, .ref b] ∧ H a = some (.tup (lv (limbs D))) ∧ H b = some (.tup (lv (limbs V))) ∧ 0 < V ∧ D < V * 65536 ∧ (limbs V).length ≤ 80000 ∧
  ∀ (t r : Addr) (H' : Hp), Same H H' → H' t = some (.tup [.int ((D / V : Nat) : Int), .ref r]) → H' r = some (.tup (lv (limbs (D % V)))) → Q (.ref t) H'
theorem cmp_gt {m n : Nat} (h : cmp m n > 0) : n < m := by
  unfold cmp at h
  split at h
  · omega
  · split at h <;> omega
theorem cmp_le {m n : Nat} (h : ¬ cmp m n > 0) : m ≤ n := by
  unfold cmp at h
  split at h
  · omega
  · split at h <;> omega
theorem ok_step_of {P : Program} {w : World} {K : PySem.W.Frag} {mg : Str → Option Value} {base : Heap} {f : Addr} {fd : FuncData} (D : DefAt K mg "step_of" sd_step_of pr_step_of f fd) (B : Glb K mg) (c_times_limb : Cal P w K mg base 3 "times_limb" pr_times_limb (sp_times_limb K)) (c_compared : Cal P w K mg base 1 "compared" pr_compared (sp_compared K)) (c_minus : Cal P w K mg base 2 "minus" pr_minus (sp_minus K)) (c_number_of : Cal P w K mg base 1 "number_of" pr_number_of (sp_number_of K)) : Cal P w K mg base 4 "step_of" pr_step_of (sp_step_of K) := by
  refine D.calX sc_step_of (fun vs H Q E h => ?_) (fun cdv A outer s H vs Q E hr h => ?_)
  · obtain ⟨a, b, D, V, rfl, _⟩ := h
    rfl
  obtain ⟨a, b, D, V, rfl, hA, hB, hV, hD, hl, q⟩ := h
  have lD : (limbs D).length ≤ (limbs V).length + 1 := limbs_len (by
    rw [Nat.pow_succ]
    exact Nat.lt_of_lt_of_le hD (Nat.mul_le_mul_right _ (Nat.le_of_lt (lt_pow_len V))))
  have hV1 : 0 < (limbs V).length := by rw [limbs_pos hV]; exact Nat.succ_pos _
  have hqv : V * (D / V) ≤ D := Nat.mul_div_le D V
  -- the end
  obtain ⟨tS, pS, qS⟩ : ∃ t, PSs (cxOf (CX1 P w) P w K mg base nm_step_of "step_of" (defScope sd_step_of) f cdv A outer s H E) ((defBody sd_step_of).drop 4) t ∧ ∀ (H2 : Hp) (r : Addr) (low : Int), Same H H2 → H2 r = some (.tup (lv (limbs (V * (D / V))))) → t { nx := fun _ H' => Q .non H', rt := Q } [some (.ref a), some (.ref b), some (.int low), some (.int ((D / V : Nat) : Int)), some (.ref r)] H2 := by
    refine ⟨_, (pss_one (ps_ret (pe_tup (pa_cons (pv 3) (pa_cons (pe_calS c_minus passX.s (hr.mono (by decide)) rfl (pa_cons (pv 0) (pa_cons (pv 4) pa_nil))) pa_nil))))), fun H2 r low s2 h2 => ?_⟩
    refine ⟨_, rfl, _, rfl, _, rfl, a, r, D, V * (D / V), rfl, SqT.of (s2 _ _ hA), SqT.of h2, by omega, .inl ⟨hqv, fun r3 H3 s3 h3 => ⟨(by show 2 ≤ sizeLine; decide), fun t ht => ?_⟩⟩⟩
    refine q t r3 _ (s2.trans (s3.trans (same_new ht _))) upd_same (same_new ht _ _ _ ?_)
    rw [h3, show D - V * (D / V) = D % V by have := Nat.div_add_mod D V; omega]
  obtain ⟨tM, pM, qM⟩ : ∃ t, PSs (cxOf (CX1 P w) P w K mg base nm_step_of "step_of" (defScope sd_step_of) f cdv A outer s H E) ((defBody sd_step_of).drop 2) t ∧ ∀ (H1 : Hp) (of : Nat) (low : Int), Same H H1 → of < 65536 → (of = D / V ∨ of = D / V + 1) → t { nx := fun _ H' => Q .non H', rt := Q } [some (.ref a), some (.ref b), some (.int low), some (.int (of : Int)), none] H1 := by
    refine ⟨_, (pss_cons (ps_set (i := 4) sc_step_of.nd rfl (Or.inl rfl) (pe_cal c_times_limb (hr.mono (by decide)) rfl (pa_cons (pv 1) (pa_cons (pv 3) pa_nil))))
    (pss_cons (ps_if (pt_cmpR op_gt (pe_cal c_compared (hr.mono (by decide)) rfl (pa_cons (pv 4) (pa_cons (pv 0) pa_nil))) pe_int (nomark _)) (pss_cons (ps_aug (i := 3) sc_step_of.nd rfl (Or.inl rfl) pe_int ip_sub)
    (pss_one (ps_set (i := 4) sc_step_of.nd rfl (Or.inl rfl) (pe_calS c_minus passX.s (hr.mono (by decide)) rfl (pa_cons (pv 4) (pa_cons (pv 1) pa_nil)))))) pss_nil)
    pS)), fun H1 of low s1 ho hoq => ?_⟩
    have lp := mulLimb_len (m := V) ho
    refine ⟨_, rfl, _, rfl, b, V, of, rfl, SqT.of (s1 _ _ hB), ho, by omega, fun r H2 s2 h2 => ?_⟩
    have s12 := s1.trans s2
    refine ⟨_, rfl, _, rfl, r, a, V * of, D, rfl, SqT.of h2, SqT.of (s12 _ _ hA), by omega, _, _, rfl, rfl, _, rfl, iteD (fun c => ?_) (fun c => ?_)⟩
    · have c2 := cmp_gt c
      have eo : of = D / V + 1 := by
        rcases hoq with z | z
        · rw [z] at c2
          omega
        · exact z
      subst eo
      refine ⟨_, rfl, _, _, rfl, rfl, ?_⟩
      refine ⟨_, rfl, _, rfl, r, b, V * (D / V + 1), V, rfl, SqT.of h2, SqT.of (s12 _ _ hB), by omega, .inl ⟨Nat.le_mul_of_pos_right V (Nat.succ_pos _), fun r3 H3 s3 h3 => ?_⟩⟩
      rw [show V * (D / V + 1) - V = V * (D / V) by rw [Nat.mul_add, Nat.mul_one, Nat.add_sub_cancel]] at h3
      have q2 := qS H3 r3 low (s12.trans s3) h3
      rw [show ((D / V : Nat) : Int) = ((D / V + 1 : Nat) : Int) - 1 by omega] at q2
      exact q2
    · have c2 := cmp_le c
      have eo : of = D / V := by
        rcases hoq with z | z
        · exact z
        · rw [z] at c2
          have := Nat.lt_mul_div_succ D hV
          omega
      subst eo
      exact qS H2 r low s12 h2
  obtain ⟨tR, pR, qR⟩ : ∃ t, PSs (cxOf (CX1 P w) P w K mg base nm_step_of "step_of" (defScope sd_step_of) f cdv A outer s H E) ((defBody sd_step_of).drop 1) t ∧ ∀ low : Nat, low = (limbs V).length - 2 → t { nx := fun _ H' => Q .non H', rt := Q } [some (.ref a), some (.ref b), some (.int (low : Int)), none, none] H := by
    refine ⟨_, (pss_cons (ps_set (i := 3) sc_step_of.nd rfl (Or.inl rfl) (pe_callB (call_min2 rfl) rfl B.min_ PyProof.Rows.boot_min (pa_cons (pe_op op_fdivL (pe_cal c_number_of (hr.mono (by decide)) rfl (pa_cons (pe_slice sl_tupA (pv 0) (po_some (pv 2)) po_none) pa_nil)) (pe_cal c_number_of (hr.mono (by decide)) rfl (pa_cons (pe_slice sl_tupA (pv 1) (po_some (pv 2)) po_none) pa_nil))) (pa_cons (pe_op op_sub (pe_const B.g_BASE rfl) pe_int) pa_nil))))
    pM), fun low hlow => ?_⟩
    have hp := pow_pos' low
    have lv2 : V / 65536 ^ low < 65536 ^ 2 := Nat.div_lt_of_lt_mul (by
      rw [← Nat.pow_add]
      exact Nat.lt_of_lt_of_le (lt_pow_len V) (Nat.pow_le_pow_right (by decide) (by omega)))
    have lv0 : 0 < V / 65536 ^ low := Nat.div_pos (le_of_lt_len (by omega)) hp
    have near : D / V ≤ D / 65536 ^ low / (V / 65536 ^ low) ∧ D / 65536 ^ low / (V / 65536 ^ low) ≤ D / V + 1 := by
      by_cases h2 : 2 ≤ (limbs V).length
      · refine often_near ?_ hp hD
        rw [Nat.le_div_iff_mul_le hp, Nat.mul_comm, ← Nat.pow_succ]
        exact le_of_lt_len (by omega)
      · have e0 : low = 0 := by omega
        rw [e0, Nat.pow_zero, Nat.div_one, Nat.div_one]
        exact ⟨Nat.le_refl _, Nat.le_succ _⟩
    have hq6 : D / V < 65536 := Nat.div_lt_of_lt_mul hD
    refine ⟨_, rfl, _, rfl, _, rfl, ?_⟩
    dsimp only [tNoPart]
    refine sl_from hA fun H1 g1 s1 h1 => ?_
    rw [drop_limbs] at h1
    refine ⟨g1, D / 65536 ^ low, rfl, SqT.of h1, ?_⟩
    refine ⟨_, rfl, _, rfl, _, rfl, ?_⟩
    dsimp only [tNoPart]
    refine sl_from (s1 _ _ hB) fun H2 g2 s2 h2 => ?_
    rw [drop_limbs] at h2
    refine ⟨g2, V / 65536 ^ low, rfl, SqT.of h2, ?_⟩
    generalize V / 65536 ^ low = v at *
    generalize D / 65536 ^ low = d at *
    refine ⟨_, _, rfl, rfl, ⟨by omega, log2_lt_of (k := 32) (by omega) (by omega) (by decide)⟩, _, _, rfl, rfl, _, _, rfl, ?_⟩
    generalize hw : d / v = w at *
    have e1 : (d : Int) / (v : Int) = (w : Int) := by rw [← hw, Int.natCast_ediv]
    have e2 : (if (65536 - 1 : Int) < (d : Int) / (v : Int) then (65536 - 1 : Int) else (d : Int) / (v : Int)) = ((min w 65535 : Nat) : Int) := by
      rw [e1]
      split <;> omega
    have q2 := qM H2 (min w 65535) (low : Int) (s1.trans s2) (by omega) (by omega)
    rw [← e2] at q2
    exact q2
  refine ⟨_, (pss_cons (ps_set (i := 2) sc_step_of.nd rfl (Or.inl rfl) (pe_callB (call_max2 rfl) rfl B.max_ PyProof.Rows.boot_max (pa_cons (pe_op op_sub (pe_callB call_len_seq rfl B.len_ PySem.boot_len (pa_cons (pv 1) pa_nil)) pe_int) (pa_cons pe_int pa_nil))))
    pR), ?_⟩
  have lb : (lv (limbs V)).length = (limbs V).length := lv_length _
  refine ⟨_, rfl, b, _, rfl, .inr (SqT.of hB), _, _, rfl, rfl, _, _, rfl, ?_⟩
  have e2 : (if (0 : Int) > (((lv (limbs V)).length : Nat) : Int) - 2 then (0 : Int) else (((lv (limbs V)).length : Nat) : Int) - 2) = (((limbs V).length - 2 : Nat) : Int) := by
    rw [lb]
    split <;> omega
  have q2 := qR ((limbs V).length - 2) rfl
  rw [← e2] at q2
  exact q2

abbrev sd_added : Stmt := top 44
abbrev nm_added : List Str := ["one", "other"]
abbrev pr_added : List Str := ["one", "other"]
theorem sc_added : FnScope nm_added pr_added (defScope sd_added) := ⟨rfl, rfl, rfl, by decide +kernel, rfl, by decide +kernel, by decide +kernel⟩
/-- added: the sum of two wholes -/
def sp_added (K : PySem.W.Frag) : Sp := fun vs H Q _ => ∃ (a b : Addr) (i j : Int), vs = [.ref a, .ref b] ∧ WhK K H a i ∧ WhK K H b j ∧ (limbs i.natAbs).length ≤ 80000 ∧ (limbs j.natAbs).length ≤ 80000 ∧ ∀ (t : Addr) (H' : Hp), Same H H' → WhH H' t (i + j) → Q (.ref t) H'
theorem cmp_lt {m n : Nat} : cmp m n < 0 ↔ m < n := by
  unfold cmp
  split
  · exact ⟨fun _ => by assumption, fun _ => by decide⟩
  · split
    · exact ⟨fun z => absurd z (by decide), fun z => by omega⟩
    · exact ⟨fun z => absurd z (by decide), fun z => by omega⟩
theorem ok_added {P : Program} {w : World} {K : PySem.W.Frag} {mg : Str → Option Value} {base : Heap} {f : Addr} {fd : FuncData} (D : DefAt K mg "added" sd_added pr_added f fd) (B : Glb K mg) (c_signed : Cal P w K mg base 1 "signed" pr_signed (sp_signed K)) (c_compared : Cal P w K mg base 1 "compared" pr_compared (sp_compared K)) (c_minus : Cal P w K mg base 2 "minus" pr_minus (sp_minus K)) (c_plus : Cal P w K mg base 3 "plus" pr_plus (sp_plus K)) : Cal P w K mg base 4 "added" pr_added (sp_added K) := by
  refine D.calX sc_added (fun vs H Q E h => ?_) (fun cdv A outer s H vs Q E hr h => ?_)
  · obtain ⟨a, b, i, j, rfl, _⟩ := h
    rfl
  obtain ⟨a, b, i, j, rfl, ⟨ra, hA, hRa⟩, ⟨rb, hB, hRb⟩, hi, hj, q⟩ := h
  refine ⟨_, (pss_cons (ps_if (pt_cmpR op_eq (pe_ix ix_tup (pv 0) pe_int (fun _ _ => rfl)) (pe_ix ix_tup (pv 1) pe_int (fun _ _ => rfl)) (nomark _)) (pss_one (ps_ret (pe_cal c_signed (hr.mono (by decide)) rfl (pa_cons (pe_ix ix_tup (pv 0) pe_int (fun _ _ => rfl)) (pa_cons (pe_cal c_plus (hr.mono (by decide)) rfl (pa_cons (pe_ix ix_tup (pv 0) pe_int (fun _ _ => rfl)) (pa_cons (pe_ix ix_tup (pv 1) pe_int (fun _ _ => rfl)) pa_nil))) pa_nil))))) pss_nil)
    (pss_cons (ps_if (pt_cmpR op_lt (pe_cal c_compared (hr.mono (by decide)) rfl (pa_cons (pe_ix ix_tup (pv 0) pe_int (fun _ _ => rfl)) (pa_cons (pe_ix ix_tup (pv 1) pe_int (fun _ _ => rfl)) pa_nil))) pe_int (nomark _)) (pss_one (ps_ret (pe_cal c_signed (hr.mono (by decide)) rfl (pa_cons (pe_ix ix_tup (pv 1) pe_int (fun _ _ => rfl)) (pa_cons (pe_calS c_minus passX.s (hr.mono (by decide)) rfl (pa_cons (pe_ix ix_tup (pv 1) pe_int (fun _ _ => rfl)) (pa_cons (pe_ix ix_tup (pv 0) pe_int (fun _ _ => rfl)) pa_nil))) pa_nil))))) pss_nil)
    (pss_one (ps_ret (pe_cal c_signed (hr.mono (by decide)) rfl (pa_cons (pe_ix ix_tup (pv 0) pe_int (fun _ _ => rfl)) (pa_cons (pe_calS c_minus passX.s (hr.mono (by decide)) rfl (pa_cons (pe_ix ix_tup (pv 0) pe_int (fun _ _ => rfl)) (pa_cons (pe_ix ix_tup (pv 1) pe_int (fun _ _ => rfl)) pa_nil))) pa_nil))))))), ?_⟩
  refine ⟨_, rfl, a, _, _, _, rfl, rfl, hA, rfl, _, rfl, b, _, _, _, rfl, rfl, hB, rfl, rfl, _, rfl, iteD (fun c => ?_) (fun c => ?_)⟩
  · obtain ⟨e1, e2⟩ := add_like (vi c)
    refine ⟨_, rfl, a, _, _, _, rfl, rfl, hA, rfl, _, rfl, a, _, _, _, rfl, rfl, hA, rfl, _, rfl, b, _, _, _, rfl, rfl, hB, rfl, ra, rb, i.natAbs, j.natAbs, rfl, hRa, hRb, by omega, by omega, fun r1 H1 s1 h1 => ?_⟩
    exact ⟨i.sign, r1, _, rfl, h1, e2, fun t H2 s2 w2 => q t H2 (s1.trans s2) (by rw [e1] at w2; exact w2)⟩
  refine ⟨_, rfl, a, _, _, _, rfl, rfl, hA, rfl, _, rfl, b, _, _, _, rfl, rfl, hB, rfl, ra, rb, i.natAbs, j.natAbs, rfl, hRa, hRb, by omega, _, _, rfl, rfl, _, rfl, iteD (fun d => ?_) (fun d => ?_)⟩
  · have d' := cmp_lt.mp d
    obtain ⟨e1, e2⟩ := add_less (vn c) d'
    refine ⟨_, rfl, b, _, _, _, rfl, rfl, hB, rfl, _, rfl, b, _, _, _, rfl, rfl, hB, rfl, _, rfl, a, _, _, _, rfl, rfl, hA, rfl, rb, ra, j.natAbs, i.natAbs, rfl, hRb, hRa, by omega, .inl ⟨by omega, fun r1 H1 s1 h1 => ?_⟩⟩
    exact ⟨j.sign, r1, _, rfl, h1, fun _ => e2, fun t H2 s2 w2 => q t H2 (s1.trans s2) (by rw [e1] at w2; exact w2)⟩
  · have d' : ¬ i.natAbs < j.natAbs := fun z => d (cmp_lt.mpr z)
    obtain ⟨e1, e2⟩ := add_more (vn c) d'
    refine ⟨_, rfl, a, _, _, _, rfl, rfl, hA, rfl, _, rfl, a, _, _, _, rfl, rfl, hA, rfl, _, rfl, b, _, _, _, rfl, rfl, hB, rfl, ra, rb, i.natAbs, j.natAbs, rfl, hRa, hRb, by omega, .inl ⟨by omega, fun r1 H1 s1 h1 => ?_⟩⟩
    exact ⟨i.sign, r1, _, rfl, h1, fun _ => e2, fun t H2 s2 w2 => q t H2 (s1.trans s2) (by rw [e1] at w2; exact w2)⟩

abbrev sd_multiplied : Stmt := top 46
abbrev nm_multiplied : List Str := ["one", "other"]
abbrev pr_multiplied : List Str := ["one", "other"]
theorem sc_multiplied : FnScope nm_multiplied pr_multiplied (defScope sd_multiplied) := ⟨rfl, rfl, rfl, by decide +kernel, rfl, by decide +kernel, by decide +kernel⟩
/-- multiplied: the product of two wholes -/
def sp_multiplied (K : PySem.W.Frag) : Sp := fun vs H Q _ => ∃ (a b : Addr) (i j : Int), vs = [.ref a, .ref b] ∧ WhK K H a i ∧ WhK K H b j ∧ (limbs i.natAbs).length ≤ 80000 ∧ (limbs j.natAbs).length ≤ 80000 ∧ ∀ (t : Addr) (H' : Hp), Same H H' → WhH H' t (i * j) → Q (.ref t) H'
theorem ok_multiplied {P : Program} {w : World} {K : PySem.W.Frag} {mg : Str → Option Value} {base : Heap} {f : Addr} {fd : FuncData} (D : DefAt K mg "multiplied" sd_multiplied pr_multiplied f fd) (B : Glb K mg) (c_times : Cal P w K mg base 3 "times" pr_times (sp_times K)) : Cal P w K mg base 4 "multiplied" pr_multiplied (sp_multiplied K) := by
  refine D.cal sc_multiplied (fun vs H Q E h => ?_) (fun cdv A outer s H vs Q E hr h => ?_)
  · obtain ⟨a, b, i, j, rfl, _⟩ := h
    rfl
  obtain ⟨a, b, i, j, rfl, ⟨ra, hA, hRa⟩, ⟨rb, hB, hRb⟩, hi, hj, q⟩ := h
  refine ⟨_, (pss_one (ps_ret (pe_tup (pa_cons (pe_op op_mul (pe_ix ix_tup (pv 0) pe_int (fun _ _ => rfl)) (pe_ix ix_tup (pv 1) pe_int (fun _ _ => rfl))) (pa_cons (pe_cal c_times (hr.mono (by decide)) rfl (pa_cons (pe_ix ix_tup (pv 0) pe_int (fun _ _ => rfl)) (pa_cons (pe_ix ix_tup (pv 1) pe_int (fun _ _ => rfl)) pa_nil))) pa_nil))))), ?_⟩
  have hb := sign_bd i
  refine ⟨_, rfl, a, _, _, _, rfl, rfl, hA, rfl, _, rfl, b, _, _, _, rfl, rfl, hB, rfl, _, _, rfl, rfl, .inl ⟨by omega, by omega⟩, _, rfl, a, _, _, _, rfl, rfl, hA, rfl, _, rfl, b, _, _, _, rfl, rfl, hB, rfl, ra, rb, i.natAbs, j.natAbs, rfl, hRa, hRb, by omega, by omega, fun r1 H1 s1 h1 => ?_⟩
  exact ⟨(by show 2 ≤ sizeLine; decide), fun t ht => q t _ (s1.trans (same_new ht _)) (WhH.new ht h1 (Int.sign_mul ..) (Int.natAbs_mul ..))⟩

abbrev sd_goes_beyond : Stmt := top 56
abbrev nm_goes_beyond : List Str := ["sign", "often", "left", "below", "way", "side"]
abbrev pr_goes_beyond : List Str := ["sign", "often", "left", "below", "way"]
theorem sc_goes_beyond : FnScope nm_goes_beyond pr_goes_beyond (defScope sd_goes_beyond) := ⟨rfl, rfl, rfl, by decide +kernel, rfl, by decide +kernel, by decide +kernel⟩
/-- goes_beyond: whether the quotient is rounded to one farther from nought -/
def sp_goes_beyond (K : PySem.W.Frag) : Sp := fun vs H Q _ => ∃ (sg : Int) (o l z : Addr) (v : V) (q r b : Nat), vs = [.int sg, .ref o, .ref l, .ref z, v] ∧ H o = some (.tup (lv (limbs q))) ∧ H l = some (.tup (lv (limbs r))) ∧ H z = some (.tup (lv (limbs b))) ∧ (limbs r).length ≤ 60000 ∧ Course v ∧
  ∀ H' : Hp, Same H H' → Q (.bl (beyondC v sg q r b)) H'
theorem cmp_cases (m n : Nat) : (cmp m n = -1 ∧ m < n) ∨ (cmp m n = 1 ∧ n < m) ∨ (cmp m n = 0 ∧ m = n) := by
  unfold cmp
  split
  · exact .inl ⟨rfl, by assumption⟩
  · split
    · exact .inr (.inl ⟨rfl, by assumption⟩)
    · exact .inr (.inr ⟨rfl, by omega⟩)
theorem lv_zero {r : Nat} : (((lv (limbs r)).length : Nat) : Int) = 0 ↔ r = 0 := by
  rw [lv_length]
  constructor
  · intro h
    rcases Nat.eq_zero_or_pos r with z | z
    · exact z
    · have := len_pos z
      omega
  · intro h
    rw [h, limbs_zero]
    rfl
theorem ok_goes_beyond {P : Program} {w : World} {K : PySem.W.Frag} {mg : Str → Option Value} {base : Heap} {f : Addr} {fd : FuncData} (D : DefAt K mg "goes_beyond" sd_goes_beyond pr_goes_beyond f fd) (B : Glb K mg) (c_compared : Cal P w K mg base 1 "compared" pr_compared (sp_compared K)) (c_moved_up : CalG (some (.int 1)) P w K mg base 2 "moved_up" pr_moved_up (sp_moved_up K)) (c_half_goes_beyond : Cal P w K mg base 3 "half_goes_beyond" pr_half_goes_beyond (sp_half_goes_beyond K)) : Cal P w K mg base 4 "goes_beyond" pr_goes_beyond (sp_goes_beyond K) := by
  refine D.calX sc_goes_beyond (fun vs H Q E h => ?_) (fun cdv A outer s H vs Q E hr h => ?_)
  · obtain ⟨sg, o, l, z, v, q, r, b, rfl, _⟩ := h
    rfl
  obtain ⟨sg, o, l, z, v, nq, r, b, rfl, hO, hL, hZ, hr', hw, q⟩ := h
  obtain ⟨tR, pR, qR⟩ : ∃ t, PSs (cxOf (CX1 P w) P w K mg base nm_goes_beyond "goes_beyond" (defScope sd_goes_beyond) f cdv A outer s H E) ((defBody sd_goes_beyond).drop 4) t ∧ ∀ x : V, r ≠ 0 → v = x → (x = .str "half_even" ∨ x = .str "half_zero" ∨ x = .str "half_away") → t { nx := fun _ H' => Q .non H', rt := Q } [some (.int sg), some (.ref o), some (.ref l), some (.ref z), some x, none] H := by
    refine ⟨_, (pss_cons (ps_set (i := 5) sc_goes_beyond.nd rfl (Or.inl rfl) (pe_cal c_compared (hr.mono (by decide)) rfl (pa_cons (pe_cal1 c_moved_up (hr.mono (by decide)) rfl (pa_cons (pv 2) pa_nil)) (pa_cons (pv 3) pa_nil))))
    (pss_one (ps_ret (pe_or (pe_cmpR op_gt (pv 5) pe_int (nomark _)) (pe_one (pe_and (pe_cmpR op_eq (pv 5) pe_int (nomark _)) (pe_one (pe_calS c_half_goes_beyond passX.s (hr.mono (by decide)) rfl (pa_cons (pv 1) (pa_cons (pv 4) pa_nil)))))))))), fun x hr0 hv hx => ?_⟩
    refine ⟨_, rfl, l, r, 1, rfl, SqT.of hL, by omega, .inl ⟨by decide, by decide, fun r1 H1 s1 h1 => ?_⟩⟩
    rw [show r * 2 ^ (1 : Int).toNat = 2 * r by show r * 2 ^ 1 = 2 * r; omega] at h1
    have l1 : (limbs (2 * r)).length ≤ 60001 := by
      have := mulLimb_len (m := r) (d := 2) (by decide)
      rw [Nat.mul_comm] at this
      omega
    refine ⟨_, rfl, r1, z, 2 * r, b, rfl, SqT.of h1, SqT.of (s1 _ _ hZ), by omega, ?_⟩
    have e0 : beyondC v sg nq r b = (decide (b < 2 * r) || (decide (2 * r = b) && (if v = .str "half_even" then decide (nq % 2 = 1) else decide (v = .str "half_away")))) := by
      rw [hv]
      rcases hx with rfl | rfl | rfl
      · rw [bc_even hr0, if_pos rfl]
      · rw [bc_hzero hr0, if_neg (st_ne (by decide +kernel)), decide_eq_false (st_ne (by decide +kernel))]
      · rw [bc_haway hr0, if_neg (st_ne (by decide +kernel)), decide_eq_true rfl]
    rw [e0] at q
    rcases cmp_cases (2 * r) b with ⟨e1, e2⟩ | ⟨e1, e2⟩ | ⟨e1, e2⟩
    · rw [e1]
      rw [decide_eq_false (show ¬ b < 2 * r by omega), decide_eq_false (show ¬ 2 * r = b by omega), Bool.false_and, Bool.or_false] at q
      refine ⟨_, rfl, _, _, rfl, rfl, _, rfl, iteDF (by decide) ?_⟩
      refine ⟨_, rfl, rfl, _, rfl, iteDF (by decide) ?_⟩
      exact q _ s1
    · rw [e1]
      rw [decide_eq_true e2, Bool.true_or] at q
      refine ⟨_, rfl, _, _, rfl, rfl, _, rfl, iteDT (by decide) ?_⟩
      exact q _ s1
    · rw [e1]
      rw [decide_eq_false (show ¬ b < 2 * r by omega), decide_eq_true e2, Bool.true_and, Bool.false_or, hv] at q
      refine ⟨_, rfl, _, _, rfl, rfl, _, rfl, iteDF (by decide) ?_⟩
      refine ⟨_, rfl, rfl, _, rfl, iteDT rfl ?_⟩
      refine ⟨_, rfl, _, rfl, o, nq, x, rfl, SqT.of (s1 _ _ hO), ?_⟩
      rcases hx with rfl | rfl | rfl
      · rw [if_pos rfl] at q
        exact .inl ⟨rfl, q _ s1⟩
      · rw [if_neg (st_ne (by decide +kernel)), decide_eq_false (st_ne (by decide +kernel))] at q
        exact .inr (.inr ⟨rfl, q _ s1⟩)
      · rw [if_neg (st_ne (by decide +kernel)), decide_eq_true rfl] at q
        exact .inr (.inl ⟨rfl, q _ s1⟩)
  refine ⟨_, (pss_cons (ps_if (PW.pt (pw_or (pt_cmpR op_eq (pe_callB call_len_seq rfl B.len_ PySem.boot_len (pa_cons (pv 2) pa_nil)) pe_int (nomark _)) (pw_or1 (pt_cmpR op_eq (pv 4) pe_str (nomark _))))) (pss_one (ps_ret pe_bl)) pss_nil)
    (pss_cons (ps_if (pt_cmpR op_eq (pv 4) pe_str (nomark _)) (pss_one (ps_ret pe_bl)) pss_nil)
    (pss_cons (ps_if (pt_cmpR op_eq (pv 4) pe_str (nomark _)) (pss_one (ps_ret (pe_cmpR op_lt (pv 0) pe_int (nomark _)))) pss_nil)
    (pss_cons (ps_if (pt_cmpR op_eq (pv 4) pe_str (nomark _)) (pss_one (ps_ret (pe_cmpR op_gt (pv 0) pe_int (nomark _)))) pss_nil)
    pR)))), ?_⟩
  refine ⟨_, rfl, l, _, rfl, .inr (SqT.of hL), rfl, _, rfl, iteD (fun c => ?_) (fun c => ?_)⟩
  · rw [bc_nought v (lv_zero.mp (vi c))] at q
    exact q _ (Same.refl _)
  have hr0 : r ≠ 0 := fun y => vn c (lv_zero.mpr y)
  rcases hw with rfl | rfl | rfl | rfl | rfl | rfl | rfl
  · rw [bc_down hr0] at q
    refine ⟨_, rfl, rfl, _, rfl, iteDF (st_ne (by decide +kernel)) ?_⟩
    refine ⟨_, rfl, rfl, _, rfl, iteDF (st_ne (by decide +kernel)) ?_⟩
    refine ⟨_, rfl, rfl, _, rfl, iteDT rfl ?_⟩
    exact ⟨_, rfl, _, _, rfl, rfl, q _ (Same.refl _)⟩
  · rw [bc_up hr0] at q
    refine ⟨_, rfl, rfl, _, rfl, iteDF (st_ne (by decide +kernel)) ?_⟩
    refine ⟨_, rfl, rfl, _, rfl, iteDF (st_ne (by decide +kernel)) ?_⟩
    refine ⟨_, rfl, rfl, _, rfl, iteDF (st_ne (by decide +kernel)) ?_⟩
    refine ⟨_, rfl, rfl, _, rfl, iteDT rfl ?_⟩
    exact ⟨_, rfl, _, _, rfl, rfl, q _ (Same.refl _)⟩
  · rw [bc_zero] at q
    refine ⟨_, rfl, rfl, _, rfl, iteDT rfl ?_⟩
    exact q _ (Same.refl _)
  · rw [bc_away hr0] at q
    refine ⟨_, rfl, rfl, _, rfl, iteDF (st_ne (by decide +kernel)) ?_⟩
    refine ⟨_, rfl, rfl, _, rfl, iteDT rfl ?_⟩
    exact q _ (Same.refl _)
  · refine ⟨_, rfl, rfl, _, rfl, iteDF (st_ne (by decide +kernel)) ?_⟩
    refine ⟨_, rfl, rfl, _, rfl, iteDF (st_ne (by decide +kernel)) ?_⟩
    refine ⟨_, rfl, rfl, _, rfl, iteDF (st_ne (by decide +kernel)) ?_⟩
    refine ⟨_, rfl, rfl, _, rfl, iteDF (st_ne (by decide +kernel)) ?_⟩
    exact qR _ hr0 rfl (.inl rfl)
  · refine ⟨_, rfl, rfl, _, rfl, iteDF (st_ne (by decide +kernel)) ?_⟩
    refine ⟨_, rfl, rfl, _, rfl, iteDF (st_ne (by decide +kernel)) ?_⟩
    refine ⟨_, rfl, rfl, _, rfl, iteDF (st_ne (by decide +kernel)) ?_⟩
    refine ⟨_, rfl, rfl, _, rfl, iteDF (st_ne (by decide +kernel)) ?_⟩
    exact qR _ hr0 rfl (.inr (.inl rfl))
  · refine ⟨_, rfl, rfl, _, rfl, iteDF (st_ne (by decide +kernel)) ?_⟩
    refine ⟨_, rfl, rfl, _, rfl, iteDF (st_ne (by decide +kernel)) ?_⟩
    refine ⟨_, rfl, rfl, _, rfl, iteDF (st_ne (by decide +kernel)) ?_⟩
    refine ⟨_, rfl, rfl, _, rfl, iteDF (st_ne (by decide +kernel)) ?_⟩
    exact qR _ hr0 rfl (.inr (.inr rfl))

abbrev sd_pair : Stmt := top 77
abbrev nm_pair : List Str := ["_law_script", "_law_at", "_law_most", "_law_above", "_law_below", "_law_kind_here"]
abbrev pr_pair : List Str := ["_law_script", "_law_at", "_law_most"]
theorem sc_pair : FnScope nm_pair pr_pair (defScope sd_pair) := ⟨rfl, rfl, rfl, by decide +kernel, rfl, by decide +kernel, by decide +kernel⟩
/-- pair: two numbers, the second one above nought -/
def sp_pair (K : PySem.W.Frag) : Sp := fun vs H Q _ => ∃ (a : Addr) (ns : List Int) (at_ most : Nat), vs = [.ref a, .int (at_ : Int), .int (most : Int)] ∧ SqL K H a (ns.map V.int) ∧ at_ < 500 ∧ 1 ≤ most ∧ most ≤ 100 ∧ ∀ (i j : Int) (t : Addr) (H' : Hp), 0 < j → i.natAbs < 65536 ^ (most + 6) → j.natAbs < 65536 ^ (most + 6) → Same H H' → H' t = some (.tup [.int i, .int j]) → Q (.ref t) H'
theorem ok_pair {P : Program} {w : World} {K : PySem.W.Frag} {mg : Str → Option Value} {base : Heap} {f : Addr} {fd : FuncData} (D : DefAt K mg "_law_pair" sd_pair pr_pair f fd) (B : Glb K mg) (c_l_signed : Cal P w K mg base 3 "_law_signed" pr_l_signed (sp_l_signed K)) (c_cell : Cal P w K mg base 1 "_law_cell" pr_cell (sp_cell K)) (c_number : Cal P w K mg base 2 "_law_number" pr_number (sp_number K)) : Cal P w K mg base 4 "_law_pair" pr_pair (sp_pair K) := by
  refine D.cal sc_pair (fun vs H Q E h => ?_) (fun cdv A outer s H vs Q E hr h => ?_)
  · obtain ⟨a, ns, at_, most, rfl, _⟩ := h
    rfl
  obtain ⟨a, ns, at_, most, rfl, hS, hat, hm1, hm2, q⟩ := h
  have p4 : 65536 ^ (most + 5) = 65536 ^ (most + 4) * 65536 := p_succ (most + 4)
  have p5 : 65536 ^ (most + 6) = 65536 ^ (most + 5) * 65536 := p_succ (most + 5)
  have p0 := pow_pos' (most + 4)
  have pb : 65536 ^ 2 ≤ 65536 ^ (most + 6) := Nat.pow_le_pow_right (by decide) (by omega)
  obtain ⟨tR, pR, qR⟩ : ∃ t, PSs (cxOf (CX1 P w) P w K mg base nm_pair "_law_pair" (defScope sd_pair) f cdv A outer s H E).nox ((defBody sd_pair).drop 3) t ∧ ∀ (H1 : Hp) (i j kd : Int), Same H H1 → i.natAbs < 65536 ^ (most + 4) → 0 < j → j.natAbs ≤ 65536 ^ (most + 4) → t { nx := fun _ H' => Q .non H', rt := Q } [some (.ref a), some (.int (at_ : Int)), some (.int (most : Int)), some (.int i), some (.int j), some (.int kd)] H1 := by
    refine ⟨_, (pss_cons (ps_if (pt_cmpR op_eq (pv 5) pe_int (nomark _)) (pss_one (ps_ret (pe_tup (pa_cons (pe_op op_mul (pv 3) pe_int) (pa_cons (pe_op op_mul (pv 4) pe_int) pa_nil))))) pss_nil)
    (pss_cons (ps_if (pt_cmpR op_eq (pv 5) pe_int (nomark _)) (pss_one (ps_ret (pe_tup (pa_cons (pe_op op_sub (pe_op op_mod (pv 3) pe_int) pe_int) (pa_cons (pe_op op_add (pe_op op_mod (pv 4) pe_int) pe_int) pa_nil))))) pss_nil)
    (pss_cons (ps_if (pt_cmpR op_eq (pv 5) pe_int (nomark _)) (pss_one (ps_ret (pe_tup (pa_cons (pe_op op_sub (pe_op op_mul pe_int (pe_op op_mod (pv 3) pe_int)) pe_int) (pa_cons pe_int pa_nil))))) pss_nil)
    (pss_one (ps_ret (pe_tup (pa_cons (pv 3) (pa_cons (pv 4) pa_nil)))))))), fun H1 i j kd s1 hi hj0 hj => ?_⟩
    have m1 := Int.emod_nonneg i (show (200 : Int) ≠ 0 by decide)
    have m2 := Int.emod_lt_of_pos i (show (0 : Int) < 200 by decide)
    have m3 := Int.emod_nonneg j (show (40 : Int) ≠ 0 by decide)
    have m4 := Int.emod_lt_of_pos j (show (0 : Int) < 40 by decide)
    have m5 := Int.emod_nonneg i (show (2000 : Int) ≠ 0 by decide)
    have m6 := Int.emod_lt_of_pos i (show (0 : Int) < 2000 by decide)
    refine ⟨_, rfl, rfl, _, rfl, iteD (fun _ => ?_) (fun _ => ?_)⟩
    · refine ⟨_, rfl, _, _, rfl, rfl, (by first | exact .inr ⟨by decide, by decide⟩ | exact .inl ⟨by decide, by decide⟩ | exact .inl (mod31 _ (by decide) (by decide)) | exact .inr (mod31 _ (by decide) (by decide)) | exact .inr ⟨by omega, by omega⟩ | exact .inl ⟨by omega, by omega⟩), _, rfl, _, _, rfl, rfl, (by first | exact .inr ⟨by decide, by decide⟩ | exact .inl ⟨by decide, by decide⟩ | exact .inl (mod31 _ (by decide) (by decide)) | exact .inr (mod31 _ (by decide) (by decide)) | exact .inr ⟨by omega, by omega⟩ | exact .inl ⟨by omega, by omega⟩), (by show 2 ≤ sizeLine; decide), fun t ht => q _ _ t _ ?_ ?_ ?_ (s1.trans (same_new ht _)) upd_same⟩
      · show (0 : Int) < j * 210
        omega
      · show (i * 30030).natAbs < _
        omega
      · show (j * 210).natAbs < _
        omega
    refine ⟨_, rfl, rfl, _, rfl, iteD (fun _ => ?_) (fun _ => ?_)⟩
    · refine ⟨_, rfl, _, _, rfl, rfl, (by show (0 : Int) < _; first | decide | omega), _, _, rfl, rfl, _, rfl, _, _, rfl, rfl, (by show (0 : Int) < _; first | decide | omega), _, _, rfl, rfl, (by show 2 ≤ sizeLine; decide), fun t ht => q _ _ t _ ?_ ?_ ?_ (s1.trans (same_new ht _)) upd_same⟩
      · show (0 : Int) < j % 40 + 1
        omega
      · show (i % 200 - 100).natAbs < _
        omega
      · show (j % 40 + 1).natAbs < _
        omega
    refine ⟨_, rfl, rfl, _, rfl, iteD (fun _ => ?_) (fun _ => ?_)⟩
    · refine ⟨_, rfl, _, _, rfl, rfl, (by show (0 : Int) < _; first | decide | omega), _, _, rfl, rfl, (by first | exact .inr ⟨by decide, by decide⟩ | exact .inl ⟨by decide, by decide⟩ | exact .inl (mod31 _ (by decide) (by decide)) | exact .inr (mod31 _ (by decide) (by decide)) | exact .inr ⟨by omega, by omega⟩ | exact .inl ⟨by omega, by omega⟩), _, _, rfl, rfl, (by show 2 ≤ sizeLine; decide), fun t ht => q _ 2 t _ (by decide) ?_ ?_ (s1.trans (same_new ht _)) upd_same⟩
      · show (2 * (i % 2000) - 1999).natAbs < _
        omega
      · show 2 < _
        omega
    · exact ⟨_, rfl, _, rfl, (by show 2 ≤ sizeLine; decide), fun t ht => q i j t _ hj0 (by omega) (by omega) (s1.trans (same_new ht _)) upd_same⟩
  refine ⟨_, (pss_cons (ps_set (i := 3) sc_pair.nd rfl (Or.inl rfl) (pe_cal c_l_signed (hr.mono (by decide)) rfl (pa_cons (pe_cal c_cell (hr.mono (by decide)) rfl (pa_cons (pv 0) (pa_cons (pv 1) pa_nil))) (pa_cons (pv 2) pa_nil))))
    (pss_cons (ps_set (i := 4) sc_pair.nd rfl (Or.inl rfl) (pe_op op_add pe_int (pe_cal c_number (hr.mono (by decide)) rfl (pa_cons (pe_cal c_cell (hr.mono (by decide)) rfl (pa_cons (pv 0) (pa_cons (pe_op op_add (pv 1) pe_int) pa_nil))) (pa_cons (pv 2) pa_nil)))))
    (pss_cons (ps_set (i := 5) sc_pair.nd rfl (Or.inl rfl) (pe_op op_mod (pe_op op_fdiv (pe_cal c_cell (hr.mono (by decide)) rfl (pa_cons (pv 0) (pa_cons (pe_op op_add (pv 1) pe_int) pa_nil))) pe_int) pe_int))
    pR))), ?_⟩
  refine ⟨_, rfl, _, rfl, a, ns, at_, rfl, hS, by omega, fun c => ⟨_, rfl, c, most, rfl, hm1, by omega, fun i H1 hi s1 => ?_⟩⟩
  refine ⟨_, rfl, _, rfl, _, _, rfl, rfl, a, ns, at_ + 1, rfl, s1.seq hS, by omega, fun c2 => ⟨_, rfl, c2, most, rfl, hm1, by omega, fun n H2 hn s2 => ⟨_, _, rfl, rfl, ?_⟩⟩⟩
  refine ⟨_, rfl, _, rfl, _, _, rfl, rfl, a, ns, at_ + 1, rfl, (s1.trans s2).seq hS, by omega, fun c3 => ⟨_, _, rfl, rfl, ⟨by decide, by decide⟩, _, _, rfl, rfl, (by show (0 : Int) < 5; decide), ?_⟩⟩
  have hn1 := nat_abs_lt hn
  have hn0 := hn.1
  exact qR H2 i (1 + n) _ (s1.trans s2) hi (by omega) (by omega)

abbrev sd_is_fraction : Stmt := top 82
abbrev nm_is_fraction : List Str := ["_law_found", "_law_above", "_law_below", "_law_due"]
abbrev pr_is_fraction : List Str := ["_law_found", "_law_above", "_law_below"]
theorem sc_is_fraction : FnScope nm_is_fraction pr_is_fraction (defScope sd_is_fraction) := ⟨rfl, rfl, rfl, by decide +kernel, rfl, by decide +kernel, by decide +kernel⟩
/-- is_fraction: of the fraction of two numbers True -/
def sp_is_fraction (K : PySem.W.Frag) : Sp := fun vs H Q _ => ∃ (f : Addr) (a b : Int), vs = [.ref f, .int a, .int b] ∧ b ≠ 0 ∧ a.natAbs < 65536 ^ 500 ∧ b.natAbs < 65536 ^ 500 ∧ FrH H f (num a b) (den a b) ∧ ∀ H', Same H H' → Q (.bl true) H'
theorem ok_is_fraction {P : Program} {w : World} {K : PySem.W.Frag} {mg : Str → Option Value} {base : Heap} {f : Addr} {fd : FuncData} (D : DefAt K mg "_law_is_fraction" sd_is_fraction pr_is_fraction f fd) (B : Glb K mg) (c_fraction : Cal P w K mg base 3 "_law_fraction" pr_fraction (sp_fraction K)) (c_is_whole : Cal P w K mg base 3 "_law_is_whole" pr_is_whole (sp_is_whole K)) (c_is : Cal P w K mg base 2 "_law_is" pr_is (sp_is K)) (c_value : Cal P w K mg base 1 "_law_value" pr_value (sp_value K)) : Cal P w K mg base 4 "_law_is_fraction" pr_is_fraction (sp_is_fraction K) := by
  refine D.cal sc_is_fraction (fun vs H Q E h => ?_) (fun cdv A outer s H vs Q E hr h => ?_)
  · obtain ⟨fr, a, b, rfl, _⟩ := h
    rfl
  obtain ⟨fr, a, b, rfl, hb, ha', hb', hF, q⟩ := h
  refine ⟨_, (pss_cons (ps_set (i := 3) sc_is_fraction.nd rfl (Or.inl rfl) (pe_cal c_fraction (hr.mono (by decide)) rfl (pa_cons (pv 1) (pa_cons (pv 2) pa_nil))))
    (pss_cons (ps_if (PW.pt (pw_or (pt_not (pt_val (pe_callB call_isinst rfl B.isinstance_ PyProof.Rows.boot_isinstance (pa_cons (pv 0) (pa_cons (pe_ty B.tuple_ PyProof.Rows.boot_tuple rfl) pa_nil))))) (pw_or1 (pt_cmpR op_ne (pe_callB call_len_seq rfl B.len_ PySem.boot_len (pa_cons (pv 0) pa_nil)) pe_int (nomark _))))) (pss_one (ps_ret pe_bl)) pss_nil)
    (pss_one (ps_ret (pe_and (pe_cal c_is_whole (hr.mono (by decide)) rfl (pa_cons (pe_ix ix_tup (pv 0) pe_int (fun _ _ => rfl)) (pa_cons (pe_op op_mul (pe_ix ix_tup (pe_ix ix_tup (pv 3) pe_int (fun _ _ => rfl)) pe_int (fun _ _ => rfl)) (pe_cal c_value (hr.mono (by decide)) rfl (pa_cons (pe_ix ix_tup (pe_ix ix_tup (pv 3) pe_int (fun _ _ => rfl)) pe_int (fun _ _ => rfl)) pa_nil))) pa_nil))) (pe_one (pe_cal c_is (hr.mono (by decide)) rfl (pa_cons (pe_ix ix_tup (pv 0) pe_int (fun _ _ => rfl)) (pa_cons (pe_cal c_value (hr.mono (by decide)) rfl (pa_cons (pe_ix ix_tup (pv 3) pe_int (fun _ _ => rfl)) pa_nil)) pa_nil))))))))), ?_⟩
  have hbd := sign_bd (num a b)
  have l1 : (limbs (num a b).natAbs).length ≤ 500 := limbs_len (Nat.lt_of_le_of_lt (num_le hb) ha')
  have l2 : (limbs (den a b)).length ≤ 500 := limbs_len (Nat.lt_of_le_of_lt den_le hb')
  refine ⟨_, rfl, _, rfl, a, b, rfl, hb, ha', hb', fun d H1 s1 hD => ?_⟩
  obtain ⟨t, r, hf, hT, hR⟩ := hF.same s1
  obtain ⟨t', r', hd, ⟨rw', hT', hRw⟩, hR'⟩ := id hD
  refine ⟨_, rfl, _, _, _, _, rfl, TyOf.tup hf, kit_tuple K, _, rfl, iteF ?_⟩
  refine ⟨_, rfl, fr, _, rfl, .inr (SqT.of hf), rfl, _, rfl, iteNS rfl ?_⟩
  refine ⟨_, rfl, fr, _, _, _, rfl, rfl, SqT.of hf, rfl, _, rfl, d, _, _, _, rfl, rfl, SqT.of hd, rfl, t', _, _, _, rfl, rfl, SqT.of hT', rfl, _, rfl, d, _, _, _, rfl, rfl, SqT.of hd, rfl, t', _, _, _, rfl, rfl, SqT.of hT', rfl, rw', limbs (num a b).natAbs, rfl, .inr (SqT.of hRw), _, _, rfl, rfl, .inl ⟨by omega, by omega⟩, t, num a b, ?_, hT, by omega, fun H2 s2 => ⟨_, rfl, iteT ?_⟩⟩
  · show [V.ref t, V.int ((num a b).sign * ((val (limbs (num a b).natAbs) : Nat) : Int))] = [V.ref t, V.int (num a b)]
    rw [val_limbs, Int.sign_mul_natAbs]
  · exact ⟨_, rfl, fr, _, _, _, rfl, rfl, SqT.of (s2 _ _ hf), rfl, _, rfl, d, _, _, _, rfl, rfl, SqT.of (s2 _ _ hd), rfl, r', limbs (den a b), rfl, .inr (SqT.of (s2 _ _ hR')), r, den a b, (by rw [val_limbs]; rfl), s2 _ _ hR, by omega, fun H3 s3 => q _ (s1.trans (s2.trans s3))⟩

abbrev sd_steps_through : Stmt := top 36
abbrev nm_steps_through : List Str := ["limbs", "left", "other", "steps", "rest", "limb", "step"]
abbrev pr_steps_through : List Str := ["limbs", "left", "other"]
theorem sc_steps_through : FnScope nm_steps_through pr_steps_through (defScope sd_steps_through) := ⟨rfl, rfl, rfl, by decide +kernel, rfl, by decide +kernel, by decide +kernel⟩
/-- steps_through: the steps of a long division, a new list -/
def sp_steps_through (K : PySem.W.Frag) : Sp := fun vs H Q _ => ∃ (a b c : Addr) (l : List Nat) (R V : Nat), vs = [.ref a, .ref b, .ref c] ∧ SqT K H a (lv l) ∧ Dig l ∧ H b = some (.tup (lv (limbs R))) ∧ H c = some (.tup (lv (limbs V))) ∧ R < V ∧ l.length ≤ 80000 ∧ (limbs V).length ≤ 80000 ∧
  ∀ (p : Addr) (H' : Hp), Same H H' → H p = none → StepsH H' p l.length (fun i => limbAt (allOf R l / V) (l.length - 1 - i)) (fun i => allOf R l / 65536 ^ (l.length - 1 - i) % V) → Q (.ref p) H'
theorem ok_steps_through {P : Program} {w : World} {K : PySem.W.Frag} {mg : Str → Option Value} {base : Heap} {f : Addr} {fd : FuncData} (D : DefAt K mg "steps_through" sd_steps_through pr_steps_through f fd) (B : Glb K mg) (c_step_of : Cal P w K mg base 4 "step_of" pr_step_of (sp_step_of K)) (c_trimmed : Cal P w K mg base 1 "trimmed" pr_trimmed (sp_trimmed K)) : Cal P w K mg base 5 "steps_through" pr_steps_through (sp_steps_through K) := by
  refine D.calX sc_steps_through (fun vs H Q E h => ?_) (fun cdv A outer s H vs Q E hr h => ?_)
  · obtain ⟨a, b, c, l, R, V, rfl, _⟩ := h
    rfl
  obtain ⟨a, b, c, l, R, V, rfl, hA, hdg, hB, hC, hRV, hl, hlV, q⟩ := h
  refine ⟨_, (pss_cons (ps_set (i := 3) sc_steps_through.nd rfl (Or.inl rfl) (pe_lst pa_nil))
    (pss_cons (ps_set (i := 4) sc_steps_through.nd rfl (Or.inl rfl) (pv 1))
    (pss_cons (PS.nox (ps_for PassesOwn.never rfl (pi_revT rfl B.reversed_ (pa_cons (pv 0) pa_nil)) (pg_name (i := 5) sc_steps_through.nd rfl (Or.inl rfl)) (pss_cons (ps_set (i := 6) sc_steps_through.nd rfl (Or.inl rfl) (pe_cal c_step_of (hr.mono (by decide)) rfl (pa_cons (pe_cal c_trimmed (hr.mono (by decide)) rfl (pa_cons (pe_op op_catTA (pe_tup (pa_cons (pv 5) pa_nil)) (pv 4)) pa_nil)) (pa_cons (pv 2) pa_nil))))
    (pss_cons (ps_expr (pe_bm PySem.F.plainAttrs_list PySem.F.slot_list_append PySem.F.type_list_append mt_append (pv 3) (pa_cons (pv 6) pa_nil)))
    (pss_one (ps_set (i := 4) sc_steps_through.nd rfl (Or.inl rfl) (pe_ix ix_tup (pv 6) pe_int (fun _ _ => rfl))))))))
    (pss_one (ps_ret (pv 3)))))), ?_⟩
  have hV : 0 < V := by omega
  have ll : (lv l).length = l.length := lv_length _
  have htop := allOf_top (R := R) hdg
  generalize hT : allOf R l = T at *
  refine ⟨(by show 0 ≤ sizeLine; decide), fun p hp => ?_⟩
  have s0 : Same H (upd H p (.lst [])) := same_new hp _
  refine ⟨_, rfl, _, rfl, a, lv l, rfl, s0.tup hA, ?_⟩
  refine for_revT (xs := lv l) (fun i σ H1 => Same H H1 ∧ ∃ r x y, σ = [some (.ref a), some (.ref b), some (.ref c), some (.ref p), some (.ref r), x, y] ∧ H1 r = some (.tup (lv (limbs (T / 65536 ^ (l.length - i) % V)))) ∧ StepsH H1 p i (fun i => limbAt (T / V) (l.length - 1 - i)) (fun i => T / 65536 ^ (l.length - 1 - i) % V)) ⟨s0, b, none, none, rfl, ?_, [], upd_same, rfl, fun i t h => by simp at h⟩ (fun i σ H1 _ ⟨s1, _⟩ => s1.tup hA) ?_ ?_
  · rw [Nat.sub_zero, htop, Nat.mod_eq_of_lt hRV]
    exact s0 _ _ hB
  · rintro i y σ H1 hi hy ⟨s1, r, x, y2, rfl, h1, ts, hts, htl, htg⟩
    rw [ll] at hi hy
    obtain ⟨d, hd⟩ : ∃ d, l[l.length - 1 - i]? = some d := ⟨_, List.getElem?_eq_getElem (by omega)⟩
    rw [lv_get hd] at hy
    cases hy
    have hdl : d < 65536 := hdg d (List.mem_of_getElem? hd)
    have hld := allOf_limb (R := R) hdg hd
    rw [hT] at hld
    have ej : l.length - i = l.length - 1 - i + 1 := by omega
    have g1 := step_digit (T := T) (V := V) (j := l.length - 1 - i) hV
    have g2 := step_rest (T := T) (V := V) (j := l.length - 1 - i)
    have g3 := step_lt (T := T) (V := V) (j := l.length - 1 - i) hV
    rw [← ej, hld] at g1 g2 g3
    have lr : (limbs (T / 65536 ^ (l.length - i) % V)).length ≤ (limbs V).length := len_mono (Nat.le_of_lt (Nat.mod_lt _ hV))
    generalize hR2 : T / 65536 ^ (l.length - i) % V = R2 at *
    have hdiv : val (d :: limbs R2) = R2 * 65536 + d := by
      show d + 65536 * val (limbs R2) = _
      rw [val_limbs]
      omega
    refine ⟨_, rfl, (by show 1 ≤ sizeLine; decide), fun t ht => ⟨_, rfl, ?_⟩⟩
    have st : Same H1 (upd H1 t (.tup [.int (d : Int)])) := same_new ht _
    refine cat_all (l := [d]) (m := limbs R2) upd_same (st _ _ h1) (by simp only [List.length_singleton]; omega) fun H2 g s2 h2 => ?_
    refine ⟨g, d :: limbs R2, rfl, .inr h2, (limbs_dig R2).cons hdl, by simp only [List.length_cons]; omega, fun r2 H3 s3 h3 => ?_⟩
    have s13 := st.trans (s2.trans s3)
    rw [hdiv] at h3
    refine ⟨_, rfl, r2, c, R2 * 65536 + d, V, rfl, h3, s13 _ _ (s1 _ _ hC), hV, g3, by omega, fun t4 r4 H4 s4 h4 h5 => ?_⟩
    have s14 := s13.trans s4
    rw [g1] at h4
    rw [g2] at h5
    refine ⟨_, rfl, .inl ⟨rfl, _, SqL.of (s14 _ _ hts)⟩, _, rfl, p, _, _, rfl, rfl, s14 _ _ hts, (by rw [List.length_map]; exact lt_line (by omega)), ?_⟩
    have hne : ∀ (c : Addr) o, H4 c = some (.tup o) → upd H4 p (.lst (ts.map L2.V.ref ++ [.ref t4])) c = some (.tup o) := fun c o e => by
      rw [upd_ne (ne_of e (s14 _ _ hts) (fun z => by cases z))]
      exact e
    refine ⟨_, rfl, t4, _, _, _, rfl, rfl, SqT.of (hne _ _ h4), rfl, ?_⟩
    refine ⟨fun b o hb => ?_, r4, _, _, rfl, ?_, StepsH.snoc htl htg hts s14 h4 h5⟩
    · rw [upd_ne (ne_of_none hb hp)]
      exact s14 _ _ (s1 _ _ hb)
    · rw [show l.length - (i + 1) = l.length - 1 - i by omega]
      exact hne _ _ h5
  · rintro σ H1 ⟨s1, r, x, y, rfl, h1, hst⟩
    rw [ll] at hst
    exact ⟨_, rfl, q p H1 s1 hp hst⟩

abbrev sd_taken : Stmt := top 45
abbrev nm_taken : List Str := ["one", "other"]
abbrev pr_taken : List Str := ["one", "other"]
theorem sc_taken : FnScope nm_taken pr_taken (defScope sd_taken) := ⟨rfl, rfl, rfl, by decide +kernel, rfl, by decide +kernel, by decide +kernel⟩
/-- taken: the difference of two wholes -/
def sp_taken (K : PySem.W.Frag) : Sp := fun vs H Q _ => ∃ (a b : Addr) (i j : Int), vs = [.ref a, .ref b] ∧ WhK K H a i ∧ WhK K H b j ∧ (limbs i.natAbs).length ≤ 80000 ∧ (limbs j.natAbs).length ≤ 80000 ∧ ∀ (t : Addr) (H' : Hp), Same H H' → WhH H' t (i - j) → Q (.ref t) H'
theorem ok_taken {P : Program} {w : World} {K : PySem.W.Frag} {mg : Str → Option Value} {base : Heap} {f : Addr} {fd : FuncData} (D : DefAt K mg "taken" sd_taken pr_taken f fd) (B : Glb K mg) (c_added : Cal P w K mg base 4 "added" pr_added (sp_added K)) (c_turned : Cal P w K mg base 1 "turned" pr_turned (sp_turned K)) : Cal P w K mg base 5 "taken" pr_taken (sp_taken K) := by
  refine D.calX sc_taken (fun vs H Q E h => ?_) (fun cdv A outer s H vs Q E hr h => ?_)
  · obtain ⟨a, b, i, j, rfl, _⟩ := h
    rfl
  obtain ⟨a, b, i, j, rfl, hA, hB, hi, hj, q⟩ := h
  refine ⟨_, (pss_one (ps_ret (pe_calS c_added passX.s (hr.mono (by decide)) rfl (pa_cons (pv 0) (pa_cons (pe_cal c_turned (hr.mono (by decide)) rfl (pa_cons (pv 1) pa_nil)) pa_nil))))), ?_⟩
  refine ⟨_, rfl, _, rfl, b, j, rfl, .inr ⟨hB, fun t1 H1 s1 w1 => ?_⟩⟩
  exact ⟨a, t1, i, -j, rfl, hA.same s1, w1, hi, by rw [Int.natAbs_neg]; exact hj, fun t H2 s2 w2 => q t H2 (s1.trans s2) (by rw [Int.sub_eq_add_neg]; exact w2)⟩

abbrev sd_across : Stmt := top 49
abbrev nm_across : List Str := ["one", "other"]
abbrev pr_across : List Str := ["one", "other"]
theorem sc_across : FnScope nm_across pr_across (defScope sd_across) := ⟨rfl, rfl, rfl, by decide +kernel, rfl, by decide +kernel, by decide +kernel⟩
/-- across: the upper number of the first times the lower one of the second -/
def sp_across (_K : PySem.W.Frag) : Sp := fun vs H Q _ => ∃ (a b : Addr) (p : Int) (q : Nat) (p' : Int) (q' : Nat), vs = [.ref a, .ref b] ∧ FrH H a p q ∧ FrH H b p' q' ∧ 0 < q' ∧ (limbs p.natAbs).length ≤ 10000 ∧ (limbs q').length ≤ 10000 ∧
  ∀ (t : Addr) (H' : Hp), Same H H' → WhH H' t (p * (q' : Int)) → Q (.ref t) H'
theorem ok_across {P : Program} {w : World} {K : PySem.W.Frag} {mg : Str → Option Value} {base : Heap} {f : Addr} {fd : FuncData} (D : DefAt K mg "across" sd_across pr_across f fd) (B : Glb K mg) (c_multiplied : Cal P w K mg base 4 "multiplied" pr_multiplied (sp_multiplied K)) : Cal P w K mg base 5 "across" pr_across (sp_across K) := by
  refine D.cal sc_across (fun vs H Q E h => ?_) (fun cdv A outer s H vs Q E hr h => ?_)
  · obtain ⟨a, b, p, q, p', q', rfl, _⟩ := h
    rfl
  obtain ⟨a, b, p, n, p', n', rfl, ⟨ta, ra, hA, wA, hRa⟩, ⟨tb, rb, hB, wB, hRb⟩, hn', hl1, hl2, q⟩ := h
  refine ⟨_, (pss_one (ps_ret (pe_cal c_multiplied (hr.mono (by decide)) rfl (pa_cons (pe_ix ix_tup (pv 0) pe_int (fun _ _ => rfl)) (pa_cons (pe_tup (pa_cons pe_int (pa_cons (pe_ix ix_tup (pv 1) pe_int (fun _ _ => rfl)) pa_nil))) pa_nil))))), ?_⟩
  refine ⟨_, rfl, a, _, _, _, rfl, rfl, SqT.of hA, rfl, _, rfl, b, _, _, _, rfl, rfl, SqT.of hB, rfl, (by show 2 ≤ sizeLine; decide), fun u hu => ?_⟩
  have su := same_new hu (.tup [.int 1, .ref rb])
  have w1 := wA.same su
  have w2 : WhH (upd H u (.tup [.int 1, .ref rb])) u (n' : Int) := WhH.new hu hRb (Int.sign_eq_one_of_pos (by omega)) (Int.natAbs_natCast _)
  exact ⟨ta, u, p, (n' : Int), rfl, (by first | exact w1 | exact w1.k), (by first | exact w2 | exact w2.k), by omega, by rw [Int.natAbs_natCast]; omega, fun t H' s' w' => q t H' (su.trans s') w'⟩

abbrev sd_later_of : Stmt := top 64
abbrev nm_later_of : List Str := ["earlier", "now", "whole"]
abbrev pr_later_of : List Str := ["earlier", "now", "whole"]
theorem sc_later_of : FnScope nm_later_of pr_later_of (defScope sd_later_of) := ⟨rfl, rfl, rfl, by decide +kernel, rfl, by decide +kernel, by decide +kernel⟩
/-- later_of: the next part of a chain -/
def sp_later_of (K : PySem.W.Frag) : Sp := fun vs H Q _ => ∃ (e n w : Addr) (p0 : Int) (q0 : Nat) (p1 : Int) (q1 : Nat) (x : Int), vs = [.ref e, .ref n, .ref w] ∧ FrK K H e p0 q0 ∧ FrK K H n p1 q1 ∧ WhH H w x ∧ (limbs p0.natAbs).length ≤ 32000 ∧ (limbs q0).length ≤ 32000 ∧ (limbs p1.natAbs).length ≤ 32000 ∧ (limbs q1).length ≤ 32000 ∧ (limbs x.natAbs).length ≤ 10000 ∧
  ∀ (t : Addr) (H' : Hp), Same H H' → FrH H' t (p1 * x + p0) (q1 * x.natAbs + q0) → Q (.ref t) H'
theorem ok_later_of {P : Program} {w : World} {K : PySem.W.Frag} {mg : Str → Option Value} {base : Heap} {f : Addr} {fd : FuncData} (D : DefAt K mg "later_of" sd_later_of pr_later_of f fd) (B : Glb K mg) (c_added : Cal P w K mg base 4 "added" pr_added (sp_added K)) (c_plus : Cal P w K mg base 3 "plus" pr_plus (sp_plus K)) (c_multiplied : Cal P w K mg base 4 "multiplied" pr_multiplied (sp_multiplied K)) (c_times : Cal P w K mg base 3 "times" pr_times (sp_times K)) : Cal P w K mg base 5 "later_of" pr_later_of (sp_later_of K) := by
  refine D.calX sc_later_of (fun vs H Q E h => ?_) (fun cdv A outer s H vs Q E hr h => ?_)
  · obtain ⟨e, n, w, p0, q0, p1, q1, x, rfl, _⟩ := h
    rfl
  obtain ⟨e, n, ww, p0, q0, p1, q1, x, rfl, ⟨te, re, hE, wE, hRe⟩, ⟨tn, rn, hN, wN, hRn⟩, hW, l0, m0, l1, m1, lx, q⟩ := h
  obtain ⟨rx, hX, hRx⟩ := id hW
  refine ⟨_, (pss_one (ps_ret (pe_tup (pa_cons (pe_calS c_added passX.s (hr.mono (by decide)) rfl (pa_cons (pe_cal c_multiplied (hr.mono (by decide)) rfl (pa_cons (pe_ix ix_tup (pv 1) pe_int (fun _ _ => rfl)) (pa_cons (pv 2) pa_nil))) (pa_cons (pe_ix ix_tup (pv 0) pe_int (fun _ _ => rfl)) pa_nil))) (pa_cons (pe_cal c_plus (hr.mono (by decide)) rfl (pa_cons (pe_cal c_times (hr.mono (by decide)) rfl (pa_cons (pe_ix ix_tup (pv 1) pe_int (fun _ _ => rfl)) (pa_cons (pe_ix ix_tup (pv 2) pe_int (fun _ _ => rfl)) pa_nil))) (pa_cons (pe_ix ix_tup (pv 0) pe_int (fun _ _ => rfl)) pa_nil))) pa_nil))))), ?_⟩
  have lp := len_abs_mul (i := p1) (j := x)
  have lq := mul_len q1 x.natAbs
  refine ⟨_, rfl, n, _, _, _, rfl, rfl, hN, rfl, _, rfl, tn, ww, p1, x, rfl, wN, hW.k, by omega, by omega, fun t1 H1 s1 w1 => ?_⟩
  refine ⟨_, rfl, e, _, _, _, rfl, rfl, s1.tup hE, rfl, t1, te, _, p0, rfl, w1.k, wE.same s1, by omega, by omega, fun t2 H2 s2 w2 => ?_⟩
  have s02 := s1.trans s2
  refine ⟨_, rfl, n, _, _, _, rfl, rfl, s02.tup hN, rfl, _, rfl, ww, _, _, _, rfl, rfl, SqT.of (s02 _ _ hX), rfl, rn, rx, q1, x.natAbs, rfl, s02.tup hRn, SqT.of (s02 _ _ hRx), by omega, by omega, fun r3 H3 s3 h3 => ?_⟩
  have s03 := s02.trans s3
  refine ⟨_, rfl, e, _, _, _, rfl, rfl, s03.tup hE, rfl, r3, re, _, q0, rfl, SqT.of h3, s03.tup hRe, by omega, by omega, fun r4 H4 s4 h4 => ⟨(by show 2 ≤ sizeLine; decide), fun t ht => ?_⟩⟩
  exact q t _ (s03.trans (s4.trans (same_new ht _))) (FrH.new ht (w2.same (s3.trans s4)) h4)

abbrev sd_parted : Stmt := top 37
abbrev nm_parted : List Str := ["one", "other", "cut", "steps"]
abbrev pr_parted : List Str := ["one", "other"]
theorem sc_parted : FnScope nm_parted pr_parted (defScope sd_parted) := ⟨rfl, rfl, rfl, by decide +kernel, rfl, by decide +kernel, by decide +kernel⟩
abbrev cn_parted_1 : List Str := ["step"]
theorem nd_parted_1 : cn_parted_1.Nodup := by decide +kernel
abbrev cn_parted_2 : List Str := ["step"]
theorem nd_parted_2 : cn_parted_2.Nodup := by decide +kernel
/-- parted: how often the second one goes in, and what is left; ByNought by nought -/
def sp_parted (K : PySem.W.Frag) : Sp := fun vs H Q E => ∃ (a b : Addr) (m n : Nat), vs = [.ref a, .ref b] ∧ H a = some (.tup (lv (limbs m))) ∧ H b = some (.tup (lv (limbs n))) ∧ (limbs m).length ≤ 80000 ∧ (limbs n).length ≤ 80000 ∧
  ((0 < n ∧ ∀ (t r1 r2 : Addr) (H' : Hp), Same H H' → H' t = some (.tup [.ref r1, .ref r2]) → H' r1 = some (.tup (lv (limbs (m / n)))) → H' r2 = some (.tup (lv (limbs (m % n)))) → Q (.ref t) H') ∨ (n = 0 ∧ ∀ C, PySem.W.nsIn K mainGlobals "ByNought" = some (some (.ref C)) → E (.ref C) none H))
theorem ok_parted {P : Program} {w : World} {K : PySem.W.Frag} {mg : Str → Option Value} {base : Heap} {f : Addr} {fd : FuncData} (D : DefAt K mg "parted" sd_parted pr_parted f fd) (B : Glb K mg) (c_refuse_nought : Cal P w K mg base 1 "refuse_nought" pr_refuse_nought (sp_refuse_nought K)) (c_steps_through : Cal P w K mg base 5 "steps_through" pr_steps_through (sp_steps_through K)) (c_trimmed : Cal P w K mg base 1 "trimmed" pr_trimmed (sp_trimmed K)) : Cal P w K mg base 6 "parted" pr_parted (sp_parted K) := by
  refine D.calX sc_parted (fun vs H Q E h => ?_) (fun cdv A outer s H vs Q E hr h => ?_)
  · obtain ⟨a, b, m, n, rfl, _⟩ := h
    rfl
  obtain ⟨a, b, m, n, rfl, hA, hB, hm, hn, q⟩ := h
  rcases q with ⟨h0, q⟩ | ⟨h0, q⟩
  case inr =>
    refine ⟨_, (pss_cons (ps_expr (pe_calS c_refuse_nought passX.s (hr.mono (by decide)) rfl (pa_cons (pv 1) pa_nil)))
    (pss_cons (ps_set (i := 2) sc_parted.nd rfl (Or.inl rfl) (pe_callB (call_max2 rfl) rfl B.max_ PyProof.Rows.boot_max (pa_cons (pe_op op_add (pe_op op_sub (pe_callB call_len_seq rfl B.len_ PySem.boot_len (pa_cons (pv 0) pa_nil)) (pe_callB call_len_seq rfl B.len_ PySem.boot_len (pa_cons (pv 1) pa_nil))) pe_int) (pa_cons pe_int pa_nil))))
    (pss_cons (ps_set (i := 3) sc_parted.nd rfl (Or.inl rfl) (pe_calS c_steps_through passX.s (hr.mono (by decide)) rfl (pa_cons (pe_slice sl_tupA (pv 0) po_none (po_some (pv 2))) (pa_cons (pe_slice sl_tupA (pv 0) (po_some (pv 2)) po_none) (pa_cons (pv 1) pa_nil)))))
    (pss_cons (ps_if (pt_cmpR op_eq (pe_callB call_len_seq rfl B.len_ PySem.boot_len (pa_cons (pv 3) pa_nil)) pe_int (nomark _)) (pss_one (ps_ret (pe_tup (pa_cons (pe_tup pa_nil) (pa_cons (pv 0) pa_nil))))) pss_nil)
    (pss_one (ps_ret (pe_tup (pa_cons (pe_cal c_trimmed (hr.mono (by decide)) rfl (pa_cons (pe_comp cn_parted_1 [none] (defScope sd_parted) nm_parted rfl (pi_revL rfl B.reversed_ (pa_cons (pv 3) pa_nil)) (fun _ _ _ _ _ => ⟨(pg_name (i := 0) nd_parted_1 rfl (Or.inl rfl) (Or.inr rfl)), pts_nil, (pe_ix (IxR.k (K := K) (r := rIxT) rfl ix_tup) (pv 0) pe_int (fun _ _ => rfl))⟩)) pa_nil)) (pa_cons (pe_ix ix_tup (pe_ix ix_list (pv 3) (pe_un un_neg pe_int) (fun _ _ => rfl)) pe_int (fun _ _ => rfl)) pa_nil))))))))), ?_⟩
    exact ⟨_, rfl, b, n, rfl, SqT.of hB, .inr ⟨h0, q⟩⟩
  have la : (lv (limbs m)).length = (limbs m).length := lv_length _
  have lb : (lv (limbs n)).length = (limbs n).length := lv_length _
  have hn1 : 0 < (limbs n).length := len_pos h0
  obtain ⟨tR, pR, qR⟩ : ∃ t, PSs (cxOf (CX1 P w) P w K mg base nm_parted "parted" (defScope sd_parted) f cdv A outer s H E) ((defBody sd_parted).drop 2) t ∧ ∀ cut : Nat, cut = (limbs m).length + 1 - (limbs n).length → t { nx := fun _ H' => Q .non H', rt := Q } [some (.ref a), some (.ref b), some (.int (cut : Int)), none] H := by
    refine ⟨_, (pss_cons (ps_set (i := 3) sc_parted.nd rfl (Or.inl rfl) (pe_calS c_steps_through passX.s (hr.mono (by decide)) rfl (pa_cons (pe_slice sl_tupA (pv 0) po_none (po_some (pv 2))) (pa_cons (pe_slice sl_tupA (pv 0) (po_some (pv 2)) po_none) (pa_cons (pv 1) pa_nil)))))
    (pss_cons (ps_if (pt_cmpR op_eq (pe_callB call_len_seq rfl B.len_ PySem.boot_len (pa_cons (pv 3) pa_nil)) pe_int (nomark _)) (pss_one (ps_ret (pe_tup (pa_cons (pe_tup pa_nil) (pa_cons (pv 0) pa_nil))))) pss_nil)
    (pss_one (ps_ret (pe_tup (pa_cons (pe_cal c_trimmed (hr.mono (by decide)) rfl (pa_cons (pe_comp cn_parted_2 [none] (defScope sd_parted) nm_parted rfl (pi_revL rfl B.reversed_ (pa_cons (pv 3) pa_nil)) (fun _ _ _ _ _ => ⟨(pg_name (i := 0) nd_parted_2 rfl (Or.inl rfl) (Or.inr rfl)), pts_nil, (pe_ix (IxR.k (K := K) (r := rIxT) rfl ix_tup) (pv 0) pe_int (fun _ _ => rfl))⟩)) pa_nil)) (pa_cons (pe_ix ix_tup (pe_ix ix_list (pv 3) (pe_un un_neg pe_int) (fun _ _ => rfl)) pe_int (fun _ _ => rfl)) pa_nil))))))), fun cut hcut => ?_⟩
    have hrl := rest_lt (n := m) h0
    rw [← hcut] at hrl
    have hac := allOf_cut m cut
    have hlen : ((limbs m).take cut).length = cut := by rw [List.length_take]; omega
    refine ⟨_, rfl, _, rfl, _, rfl, ?_⟩
    refine sl_to hA fun H1 g1 s1 h1 => ?_
    refine ⟨_, rfl, _, rfl, _, rfl, ?_⟩
    dsimp only [tNoPart]
    refine sl_from (s1 _ _ hA) fun H2 g2 s2 h2 => ?_
    rw [drop_limbs] at h2
    have s12 := s1.trans s2
    refine ⟨_, rfl, g1, g2, b, (limbs m).take cut, m / 65536 ^ cut, n, rfl, SqT.of (s2 _ _ h1), (limbs_dig m).take cut, h2, s12 _ _ hB, hrl, by omega, hn, fun p H3 s3 hp hst => ?_⟩
    rw [hac, hlen] at hst
    obtain ⟨ts, hts, htl, htg⟩ := hst
    have s13 := s12.trans s3
    refine ⟨_, rfl, p, _, rfl, .inl (SqL.of hts), rfl, _, rfl, iteD (fun c => ?_) (fun c => ?_)⟩
    · injection c with c
      rw [List.length_map, htl] at c
      have hmn : m < n := by
        have e0 : cut = 0 := by omega
        rw [e0, Nat.pow_zero, Nat.div_one] at hrl
        exact hrl
      refine ⟨(by show 0 ≤ sizeLine; decide), fun e he => ⟨_, rfl, (by show 2 ≤ sizeLine; decide), fun t ht => ?_⟩⟩
      have se := same_new he (.tup [])
      have st := same_new ht (.tup [.ref e, .ref a])
      refine q t e a _ (s13.trans (se.trans st)) upd_same (st _ _ ?_) (st _ _ (se _ _ (s13 _ _ ?_)))
      · rw [upd_same, Nat.div_eq_of_lt hmn, limbs_zero]
        rfl
      · rw [Nat.mod_eq_of_lt hmn]
        exact hA
    · have hc0 : 0 < cut := by
        rcases Nat.eq_zero_or_pos cut with z | z
        · exact absurd (by rw [List.length_map, htl, z]; rfl) c
        · exact z
      have hq : m / n < 65536 ^ cut := by
        refine Nat.div_lt_of_lt_mul ?_
        have := allOf_lt (l := (limbs m).take cut) ((limbs_dig m).take cut) hrl
        rw [hac, hlen] at this
        exact this
      have lts : (ts.map V.ref).length = cut := by rw [List.length_map, htl]
      refine ⟨_, rfl, p, ts.map V.ref, rfl, SqL.of hts, fun l hl => ?_⟩
      refine ⟨fun i w ys σ1 H4 => w = cut - i ∧ i ≤ cut ∧ (∃ x, σ1 = [x]) ∧ ys = lv (lows (m / n) i) ∧ Same H3 H4 ∧ H4 l = some (.lst ys), ⟨cut, rfl, by omega, ⟨_, rfl⟩, rfl, same_new hl _, upd_same⟩, ?_⟩
      rintro i w ys σ1 H4 ⟨rfl, hi, ⟨x, rfl⟩, rfl, s4, hl4⟩
      refine ⟨hl4, ?_⟩
      by_cases hik : i < cut
      · refine .inr ⟨⟨SqL.of (s4 _ _ hts), by rw [lts]; exact hik⟩, by rw [lv_length, lows_length]; exact lt_line (by omega), ?_⟩
        rintro x3 H5 ⟨rfl, hx3⟩
        rw [lts, List.getElem?_map] at hx3
        obtain ⟨t, ht⟩ : ∃ t, ts[cut - 1 - i]? = some t := ⟨_, List.getElem?_eq_getElem (by omega)⟩
        rw [ht] at hx3
        cases hx3
        obtain ⟨r, g1, _⟩ := htg _ t ht
        dsimp only at g1
        rw [show cut - 1 - (cut - 1 - i) = i by omega] at g1
        refine ⟨_, rfl, t, _, _, _, rfl, rfl, SqT.of (s4 _ _ g1), rfl, ?_⟩
        refine ⟨hl4, cut - (i + 1), by omega, rfl, by omega, ⟨_, rfl⟩, ?_, fun b o hb => ?_, upd_same⟩
        · rw [lows_succ, lv_snoc]
        · rw [upd_ne (ne_of_none hb hl)]
          exact s4 _ _ hb
      · have eik : i = cut := by omega
        subst eik
        refine .inl ⟨⟨SqL.of (s4 _ _ hts), lts⟩, ?_⟩
        refine ⟨l, lows (m / n) i, rfl, .inl (SqL.of hl4), lows_dig _ _, by rw [lows_length]; omega, fun r5 H5 s5 h5 => ?_⟩
        rw [val_lows_all hq] at h5
        obtain ⟨t, ht⟩ : ∃ t, ts[i - 1]? = some t := ⟨_, List.getElem?_eq_getElem (by omega)⟩
        obtain ⟨r, g1, g2⟩ := htg _ t ht
        dsimp only at g2
        rw [Nat.sub_self, Nat.pow_zero, Nat.div_one] at g2
        have s45 := s4.trans s5
        have hx : atI (ts.map V.ref) (-1) = some (.ref t) := by
          have e : ts = ts.take (i - 1) ++ [t] := by
            have e1 := List.take_add_one (l := ts) (i := i - 1)
            rw [ht, show i - 1 + 1 = ts.length by omega, List.take_length] at e1
            exact e1
          rw [e, List.map_append]
          exact atI_last _ _
        refine ⟨_, rfl, _, rfl, p, _, _, _, rfl, rfl, SqL.of (s45 _ _ hts), hx, t, _, _, _, rfl, rfl, SqT.of (s45 _ _ g1), rfl, (by show 2 ≤ sizeLine; decide), fun t6 ht6 => ?_⟩
        have s6 := same_new ht6 (.tup [.ref r5, .ref r])
        exact q t6 r5 r _ (s13.trans (s45.trans s6)) upd_same (s6 _ _ h5) (s6 _ _ (s45 _ _ g2))
  refine ⟨_, (pss_cons (ps_expr (pe_calS c_refuse_nought passX.s (hr.mono (by decide)) rfl (pa_cons (pv 1) pa_nil)))
    (pss_cons (ps_set (i := 2) sc_parted.nd rfl (Or.inl rfl) (pe_callB (call_max2 rfl) rfl B.max_ PyProof.Rows.boot_max (pa_cons (pe_op op_add (pe_op op_sub (pe_callB call_len_seq rfl B.len_ PySem.boot_len (pa_cons (pv 0) pa_nil)) (pe_callB call_len_seq rfl B.len_ PySem.boot_len (pa_cons (pv 1) pa_nil))) pe_int) (pa_cons pe_int pa_nil))))
    pR)), ?_⟩
  refine ⟨_, rfl, b, n, rfl, SqT.of hB, .inl ⟨h0, ?_⟩⟩
  refine ⟨_, rfl, a, _, rfl, .inr (SqT.of hA), _, rfl, b, _, rfl, .inr (SqT.of hB), _, _, rfl, rfl, _, _, rfl, rfl, _, _, rfl, ?_⟩
  have e2 : (if (0 : Int) > (((lv (limbs m)).length : Nat) : Int) - (((lv (limbs n)).length : Nat) : Int) + 1 then (0 : Int) else (((lv (limbs m)).length : Nat) : Int) - (((lv (limbs n)).length : Nat) : Int) + 1) = (((limbs m).length + 1 - (limbs n).length : Nat) : Int) := by
    rw [la, lb]
    split <;> omega
  have q2 := qR ((limbs m).length + 1 - (limbs n).length) rfl
  rw [← e2] at q2
  exact q2

abbrev sd_frac_ranked : Stmt := top 52
abbrev nm_frac_ranked : List Str := ["one", "other"]
abbrev pr_frac_ranked : List Str := ["one", "other"]
theorem sc_frac_ranked : FnScope nm_frac_ranked pr_frac_ranked (defScope sd_frac_ranked) := ⟨rfl, rfl, rfl, by decide +kernel, rfl, by decide +kernel, by decide +kernel⟩
theorem ok_frac_ranked {P : Program} {w : World} {K : PySem.W.Frag} {mg : Str → Option Value} {base : Heap} {f : Addr} {fd : FuncData} (D : DefAt K mg "frac_ranked" sd_frac_ranked pr_frac_ranked f fd) (B : Glb K mg) (c_ranked : Cal P w K mg base 2 "ranked" pr_ranked (sp_ranked K)) (c_across : Cal P w K mg base 5 "across" pr_across (sp_across K)) : Cal P w K mg base 6 "frac_ranked" pr_frac_ranked (sp_frac_ranked K) := by
  refine D.cal sc_frac_ranked (fun vs H Q E h => ?_) (fun cdv A outer s H vs Q E hr h => ?_)
  · obtain ⟨a, b, p, q, p', q', rfl, _⟩ := h
    rfl
  obtain ⟨a, b, p, n, p', n', rfl, fA, fB, hn, hn', hg, hg', l1, l2, l3, l4, q⟩ := h
  refine ⟨_, (pss_one (ps_ret (pe_cal c_ranked (hr.mono (by decide)) rfl (pa_cons (pe_cal c_across (hr.mono (by decide)) rfl (pa_cons (pv 0) (pa_cons (pv 1) pa_nil))) (pa_cons (pe_cal c_across (hr.mono (by decide)) rfl (pa_cons (pv 1) (pa_cons (pv 0) pa_nil))) pa_nil))))), ?_⟩
  have m1 := len_prod p.natAbs n'
  have e1 : (p * (n' : Int)).natAbs = p.natAbs * n' := by rw [Int.natAbs_mul, Int.natAbs_natCast]
  refine ⟨_, rfl, _, rfl, a, b, p, n, p', n', rfl, fA, fB, hn', by omega, by omega, fun t1 H1 s1 w1 => ?_⟩
  refine ⟨_, rfl, _, rfl, b, a, p', n', p, n, rfl, fB.same s1, fA.same s1, hn, by omega, by omega, fun t2 H2 s2 w2 => ?_⟩
  exact ⟨t1, t2, _, _, rfl, w1.same s2, w2, by rw [e1]; omega, q H2 (s1.trans s2)⟩

abbrev sd_gap_of : Stmt := top 66
abbrev nm_gap_of : List Str := ["fraction", "one", "other"]
abbrev pr_gap_of : List Str := ["fraction", "one", "other"]
theorem sc_gap_of : FnScope nm_gap_of pr_gap_of (defScope sd_gap_of) := ⟨rfl, rfl, rfl, by decide +kernel, rfl, by decide +kernel, by decide +kernel⟩
/-- gap_of: how far one is from another, times the lower numbers -/
def sp_gap_of (_K : PySem.W.Frag) : Sp := fun vs H Q _ => ∃ (f o t : Addr) (p : Int) (q : Nat) (p1 : Int) (q1 : Nat) (p2 : Int) (q2 : Nat), vs = [.ref f, .ref o, .ref t] ∧ FrH H f p q ∧ FrH H o p1 q1 ∧ FrH H t p2 q2 ∧ 0 < q ∧ 0 < q1 ∧ (limbs p.natAbs).length ≤ 1000 ∧ (limbs q).length ≤ 1000 ∧ (limbs p1.natAbs).length ≤ 1000 ∧ (limbs q1).length ≤ 1000 ∧ (limbs q2).length ≤ 1000 ∧
  ∀ (r : Addr) (H' : Hp), Same H H' → H' r = some (.tup (lv (limbs (off p (q : Int) p1 (q1 : Int) * q2)))) → Q (.ref r) H'
theorem ok_gap_of {P : Program} {w : World} {K : PySem.W.Frag} {mg : Str → Option Value} {base : Heap} {f : Addr} {fd : FuncData} (D : DefAt K mg "gap_of" sd_gap_of pr_gap_of f fd) (B : Glb K mg) (c_times : Cal P w K mg base 3 "times" pr_times (sp_times K)) (c_taken : Cal P w K mg base 5 "taken" pr_taken (sp_taken K)) (c_across : Cal P w K mg base 5 "across" pr_across (sp_across K)) : Cal P w K mg base 6 "gap_of" pr_gap_of (sp_gap_of K) := by
  refine D.calX sc_gap_of (fun vs H Q E h => ?_) (fun cdv A outer s H vs Q E hr h => ?_)
  · obtain ⟨f, o, t, p, q, p1, q1, p2, q2, rfl, _⟩ := h
    rfl
  obtain ⟨fr, o, t, p, n, p1, n1, p2, n2, rfl, fF, fO, fT, hn, hn1, l1, l2, l3, l4, l5, q⟩ := h
  obtain ⟨tt, rt, hT, wT, hRt⟩ := id fT
  refine ⟨_, (pss_one (ps_ret (pe_cal c_times (hr.mono (by decide)) rfl (pa_cons (pe_ix ix_tup (pe_calS c_taken passX.s (hr.mono (by decide)) rfl (pa_cons (pe_cal c_across (hr.mono (by decide)) rfl (pa_cons (pv 0) (pa_cons (pv 1) pa_nil))) (pa_cons (pe_cal c_across (hr.mono (by decide)) rfl (pa_cons (pv 1) (pa_cons (pv 0) pa_nil))) pa_nil))) pe_int (fun _ _ => rfl)) (pa_cons (pe_ix ix_tup (pv 2) pe_int (fun _ _ => rfl)) pa_nil))))), ?_⟩
  have m1 := len_prod p.natAbs n1
  have m2 := len_prod p1.natAbs n
  have e1 : (p * (n1 : Int)).natAbs = p.natAbs * n1 := by rw [Int.natAbs_mul, Int.natAbs_natCast]
  have e2 : (p1 * (n : Int)).natAbs = p1.natAbs * n := by rw [Int.natAbs_mul, Int.natAbs_natCast]
  have m3 := len_sum (i := p * (n1 : Int)) (j := -(p1 * (n : Int))) (k := 2000) (by rw [e1]; omega) (by rw [Int.natAbs_neg, e2]; omega)
  rw [← Int.sub_eq_add_neg] at m3
  refine ⟨_, rfl, _, rfl, fr, o, p, n, p1, n1, rfl, fF, fO, hn1, by omega, by omega, fun t1 H1 s1 w1 => ?_⟩
  refine ⟨_, rfl, _, rfl, o, fr, p1, n1, p, n, rfl, fO.same s1, fF.same s1, hn, by omega, by omega, fun t2 H2 s2 w2 => ?_⟩
  have w1' := w1.same s2
  refine ⟨t1, t2, _, _, rfl, (by first | exact w1' | exact w1'.k), (by first | exact w2 | exact w2.k), by rw [e1]; omega, by rw [e2]; omega, fun t3 H3 s3 w3 => ?_⟩
  obtain ⟨r3, hT3, hR3⟩ := id w3
  have s13 := s1.trans (s2.trans s3)
  refine ⟨t3, _, _, _, rfl, rfl, SqT.of hT3, rfl, _, rfl, t, _, _, _, rfl, rfl, SqT.of (s13 _ _ hT), rfl, r3, rt, _, n2, rfl, SqT.of hR3, SqT.of (s13 _ _ hRt), by omega, by omega, fun r4 H4 s4 h4 => q r4 H4 (s13.trans s4) h4⟩

abbrev sd_common_of : Stmt := top 39
abbrev nm_common_of : List Str := ["one", "other", "quotients", "first", "second", "pair"]
abbrev pr_common_of : List Str := ["one", "other"]
theorem sc_common_of : FnScope nm_common_of pr_common_of (defScope sd_common_of) := ⟨rfl, rfl, rfl, by decide +kernel, rfl, by decide +kernel, by decide +kernel⟩
/-- common_of: what two have in common, and the quotients on the way -/
def sp_common_of (K : PySem.W.Frag) : Sp := fun vs H Q _ => ∃ (a b : Addr) (m n : Nat), vs = [.ref a, .ref b] ∧ H a = some (.tup (lv (limbs m))) ∧ H b = some (.tup (lv (limbs n))) ∧ (limbs m).length ≤ 1000 ∧ (limbs n).length ≤ 1000 ∧
  ∀ (t r l : Addr) (H' : Hp), Same H H' → H l = none → H' t = some (.tup [.ref r, .ref l]) → H' r = some (.tup (lv (limbs (Nat.gcd m n)))) → NatsH H' l (eucl m n) → Q (.ref t) H'
/-- how many steps there are at most -/
theorem eucl_len : ∀ (k x y : Nat), x < 2 ^ k → y ≤ x → (eucl x y).length ≤ 2 * k + 1
  | 0, x, y, hx, hy => by
    have : y = 0 := by simp at hx; omega
    rw [this, eucl_zero]
    exact Nat.zero_le _
  | k + 1, x, y, hx, hy => by
    rcases Nat.eq_zero_or_pos y with z | z
    · rw [z, eucl_zero]
      exact Nat.zero_le _
    rw [eucl_pos z]
    rcases Nat.eq_zero_or_pos (x % y) with w | w
    · rw [w, eucl_zero]
      simp only [List.length_cons, List.length_nil]
      omega
    rw [eucl_pos w]
    have hr := Nat.mod_lt x z
    have h2 : 2 * (x % y) < 2 ^ (k + 1) := by
      have e := Nat.div_add_mod x y
      have hq : 1 ≤ x / y := Nat.div_pos hy z
      have : y * 1 ≤ y * (x / y) := Nat.mul_le_mul_left _ hq
      omega
    have ih := eucl_len k (x % y) (y % (x % y)) (by rw [Nat.pow_succ] at h2; omega) (Nat.le_of_lt (Nat.mod_lt _ w))
    simp only [List.length_cons]
    omega
theorem eucl_few {m n k : Nat} (hm : (limbs m).length ≤ k) (hn : (limbs n).length ≤ k) : (eucl m n).length ≤ 32 * k + 2 := by
  have b : ∀ z : Nat, (limbs z).length ≤ k → z < 2 ^ (16 * k) := fun z hz => by
    rw [pow16]
    exact Nat.lt_of_lt_of_le (lt_pow_len z) (Nat.pow_le_pow_right (by decide) hz)
  rcases Nat.eq_zero_or_pos n with z | z
  · rw [z, eucl_zero]
    exact Nat.zero_le _
  rw [eucl_pos z]
  have := eucl_len (16 * k) n (m % n) (b n hn) (Nat.le_of_lt (Nat.mod_lt _ z))
  simp only [List.length_cons]
  omega
theorem ok_common_of {P : Program} {w : World} {K : PySem.W.Frag} {mg : Str → Option Value} {base : Heap} {f : Addr} {fd : FuncData} (D : DefAt K mg "common_of" sd_common_of pr_common_of f fd) (B : Glb K mg) (c_parted : Cal P w K mg base 6 "parted" pr_parted (sp_parted K)) : Cal P w K mg base 7 "common_of" pr_common_of (sp_common_of K) := by
  refine D.calX sc_common_of (fun vs H Q E h => ?_) (fun cdv A outer s H vs Q E hr h => ?_)
  · obtain ⟨a, b, m, n, rfl, _⟩ := h
    rfl
  obtain ⟨a, b, m, n, rfl, hA, hB, hm, hn, q⟩ := h
  refine ⟨_, (pss_cons (ps_set (i := 2) sc_common_of.nd rfl (Or.inl rfl) (pe_lst pa_nil))
    (pss_cons (ps_set (i := 3) sc_common_of.nd rfl (Or.inl rfl) (pv 0))
    (pss_cons (ps_set (i := 4) sc_common_of.nd rfl (Or.inl rfl) (pv 1))
    (pss_cons (PS.nox (ps_while PassesOwn.never (pt_cmpR op_gt (pe_callB call_len_seq rfl B.len_ PySem.boot_len (pa_cons (pv 4) pa_nil)) pe_int (nomark _)) (pss_cons (ps_set (i := 5) sc_common_of.nd rfl (Or.inl rfl) (pe_cal c_parted (hr.mono (by decide)) rfl (pa_cons (pv 3) (pa_cons (pv 4) pa_nil))))
    (pss_cons (ps_expr (pe_bm PySem.F.plainAttrs_list PySem.F.slot_list_append PySem.F.type_list_append mt_append (pv 2) (pa_cons (pe_ix ix_tup (pv 5) pe_int (fun _ _ => rfl)) pa_nil)))
    (pss_cons (ps_set (i := 3) sc_common_of.nd rfl (Or.inl rfl) (pv 4))
    (pss_one (ps_set (i := 4) sc_common_of.nd rfl (Or.inl rfl) (pe_ix ix_tup (pv 5) pe_int (fun _ _ => rfl)))))))))
    (pss_one (ps_ret (pe_tup (pa_cons (pv 3) (pa_cons (pv 2) pa_nil))))))))), ?_⟩
  have few := eucl_few hm hn
  refine ⟨(by show 0 ≤ sizeLine; decide), fun p hp => ⟨_, rfl, _, rfl, ?_⟩⟩
  have s0 : Same H (upd H p (.lst [])) := same_new hp _
  refine ⟨fun w σ H1 => ∃ (x y : Nat) (r1 r2 : Addr) (u : Option V) (rs : List Addr) (ns : List Nat), w = y ∧ σ = [some (.ref a), some (.ref b), some (.ref p), some (.ref r1), some (.ref r2), u] ∧ Same H H1 ∧ H1 r1 = some (.tup (lv (limbs x))) ∧ H1 r2 = some (.tup (lv (limbs y))) ∧ (limbs x).length ≤ 1000 ∧ (limbs y).length ≤ 1000 ∧
      Nat.gcd x y = Nat.gcd m n ∧ ns ++ eucl x y = eucl m n ∧ H1 p = some (.lst (rs.map V.ref)) ∧ rs.length = ns.length ∧ ∀ (i : Nat) r z, rs[i]? = some r → ns[i]? = some z → H1 r = some (.tup (lv (limbs z))),
    ⟨n, m, n, a, b, none, [], [], rfl, rfl, s0, s0 _ _ hA, s0 _ _ hB, hm, hn, rfl, rfl, upd_same, rfl, fun i r z h => by simp at h⟩, ?_⟩
  rintro w σ H1 ⟨x, y, r1, r2, u, rs, ns, rfl, rfl, s1, h1, h2, hx, hy, hg, he, hl, hrl, hrs⟩
  have ly : (lv (limbs w)).length = (limbs w).length := lv_length _
  have elen : ns.length + (eucl x w).length = (eucl m n).length := by rw [← he, List.length_append]
  refine ⟨_, rfl, r2, _, rfl, .inr (SqT.of h2), _, _, rfl, rfl, _, rfl, iteD (fun c => ?_) (fun c => ?_)⟩
  · have hw : 0 < w := by
      rcases Nat.eq_zero_or_pos w with z | z
      · rw [z, limbs_zero] at c
        exact absurd c (by decide)
      · exact z
    refine ⟨fun σ' H' => ∃ m', m' < w ∧ ∃ (x y : Nat) (r1 r2 : Addr) (u : Option V) (rs : List Addr) (ns : List Nat), m' = y ∧ σ' = [some (.ref a), some (.ref b), some (.ref p), some (.ref r1), some (.ref r2), u] ∧ Same H H' ∧ H' r1 = some (.tup (lv (limbs x))) ∧ H' r2 = some (.tup (lv (limbs y))) ∧ (limbs x).length ≤ 1000 ∧ (limbs y).length ≤ 1000 ∧
      Nat.gcd x y = Nat.gcd m n ∧ ns ++ eucl x y = eucl m n ∧ H' p = some (.lst (rs.map V.ref)) ∧ rs.length = ns.length ∧ ∀ (i : Nat) r z, rs[i]? = some r → ns[i]? = some z → H' r = some (.tup (lv (limbs z))), fun _ _ z => z, ?_⟩
    refine ⟨_, rfl, _, rfl, r1, r2, x, w, rfl, h1, h2, by omega, by omega, .inl ⟨hw, fun t q1 q2 H2 s2 ht hq1 hq2 => ?_⟩⟩
    have hl2 := s2 _ _ hl
    refine ⟨_, rfl, .inl ⟨rfl, _, SqL.of hl2⟩, _, rfl, t, _, _, _, rfl, rfl, SqT.of ht, rfl, p, _, _, rfl, rfl, hl2, (by rw [List.length_map]; exact lt_line (by omega)), ?_⟩
    have hne : ∀ (c : Addr) o, H2 c = some (.tup o) → upd H2 p (.lst (rs.map V.ref ++ [.ref q1])) c = some (.tup o) := fun c o e => by
      rw [upd_ne (ne_of e hl2 (fun z => by cases z))]
      exact e
    obtain ⟨rs2, g1, g2, g3⟩ := NatsH.snoc hrl hrs hl s2 hq1
    refine ⟨_, rfl, _, rfl, t, _, _, _, rfl, rfl, SqT.of (hne _ _ ht), rfl, x % w, Nat.mod_lt _ hw, w, x % w, r2, q2, _, rs2, ns ++ [x / w], rfl, rfl, fun b o hb => ?_, hne _ _ (s2 _ _ h2), hne _ _ hq2, hy, Nat.le_trans (len_mono (Nat.le_of_lt (Nat.mod_lt _ hw))) hy, ?_, ?_, g1, g2, g3⟩
    · rw [upd_ne (ne_of_none hb hp)]
      exact s2 _ _ (s1 _ _ hb)
    · rw [← gcd_step]
      exact hg
    · rw [List.append_assoc, List.singleton_append, ← eucl_pos hw]
      exact he
  · have hw : w = 0 := by
      rcases Nat.eq_zero_or_pos w with z | z
      · exact z
      · have := len_pos z
        omega
    subst hw
    rw [eucl_zero, List.append_nil] at he
    rw [Nat.gcd_zero_right] at hg
    subst hg
    subst he
    refine ⟨_, rfl, _, rfl, (by show 2 ≤ sizeLine; decide), fun t ht => ?_⟩
    have st := same_new ht (.tup [.ref r1, .ref p])
    exact q t r1 p _ (s1.trans st) hp upd_same (st _ _ h1) ⟨rs, st _ _ hl, hrl, fun i r z e1 e2 => st _ _ (hrs i r z e1 e2)⟩

abbrev sd_rounded_size : Stmt := top 57
abbrev nm_rounded_size : List Str := ["sign", "above", "below", "way", "pair"]
abbrev pr_rounded_size : List Str := ["sign", "above", "below", "way"]
theorem sc_rounded_size : FnScope nm_rounded_size pr_rounded_size (defScope sd_rounded_size) := ⟨rfl, rfl, rfl, by decide +kernel, rfl, by decide +kernel, by decide +kernel⟩
/-- rounded_size: the natural that the size of a quotient is rounded to; ByNought by nought -/
def sp_rounded_size (K : PySem.W.Frag) : Sp := fun vs H Q E => ∃ (sg : Int) (a b : Addr) (v : V) (m n : Nat), vs = [.int sg, .ref a, .ref b, v] ∧ H a = some (.tup (lv (limbs m))) ∧ H b = some (.tup (lv (limbs n))) ∧ (limbs m).length ≤ 50000 ∧ (limbs n).length ≤ 50000 ∧ Course v ∧
  ((0 < n ∧ ∀ (r : Addr) (H' : Hp), Same H H' → H' r = some (.tup (lv (limbs (m / n + (if beyondC v sg (m / n) (m % n) n = true then 1 else 0))))) → Q (.ref r) H') ∨ (n = 0 ∧ ∀ C, PySem.W.nsIn K mainGlobals "ByNought" = some (some (.ref C)) → E (.ref C) none H))
theorem ok_rounded_size {P : Program} {w : World} {K : PySem.W.Frag} {mg : Str → Option Value} {base : Heap} {f : Addr} {fd : FuncData} (D : DefAt K mg "rounded_size" sd_rounded_size pr_rounded_size f fd) (B : Glb K mg) (c_parted : Cal P w K mg base 6 "parted" pr_parted (sp_parted K)) (c_goes_beyond : Cal P w K mg base 4 "goes_beyond" pr_goes_beyond (sp_goes_beyond K)) (c_plus : Cal P w K mg base 3 "plus" pr_plus (sp_plus K)) : Cal P w K mg base 7 "rounded_size" pr_rounded_size (sp_rounded_size K) := by
  refine D.calX sc_rounded_size (fun vs H Q E h => ?_) (fun cdv A outer s H vs Q E hr h => ?_)
  · obtain ⟨sg, a, b, v, m, n, rfl, _⟩ := h
    rfl
  obtain ⟨sg, a, b, v, m, n, rfl, hA, hB, hm, hn, hw, q⟩ := h
  refine ⟨_, (pss_cons (ps_set (i := 4) sc_rounded_size.nd rfl (Or.inl rfl) (pe_calS c_parted passX.s (hr.mono (by decide)) rfl (pa_cons (pv 1) (pa_cons (pv 2) pa_nil))))
    (pss_cons (ps_if (pt_val (pe_calS c_goes_beyond passX.s (hr.mono (by decide)) rfl (pa_cons (pv 0) (pa_cons (pe_ix ix_tup (pv 4) pe_int (fun _ _ => rfl)) (pa_cons (pe_ix ix_tup (pv 4) pe_int (fun _ _ => rfl)) (pa_cons (pv 2) (pa_cons (pv 3) pa_nil))))))) (pss_one (ps_ret (pe_cal c_plus (hr.mono (by decide)) rfl (pa_cons (pe_ix ix_tup (pv 4) pe_int (fun _ _ => rfl)) (pa_cons (pe_tup (pa_cons pe_int pa_nil)) pa_nil))))) pss_nil)
    (pss_one (ps_ret (pe_ix ix_tup (pv 4) pe_int (fun _ _ => rfl)))))), ?_⟩
  rcases q with ⟨hn0, q⟩ | ⟨hn0, q⟩
  case inr => exact ⟨_, rfl, _, rfl, a, b, m, n, rfl, hA, hB, by omega, by omega, .inr ⟨hn0, q⟩⟩
  refine ⟨_, rfl, _, rfl, a, b, m, n, rfl, hA, hB, by omega, by omega, .inl ⟨hn0, fun t1 x1 y1 H1 s1 ht1 hx1 hy1 => ?_⟩⟩
  have lr := len_mod (x := m) hn0
  have lq : (limbs (m / n)).length ≤ (limbs m).length := len_mono (Nat.div_le_self ..)
  refine ⟨_, rfl, _, rfl, t1, _, _, _, rfl, rfl, SqT.of ht1, rfl, _, rfl, t1, _, _, _, rfl, rfl, SqT.of ht1, rfl, _, rfl, _, rfl, _, x1, y1, b, v, _, _, _, rfl, hx1, hy1, s1 _ _ hB, by omega, hw, fun H2 s2 => ⟨_, rfl, ?_⟩⟩
  by_cases hb : beyondC v sg (m / n) (m % n) n = true
  · refine iteB hb ?_
    rw [if_pos hb] at q
    refine ⟨_, rfl, t1, _, _, _, rfl, rfl, SqT.of (s2 _ _ ht1), rfl, (by show 1 ≤ sizeLine; decide), fun p hp => ?_⟩
    have sp := same_new hp (.tup [.int 1])
    refine ⟨x1, p, _, 1, rfl, SqT.of (sp _ _ (s2 _ _ hx1)), SqT.of (by rw [upd_same, limbs_1]; rfl), by omega, by rw [limbs_1]; decide, fun r3 H3 s3 h3 => ?_⟩
    exact q r3 H3 (s1.trans (s2.trans (sp.trans s3))) h3
  · refine iteBF (Bool.eq_false_iff.mpr hb) ?_
    rw [if_neg hb] at q
    exact ⟨_, rfl, t1, _, _, _, rfl, rfl, SqT.of (s2 _ _ ht1), rfl, q x1 H2 (s1.trans s2) (s2 _ _ hx1)⟩

abbrev sd_fraction_of : Stmt := top 48
abbrev nm_fraction_of : List Str := ["above", "below", "common"]
abbrev pr_fraction_of : List Str := ["above", "below"]
theorem sc_fraction_of : FnScope nm_fraction_of pr_fraction_of (defScope sd_fraction_of) := ⟨rfl, rfl, rfl, by decide +kernel, rfl, by decide +kernel, by decide +kernel⟩
theorem sgn2 {i j : Int} (hi : i ≠ 0) (hj : j ≠ 0) : i.sign * j.sign = 1 ∨ i.sign * j.sign = -1 := by
  rw [sign_eq, sign_eq]
  repeat' split
  all_goals omega
theorem gcd_len {i j : Int} (hj : j ≠ 0) : (limbs (Nat.gcd i.natAbs j.natAbs)).length ≤ (limbs j.natAbs).length := len_mono (Nat.le_of_dvd (by omega) (Nat.gcd_dvd_right ..))
theorem ok_fraction_of {P : Program} {w : World} {K : PySem.W.Frag} {mg : Str → Option Value} {base : Heap} {f : Addr} {fd : FuncData} (D : DefG (some V.non) K mg "fraction_of" sd_fraction_of pr_fraction_of f fd) (B : Glb K mg) (c_refuse_nought : Cal P w K mg base 1 "refuse_nought" pr_refuse_nought (sp_refuse_nought K)) (c_common_of : Cal P w K mg base 7 "common_of" pr_common_of (sp_common_of K)) (c_signed : Cal P w K mg base 1 "signed" pr_signed (sp_signed K)) (c_parted : Cal P w K mg base 6 "parted" pr_parted (sp_parted K)) : CalG (some V.non) P w K mg base 8 "fraction_of" pr_fraction_of (sp_fraction_of K) := by
  refine D.calX sc_fraction_of (fun vs H Q E h => ?_) (fun cdv A outer s H vs Q E hr h => ?_)
  · obtain ⟨a, i, z, rfl, _⟩ := h
    rfl
  obtain ⟨a, i, z, rfl, hWa, hi, q⟩ := h
  obtain ⟨ra, hA, hRa⟩ := id hWa
  refine ⟨_, (pss_cons (ps_if (pt_cmpR op_isN (pv 1) pe_non (nomark _)) (pss_one (ps_ret (pe_tup (pa_cons (pv 0) (pa_cons (pe_tup (pa_cons pe_int pa_nil)) pa_nil))))) pss_nil)
    (pss_cons (ps_expr (pe_calS c_refuse_nought passX.s (hr.mono (by decide)) rfl (pa_cons (pe_ix ix_tup (pv 1) pe_int (fun _ _ => rfl)) pa_nil)))
    (pss_cons (ps_set (i := 2) sc_fraction_of.nd rfl (Or.inl rfl) (pe_ix ix_tup (pe_calS c_common_of passX.s (hr.mono (by decide)) rfl (pa_cons (pe_ix ix_tup (pv 0) pe_int (fun _ _ => rfl)) (pa_cons (pe_ix ix_tup (pv 1) pe_int (fun _ _ => rfl)) pa_nil))) pe_int (fun _ _ => rfl)))
    (pss_one (ps_ret (pe_tup (pa_cons (pe_cal c_signed (hr.mono (by decide)) rfl (pa_cons (pe_op op_mul (pe_ix ix_tup (pv 0) pe_int (fun _ _ => rfl)) (pe_ix ix_tup (pv 1) pe_int (fun _ _ => rfl))) (pa_cons (pe_ix ix_tup (pe_calS c_parted passX.s (hr.mono (by decide)) rfl (pa_cons (pe_ix ix_tup (pv 0) pe_int (fun _ _ => rfl)) (pa_cons (pv 2) pa_nil))) pe_int (fun _ _ => rfl)) pa_nil))) (pa_cons (pe_ix ix_tup (pe_calS c_parted passX.s (hr.mono (by decide)) rfl (pa_cons (pe_ix ix_tup (pv 1) pe_int (fun _ _ => rfl)) (pa_cons (pv 2) pa_nil))) pe_int (fun _ _ => rfl)) pa_nil)))))))), ?_⟩
  rcases q with ⟨rfl, q⟩ | ⟨b, j, rfl, hWb, hj, q⟩
  · refine ⟨_, rfl, rfl, _, rfl, iteDT rfl ?_⟩
    refine ⟨_, rfl, (by show 1 ≤ sizeLine; decide), fun p hp => ⟨(by show 2 ≤ sizeLine; decide), fun t ht => ?_⟩⟩
    have sp := same_new hp (.tup [.int 1])
    obtain ⟨e1, e2⟩ := low_is (a := i) (b := 1) (p := i) (q := 1) (by decide) (by decide) (Nat.gcd_one_right _) rfl
    refine q t _ (sp.trans (same_new ht _)) ?_
    rw [← e1, ← e2]
    exact FrH.new ht (hWa.same sp) (by rw [upd_same, limbs_1]; rfl)
  obtain ⟨rb, hB, hRb⟩ := id hWb
  refine ⟨_, rfl, rfl, _, rfl, iteDF (fun y => by cases y) ?_⟩
  have hbd := sign_bd i
  rcases q with ⟨hj0, q⟩ | ⟨hj0, q⟩
  case inr => exact ⟨_, rfl, b, _, _, _, rfl, rfl, SqT.of hB, rfl, rb, j.natAbs, rfl, SqT.of hRb, .inr ⟨by omega, q⟩⟩
  refine ⟨_, rfl, b, _, _, _, rfl, rfl, SqT.of hB, rfl, rb, j.natAbs, rfl, SqT.of hRb, .inl ⟨by omega, ?_⟩⟩
  refine ⟨_, rfl, a, _, _, _, rfl, rfl, SqT.of hA, rfl, _, rfl, b, _, _, _, rfl, rfl, SqT.of hB, rfl, ra, rb, i.natAbs, j.natAbs, rfl, hRa, hRb, by omega, by omega, fun t1 r1 l1 H1 s1 _ ht1 hr1 _ => ⟨t1, _, _, _, rfl, rfl, SqT.of ht1, rfl, ?_⟩⟩
  have hg0 : 0 < Nat.gcd i.natAbs j.natAbs := gcd_pos_b hj0
  have lg := gcd_len (i := i) hj0
  refine ⟨_, rfl, a, _, _, _, rfl, rfl, SqT.of (s1 _ _ hA), rfl, _, rfl, b, _, _, _, rfl, rfl, SqT.of (s1 _ _ hB), rfl, _, _, rfl, rfl, .inl ⟨by omega, by omega⟩, ?_⟩
  refine ⟨_, rfl, a, _, _, _, rfl, rfl, SqT.of (s1 _ _ hA), rfl, _, rfl, ra, r1, i.natAbs, _, rfl, s1 _ _ hRa, hr1, by omega, by omega, .inl ⟨hg0, fun t2 x2 y2 H2 s2 ht2 hx2 hy2 => ⟨t2, _, _, _, rfl, rfl, SqT.of ht2, rfl, ?_⟩⟩⟩
  refine ⟨_, x2, _, rfl, hx2, fun h0 => sgn2 (fun y => ?_) hj0, fun t3 H3 s3 w3 => ?_⟩
  · rw [y] at h0
    simp at h0
  have s13 := s1.trans (s2.trans s3)
  refine ⟨_, rfl, b, _, _, _, rfl, rfl, SqT.of (s13 _ _ hB), rfl, _, rfl, rb, r1, j.natAbs, _, rfl, s13 _ _ hRb, s3 _ _ (s2 _ _ hr1), by omega, by omega, .inl ⟨hg0, fun t4 x4 y4 H4 s4 ht4 hx4 hy4 => ⟨t4, _, _, _, rfl, rfl, SqT.of ht4, rfl, (by show 2 ≤ sizeLine; decide), fun t ht => ?_⟩⟩⟩
  exact q t _ (s13.trans (s4.trans (same_new ht _))) (FrH.new ht (w3.same s4) hx4)

abbrev sd_divided : Stmt := top 60
abbrev nm_divided : List Str := ["one", "other", "way", "sign", "quotient"]
abbrev pr_divided : List Str := ["one", "other", "way"]
theorem sc_divided : FnScope nm_divided pr_divided (defScope sd_divided) := ⟨rfl, rfl, rfl, by decide +kernel, rfl, by decide +kernel, by decide +kernel⟩
/-- divided: quotient and rest by a way; NoWay, then ByNought -/
def sp_divided (K : PySem.W.Frag) : Sp := fun vs H Q E => ∃ (a b : Addr) (v : V) (i j : Int), vs = [.ref a, .ref b, v] ∧ WhH H a i ∧ WhH H b j ∧ (limbs i.natAbs).length ≤ 10000 ∧ (limbs j.natAbs).length ≤ 10000 ∧
  ((Way v ∧ j ≠ 0 ∧ ∀ (t t1 t2 : Addr) (H' : Hp), Same H H' → H' t = some (.tup [.ref t1, .ref t2]) → WhH H' t1 (quotW v i j) → WhH H' t2 (i - quotW v i j * j) → Q (.ref t) H') ∨
   (Way v ∧ j = 0 ∧ ∀ C, PySem.W.nsIn K mainGlobals "ByNought" = some (some (.ref C)) → E (.ref C) none H) ∨
   (OddV H v ∧ ∀ C, PySem.W.nsIn K mainGlobals "NoWay" = some (some (.ref C)) → E (.ref C) none H))
theorem ok_divided {P : Program} {w : World} {K : PySem.W.Frag} {mg : Str → Option Value} {base : Heap} {f : Addr} {fd : FuncData} (D : DefG (some (.str "down")) K mg "divided" sd_divided pr_divided f fd) (B : Glb K mg) (c_refuse_no_way : Cal P w K mg base 1 "refuse_no_way" pr_refuse_no_way (sp_refuse_no_way K)) (c_signed : Cal P w K mg base 1 "signed" pr_signed (sp_signed K)) (c_rounded_size : Cal P w K mg base 7 "rounded_size" pr_rounded_size (sp_rounded_size K)) (c_taken : Cal P w K mg base 5 "taken" pr_taken (sp_taken K)) (c_multiplied : Cal P w K mg base 4 "multiplied" pr_multiplied (sp_multiplied K)) : CalG (some (.str "down")) P w K mg base 8 "divided" pr_divided (sp_divided K) := by
  refine D.calX sc_divided (fun vs H Q E h => ?_) (fun cdv A outer s H vs Q E hr h => ?_)
  · obtain ⟨a, b, v, i, j, rfl, _⟩ := h
    rfl
  obtain ⟨a, b, v, i, j, rfl, hWa, hWb, hi, hj, q⟩ := h
  obtain ⟨ra, hA, hRa⟩ := id hWa
  obtain ⟨rb, hB, hRb⟩ := id hWb
  have hbd := sign_bd i
  obtain ⟨t_WAYS, mt_WAYS, hWAYS⟩ := B.g_WAYS
  obtain ⟨tR, pR, qR⟩ : ∃ t, PSs (cxOf (CX1 P w) P w K mg base nm_divided "divided" (defScope sd_divided) f cdv A outer s H E) ((defBody sd_divided).drop 3) t ∧ ((Way v ∧ j ≠ 0 ∧ ∀ (t t1 t2 : Addr) (H' : Hp), Same H H' → H' t = some (.tup [.ref t1, .ref t2]) → WhH H' t1 (quotW v i j) → WhH H' t2 (i - quotW v i j * j) → Q (.ref t) H') →
      ∀ (H2 : Hp) (t2 : Addr), Same H H2 → WhH H2 t2 (quotW v i j) → t { nx := fun _ H' => Q .non H', rt := Q } [some (.ref a), some (.ref b), some v, some (.int (i.sign * j.sign)), some (.ref t2)] H2) := by
    refine ⟨_, (pss_one (ps_ret (pe_tup (pa_cons (pv 4) (pa_cons (pe_calS c_taken passX.s (hr.mono (by decide)) rfl (pa_cons (pv 0) (pa_cons (pe_cal c_multiplied (hr.mono (by decide)) rfl (pa_cons (pv 4) (pa_cons (pv 1) pa_nil))) pa_nil))) pa_nil))))), fun ⟨hw, hj0, q⟩ H2 t2 s02 w2 => ?_⟩
    have lq : (limbs (quotW v i j).natAbs).length ≤ 10001 := by
      have h1 := len_mono (quot_le v i j)
      have h2 := limbs_len (add_lt_pow (m := i.natAbs) (n := 1))
      rw [limbs_1] at h2
      simp only [List.length_cons, List.length_nil] at h2
      omega
    have lm := len_abs_mul (i := quotW v i j) (j := j)
    have wa2 := hWa.same s02
    have wb2 := hWb.same s02
    refine ⟨_, rfl, _, rfl, _, rfl, _, rfl, t2, b, quotW v i j, j, rfl, (by first | exact w2 | exact w2.k), (by first | exact wb2 | exact wb2.k), by omega, by omega, fun t3 H3 s3 w3 => ?_⟩
    have wa3 := wa2.same s3
    refine ⟨a, t3, i, _, rfl, (by first | exact wa3 | exact wa3.k), (by first | exact w3 | exact w3.k), by omega, by omega, fun t4 H4 s4 w4 => ⟨(by show 2 ≤ sizeLine; decide), fun t ht => ?_⟩⟩
    have st := same_new ht (.tup [.ref t2, .ref t4])
    exact q t t2 t4 _ (s02.trans (s3.trans (s4.trans st))) upd_same (w2.same (s3.trans (s4.trans st))) (w4.same st)
  refine ⟨_, (pss_cons (ps_expr (pe_calS c_refuse_no_way passX.s (hr.mono (by decide)) rfl (pa_cons (pv 2) (pa_cons (pe_glob (v := .ref t_WAYS) rfl mt_WAYS rfl) pa_nil))))
    (pss_cons (ps_set (i := 3) sc_divided.nd rfl (Or.inl rfl) (pe_op op_mul (pe_ix ix_tup (pv 0) pe_int (fun _ _ => rfl)) (pe_ix ix_tup (pv 1) pe_int (fun _ _ => rfl))))
    (pss_cons (ps_set (i := 4) sc_divided.nd rfl (Or.inl rfl) (pe_cal c_signed (hr.mono (by decide)) rfl (pa_cons (pv 3) (pa_cons (pe_calS c_rounded_size passX.s (hr.mono (by decide)) rfl (pa_cons (pv 3) (pa_cons (pe_ix ix_tup (pv 0) pe_int (fun _ _ => rfl)) (pa_cons (pe_ix ix_tup (pv 1) pe_int (fun _ _ => rfl)) (pa_cons (pe_ifExp (pt_cmpR op_eq (pv 2) pe_str (nomark _)) pe_str (pv 2)) pa_nil))))) pa_nil))))
    pR))), ?_⟩
  rcases q with q | ⟨hw, hj0, q⟩ | ⟨hw, q⟩
  · obtain ⟨hw, hj0, _⟩ := id q
    have hn0 : 0 < j.natAbs := by omega
    have hC := hw.course
    refine ⟨_, rfl, v, t_WAYS, _, rfl, hWAYS _, rfl, .inl ⟨hw.str, ?_⟩⟩
    refine ⟨_, rfl, a, _, _, _, rfl, rfl, SqT.of hA, rfl, _, rfl, b, _, _, _, rfl, rfl, SqT.of hB, rfl, _, _, rfl, rfl, .inl ⟨by omega, by omega⟩, ?_⟩
    have hq := quot_sign (i := i) hw hj0
    have fin : ∀ (r1 : Addr) (H1 : Hp), Same H H1 → H1 r1 = some (.tup (lv (limbs (i.natAbs / j.natAbs + (if beyondC (wayC v) (i.sign * j.sign) (i.natAbs / j.natAbs) (i.natAbs % j.natAbs) j.natAbs = true then 1 else 0))))) →
        sp_signed K [.int (i.sign * j.sign), .ref r1] H1 (fun x H2 => tR { nx := fun _ H' => Q .non H', rt := Q } [some (.ref a), some (.ref b), some v, some (.int (i.sign * j.sign)), some x] H2) E := fun r1 H1 s1 h1 => by
      rw [way_beyond hw hn0] at h1
      refine ⟨_, r1, _, rfl, h1, hq, fun t2 H2 s2 w2 => qR q H2 t2 (s1.trans s2) w2⟩
    rcases hw with rfl | rfl | rfl | rfl
    · rw [show wayC (.str "down") = .str "down" from if_neg (st_ne (by decide +kernel))] at hC fin
      exact ⟨_, rfl, _, rfl, _, rfl, a, _, _, _, rfl, rfl, SqT.of hA, rfl, _, rfl, b, _, _, _, rfl, rfl, SqT.of hB, rfl, _, rfl, rfl, _, rfl, iteDF (st_ne (by decide +kernel)) ⟨_, rfl, i.sign * j.sign, ra, rb, _, i.natAbs, j.natAbs, rfl, hRa, hRb, by omega, by omega, hC, .inl ⟨hn0, fun r1 H1 s1 h1 => fin r1 H1 s1 h1⟩⟩⟩
    · rw [show wayC (.str "up") = .str "up" from if_neg (st_ne (by decide +kernel))] at hC fin
      exact ⟨_, rfl, _, rfl, _, rfl, a, _, _, _, rfl, rfl, SqT.of hA, rfl, _, rfl, b, _, _, _, rfl, rfl, SqT.of hB, rfl, _, rfl, rfl, _, rfl, iteDF (st_ne (by decide +kernel)) ⟨_, rfl, i.sign * j.sign, ra, rb, _, i.natAbs, j.natAbs, rfl, hRa, hRb, by omega, by omega, hC, .inl ⟨hn0, fun r1 H1 s1 h1 => fin r1 H1 s1 h1⟩⟩⟩
    · rw [show wayC (.str "zero") = .str "zero" from if_neg (st_ne (by decide +kernel))] at hC fin
      exact ⟨_, rfl, _, rfl, _, rfl, a, _, _, _, rfl, rfl, SqT.of hA, rfl, _, rfl, b, _, _, _, rfl, rfl, SqT.of hB, rfl, _, rfl, rfl, _, rfl, iteDF (st_ne (by decide +kernel)) ⟨_, rfl, i.sign * j.sign, ra, rb, _, i.natAbs, j.natAbs, rfl, hRa, hRb, by omega, by omega, hC, .inl ⟨hn0, fun r1 H1 s1 h1 => fin r1 H1 s1 h1⟩⟩⟩
    · rw [show wayC (.str "near") = .str "half_even" from if_pos rfl] at hC fin
      exact ⟨_, rfl, _, rfl, _, rfl, a, _, _, _, rfl, rfl, SqT.of hA, rfl, _, rfl, b, _, _, _, rfl, rfl, SqT.of hB, rfl, _, rfl, rfl, _, rfl, iteDT rfl ⟨i.sign * j.sign, ra, rb, _, i.natAbs, j.natAbs, rfl, hRa, hRb, by omega, by omega, hC, .inl ⟨hn0, fun r1 H1 s1 h1 => fin r1 H1 s1 h1⟩⟩⟩
  · have hC := hw.course
    have h0 : j.natAbs = 0 := by omega
    refine ⟨_, rfl, v, t_WAYS, _, rfl, hWAYS _, rfl, .inl ⟨hw.str, ?_⟩⟩
    refine ⟨_, rfl, a, _, _, _, rfl, rfl, SqT.of hA, rfl, _, rfl, b, _, _, _, rfl, rfl, SqT.of hB, rfl, _, _, rfl, rfl, .inl ⟨by omega, by omega⟩, ?_⟩
    rcases hw with rfl | rfl | rfl | rfl
    · rw [show wayC (.str "down") = .str "down" from if_neg (st_ne (by decide +kernel))] at hC
      exact ⟨_, rfl, _, rfl, _, rfl, a, _, _, _, rfl, rfl, SqT.of hA, rfl, _, rfl, b, _, _, _, rfl, rfl, SqT.of hB, rfl, _, rfl, rfl, _, rfl, iteDF (st_ne (by decide +kernel)) ⟨_, rfl, i.sign * j.sign, ra, rb, _, i.natAbs, j.natAbs, rfl, hRa, hRb, by omega, by omega, hC, .inr ⟨h0, q⟩⟩⟩
    · rw [show wayC (.str "up") = .str "up" from if_neg (st_ne (by decide +kernel))] at hC
      exact ⟨_, rfl, _, rfl, _, rfl, a, _, _, _, rfl, rfl, SqT.of hA, rfl, _, rfl, b, _, _, _, rfl, rfl, SqT.of hB, rfl, _, rfl, rfl, _, rfl, iteDF (st_ne (by decide +kernel)) ⟨_, rfl, i.sign * j.sign, ra, rb, _, i.natAbs, j.natAbs, rfl, hRa, hRb, by omega, by omega, hC, .inr ⟨h0, q⟩⟩⟩
    · rw [show wayC (.str "zero") = .str "zero" from if_neg (st_ne (by decide +kernel))] at hC
      exact ⟨_, rfl, _, rfl, _, rfl, a, _, _, _, rfl, rfl, SqT.of hA, rfl, _, rfl, b, _, _, _, rfl, rfl, SqT.of hB, rfl, _, rfl, rfl, _, rfl, iteDF (st_ne (by decide +kernel)) ⟨_, rfl, i.sign * j.sign, ra, rb, _, i.natAbs, j.natAbs, rfl, hRa, hRb, by omega, by omega, hC, .inr ⟨h0, q⟩⟩⟩
    · rw [show wayC (.str "near") = .str "half_even" from if_pos rfl] at hC
      exact ⟨_, rfl, _, rfl, _, rfl, a, _, _, _, rfl, rfl, SqT.of hA, rfl, _, rfl, b, _, _, _, rfl, rfl, SqT.of hB, rfl, _, rfl, rfl, _, rfl, iteDT rfl ⟨i.sign * j.sign, ra, rb, _, i.natAbs, j.natAbs, rfl, hRa, hRb, by omega, by omega, hC, .inr ⟨h0, q⟩⟩⟩
  · exact ⟨_, rfl, v, t_WAYS, _, rfl, hWAYS _, rfl, .inr ⟨hw.kit, q⟩⟩

abbrev sd_frac_plus : Stmt := top 50
abbrev nm_frac_plus : List Str := ["one", "other"]
abbrev pr_frac_plus : List Str := ["one", "other"]
theorem sc_frac_plus : FnScope nm_frac_plus pr_frac_plus (defScope sd_frac_plus) := ⟨rfl, rfl, rfl, by decide +kernel, rfl, by decide +kernel, by decide +kernel⟩
theorem ok_frac_plus {P : Program} {w : World} {K : PySem.W.Frag} {mg : Str → Option Value} {base : Heap} {f : Addr} {fd : FuncData} (D : DefAt K mg "frac_plus" sd_frac_plus pr_frac_plus f fd) (B : Glb K mg) (c_fraction_of : CalG (some V.non) P w K mg base 8 "fraction_of" pr_fraction_of (sp_fraction_of K)) (c_added : Cal P w K mg base 4 "added" pr_added (sp_added K)) (c_across : Cal P w K mg base 5 "across" pr_across (sp_across K)) (c_times : Cal P w K mg base 3 "times" pr_times (sp_times K)) : Cal P w K mg base 9 "frac_plus" pr_frac_plus (sp_frac_plus K) := by
  refine D.calX sc_frac_plus (fun vs H Q E h => ?_) (fun cdv A outer s H vs Q E hr h => ?_)
  · obtain ⟨a, b, p, q, p', q', rfl, _⟩ := h
    rfl
  obtain ⟨a, b, p, n, p', n', rfl, fA, fB, hn, hn', hg, hg', l1, l2, l3, l4, q⟩ := h
  obtain ⟨ta, ra, hA, wA, hRa⟩ := id fA
  obtain ⟨tb, rb, hB, wB, hRb⟩ := id fB
  refine ⟨_, (pss_one (ps_ret (pe_calS c_fraction_of passX.s (hr.mono (by decide)) rfl (pa_cons (pe_calS c_added passX.s (hr.mono (by decide)) rfl (pa_cons (pe_cal c_across (hr.mono (by decide)) rfl (pa_cons (pv 0) (pa_cons (pv 1) pa_nil))) (pa_cons (pe_cal c_across (hr.mono (by decide)) rfl (pa_cons (pv 1) (pa_cons (pv 0) pa_nil))) pa_nil))) (pa_cons (pe_tup (pa_cons pe_int (pa_cons (pe_cal c_times (hr.mono (by decide)) rfl (pa_cons (pe_ix ix_tup (pv 0) pe_int (fun _ _ => rfl)) (pa_cons (pe_ix ix_tup (pv 1) pe_int (fun _ _ => rfl)) pa_nil))) pa_nil))) pa_nil))))), ?_⟩
  have m1 := len_prod p.natAbs n'
  have m2 := len_prod p'.natAbs n
  have m3 := len_prod n n'
  have e1 : (p * (n' : Int)).natAbs = p.natAbs * n' := by rw [Int.natAbs_mul, Int.natAbs_natCast]
  have e2 : (p' * (n : Int)).natAbs = p'.natAbs * n := by rw [Int.natAbs_mul, Int.natAbs_natCast]
  have m4 := len_sum (i := p * (n' : Int)) (j := p' * (n : Int)) (k := 400) (by rw [e1]; omega) (by rw [e2]; omega)
  refine ⟨_, rfl, _, rfl, a, b, p, n, p', n', rfl, fA, fB, hn', by omega, by omega, fun t1 H1 s1 w1 => ?_⟩
  refine ⟨_, rfl, _, rfl, b, a, p', n', p, n, rfl, fB.same s1, fA.same s1, hn, by omega, by omega, fun t2 H2 s2 w2 => ?_⟩
  have w1' := w1.same s2
  refine ⟨t1, t2, _, _, rfl, (by first | exact w1' | exact w1'.k), (by first | exact w2 | exact w2.k), by rw [e1]; omega, by rw [e2]; omega, fun t3 H3 s3 w3 => ?_⟩
  have s13 := s1.trans (s2.trans s3)
  refine ⟨_, rfl, a, _, _, _, rfl, rfl, SqT.of (s13 _ _ hA), rfl, _, rfl, b, _, _, _, rfl, rfl, SqT.of (s13 _ _ hB), rfl, ra, rb, n, n', rfl, SqT.of (s13 _ _ hRa), SqT.of (s13 _ _ hRb), by omega, by omega, fun r4 H4 s4 h4 => ⟨(by show 2 ≤ sizeLine; decide), fun u hu => ?_⟩⟩
  have su := same_new hu (.tup [.int 1, .ref r4])
  have hpos := Nat.mul_pos hn hn'
  have w4 : WhH (upd H4 u (.tup [.int 1, .ref r4])) u ((n : Int) * (n' : Int)) := by
    rw [← Int.natCast_mul]
    exact WhH.new hu h4 (Int.sign_eq_one_of_pos (by omega)) (Int.natAbs_natCast _)
  have hne : (n : Int) * (n' : Int) ≠ 0 := by
    rw [← Int.natCast_mul]
    omega
  refine ⟨t3, _, .ref u, rfl, w3.same (s4.trans su), by omega, .inr ⟨u, _, rfl, w4, by rw [← Int.natCast_mul, Int.natAbs_natCast]; omega, .inl ⟨hne, fun t H5 s5 f5 => ?_⟩⟩⟩
  exact q t H5 (s13.trans (s4.trans (su.trans s5))) f5

abbrev sd_last_two : Stmt := top 65
abbrev nm_last_two : List Str := ["fraction", "most", "above", "below", "earlier", "now", "pair", "later"]
abbrev pr_last_two : List Str := ["fraction", "most"]
theorem sc_last_two : FnScope nm_last_two pr_last_two (defScope sd_last_two) := ⟨rfl, rfl, rfl, by decide +kernel, rfl, by decide +kernel, by decide +kernel⟩
theorem lt_bound {p P1 Q1 : Int} {n : Nat} (hp : (limbs p.natAbs).length ≤ 30) (hn : (limbs n).length ≤ 30) (h : P1.natAbs ≤ p.natAbs * Q1.natAbs + 1) (hq : Q1.natAbs ≤ n) : (limbs P1.natAbs).length ≤ 61 := by
  refine limbs_len (Nat.lt_of_le_of_lt h ?_)
  have h2 := Nat.lt_of_lt_of_le (lt_pow_len n) (Nat.pow_le_pow_right (by decide) hn)
  have h3 := Nat.lt_of_lt_of_le (lt_pow_len p.natAbs) (Nat.pow_le_pow_right (by decide) hp)
  have h4 : p.natAbs * Q1.natAbs < 65536 ^ 30 * 65536 ^ 30 := Nat.mul_lt_mul'' h3 (by omega)
  have h5 : (65536 : Nat) ^ 30 * 65536 ^ 30 * 65536 = 65536 ^ 61 := rfl
  omega
theorem ok_last_two {P : Program} {w : World} {K : PySem.W.Frag} {mg : Str → Option Value} {base : Heap} {f : Addr} {fd : FuncData} (D : DefAt K mg "last_two" sd_last_two pr_last_two f fd) (B : Glb K mg) (c_divided : CalG (some (.str "down")) P w K mg base 8 "divided" pr_divided (sp_divided K)) (c_later_of : Cal P w K mg base 5 "later_of" pr_later_of (sp_later_of K)) (c_compared : Cal P w K mg base 1 "compared" pr_compared (sp_compared K)) : Cal P w K mg base 9 "last_two" pr_last_two (sp_last_two K) := by
  refine D.calX sc_last_two (fun vs H Q E h => ?_) (fun cdv A outer s H vs Q E hr h => ?_)
  · obtain ⟨a, m, p, q, n, rfl, _⟩ := h
    rfl
  obtain ⟨a, m, p, nq, n, rfl, fF, hM, hq0, hg, l1, l2, l3, hn0, hnq, q⟩ := h
  obtain ⟨ta, ra, hA, wA, hRa⟩ := id fF
  obtain ⟨t_EARLIEST, e1, e2, e3, mt_EARLIEST, k1, k2, k3, k4⟩ := B.g_EARLIEST
  obtain ⟨t_AHEAD, f1, f2, f3, mt_AHEAD, j1, j2, j3, j4⟩ := B.g_AHEAD
  have fE : ∀ H1 : Hp, FrK K H1 t_EARLIEST 0 1 := fun H1 => ⟨_, _, k1 H1, whK_0 (k2 H1) (k3 H1), by rw [limbs_1]; exact k4 H1⟩
  have fA : ∀ H1 : Hp, FrK K H1 t_AHEAD 1 0 := fun H1 => ⟨_, _, j1 H1, whK_1 (j2 H1) (j3 H1), by rw [limbs_zero]; exact j4 H1⟩
  refine ⟨_, (pss_cons (ps_set (i := 2) sc_last_two.nd rfl (Or.inl rfl) (pe_ix ix_tup (pv 0) pe_int (fun _ _ => rfl)))
    (pss_cons (ps_set (i := 3) sc_last_two.nd rfl (Or.inl rfl) (pe_tup (pa_cons pe_int (pa_cons (pe_ix ix_tup (pv 0) pe_int (fun _ _ => rfl)) pa_nil))))
    (pss_cons (ps_set (i := 4) sc_last_two.nd rfl (Or.inl rfl) (pe_glob (v := .ref t_EARLIEST) rfl mt_EARLIEST rfl))
    (pss_cons (ps_set (i := 5) sc_last_two.nd rfl (Or.inl rfl) (pe_glob (v := .ref t_AHEAD) rfl mt_AHEAD rfl))
    (pss_cons (ps_set (i := 6) sc_last_two.nd rfl (Or.inl rfl) (pe_cal1 c_divided (hr.mono (by decide)) rfl (pa_cons (pv 2) (pa_cons (pv 3) pa_nil))))
    (pss_cons (ps_set (i := 7) sc_last_two.nd rfl (Or.inl rfl) (pe_calS c_later_of passX.s (hr.mono (by decide)) rfl (pa_cons (pv 4) (pa_cons (pv 5) (pa_cons (pe_ix ix_tup (pv 6) pe_int (fun _ _ => rfl)) pa_nil)))))
    (pss_cons (PS.nox (ps_while PassesOwn.never (pt_cmpR op_le (pe_cal c_compared (hr.mono (by decide)) rfl (pa_cons (pe_ix ix_tup (pv 7) pe_int (fun _ _ => rfl)) (pa_cons (pv 1) pa_nil))) pe_int (nomark _)) (pss_cons (ps_set (i := 4) sc_last_two.nd rfl (Or.inl rfl) (pv 5))
    (pss_cons (ps_set (i := 5) sc_last_two.nd rfl (Or.inl rfl) (pv 7))
    (pss_cons (ps_set (i := 2) sc_last_two.nd rfl (Or.inl rfl) (pv 3))
    (pss_cons (ps_set (i := 3) sc_last_two.nd rfl (Or.inl rfl) (pe_ix ix_tup (pv 6) pe_int (fun _ _ => rfl)))
    (pss_cons (ps_set (i := 6) sc_last_two.nd rfl (Or.inl rfl) (pe_cal1 c_divided (hr.mono (by decide)) rfl (pa_cons (pv 2) (pa_cons (pv 3) pa_nil))))
    (pss_one (ps_set (i := 7) sc_last_two.nd rfl (Or.inl rfl) (pe_cal c_later_of (hr.mono (by decide)) rfl (pa_cons (pv 4) (pa_cons (pv 5) (pa_cons (pe_ix ix_tup (pv 6) pe_int (fun _ _ => rfl)) pa_nil)))))))))))))
    (pss_one (ps_ret (pe_tup (pa_cons (pv 4) (pa_cons (pv 5) pa_nil)))))))))))), ?_⟩
  obtain ⟨d1, d2⟩ := down_int p (j := (nq : Int)) (by omega)
  refine ⟨_, rfl, a, _, _, _, rfl, rfl, SqT.of hA, rfl, ?_⟩
  refine ⟨_, rfl, a, _, _, _, rfl, rfl, SqT.of hA, rfl, (by show 2 ≤ sizeLine; decide), fun u hu => ?_⟩
  have su := same_new hu (.tup [.int 1, .ref ra])
  have wu : WhH (upd H u (.tup [.int 1, .ref ra])) u (nq : Int) := WhH.new hu hRa (Int.sign_eq_one_of_pos (by omega)) (Int.natAbs_natCast _)
  refine ⟨_, rfl, _, rfl, ta, u, .str "down", p, (nq : Int), rfl, wA.same su, wu, by omega, by rw [Int.natAbs_natCast]; omega, .inl ⟨.inl rfl, by omega, fun tp tp0 tp1 H1 s1 htp w1 w2 => ?_⟩⟩
  rw [d1] at w1
  rw [d2] at w2
  have lx0 := div_len p (j := (nq : Int)) (by omega)
  have s01 := su.trans s1
  refine ⟨_, rfl, _, rfl, _, rfl, tp, _, _, _, rfl, rfl, SqT.of htp, rfl, t_EARLIEST, t_AHEAD, tp0, 0, 1, 1, 0, p / (nq : Int), rfl, fE _, fA _, w1, (by rw [show (0 : Int).natAbs = 0 from rfl, limbs_zero]; decide), (by rw [limbs_1]; decide), (by rw [show (1 : Int).natAbs = 1 from rfl, limbs_1]; decide), (by rw [limbs_zero]; decide), by omega, fun tl H2 s2 f2 => ?_⟩
  have s02 := s01.trans s2
  have hlow : (limbs n).length ≤ 100000 := by omega
  refine ⟨ltInv K H a m p nq n, ?_, ?_⟩
  · refine ⟨(nq : Int).toNat, ta, u, t_EARLIEST, t_AHEAD, tp, tp0, tp1, tl, 0, 1, 1, 0, -1, p, (nq : Int), rfl, rfl, s02, appr_start (by omega), by omega, by omega, wu.same (s1.trans s2), s2 _ _ htp, w1.same s2, w2.same s2, fE _, fA _, fun z => absurd z (by decide), ?_, by omega, by omega, by omega, by omega, ?_, ?_, by omega⟩
    · rw [show (1 : Int) * (p / (nq : Int)) + 0 = 1 * (p / (nq : Int)) + 0 from rfl]
      have e : ((0 : Int) * (p / (nq : Int)) + 1).toNat = 0 * (p / (nq : Int)).natAbs + 1 := by omega
      rw [e]
      exact f2
    · rw [show (0 : Int).natAbs = 0 from rfl, limbs_zero]
      decide
    · rw [show (1 : Int).natAbs = 1 from rfl, limbs_1]
      decide
  rintro w σ H3 ⟨ab, be, t0, t1, tp, tp0, tp1, tl, P0, Q0, P1, Q1, s, A, D, rfl, rfl, s3, hap, hD, hDq, wbe, htp, wp0, wp1, g0, g1, g1h, gl, hQ0, hQ1, hQ1n, hQ0n, lP0, lP1, lx⟩
  obtain ⟨hap2, hQ2⟩ := appr_step hap hD
  obtain ⟨tlu, rl, hTl, wl, hRl⟩ := id gl
  have lQ1 : (limbs Q1.toNat).length ≤ 30 := Nat.le_trans (len_mono (show Q1.toNat ≤ n by omega)) l3
  have lb : (limbs (Q1 * (A / D) + Q0).toNat).length ≤ 1000 := by
    have b1 := len_abs_mul (i := Q1) (j := A / D)
    rw [show Q1.natAbs = Q1.toNat by omega] at b1
    have b2 : (limbs Q0.natAbs).length ≤ 500 := by
      have h1 := Nat.lt_of_lt_of_le (lt_pow_len n) (Nat.pow_le_pow_right (by decide) l3)
      have h2 : (65536 : Nat) ^ 30 * 65536 = 65536 ^ 31 := rfl
      exact Nat.le_trans (limbs_len (k := 31) (by omega)) (by decide)
    have b3 := len_sum (i := Q1 * (A / D)) (j := Q0) (k := 500) (by omega) b2
    exact Nat.le_trans (len_mono (show (Q1 * (A / D) + Q0).toNat ≤ (Q1 * (A / D) + Q0).natAbs by omega)) (by omega)
  refine ⟨_, rfl, tl, _, _, _, rfl, rfl, SqT.of hTl, rfl, _, rfl, rl, m, (Q1 * (A / D) + Q0).toNat, n, rfl, SqT.of hRl, SqT.of (s3 _ _ hM), by omega, _, _, rfl, rfl, _, rfl, iteD (fun c => ?_) (fun c => ?_)⟩
  · have hle : Q1 * (A / D) + Q0 ≤ (n : Int) := by
      unfold cmp at c
      split at c
      · omega
      · split at c
        · omega
        · omega
    have hR0 : 0 < A % D := by
      have h0 := Int.emod_nonneg A (show D ≠ 0 by omega)
      rcases Int.lt_or_eq_of_le h0 with z | z
      · exact z
      · exfalso
        rw [← z] at hap2
        obtain ⟨_, e2⟩ := appr_end (by omega) hap2 (by rw [Int.natAbs_natCast]; exact hg)
        omega
    have hR1 := Int.emod_lt_of_pos A hD
    have lD : (limbs D.natAbs).length ≤ 30 := Nat.le_trans (len_mono (by omega)) l2
    have lR : (limbs (A % D).natAbs).length ≤ 30 := Nat.le_trans (len_mono (by omega)) l2
    have lP2 : (limbs (P1 * (A / D) + P0).natAbs).length ≤ 61 := lt_bound l1 l3 (appr_size (by omega) hap2) (by omega)
    obtain ⟨d3, d4⟩ := down_int D hR0
    have lx2 := div_len D hR0
    have hx2 : 0 ≤ D / (A % D) := Int.ediv_nonneg (by omega) (by omega)
    refine ⟨fun σ' H' => ∃ m', m' < D.toNat ∧ ltInv K H a m p nq n m' σ' H', fun _ _ z => z, ?_⟩
    refine ⟨_, rfl, _, rfl, _, rfl, _, rfl, tp, _, _, _, rfl, rfl, SqT.of htp, rfl, ?_⟩
    refine ⟨_, rfl, _, rfl, be, tp1, .str "down", D, A % D, rfl, wbe, wp1, by omega, by omega, .inl ⟨.inl rfl, by omega, fun tq tq0 tq1 H4 s4 htq v1 v2 => ?_⟩⟩
    rw [d3] at v1
    rw [d4] at v2
    refine ⟨_, rfl, _, rfl, _, rfl, tq, _, _, _, rfl, rfl, SqT.of htq, rfl, t1, tl, tq0, P1, Q1.toNat, P1 * (A / D) + P0, (Q1 * (A / D) + Q0).toNat, D / (A % D), rfl, g1.same s4, (gl.same s4).k, v1, by omega, by omega, by omega, by omega, by omega, fun tm H5 s5 f5 => ?_⟩
    have eq2 : (Q1 * (A / D) + Q0).toNat * (D / (A % D)).natAbs + Q1.toNat = ((Q1 * (A / D) + Q0) * (D / (A % D)) + Q1).toNat := by
      have e : (Q1 * (A / D) + Q0) * (D / (A % D)) = (((Q1 * (A / D) + Q0).toNat * (D / (A % D)).natAbs : Nat) : Int) := by
        rw [Int.natCast_mul, Int.toNat_of_nonneg (by omega), Int.natAbs_of_nonneg hx2]
      rw [e]
      omega
    rw [eq2] at f5
    have s45 := s4.trans s5
    refine ⟨(A % D).toNat, by omega, be, tp1, t1, tl, tq, tq0, tq1, tm, P1, Q1, P1 * (A / D) + P0, Q1 * (A / D) + Q0, -s, D, A % D, rfl, rfl, s3.trans s45, hap2, hR0, by omega, wp1.same s45, s5 _ _ htq, v1.same s5, v2.same s5, g1.same s45, (gl.same s45).k, fun _ => gl.same s45, f5, hQ1, by omega, hle, by omega, lP1, by omega, by omega⟩
  · have hgt : (n : Int) < Q1 * (A / D) + Q0 := by
      unfold cmp at c
      split at c
      · exact absurd (by decide) c
      · split at c
        · omega
        · exact absurd (by decide) c
    have hq1 : 1 ≤ Q1 := by
      obtain ⟨_, _, _, _, _, _, hk⟩ := id hap
      rcases hk with ⟨_, z1, _, z2, _⟩ | ⟨z, _⟩
      · rw [z1, z2] at hgt
        omega
      · exact z
    refine ⟨_, rfl, _, rfl, (by show 2 ≤ sizeLine; decide), fun t ht => ?_⟩
    have st := same_new ht (.tup [.ref t0, .ref t1])
    exact q t t0 t1 P0 Q0 P1 Q1 s A D _ (s3.trans st) upd_same (g0.same st) ((g1h hq1).same st) hap hD hq1 hQ1n hgt lP0 lP1

abbrev sd_frac_minus : Stmt := top 51
abbrev nm_frac_minus : List Str := ["one", "other"]
abbrev pr_frac_minus : List Str := ["one", "other"]
theorem sc_frac_minus : FnScope nm_frac_minus pr_frac_minus (defScope sd_frac_minus) := ⟨rfl, rfl, rfl, by decide +kernel, rfl, by decide +kernel, by decide +kernel⟩
theorem ok_frac_minus {P : Program} {w : World} {K : PySem.W.Frag} {mg : Str → Option Value} {base : Heap} {f : Addr} {fd : FuncData} (D : DefAt K mg "frac_minus" sd_frac_minus pr_frac_minus f fd) (B : Glb K mg) (c_frac_plus : Cal P w K mg base 9 "frac_plus" pr_frac_plus (sp_frac_plus K)) (c_turned : Cal P w K mg base 1 "turned" pr_turned (sp_turned K)) : Cal P w K mg base 10 "frac_minus" pr_frac_minus (sp_frac_minus K) := by
  refine D.calX sc_frac_minus (fun vs H Q E h => ?_) (fun cdv A outer s H vs Q E hr h => ?_)
  · obtain ⟨a, b, p, q, p', q', rfl, _⟩ := h
    rfl
  obtain ⟨a, b, p, n, p', n', rfl, fA, fB, hn, hn', hg, hg', l1, l2, l3, l4, q⟩ := h
  obtain ⟨tb, rb, hB, wB, hRb⟩ := id fB
  refine ⟨_, (pss_one (ps_ret (pe_calS c_frac_plus passX.s (hr.mono (by decide)) rfl (pa_cons (pv 0) (pa_cons (pe_tup (pa_cons (pe_cal c_turned (hr.mono (by decide)) rfl (pa_cons (pe_ix ix_tup (pv 1) pe_int (fun _ _ => rfl)) pa_nil)) (pa_cons (pe_ix ix_tup (pv 1) pe_int (fun _ _ => rfl)) pa_nil))) pa_nil))))), ?_⟩
  refine ⟨_, rfl, _, rfl, b, _, _, _, rfl, rfl, SqT.of hB, rfl, ?_⟩
  have go : ∀ (t1 : Addr) (H1 : Hp), Same H H1 → WhH H1 t1 (-p') → ∀ u : Addr, H1 u = none → sp_frac_plus K [.ref a, .ref u] (upd H1 u (.tup [.ref t1, .ref rb])) Q E := fun t1 H1 s1 w1 u hu => by
    have su := same_new hu (.tup [.ref t1, .ref rb])
    refine ⟨a, u, p, n, -p', n', rfl, fA.same (s1.trans su), FrH.new hu w1 (s1 _ _ hRb), hn, hn', hg, by rw [Int.natAbs_neg]; exact hg', l1, l2, by rw [Int.natAbs_neg]; exact l3, l4, fun t H2 s2 f2 => ?_⟩
    refine q t H2 (s1.trans (su.trans s2)) ?_
    dsimp only at f2 ⊢
    rw [Int.neg_mul, ← Int.sub_eq_add_neg] at f2
    exact f2
  first
    | exact ⟨tb, p', rfl, wB, fun t1 H1 s1 w1 => ⟨_, rfl, b, _, _, _, rfl, rfl, SqT.of (s1 _ _ hB), rfl, (by show 2 ≤ sizeLine; decide), fun u hu => go t1 H1 s1 w1 u hu⟩⟩
    | exact ⟨tb, p', rfl, .inl ⟨wB, fun t1 H1 s1 w1 => ⟨_, rfl, b, _, _, _, rfl, rfl, SqT.of (s1 _ _ hB), rfl, (by show 2 ≤ sizeLine; decide), fun u hu => go t1 H1 s1 w1 u hu⟩⟩⟩

abbrev sd_closest : Stmt := top 67
abbrev nm_closest : List Str := ["fraction", "most", "pair", "now", "often", "aside"]
abbrev pr_closest : List Str := ["fraction", "most"]
theorem sc_closest : FnScope nm_closest pr_closest (defScope sd_closest) := ⟨rfl, rfl, rfl, by decide +kernel, rfl, by decide +kernel, by decide +kernel⟩
theorem cmp_le0 {m n : Nat} : cmp m n ≤ 0 ↔ m ≤ n := by
  unfold cmp
  split
  · exact ⟨fun _ => by omega, fun _ => by decide⟩
  · split
    · exact ⟨fun z => absurd z (by decide), fun z => by omega⟩
    · exact ⟨fun _ => by omega, fun _ => by decide⟩
theorem ok_closest {P : Program} {w : World} {K : PySem.W.Frag} {mg : Str → Option Value} {base : Heap} {f : Addr} {fd : FuncData} (D : DefAt K mg "closest" sd_closest pr_closest f fd) (B : Glb K mg) (c_last_two : Cal P w K mg base 9 "last_two" pr_last_two (sp_last_two K)) (c_later_of : Cal P w K mg base 5 "later_of" pr_later_of (sp_later_of K)) (c_compared : Cal P w K mg base 1 "compared" pr_compared (sp_compared K)) (c_parted : Cal P w K mg base 6 "parted" pr_parted (sp_parted K)) (c_signed : Cal P w K mg base 1 "signed" pr_signed (sp_signed K)) (c_minus : Cal P w K mg base 2 "minus" pr_minus (sp_minus K)) (c_gap_of : Cal P w K mg base 6 "gap_of" pr_gap_of (sp_gap_of K)) : Cal P w K mg base 10 "closest" pr_closest (sp_closest K) := by
  refine D.calX sc_closest (fun vs H Q E h => ?_) (fun cdv A outer s H vs Q E hr h => ?_)
  · obtain ⟨a, m, p, q, n, rfl, _⟩ := h
    rfl
  obtain ⟨a, m, p, nq, n, rfl, fF, hM, hq0, hg, l1, l2, l3, q⟩ := h
  obtain ⟨C_ByNought, x_ByNought, m_ByNought⟩ := B.x_ByNought
  have n_ByNought := x_ByNought.nm
  obtain ⟨ta, ra, hA, wA, hRa⟩ := id fF
  have lm : (lv (limbs n)).length = (limbs n).length := lv_length _
  refine ⟨_, (pss_cons (ps_if (pt_cmpR op_eq (pe_callB call_len_seq rfl B.len_ PySem.boot_len (pa_cons (pv 1) pa_nil)) pe_int (nomark _)) (pss_one (ps_raise x_ByNought m_ByNought rfl (pa_cons pe_str pa_nil))) pss_nil)
    (pss_cons (ps_if (pt_cmpR op_le (pe_cal c_compared (hr.mono (by decide)) rfl (pa_cons (pe_ix ix_tup (pv 0) pe_int (fun _ _ => rfl)) (pa_cons (pv 1) pa_nil))) pe_int (nomark _)) (pss_one (ps_ret (pv 0))) pss_nil)
    (pss_cons (ps_set (i := 2) sc_closest.nd rfl (Or.inl rfl) (pe_calS c_last_two passX.s (hr.mono (by decide)) rfl (pa_cons (pv 0) (pa_cons (pv 1) pa_nil))))
    (pss_cons (ps_set (i := 3) sc_closest.nd rfl (Or.inl rfl) (pe_ix ix_tup (pv 2) pe_int (fun _ _ => rfl)))
    (pss_cons (ps_set (i := 4) sc_closest.nd rfl (Or.inl rfl) (pe_ix ix_tup (pe_calS c_parted passX.s (hr.mono (by decide)) rfl (pa_cons (pe_calS c_minus passX.s (hr.mono (by decide)) rfl (pa_cons (pv 1) (pa_cons (pe_ix ix_tup (pe_ix ix_tup (pv 2) pe_int (fun _ _ => rfl)) pe_int (fun _ _ => rfl)) pa_nil))) (pa_cons (pe_ix ix_tup (pv 3) pe_int (fun _ _ => rfl)) pa_nil))) pe_int (fun _ _ => rfl)))
    (pss_cons (ps_set (i := 5) sc_closest.nd rfl (Or.inl rfl) (pe_calS c_later_of passX.s (hr.mono (by decide)) rfl (pa_cons (pe_ix ix_tup (pv 2) pe_int (fun _ _ => rfl)) (pa_cons (pv 3) (pa_cons (pe_cal c_signed (hr.mono (by decide)) rfl (pa_cons pe_int (pa_cons (pv 4) pa_nil))) pa_nil)))))
    (pss_one (ps_ret (pe_ifExp (pt_cmpR op_lt (pe_cal c_compared (hr.mono (by decide)) rfl (pa_cons (pe_calS c_gap_of passX.s (hr.mono (by decide)) rfl (pa_cons (pv 0) (pa_cons (pv 5) (pa_cons (pv 3) pa_nil)))) (pa_cons (pe_calS c_gap_of passX.s (hr.mono (by decide)) rfl (pa_cons (pv 0) (pa_cons (pv 3) (pa_cons (pv 5) pa_nil)))) pa_nil))) pe_int (nomark _)) (pv 5) (pv 3)))))))))), ?_⟩
  refine ⟨_, rfl, m, _, rfl, .inr (SqT.of hM), rfl, _, rfl, iteD (fun c => ?_) (fun c => ?_)⟩
  · rcases q with ⟨h, _⟩ | ⟨_, q⟩
    · have := vi c
      have := len_pos h
      omega
    · exact ⟨(by show 1 ≤ sizeLine; decide), q _ n_ByNought⟩
  rcases q with ⟨hn0, q⟩ | ⟨h, _⟩
  rotate_left
  · subst h
    exact absurd (by rw [lm, limbs_zero]; rfl) c
  refine ⟨_, rfl, a, _, _, _, rfl, rfl, SqT.of hA, rfl, _, rfl, ra, m, nq, n, rfl, SqT.of hRa, SqT.of hM, by omega, _, _, rfl, rfl, _, rfl, iteD (fun d => ?_) (fun d => ?_)⟩
  · have hle := cmp_le0.mp d
    exact ⟨_, rfl, q a p nq H (Same.refl _) fF (best_self (by omega) (by omega) (by rw [Int.natAbs_natCast]; exact hg))⟩
  have hlt : n < nq := by
    rcases Nat.lt_or_ge n nq with z | z
    · exact z
    · exact absurd (cmp_le0.mpr z) d
  refine ⟨_, rfl, _, rfl, a, m, p, nq, n, rfl, fF, hM, hq0, hg, l1, l2, l3, hn0, hlt, fun t t0 t1 P0 Q0 P1 Q1 s A D H1 s1 ht g0 g1 hap hD hQ1 hQ1n hgt lP0 lP1 => ?_⟩
  obtain ⟨z1, z2, z3, z4, z5, z6, z7, z8⟩ := appr_best (by omega) hap hD hQ1 hQ1n hgt
  obtain ⟨u0, r0, hT0, w0, hR0⟩ := id g0
  obtain ⟨u1, r1, hT1, w1, hR1⟩ := id g1
  have lQ0 : (limbs Q0.toNat).length ≤ 30 := Nat.le_trans (len_mono (show Q0.toNat ≤ n by omega)) l3
  have lQ1 : (limbs Q1.toNat).length ≤ 30 := Nat.le_trans (len_mono (show Q1.toNat ≤ n by omega)) l3
  refine ⟨_, rfl, t, _, _, _, rfl, rfl, SqT.of ht, rfl, ?_⟩
  refine ⟨_, rfl, _, rfl, t, _, _, _, rfl, rfl, SqT.of ht, rfl, t0, _, _, _, rfl, rfl, hT0, rfl, m, r0, n, Q0.toNat, rfl, SqT.of (s1 _ _ hM), hR0, by omega, .inl ⟨by omega, fun r2 H2 s2 h2 => ?_⟩⟩
  have ln : (limbs (n - Q0.toNat)).length ≤ 30 := Nat.le_trans (len_mono (Nat.sub_le ..)) l3
  refine ⟨_, rfl, t1, _, _, _, rfl, rfl, SqT.of (s2 _ _ hT1), rfl, r2, r1, _, Q1.toNat, rfl, h2, s2 _ _ hR1, by omega, by omega, .inl ⟨by omega, fun t3 x3 y3 H3 s3 ht3 hx3 hy3 => ⟨t3, _, _, _, rfl, rfl, SqT.of ht3, rfl, ?_⟩⟩⟩
  have s23 := s2.trans s3
  have ec : (((n - Q0.toNat) / Q1.toNat : Nat) : Int) = ((n : Int) - Q0) / Q1 := by
    rw [Int.natCast_ediv, Int.natCast_sub (by omega), Int.toNat_of_nonneg (by omega), Int.toNat_of_nonneg (by omega)]
  refine ⟨_, rfl, t, _, _, _, rfl, rfl, SqT.of (s23 _ _ ht), rfl, _, rfl, _, rfl, 1, x3, _, rfl, hx3, fun _ => .inl rfl, fun t4 H4 s4 w4 => ?_⟩
  rw [Int.one_mul, ec] at w4
  have lc : (limbs (((n : Int) - Q0) / Q1).natAbs).length ≤ 30 := by
    rw [← ec, Int.natAbs_natCast]
    exact Nat.le_trans (len_mono (Nat.div_le_self ..)) ln
  have s24 := s23.trans s4
  refine ⟨t0, t1, t4, P0, Q0.toNat, P1, Q1.toNat, ((n : Int) - Q0) / Q1, rfl, g0.same s24, (g1.same s24).k, w4, by omega, by omega, by omega, by omega, by omega, fun t5 H5 s5 f5 => ?_⟩
  generalize hc : ((n : Int) - Q0) / Q1 = c at *
  have eQ : Q1.toNat * c.natAbs + Q0.toNat = (c * Q1 + Q0).toNat := by
    have e : c * Q1 = ((Q1.toNat * c.natAbs : Nat) : Int) := by
      rw [Int.natCast_mul, Int.toNat_of_nonneg (by omega), Int.natAbs_of_nonneg z1, Int.mul_comm]
    rw [e]
    omega
  have eP : P1 * c + P0 = c * P1 + P0 := by rw [Int.mul_comm]
  rw [eQ, eP] at f5
  have lPA : (limbs (c * P1 + P0).natAbs).length ≤ 1000 := by
    have b1 := len_abs_mul (i := c) (j := P1)
    exact Nat.le_trans (len_sum (i := c * P1) (j := P0) (k := 500) (by omega) (by omega)) (by decide)
  have lQA : (limbs (c * Q1 + Q0).toNat).length ≤ 30 := Nat.le_trans (len_mono (show (c * Q1 + Q0).toNat ≤ n by omega)) l3
  have cQ1 : ((Q1.toNat : Nat) : Int) = Q1 := Int.toNat_of_nonneg (by omega)
  have cQA : (((c * Q1 + Q0).toNat : Nat) : Int) = c * Q1 + Q0 := Int.toNat_of_nonneg (by omega)
  have s15 := s1.trans (s24.trans s5)
  have g15 := g1.same (s24.trans s5)
  refine ⟨_, rfl, _, rfl, _, rfl, a, t5, t1, p, nq, c * P1 + P0, (c * Q1 + Q0).toNat, P1, Q1.toNat, rfl, fF.same s15, f5, g15, hq0, by omega, by omega, by omega, by omega, by omega, by omega, fun r6 H6 s6 h6 => ?_⟩
  refine ⟨_, rfl, _, rfl, _, rfl, a, t1, t5, p, nq, P1, Q1.toNat, c * P1 + P0, (c * Q1 + Q0).toNat, rfl, fF.same (s15.trans s6), g15.same s6, f5.same s6, hq0, by omega, by omega, by omega, by omega, by omega, by omega, fun r7 H7 s7 h7 => ?_⟩
  rw [cQA] at h6
  rw [cQ1] at h7
  have s67 := s6.trans s7
  have lg : (limbs (off p (nq : Int) (c * P1 + P0) (c * Q1 + Q0) * Q1.toNat)).length ≤ 100000 := by
    have b1 := len_abs_mul (i := p) (j := c * Q1 + Q0)
    have b2 := len_abs_mul (i := c * P1 + P0) (j := (nq : Int))
    rw [Int.natAbs_natCast] at b2
    rw [show (c * Q1 + Q0).natAbs = (c * Q1 + Q0).toNat by omega] at b1
    have b3 := len_sum (i := p * (c * Q1 + Q0)) (j := -((c * P1 + P0) * (nq : Int))) (k := 2000) (by omega) (by rw [Int.natAbs_neg]; omega)
    rw [← Int.sub_eq_add_neg] at b3
    have b4 := mul_len (p * (c * Q1 + Q0) - (c * P1 + P0) * (nq : Int)).natAbs Q1.toNat
    unfold off
    omega
  have x1 : ((off p (nq : Int) (c * P1 + P0) (c * Q1 + Q0) * Q1.toNat : Nat) : Int) = (off p (nq : Int) (c * P1 + P0) (c * Q1 + Q0) : Int) * Q1 := by rw [Int.natCast_mul, cQ1]
  have x2 : ((off p (nq : Int) P1 Q1 * (c * Q1 + Q0).toNat : Nat) : Int) = (off p (nq : Int) P1 Q1 : Int) * (c * Q1 + Q0) := by rw [Int.natCast_mul, cQA]
  refine ⟨r6, r7, _, _, rfl, SqT.of (s7 _ _ h6), SqT.of h7, lg, _, _, rfl, rfl, _, rfl, iteD (fun e => ?_) (fun e => ?_)⟩
  · have e' := cmp_lt.mp e
    refine ⟨_, rfl, q t5 _ _ H7 (s15.trans s67) (f5.same s67) ?_⟩
    rw [cQA]
    refine z7 (.inl ?_)
    omega
  · have e' : ¬ off p (nq : Int) (c * P1 + P0) (c * Q1 + Q0) * Q1.toNat < off p (nq : Int) P1 Q1 * (c * Q1 + Q0).toNat := fun y => e (cmp_lt.mpr y)
    refine ⟨_, rfl, q t1 _ _ H7 (s15.trans s67) (g15.same s67) ?_⟩
    rw [cQ1]
    refine z6 (z8 ?_)
    omega

abbrev sd_told : Stmt := top 84
abbrev nm_told : List Str := ["_law_fraction_here", "_law_most", "_law_error"]
abbrev pr_told : List Str := ["_law_fraction_here", "_law_most"]
theorem sc_told : FnScope nm_told pr_told (defScope sd_told) := ⟨rfl, rfl, rfl, by decide +kernel, rfl, by decide +kernel, by decide +kernel⟩
/-- told: the nearest in a list, or the word of what is refused -/
def sp_told (K : PySem.W.Frag) : Sp := fun vs H Q _ => ∃ (a m : Addr) (p : Int) (n k : Nat), vs = [.ref a, .ref m] ∧ FrH H a p n ∧ H m = some (.tup (lv (limbs k))) ∧ 0 < n ∧ Nat.gcd p.natAbs n = 1 ∧ (limbs p.natAbs).length ≤ 30 ∧ (limbs n).length ≤ 30 ∧ (limbs k).length ≤ 30 ∧
  ((0 < k ∧ ∀ (l t : Addr) (P : Int) (D : Nat) (H' : Hp), Same H H' → H' l = some (.lst [.ref t]) → FrH H' t P D → IsBest p (n : Int) (k : Int) P (D : Int) → Q (.ref l) H') ∨ (k = 0 ∧ ∀ H', Same H H' → Q (.str "nought") H'))
theorem ok_told {P : Program} {w : World} {K : PySem.W.Frag} {mg : Str → Option Value} {base : Heap} {f : Addr} {fd : FuncData} (D : DefAt K mg "_law_told" sd_told pr_told f fd) (B : Glb K mg) (c_closest : Cal P w K mg base 10 "closest" pr_closest (sp_closest K)) (c_kind : CalH P w K mg base 1 "_law_kind" pr_kind (sp_kind K)) : Cal P w K mg base 11 "_law_told" pr_told (sp_told K) := by
  refine D.cal sc_told (fun vs H Q E h => ?_) (fun cdv A outer s H vs Q E hr h => ?_)
  · obtain ⟨a, m, p, n, k, rfl, _⟩ := h
    rfl
  obtain ⟨a, m, p, n, k, rfl, hA, hM, h1, h2, h3, h4, h5, q⟩ := h
  obtain ⟨C_NumberError, x_NumberError, m_NumberError⟩ := B.x_NumberError
  have n_NumberError := x_NumberError.nm
  refine ⟨_, (pss_one (ps_try (i := 2) x_NumberError m_NumberError sc_told.nd rfl rfl
    (fun _ _ _ hx => (pss_one (ps_ret (pe_lst (pa_cons (pe_calS c_closest hx (hr.mono (by decide)) rfl (pa_cons (pv 0) (pa_cons (pv 1) pa_nil))) pa_nil)))))
    (fun _ => (pss_one (ps_ret (pe_calH c_kind (hr.clear (by decide)) rfl (pa_cons (pv 2) pa_nil))))))), ?_⟩
  refine ⟨_, rfl, _, rfl, a, m, p, n, k, rfl, hA, hM, h1, h2, h3, h4, h5, ?_⟩
  rcases q with ⟨h0, q⟩ | ⟨h0, q⟩
  · refine .inl ⟨h0, fun t P D H1 s1 f1 hb => ⟨(by show 1 ≤ sizeLine; decide), fun l hl => ?_⟩⟩
    exact q l t P D _ (s1.trans (same_new hl _)) upd_same (f1.same (same_new hl _)) hb
  · refine .inr ⟨h0, fun C hC => ⟨C, rfl, B.t_ByNought_NumberError _ _ hC n_NumberError, fun ea hea => ?_⟩⟩
    obtain ⟨C2, xc, _⟩ := B.x_ByNought
    cases hC.symm.trans xc.nm
    have s3 : Same H (upd H ea (isX ea C)) := same_new hea _
    exact ⟨_, rfl, ea, C, rfl, upd_same, xc, fun H4 s4 => q _ (s3.trans s4)⟩

abbrev sd_law : Stmt := top 88
abbrev nm_law : List Str := ["_law_script", "_law_above", "_law_below", "_law_common_here", "_law_fraction_here", "_law_cell_here", "_law_most", "_law_due", "_law_found", "_law_far"]
abbrev pr_law : List Str := ["_law_script"]
theorem sc_law : FnScope nm_law pr_law (defScope sd_law) := ⟨rfl, rfl, rfl, by decide +kernel, rfl, by decide +kernel, by decide +kernel⟩
def sp_law (K : PySem.W.Frag) : Sp := fun vs H Q _ => ∃ (a : Addr) (ns : List Int), vs = [.ref a] ∧ SqL K H a (ns.map V.int) ∧ ns.length ≤ 63 ∧ ∀ H', Q (.bl true) H'
theorem mul_lt {x y : Int} {j k : Nat} (hx : x.natAbs < 65536 ^ j) (hy : y.natAbs < 65536 ^ k) : (x * y).natAbs < 65536 ^ (j + k) := by
  rw [Int.natAbs_mul, Nat.pow_add]
  exact Nat.mul_lt_mul'' hx hy
theorem sub_lt' {x y : Int} {k : Nat} (hx : x.natAbs < 65536 ^ k) (hy : y.natAbs < 65536 ^ k) : (x - y).natAbs < 65536 ^ (k + 1) := by
  have := p_succ k
  omega
theorem ok_law {P : Program} {w : World} {K : PySem.W.Frag} {mg : Str → Option Value} {base : Heap} {f : Addr} {fd : FuncData} (D : DefAt K mg "law" sd_law pr_law f fd) (B : Glb K mg) (c_pair : Cal P w K mg base 4 "_law_pair" pr_pair (sp_pair K)) (c_common : Cal P w K mg base 1 "_law_common" pr_common (sp_common K)) (c_fraction : Cal P w K mg base 3 "_law_fraction" pr_fraction (sp_fraction K)) (c_cell : Cal P w K mg base 1 "_law_cell" pr_cell (sp_cell K)) (c_told : Cal P w K mg base 11 "_law_told" pr_told (sp_told K)) (c_by_chain : Cal P w K mg base 2 "_law_by_chain" pr_by_chain (sp_by_chain K)) (c_by_all : Cal P w K mg base 2 "_law_by_all" pr_by_all (sp_by_all K)) (c_natural : Cal P w K mg base 1 "_law_natural" pr_natural (sp_natural K)) (c_is_fraction : Cal P w K mg base 4 "_law_is_fraction" pr_is_fraction (sp_is_fraction K)) (c_frac_ranked : Cal P w K mg base 6 "frac_ranked" pr_frac_ranked (sp_frac_ranked K)) (c_number : Cal P w K mg base 2 "_law_number" pr_number (sp_number K)) (c_frac_minus : Cal P w K mg base 10 "frac_minus" pr_frac_minus (sp_frac_minus K)) : FnOk P w K mg base CX0 12 f fd pr_law (sp_law K) := by
  refine D.okL sc_law (fun vs H Q E h => ?_) (fun cdv A outer s H vs Q E hr h => ?_)
  · obtain ⟨a, ns, rfl, _⟩ := h
    rfl
  obtain ⟨sc, ns, rfl, hS, hns, q⟩ := h
  obtain ⟨tS, pS, qS⟩ : ∃ t, PSs (cxOf CX0 P w K mg base nm_law "law" (defScope sd_law) f cdv A outer s H E).nox ((defBody sd_law).drop 8) t ∧ ∀ (H1 : Hp) (a b g cl mo p d : Int) (fr du : Addr), 0 < b → Nat.gcd a.natAbs b.natAbs = 1 → a.natAbs < 65536 ^ 9 → b.natAbs < 65536 ^ 9 → 1 ≤ mo → mo.natAbs < 65536 ^ 9 → FrH H1 fr a b.toNat → H1 du = some (.tup [.int p, .int d]) → IsBest a b mo p d → p.natAbs < 65536 ^ 110 →
      t { nx := fun _ H' => Q .non H', rt := Q } [some (.ref sc), some (.int a), some (.int b), some (.int g), some (.ref fr), some (.int cl), some (.int mo), some (.ref du), none, none] H1 := by
    refine ⟨_, (pss_cons (ps_set (i := 8) sc_law.nd rfl (Or.inl rfl) (pe_cal c_told (hr.mono (by decide)) rfl (pa_cons (pv 4) (pa_cons (pe_cal c_natural (hr.mono (by decide)) rfl (pa_cons (pv 6) pa_nil)) pa_nil))))
    (pss_cons (ps_if (PW.pt (pw_or (pt_not (pt_val (pe_callB call_isinst rfl B.isinstance_ PyProof.Rows.boot_isinstance (pa_cons (pv 8) (pa_cons (pe_ty B.list_ PyProof.Rows.boot_list rfl) pa_nil))))) (pw_or1 (pt_not (pt_val (pe_cal c_is_fraction (hr.mono (by decide)) rfl (pa_cons (pe_ix ix_list (pv 8) pe_int (fun _ _ => rfl)) (pa_cons (pe_ix ix_tup (pv 7) pe_int (fun _ _ => rfl)) (pa_cons (pe_ix ix_tup (pv 7) pe_int (fun _ _ => rfl)) pa_nil))))))))) (pss_one (ps_ret pe_bl)) pss_nil)
    (pss_cons (ps_set (i := 9) sc_law.nd rfl (Or.inl rfl) (pe_op op_sub (pe_op op_mulB (pv 1) (pe_ix ix_tup (pv 7) pe_int (fun _ _ => rfl))) (pe_op op_mulB (pe_ix ix_tup (pv 7) pe_int (fun _ _ => rfl)) (pv 2))))
    (pss_cons (ps_if (pt_not (pt_val (pe_cal c_is_fraction (hr.mono (by decide)) rfl (pa_cons (pe_cal c_frac_minus (hr.mono (by decide)) rfl (pa_cons (pv 4) (pa_cons (pe_ix ix_list (pv 8) pe_int (fun _ _ => rfl)) pa_nil))) (pa_cons (pv 9) (pa_cons (pe_op op_mulB (pv 2) (pe_ix ix_tup (pv 7) pe_int (fun _ _ => rfl))) pa_nil)))))) (pss_one (ps_ret pe_bl)) pss_nil)
    (pss_one (ps_ret (pe_cmpR op_eq (pe_cal c_frac_ranked (hr.mono (by decide)) rfl (pa_cons (pv 4) (pa_cons (pe_ix ix_list (pv 8) pe_int (fun _ _ => rfl)) pa_nil))) (pe_op op_sub (pe_callTy call_int1 rfl B.int_ PyProof.Rows.boot_int (pa_cons (pe_cmpR op_gt (pv 9) pe_int (nomark _)) pa_nil)) (pe_callTy call_int1 rfl B.int_ PyProof.Rows.boot_int (pa_cons (pe_cmpR op_lt (pv 9) pe_int (nomark _)) pa_nil))) (nomark _)))))))), fun H1 a b g cl mo p d fr du hb hg ba bb hm1 bm fF hD hbest bp => ?_⟩
    obtain ⟨hd1, hd2, hdg, _⟩ := id hbest
    have la : (limbs a.natAbs).length ≤ 9 := limbs_len ba
    have lb : (limbs b.toNat).length ≤ 9 := limbs_len (by omega)
    have lm : (limbs mo.toNat).length ≤ 9 := limbs_len (by omega)
    have bd : d.natAbs < 65536 ^ 9 := by omega
    have cb : ((b.toNat : Nat) : Int) = b := Int.toNat_of_nonneg (by omega)
    have cm : ((mo.toNat : Nat) : Int) = mo := Int.toNat_of_nonneg (by omega)
    have cd : ((d.toNat : Nat) : Int) = d := Int.toNat_of_nonneg (by omega)
    have gab : Nat.gcd a.natAbs b.toNat = 1 := by rw [show b.toNat = b.natAbs by omega]; exact hg
    refine ⟨_, rfl, _, rfl, mo.toNat, (by rw [cm]; rfl), by omega, fun m H2 s2 hM => ?_⟩
    refine ⟨fr, m, a, b.toNat, mo.toNat, rfl, fF.same s2, hM, by omega, gab, by omega, by omega, by omega, .inl ⟨by omega, fun l t P D H3 s3 hL f3 hb3 => ?_⟩⟩
    rw [cb, cm] at hb3
    obtain ⟨eP, eD⟩ := best_one hb3 hbest
    subst eP
    have eD2 : D = d.toNat := by omega
    subst eD2
    obtain ⟨n1, n2⟩ := low_is (a := P) (b := d) (p := P) (q := d.toNat) (by omega) (by omega) (by rw [show d.toNat = d.natAbs by omega]; exact hdg) (by rw [cd])
    have hdn : d ≠ 0 := by omega
    have s13 := s2.trans s3
    refine ⟨_, rfl, _, _, _, _, rfl, TyOf.lst hL, kit_list K, _, rfl, iteF ?_⟩
    refine ⟨_, rfl, l, _, _, _, rfl, rfl, SqL.of hL, rfl, _, rfl, du, _, _, _, rfl, rfl, SqT.of (s13 _ _ hD), rfl, _, rfl, du, _, _, _, rfl, rfl, SqT.of (s13 _ _ hD), rfl, t, P, d, rfl, hdn, up_lt bp (by decide), up_lt bd (by decide), (by rw [← n1, ← n2]; exact f3), fun H4 s4 => ⟨_, rfl, iteF ?_⟩⟩
    have s14 := s13.trans s4
    refine ⟨_, rfl, _, rfl, du, _, _, _, rfl, rfl, SqT.of (s14 _ _ hD), rfl, _, _, rfl, rfl, mulOkZ ba bd (by decide) (by decide), _, rfl, du, _, _, _, rfl, rfl, SqT.of (s14 _ _ hD), rfl, _, rfl, _, _, rfl, rfl, mulOkZ bp bb (by decide) (by decide), _, _, rfl, rfl, ?_⟩
    dsimp only
    have b1 := up_lt (k := 119) (mul_lt ba bd) (by decide)
    have b2 := mul_lt bp bb
    have b3 := sub_lt' b1 b2
    have b4 := mul_lt bb bd
    have lP : (limbs P.natAbs).length ≤ 110 := limbs_len bp
    have lD : (limbs d.toNat).length ≤ 9 := limbs_len (by omega)
    have gPd : Nat.gcd P.natAbs d.toNat = 1 := by rw [show d.toNat = d.natAbs by omega]; exact hdg
    have hbd : b * d ≠ 0 := Int.ne_of_gt (Int.mul_pos hb (by omega))
    refine ⟨_, rfl, _, rfl, l, _, _, _, rfl, rfl, SqL.of (s4 _ _ hL), rfl, fr, t, a, b.toNat, P, d.toNat, rfl, fF.same s14, f3.same s4, by omega, by omega, gab, gPd, by omega, by omega, by omega, by omega, fun t5 H5 s5 f5 => ?_⟩
    dsimp only at f5
    rw [cb, cd] at f5
    refine ⟨_, rfl, _, rfl, _, rfl, du, _, _, _, rfl, rfl, SqT.of (s5 _ _ (s14 _ _ hD)), rfl, _, _, rfl, rfl, mulOkZ bb bd (by decide) (by decide), t5, _, _, rfl, hbd, up_lt b3 (by decide), up_lt b4 (by decide), f5, fun H6 s6 => ⟨_, rfl, iteF ?_⟩⟩
    have s16 := s14.trans (s5.trans s6)
    refine ⟨_, rfl, _, rfl, l, _, _, _, rfl, rfl, SqL.of (s6 _ _ (s5 _ _ (s4 _ _ hL))), rfl, fr, t, a, b.toNat, P, d.toNat, rfl, fF.same s16, f3.same (s4.trans (s5.trans s6)), by omega, by omega, gab, gPd, by omega, by omega, by omega, by omega, fun H7 s7 => ?_⟩
    refine ⟨_, rfl, _, _, rfl, rfl, .inr ⟨_, rfl, _, rfl, _, _, rfl, rfl, .inr ⟨_, rfl, _, _, rfl, rfl, rfl, ?_⟩⟩⟩
    have e2 : decide (V.int (cmpI (a * ((d.toNat : Nat) : Int)) (P * ((b.toNat : Nat) : Int))) = V.int ((if decide (0 < a * d - P * b) = true then 1 else 0) - (if decide (a * d - P * b < 0) = true then 1 else 0))) = true := by
      rw [decide_eq_true_eq, cb, cd, cmpI_due]
      simp only [decide_eq_true_eq]
      congr 1
      have h1 : (P * b < a * d) ↔ (0 < a * d - P * b) := by omega
      have h2 : (a * d < P * b) ↔ (a * d - P * b < 0) := by omega
      simp only [h1, h2]
    first
      | (rw [e2]; exact q _)
      | (dsimp only; rw [e2]; exact q _)
      | (show Q (V.bl (decide (V.int (cmpI (a * ((d.toNat : Nat) : Int)) (P * ((b.toNat : Nat) : Int))) = V.int ((if decide (0 < a * d - P * b) = true then 1 else 0) - (if decide (a * d - P * b < 0) = true then 1 else 0))))) _
         rw [e2]
         exact q _)
  refine ⟨_, (pss_cons (ps_asg (pe_cal c_pair (hr.mono (by decide)) rfl (pa_cons (pv 0) (pa_cons pe_int (pa_cons pe_int pa_nil)))) (pg_tup rfl (pgs_cons (pg_name (i := 1) sc_law.nd rfl (Or.inl rfl)) (pgs_cons (pg_name (i := 2) sc_law.nd rfl (Or.inl rfl)) pgs_nil))))
    (pss_cons (ps_set (i := 3) sc_law.nd rfl (Or.inl rfl) (pe_cal c_common (hr.mono (by decide)) rfl (pa_cons (pv 1) (pa_cons (pv 2) pa_nil))))
    (pss_cons (ps_par rfl sc_law.nd (i := 1) (j := 2) rfl rfl (by decide) rfl rfl (pa_cons (pe_op op_fdivL (pv 1) (pv 3)) (pa_cons (pe_op op_fdivL (pv 2) (pv 3)) pa_nil)) rfl)
    (pss_cons (ps_set (i := 4) sc_law.nd rfl (Or.inl rfl) (pe_cal c_fraction (hr.mono (by decide)) rfl (pa_cons (pv 1) (pa_cons (pv 2) pa_nil))))
    (pss_cons (ps_set (i := 5) sc_law.nd rfl (Or.inl rfl) (pe_cal c_cell (hr.mono (by decide)) rfl (pa_cons (pv 0) (pa_cons pe_int pa_nil))))
    (pss_cons (ps_if (pt_cmpR op_eq (pe_op op_mod (pv 5) pe_int) pe_int (nomark _)) (pss_one (ps_ret (pe_cmpR op_eq (pe_cal c_told (hr.mono (by decide)) rfl (pa_cons (pv 4) (pa_cons (pe_tup pa_nil) pa_nil))) pe_str (nomark _)))) pss_nil)
    (pss_cons (ps_set (i := 6) sc_law.nd rfl (Or.inl rfl) (pe_op op_add pe_int (pe_op op_mod (pe_op op_fdiv (pv 5) pe_int) (pe_ix ix_list (pe_lst (pa_cons pe_int (pa_cons pe_int (pa_cons pe_int pa_nil)))) (pe_op op_mod (pe_op op_fdiv (pv 5) pe_int) pe_int) (fun _ _ => rfl)))))
    (pss_cons (ps_if (pt_cmpR op_eq (pe_op op_mod (pe_op op_fdiv (pv 5) pe_int) pe_int) pe_int (nomark _)) (pss_cons (ps_set (i := 6) sc_law.nd rfl (Or.inl rfl) (pe_op op_add pe_int (pe_cal c_number (hr.mono (by decide)) rfl (pa_cons (pe_op op_fdiv (pv 5) pe_int) (pa_cons pe_int pa_nil)))))
    (pss_one (ps_set (i := 7) sc_law.nd rfl (Or.inl rfl) (pe_cal c_by_chain (hr.mono (by decide)) rfl (pa_cons (pv 1) (pa_cons (pv 2) (pa_cons (pv 6) pa_nil))))))) (pss_one (ps_set (i := 7) sc_law.nd rfl (Or.inl rfl) (pe_cal c_by_all (hr.mono (by decide)) rfl (pa_cons (pv 1) (pa_cons (pv 2) (pa_cons (pv 6) pa_nil)))))))
    pS)))))))), ?_⟩
  refine ⟨_, rfl, sc, ns, 0, 3, rfl, hS, by omega, by omega, by omega, fun i j t H1 hj0 hi hj s1 ht => ?_⟩
  refine ⟨t, _, rfl, SqT.of ht, rfl, _, _, rfl, _, _, rfl, rfl, ?_⟩
  refine ⟨_, rfl, _, rfl, i, j, rfl, ?_⟩
  obtain ⟨_, r2, r3, r4, r5, r6⟩ := red_best (a := 0) (b := 0) (u := i) (y := j) (by omega)
  have bg : ((Nat.gcd i.natAbs j.natAbs : Nat) : Int).natAbs < 65536 ^ 9 := by omega
  have lg := log2_int (j := ((Nat.gcd i.natAbs j.natAbs : Nat) : Int)) (by omega) bg (by decide)
  refine ⟨_, rfl, _, rfl, _, _, rfl, rfl, ⟨by omega, lg⟩, _, rfl, _, rfl, _, _, rfl, rfl, ⟨by omega, lg⟩, _, _, rfl, ?_⟩
  have ba : (i / ((Nat.gcd i.natAbs j.natAbs : Nat) : Int)).natAbs < 65536 ^ 9 := Nat.lt_of_le_of_lt (div_small i r5) hi
  have bb : (j / ((Nat.gcd i.natAbs j.natAbs : Nat) : Int)).natAbs < 65536 ^ 9 := by omega
  dsimp only
  generalize hgg : ((Nat.gcd i.natAbs j.natAbs : Nat) : Int) = g at *
  generalize i / g = a at *
  generalize j / g = b at *
  have hbn : b ≠ 0 := by omega
  obtain ⟨n1, n2⟩ := low_is (a := a) (b := b) (p := a) (q := b.toNat) hbn (by omega) (by rw [show b.toNat = b.natAbs by omega]; exact r2) (by rw [Int.toNat_of_nonneg (by omega)])
  refine ⟨_, rfl, _, rfl, a, b, rfl, hbn, up_lt ba (by decide), up_lt bb (by decide), fun fr H2 s2 f2 => ?_⟩
  rw [← n1, ← n2] at f2
  have s02 := s1.trans s2
  have la : (limbs a.natAbs).length ≤ 9 := limbs_len ba
  have lb : (limbs b.toNat).length ≤ 9 := limbs_len (by omega)
  refine ⟨_, rfl, sc, ns, 2, rfl, s02.seq hS, by omega, fun c => ?_⟩
  refine ⟨_, rfl, _, _, rfl, rfl, (by show (0 : Int) < 8; decide), rfl, _, rfl, iteD (fun _ => ?_) (fun _ => ?_)⟩
  · refine ⟨_, rfl, (by show 0 ≤ sizeLine; decide), fun e he => ?_⟩
    have se := same_new he (.tup [])
    refine ⟨fr, e, a, b.toNat, 0, rfl, f2.same se, (by rw [upd_same, limbs_zero]; rfl), by omega, (by rw [show b.toNat = b.natAbs by omega]; exact r2), by omega, by omega, (by rw [limbs_zero]; decide), .inr ⟨rfl, fun H3 s3 => ⟨rfl, ?_⟩⟩⟩
    rw [decide_eq_true rfl]
    exact q _
  refine ⟨_, rfl, _, _, rfl, rfl, ⟨by decide, by decide⟩, (by show 3 ≤ sizeLine; decide), fun l hl => ?_⟩
  have sl := same_new hl (.lst [.int 40, .int 40, .int 2])
  obtain ⟨w, hw, hw2⟩ := menuV [.int 40, .int 40, .int 2] (c / 8) (Nat.succ_pos _)
  obtain ⟨k, rfl, hk1, hk2⟩ : ∃ k : Int, w = .int k ∧ 1 ≤ k ∧ k ≤ 40 := by
    simp only [List.mem_cons, List.not_mem_nil, or_false] at hw2
    rcases hw2 with e | e | e
    · exact ⟨40, e, by decide, by decide⟩
    · exact ⟨40, e, by decide, by decide⟩
    · exact ⟨2, e, by decide, by decide⟩
  have m0 := Int.emod_nonneg (c / 24) (show k ≠ 0 by omega)
  have m1 := Int.emod_lt_of_pos (c / 24) (show 0 < k by omega)
  refine ⟨_, rfl, _, _, rfl, rfl, ⟨by decide, by decide⟩, _, _, rfl, rfl, (by show (0 : Int) < 3; decide), l, _, _, _, rfl, rfl, SqL.of upd_same, hw, _, _, rfl, rfl, (by show (0 : Int) < k; omega), _, _, rfl, rfl, ?_⟩
  dsimp only
  generalize c / 24 % k = m at *
  refine ⟨_, rfl, _, _, rfl, rfl, ⟨by decide, by decide⟩, _, _, rfl, rfl, (by show (0 : Int) < 3; decide), rfl, _, rfl, iteD (fun _ => ?_) (fun _ => ?_)⟩
  · refine ⟨_, rfl, _, _, rfl, rfl, ⟨by decide, by decide⟩, _, 3, rfl, by omega, by omega, fun m2 H4 hm2 s4 => ⟨_, _, rfl, rfl, ?_⟩⟩
    have b2 := nat_abs_lt hm2
    have b0 := hm2.1
    have b7 : (1 + m2).natAbs < 65536 ^ 9 := by
      have : (65536 : Nat) ^ 7 + 1 ≤ 65536 ^ 9 := by decide
      have b2' : m2.natAbs < 65536 ^ 7 := b2
      omega
    refine ⟨_, rfl, _, rfl, _, rfl, a, b, (1 + m2).toNat, (by rw [Int.toNat_of_nonneg (by omega)]; rfl), by omega, r2, up_lt ba (by decide), up_lt bb (by decide), by omega, up_lt (j := 9) (by omega) (by decide), fun du p d H5 s5 hD hbest bp => ?_⟩
    rw [Int.toNat_of_nonneg (by omega)] at hbest
    exact qS H5 a b g c (1 + m2) p d fr du (by omega) r2 ba bb (by omega) b7 (f2.same (sl.trans (s4.trans s5))) hD hbest bp
  · refine ⟨_, rfl, _, rfl, _, rfl, a, b, (1 + m).toNat, (by rw [Int.toNat_of_nonneg (by omega)]; rfl), by omega, up_lt ba (by decide), up_lt bb (by decide), by omega, by omega, fun du p d H5 s5 hD hbest bp => ?_⟩
    rw [Int.toNat_of_nonneg (by omega)] at hbest
    exact qS H5 a b g c (1 + m) p d fr du (by omega) r2 ba bb (by omega) (Nat.lt_of_lt_of_le (show (1 + m).natAbs < 65536 by omega) (by decide)) (f2.same (sl.trans s5)) hD hbest bp

theorem all_mk {l : PySem.W.OpenLaw} {w : World} {K : PySem.W.Frag} {h : Heap} {mg : Str → Option Value} {fa f1 f2 f3 f4 f5 f6 f7 f8 f9 f10 f11 f12 f13 f14 f15 f16 f17 f18 f19 f20 f21 f22 f23 f24 f25 f26 f27 f28 f29 f30 f31 f32 f33 f34 f35 f36 f37 f38 f39 f40 f41 f42 f43 f44 f45 f46 f47 f48 f49 f50 f51 f52 f53 f54 f55 f56 f57 f58 : Addr} {T18 nd18 : Nat} {od18c : Value} {od18d : Option Addr} {od18s : Array (Option Value)} {tkd18 : Tok} {T51 nd51 : Nat} {od51c : Value} {od51d : Option Addr} {od51s : Array (Option Value)} {T52 nd52 : Nat} {od52c : Value} {od52d : Option Addr} {od52s : Array (Option Value)} {tkd52 : Tok} {tk0 : Tok} {tk1 : Tok} {tp0 np0 : Nat} {dp0 : Option Addr} {sp0 : Array (Option Value)} {tk0_0 tk0_1 tk0_2 tk0_3 : Tok} {an0_0 nn0_0 an0_1 nn0_1 an0_2 nn0_2 an0_3 nn0_3 : Nat} {dn0_0 dn0_1 dn0_2 dn0_3 : Option Addr} {sn0_0 sn0_1 sn0_2 sn0_3 : Array (Option Value)} {tn0_1_0 tn0_3_0 : Tok} {an1_0 nn1_0 an1_1 nn1_1 an1_2 nn1_2 an1_3 nn1_3 : Nat} {dn1_0 dn1_1 dn1_2 dn1_3 : Option Addr} {sn1_0 sn1_1 sn1_2 sn1_3 : Array (Option Value)} {tn1_1_0 tn1_2_0 : Tok} {ca_NumberError ca_NoNatural ca_BelowNought ca_NoCount ca_ByNought ca_NoWay ca_NoChain ca_NoRoot ca_NoBase ca_NoDigit ca_TooLong ca_NoText ca_NoName : Addr} (X : K.In h) (G : h.Ns mainGlobals mg) (hfa : mg "law" = some (.ref fa))
    {od1 an1 od2 an2 od3 an3 od4 an4 od5 an5 od6 an6 od7 an7 od8 an8 od9 an9 od10 an10 od11 an11 od12 an12 od13 an13 od14 an14 od15 an15 od16 an16 od17 an17 od18 an18 od19 an19 od20 an20 od21 an21 od22 an22 od23 an23 od24 an24 od25 an25 od26 an26 od27 an27 od28 an28 od29 an29 od30 an30 od31 an31 od32 an32 od33 an33 od34 an34 od35 an35 od36 an36 od37 an37 od38 an38 od39 an39 od40 an40 od41 an41 od42 an42 od43 an43 od44 an44 od45 an45 od46 an46 od47 an47 od48 an48 od49 an49 od50 an50 od51 an51 od52 an52 od53 an53 od54 an54 od55 an55 od56 an56 od57 an57 od58 an58 : Option Addr} {sl1 sl2 sl3 sl4 sl5 sl6 sl7 sl8 sl9 sl10 sl11 sl12 sl13 sl14 sl15 sl16 sl17 sl18 sl19 sl20 sl21 sl22 sl23 sl24 sl25 sl26 sl27 sl28 sl29 sl30 sl31 sl32 sl33 sl34 sl35 sl36 sl37 sl38 sl39 sl40 sl41 sl42 sl43 sl44 sl45 sl46 sl47 sl48 sl49 sl50 sl51 sl52 sl53 sl54 sl55 sl56 sl57 sl58 : Array (Option Value)} {oc1 kV1 dc1 pm1 cd1 ct1 oc2 kV2 dc2 pm2 cd2 ct2 oc3 kV3 dc3 pm3 cd3 ct3 oc4 kV4 dc4 pm4 cd4 ct4 oc5 kV5 dc5 pm5 cd5 ct5 oc6 kV6 dc6 pm6 cd6 ct6 oc7 kV7 dc7 pm7 cd7 ct7 oc8 kV8 dc8 pm8 cd8 ct8 oc9 kV9 dc9 pm9 cd9 ct9 oc10 kV10 dc10 pm10 cd10 ct10 oc11 kV11 dc11 pm11 cd11 ct11 oc12 kV12 dc12 pm12 cd12 ct12 oc13 kV13 dc13 pm13 cd13 ct13 oc14 kV14 dc14 pm14 cd14 ct14 oc15 kV15 dc15 pm15 cd15 ct15 oc16 kV16 dc16 pm16 cd16 ct16 oc17 kV17 dc17 pm17 cd17 ct17 oc18 kV18 dc18 pm18 cd18 ct18 oc19 kV19 dc19 pm19 cd19 ct19 oc20 kV20 dc20 pm20 cd20 ct20 oc21 kV21 dc21 pm21 cd21 ct21 oc22 kV22 dc22 pm22 cd22 ct22 oc23 kV23 dc23 pm23 cd23 ct23 oc24 kV24 dc24 pm24 cd24 ct24 oc25 kV25 dc25 pm25 cd25 ct25 oc26 kV26 dc26 pm26 cd26 ct26 oc27 kV27 dc27 pm27 cd27 ct27 oc28 kV28 dc28 pm28 cd28 ct28 oc29 kV29 dc29 pm29 cd29 ct29 oc30 kV30 dc30 pm30 cd30 ct30 oc31 kV31 dc31 pm31 cd31 ct31 oc32 kV32 dc32 pm32 cd32 ct32 oc33 kV33 dc33 pm33 cd33 ct33 oc34 kV34 dc34 pm34 cd34 ct34 oc35 kV35 dc35 pm35 cd35 ct35 oc36 kV36 dc36 pm36 cd36 ct36 oc37 kV37 dc37 pm37 cd37 ct37 oc38 kV38 dc38 pm38 cd38 ct38 oc39 kV39 dc39 pm39 cd39 ct39 oc40 kV40 dc40 pm40 cd40 ct40 oc41 kV41 dc41 pm41 cd41 ct41 oc42 kV42 dc42 pm42 cd42 ct42 oc43 kV43 dc43 pm43 cd43 ct43 oc44 kV44 dc44 pm44 cd44 ct44 oc45 kV45 dc45 pm45 cd45 ct45 oc46 kV46 dc46 pm46 cd46 ct46 oc47 kV47 dc47 pm47 cd47 ct47 oc48 kV48 dc48 pm48 cd48 ct48 oc49 kV49 dc49 pm49 cd49 ct49 oc50 kV50 dc50 pm50 cd50 ct50 oc51 kV51 dc51 pm51 cd51 ct51 oc52 kV52 dc52 pm52 cd52 ct52 oc53 kV53 dc53 pm53 cd53 ct53 oc54 kV54 dc54 pm54 cd54 ct54 oc55 kV55 dc55 pm55 cd55 ct55 oc56 kV56 dc56 pm56 cd56 ct56 oc57 kV57 dc57 pm57 cd57 ct57 oc58 kV58 dc58 pm58 cd58 ct58 : Value}
    (a1 : PySem.W.nsIn K mainGlobals "number_of" = some (some (.ref f1))) (l1 : K.lookup f1 = some ⟨oc1, od1, .func (PySem.W.fnOf "number_of" "number_of" (defArgs sd_number_of) (defBody sd_number_of) (defScope sd_number_of) .none kV1 dc1 pm1 an1 cd1 ct1), sl1⟩) (c1 : PySem.W.codeIn K cd1 "number_of" = true) (k1 : PySem.W.keepIn K (.ref f1) = true)
    (a2 : PySem.W.nsIn K mainGlobals "trimmed" = some (some (.ref f2))) (l2 : K.lookup f2 = some ⟨oc2, od2, .func (PySem.W.fnOf "trimmed" "trimmed" (defArgs sd_trimmed) (defBody sd_trimmed) (defScope sd_trimmed) .none kV2 dc2 pm2 an2 cd2 ct2), sl2⟩) (c2 : PySem.W.codeIn K cd2 "trimmed" = true) (k2 : PySem.W.keepIn K (.ref f2) = true)
    (a3 : PySem.W.nsIn K mainGlobals "limb_at" = some (some (.ref f3))) (l3 : K.lookup f3 = some ⟨oc3, od3, .func (PySem.W.fnOf "limb_at" "limb_at" (defArgs sd_limb_at) (defBody sd_limb_at) (defScope sd_limb_at) .none kV3 dc3 pm3 an3 cd3 ct3), sl3⟩) (c3 : PySem.W.codeIn K cd3 "limb_at" = true) (k3 : PySem.W.keepIn K (.ref f3) = true)
    (a4 : PySem.W.nsIn K mainGlobals "refuse_below_nought" = some (some (.ref f4))) (l4 : K.lookup f4 = some ⟨oc4, od4, .func (PySem.W.fnOf "refuse_below_nought" "refuse_below_nought" (defArgs sd_refuse_below_nought) (defBody sd_refuse_below_nought) (defScope sd_refuse_below_nought) .none kV4 dc4 pm4 an4 cd4 ct4), sl4⟩) (c4 : PySem.W.codeIn K cd4 "refuse_below_nought" = true) (k4 : PySem.W.keepIn K (.ref f4) = true)
    (a5 : PySem.W.nsIn K mainGlobals "compared" = some (some (.ref f5))) (l5 : K.lookup f5 = some ⟨oc5, od5, .func (PySem.W.fnOf "compared" "compared" (defArgs sd_compared) (defBody sd_compared) (defScope sd_compared) .none kV5 dc5 pm5 an5 cd5 ct5), sl5⟩) (c5 : PySem.W.codeIn K cd5 "compared" = true) (k5 : PySem.W.keepIn K (.ref f5) = true)
    (a6 : PySem.W.nsIn K mainGlobals "refuse_nought" = some (some (.ref f6))) (l6 : K.lookup f6 = some ⟨oc6, od6, .func (PySem.W.fnOf "refuse_nought" "refuse_nought" (defArgs sd_refuse_nought) (defBody sd_refuse_nought) (defScope sd_refuse_nought) .none kV6 dc6 pm6 an6 cd6 ct6), sl6⟩) (c6 : PySem.W.codeIn K cd6 "refuse_nought" = true) (k6 : PySem.W.keepIn K (.ref f6) = true)
    (a7 : PySem.W.nsIn K mainGlobals "signed" = some (some (.ref f7))) (l7 : K.lookup f7 = some ⟨oc7, od7, .func (PySem.W.fnOf "signed" "signed" (defArgs sd_signed) (defBody sd_signed) (defScope sd_signed) .none kV7 dc7 pm7 an7 cd7 ct7), sl7⟩) (c7 : PySem.W.codeIn K cd7 "signed" = true) (k7 : PySem.W.keepIn K (.ref f7) = true)
    (a8 : PySem.W.nsIn K mainGlobals "turned" = some (some (.ref f8))) (l8 : K.lookup f8 = some ⟨oc8, od8, .func (PySem.W.fnOf "turned" "turned" (defArgs sd_turned) (defBody sd_turned) (defScope sd_turned) .none kV8 dc8 pm8 an8 cd8 ct8), sl8⟩) (c8 : PySem.W.codeIn K cd8 "turned" = true) (k8 : PySem.W.keepIn K (.ref f8) = true)
    (a9 : PySem.W.nsIn K mainGlobals "refuse_no_way" = some (some (.ref f9))) (l9 : K.lookup f9 = some ⟨oc9, od9, .func (PySem.W.fnOf "refuse_no_way" "refuse_no_way" (defArgs sd_refuse_no_way) (defBody sd_refuse_no_way) (defScope sd_refuse_no_way) .none kV9 dc9 pm9 an9 cd9 ct9), sl9⟩) (c9 : PySem.W.codeIn K cd9 "refuse_no_way" = true) (k9 : PySem.W.keepIn K (.ref f9) = true)
    (a10 : PySem.W.nsIn K mainGlobals "_law_cell" = some (some (.ref f10))) (l10 : K.lookup f10 = some ⟨oc10, od10, .func (PySem.W.fnOf "_law_cell" "_law_cell" (defArgs sd_cell) (defBody sd_cell) (defScope sd_cell) .none kV10 dc10 pm10 an10 cd10 ct10), sl10⟩) (c10 : PySem.W.codeIn K cd10 "_law_cell" = true) (k10 : PySem.W.keepIn K (.ref f10) = true)
    (a11 : PySem.W.nsIn K mainGlobals "_law_mixed" = some (some (.ref f11))) (l11 : K.lookup f11 = some ⟨oc11, od11, .func (PySem.W.fnOf "_law_mixed" "_law_mixed" (defArgs sd_mixed) (defBody sd_mixed) (defScope sd_mixed) .none kV11 dc11 pm11 an11 cd11 ct11), sl11⟩) (c11 : PySem.W.codeIn K cd11 "_law_mixed" = true) (k11 : PySem.W.keepIn K (.ref f11) = true)
    (a12 : PySem.W.nsIn K mainGlobals "_law_value" = some (some (.ref f12))) (l12 : K.lookup f12 = some ⟨oc12, od12, .func (PySem.W.fnOf "_law_value" "_law_value" (defArgs sd_value) (defBody sd_value) (defScope sd_value) .none kV12 dc12 pm12 an12 cd12 ct12), sl12⟩) (c12 : PySem.W.codeIn K cd12 "_law_value" = true) (k12 : PySem.W.keepIn K (.ref f12) = true)
    (a13 : PySem.W.nsIn K mainGlobals "_law_natural" = some (some (.ref f13))) (l13 : K.lookup f13 = some ⟨oc13, od13, .func (PySem.W.fnOf "_law_natural" "_law_natural" (defArgs sd_natural) (defBody sd_natural) (defScope sd_natural) .none kV13 dc13 pm13 an13 cd13 ct13), sl13⟩) (c13 : PySem.W.codeIn K cd13 "_law_natural" = true) (k13 : PySem.W.keepIn K (.ref f13) = true)
    (a14 : PySem.W.nsIn K mainGlobals "_law_limb" = some (some (.ref f14))) (l14 : K.lookup f14 = some ⟨oc14, od14, .func (PySem.W.fnOf "_law_limb" "_law_limb" (defArgs sd_limb) (defBody sd_limb) (defScope sd_limb) .none kV14 dc14 pm14 an14 cd14 ct14), sl14⟩) (c14 : PySem.W.codeIn K cd14 "_law_limb" = true) (k14 : PySem.W.keepIn K (.ref f14) = true)
    (a15 : PySem.W.nsIn K mainGlobals "_law_common" = some (some (.ref f15))) (l15 : K.lookup f15 = some ⟨oc15, od15, .func (PySem.W.fnOf "_law_common" "_law_common" (defArgs sd_common) (defBody sd_common) (defScope sd_common) .none kV15 dc15 pm15 an15 cd15 ct15), sl15⟩) (c15 : PySem.W.codeIn K cd15 "_law_common" = true) (k15 : PySem.W.keepIn K (.ref f15) = true)
    (a16 : PySem.W.nsIn K mainGlobals "_law_kind" = some (some (.ref f16))) (l16 : K.lookup f16 = some ⟨oc16, od16, .func (PySem.W.fnOf "_law_kind" "_law_kind" (defArgs sd_kind) (defBody sd_kind) (defScope sd_kind) .none kV16 dc16 pm16 an16 cd16 ct16), sl16⟩) (c16 : PySem.W.codeIn K cd16 "_law_kind" = true) (k16 : PySem.W.keepIn K (.ref f16) = true)
    (a17 : PySem.W.nsIn K mainGlobals "_law_better" = some (some (.ref f17))) (l17 : K.lookup f17 = some ⟨oc17, od17, .func (PySem.W.fnOf "_law_better" "_law_better" (defArgs sd_better) (defBody sd_better) (defScope sd_better) .none kV17 dc17 pm17 an17 cd17 ct17), sl17⟩) (c17 : PySem.W.codeIn K cd17 "_law_better" = true) (k17 : PySem.W.keepIn K (.ref f17) = true)
    (a18 : PySem.W.nsIn K mainGlobals "moved_up" = some (some (.ref f18))) (l18 : K.lookup f18 = some ⟨oc18, od18, .func (PySem.W.fnOf "moved_up" "moved_up" (defArgs sd_moved_up) (defBody sd_moved_up) (defScope sd_moved_up) (.ref T18) kV18 dc18 pm18 an18 cd18 ct18), sl18⟩) (c18 : PySem.W.codeIn K cd18 "moved_up" = true) (k18 : PySem.W.keepIn K (.ref f18) = true)
    (ld18 : K.lookup T18 = some ⟨od18c, od18d, .seq #[(.int 1 tkd18)] nd18, od18s⟩)
    (a19 : PySem.W.nsIn K mainGlobals "bit_at" = some (some (.ref f19))) (l19 : K.lookup f19 = some ⟨oc19, od19, .func (PySem.W.fnOf "bit_at" "bit_at" (defArgs sd_bit_at) (defBody sd_bit_at) (defScope sd_bit_at) .none kV19 dc19 pm19 an19 cd19 ct19), sl19⟩) (c19 : PySem.W.codeIn K cd19 "bit_at" = true) (k19 : PySem.W.keepIn K (.ref f19) = true)
    (a20 : PySem.W.nsIn K mainGlobals "carried" = some (some (.ref f20))) (l20 : K.lookup f20 = some ⟨oc20, od20, .func (PySem.W.fnOf "carried" "carried" (defArgs sd_carried) (defBody sd_carried) (defScope sd_carried) .none kV20 dc20 pm20 an20 cd20 ct20), sl20⟩) (c20 : PySem.W.codeIn K cd20 "carried" = true) (k20 : PySem.W.keepIn K (.ref f20) = true)
    (a21 : PySem.W.nsIn K mainGlobals "carries" = some (some (.ref f21))) (l21 : K.lookup f21 = some ⟨oc21, od21, .func (PySem.W.fnOf "carries" "carries" (defArgs sd_carries) (defBody sd_carries) (defScope sd_carries) .none kV21 dc21 pm21 an21 cd21 ct21), sl21⟩) (c21 : PySem.W.codeIn K cd21 "carries" = true) (k21 : PySem.W.keepIn K (.ref f21) = true)
    (a22 : PySem.W.nsIn K mainGlobals "minus" = some (some (.ref f22))) (l22 : K.lookup f22 = some ⟨oc22, od22, .func (PySem.W.fnOf "minus" "minus" (defArgs sd_minus) (defBody sd_minus) (defScope sd_minus) .none kV22 dc22 pm22 an22 cd22 ct22), sl22⟩) (c22 : PySem.W.codeIn K cd22 "minus" = true) (k22 : PySem.W.keepIn K (.ref f22) = true)
    (a23 : PySem.W.nsIn K mainGlobals "ranked" = some (some (.ref f23))) (l23 : K.lookup f23 = some ⟨oc23, od23, .func (PySem.W.fnOf "ranked" "ranked" (defArgs sd_ranked) (defBody sd_ranked) (defScope sd_ranked) .none kV23 dc23 pm23 an23 cd23 ct23), sl23⟩) (c23 : PySem.W.codeIn K cd23 "ranked" = true) (k23 : PySem.W.keepIn K (.ref f23) = true)
    (a24 : PySem.W.nsIn K mainGlobals "_law_is" = some (some (.ref f24))) (l24 : K.lookup f24 = some ⟨oc24, od24, .func (PySem.W.fnOf "_law_is" "_law_is" (defArgs sd_is) (defBody sd_is) (defScope sd_is) .none kV24 dc24 pm24 an24 cd24 ct24), sl24⟩) (c24 : PySem.W.codeIn K cd24 "_law_is" = true) (k24 : PySem.W.keepIn K (.ref f24) = true)
    (a25 : PySem.W.nsIn K mainGlobals "_law_number" = some (some (.ref f25))) (l25 : K.lookup f25 = some ⟨oc25, od25, .func (PySem.W.fnOf "_law_number" "_law_number" (defArgs sd_number) (defBody sd_number) (defScope sd_number) .none kV25 dc25 pm25 an25 cd25 ct25), sl25⟩) (c25 : PySem.W.codeIn K cd25 "_law_number" = true) (k25 : PySem.W.keepIn K (.ref f25) = true)
    (a26 : PySem.W.nsIn K mainGlobals "_law_whole" = some (some (.ref f26))) (l26 : K.lookup f26 = some ⟨oc26, od26, .func (PySem.W.fnOf "_law_whole" "_law_whole" (defArgs sd_whole) (defBody sd_whole) (defScope sd_whole) .none kV26 dc26 pm26 an26 cd26 ct26), sl26⟩) (c26 : PySem.W.codeIn K cd26 "_law_whole" = true) (k26 : PySem.W.keepIn K (.ref f26) = true)
    (a27 : PySem.W.nsIn K mainGlobals "_law_by_all" = some (some (.ref f27))) (l27 : K.lookup f27 = some ⟨oc27, od27, .func (PySem.W.fnOf "_law_by_all" "_law_by_all" (defArgs sd_by_all) (defBody sd_by_all) (defScope sd_by_all) .none kV27 dc27 pm27 an27 cd27 ct27), sl27⟩) (c27 : PySem.W.codeIn K cd27 "_law_by_all" = true) (k27 : PySem.W.keepIn K (.ref f27) = true)
    (a28 : PySem.W.nsIn K mainGlobals "_law_by_chain" = some (some (.ref f28))) (l28 : K.lookup f28 = some ⟨oc28, od28, .func (PySem.W.fnOf "_law_by_chain" "_law_by_chain" (defArgs sd_by_chain) (defBody sd_by_chain) (defScope sd_by_chain) .none kV28 dc28 pm28 an28 cd28 ct28), sl28⟩) (c28 : PySem.W.codeIn K cd28 "_law_by_chain" = true) (k28 : PySem.W.keepIn K (.ref f28) = true)
    (a29 : PySem.W.nsIn K mainGlobals "times_limb" = some (some (.ref f29))) (l29 : K.lookup f29 = some ⟨oc29, od29, .func (PySem.W.fnOf "times_limb" "times_limb" (defArgs sd_times_limb) (defBody sd_times_limb) (defScope sd_times_limb) .none kV29 dc29 pm29 an29 cd29 ct29), sl29⟩) (c29 : PySem.W.codeIn K cd29 "times_limb" = true) (k29 : PySem.W.keepIn K (.ref f29) = true)
    (a30 : PySem.W.nsIn K mainGlobals "times" = some (some (.ref f30))) (l30 : K.lookup f30 = some ⟨oc30, od30, .func (PySem.W.fnOf "times" "times" (defArgs sd_times) (defBody sd_times) (defScope sd_times) .none kV30 dc30 pm30 an30 cd30 ct30), sl30⟩) (c30 : PySem.W.codeIn K cd30 "times" = true) (k30 : PySem.W.keepIn K (.ref f30) = true)
    (a31 : PySem.W.nsIn K mainGlobals "plus" = some (some (.ref f31))) (l31 : K.lookup f31 = some ⟨oc31, od31, .func (PySem.W.fnOf "plus" "plus" (defArgs sd_plus) (defBody sd_plus) (defScope sd_plus) .none kV31 dc31 pm31 an31 cd31 ct31), sl31⟩) (c31 : PySem.W.codeIn K cd31 "plus" = true) (k31 : PySem.W.keepIn K (.ref f31) = true)
    (a32 : PySem.W.nsIn K mainGlobals "half_goes_beyond" = some (some (.ref f32))) (l32 : K.lookup f32 = some ⟨oc32, od32, .func (PySem.W.fnOf "half_goes_beyond" "half_goes_beyond" (defArgs sd_half_goes_beyond) (defBody sd_half_goes_beyond) (defScope sd_half_goes_beyond) .none kV32 dc32 pm32 an32 cd32 ct32), sl32⟩) (c32 : PySem.W.codeIn K cd32 "half_goes_beyond" = true) (k32 : PySem.W.keepIn K (.ref f32) = true)
    (a33 : PySem.W.nsIn K mainGlobals "_law_signed" = some (some (.ref f33))) (l33 : K.lookup f33 = some ⟨oc33, od33, .func (PySem.W.fnOf "_law_signed" "_law_signed" (defArgs sd_l_signed) (defBody sd_l_signed) (defScope sd_l_signed) .none kV33 dc33 pm33 an33 cd33 ct33), sl33⟩) (c33 : PySem.W.codeIn K cd33 "_law_signed" = true) (k33 : PySem.W.keepIn K (.ref f33) = true)
    (a34 : PySem.W.nsIn K mainGlobals "_law_is_whole" = some (some (.ref f34))) (l34 : K.lookup f34 = some ⟨oc34, od34, .func (PySem.W.fnOf "_law_is_whole" "_law_is_whole" (defArgs sd_is_whole) (defBody sd_is_whole) (defScope sd_is_whole) .none kV34 dc34 pm34 an34 cd34 ct34), sl34⟩) (c34 : PySem.W.codeIn K cd34 "_law_is_whole" = true) (k34 : PySem.W.keepIn K (.ref f34) = true)
    (a35 : PySem.W.nsIn K mainGlobals "_law_fraction" = some (some (.ref f35))) (l35 : K.lookup f35 = some ⟨oc35, od35, .func (PySem.W.fnOf "_law_fraction" "_law_fraction" (defArgs sd_fraction) (defBody sd_fraction) (defScope sd_fraction) .none kV35 dc35 pm35 an35 cd35 ct35), sl35⟩) (c35 : PySem.W.codeIn K cd35 "_law_fraction" = true) (k35 : PySem.W.keepIn K (.ref f35) = true)
    (a36 : PySem.W.nsIn K mainGlobals "step_of" = some (some (.ref f36))) (l36 : K.lookup f36 = some ⟨oc36, od36, .func (PySem.W.fnOf "step_of" "step_of" (defArgs sd_step_of) (defBody sd_step_of) (defScope sd_step_of) .none kV36 dc36 pm36 an36 cd36 ct36), sl36⟩) (c36 : PySem.W.codeIn K cd36 "step_of" = true) (k36 : PySem.W.keepIn K (.ref f36) = true)
    (a37 : PySem.W.nsIn K mainGlobals "added" = some (some (.ref f37))) (l37 : K.lookup f37 = some ⟨oc37, od37, .func (PySem.W.fnOf "added" "added" (defArgs sd_added) (defBody sd_added) (defScope sd_added) .none kV37 dc37 pm37 an37 cd37 ct37), sl37⟩) (c37 : PySem.W.codeIn K cd37 "added" = true) (k37 : PySem.W.keepIn K (.ref f37) = true)
    (a38 : PySem.W.nsIn K mainGlobals "multiplied" = some (some (.ref f38))) (l38 : K.lookup f38 = some ⟨oc38, od38, .func (PySem.W.fnOf "multiplied" "multiplied" (defArgs sd_multiplied) (defBody sd_multiplied) (defScope sd_multiplied) .none kV38 dc38 pm38 an38 cd38 ct38), sl38⟩) (c38 : PySem.W.codeIn K cd38 "multiplied" = true) (k38 : PySem.W.keepIn K (.ref f38) = true)
    (a39 : PySem.W.nsIn K mainGlobals "goes_beyond" = some (some (.ref f39))) (l39 : K.lookup f39 = some ⟨oc39, od39, .func (PySem.W.fnOf "goes_beyond" "goes_beyond" (defArgs sd_goes_beyond) (defBody sd_goes_beyond) (defScope sd_goes_beyond) .none kV39 dc39 pm39 an39 cd39 ct39), sl39⟩) (c39 : PySem.W.codeIn K cd39 "goes_beyond" = true) (k39 : PySem.W.keepIn K (.ref f39) = true)
    (a40 : PySem.W.nsIn K mainGlobals "_law_pair" = some (some (.ref f40))) (l40 : K.lookup f40 = some ⟨oc40, od40, .func (PySem.W.fnOf "_law_pair" "_law_pair" (defArgs sd_pair) (defBody sd_pair) (defScope sd_pair) .none kV40 dc40 pm40 an40 cd40 ct40), sl40⟩) (c40 : PySem.W.codeIn K cd40 "_law_pair" = true) (k40 : PySem.W.keepIn K (.ref f40) = true)
    (a41 : PySem.W.nsIn K mainGlobals "_law_is_fraction" = some (some (.ref f41))) (l41 : K.lookup f41 = some ⟨oc41, od41, .func (PySem.W.fnOf "_law_is_fraction" "_law_is_fraction" (defArgs sd_is_fraction) (defBody sd_is_fraction) (defScope sd_is_fraction) .none kV41 dc41 pm41 an41 cd41 ct41), sl41⟩) (c41 : PySem.W.codeIn K cd41 "_law_is_fraction" = true) (k41 : PySem.W.keepIn K (.ref f41) = true)
    (a42 : PySem.W.nsIn K mainGlobals "steps_through" = some (some (.ref f42))) (l42 : K.lookup f42 = some ⟨oc42, od42, .func (PySem.W.fnOf "steps_through" "steps_through" (defArgs sd_steps_through) (defBody sd_steps_through) (defScope sd_steps_through) .none kV42 dc42 pm42 an42 cd42 ct42), sl42⟩) (c42 : PySem.W.codeIn K cd42 "steps_through" = true) (k42 : PySem.W.keepIn K (.ref f42) = true)
    (a43 : PySem.W.nsIn K mainGlobals "taken" = some (some (.ref f43))) (l43 : K.lookup f43 = some ⟨oc43, od43, .func (PySem.W.fnOf "taken" "taken" (defArgs sd_taken) (defBody sd_taken) (defScope sd_taken) .none kV43 dc43 pm43 an43 cd43 ct43), sl43⟩) (c43 : PySem.W.codeIn K cd43 "taken" = true) (k43 : PySem.W.keepIn K (.ref f43) = true)
    (a44 : PySem.W.nsIn K mainGlobals "across" = some (some (.ref f44))) (l44 : K.lookup f44 = some ⟨oc44, od44, .func (PySem.W.fnOf "across" "across" (defArgs sd_across) (defBody sd_across) (defScope sd_across) .none kV44 dc44 pm44 an44 cd44 ct44), sl44⟩) (c44 : PySem.W.codeIn K cd44 "across" = true) (k44 : PySem.W.keepIn K (.ref f44) = true)
    (a45 : PySem.W.nsIn K mainGlobals "later_of" = some (some (.ref f45))) (l45 : K.lookup f45 = some ⟨oc45, od45, .func (PySem.W.fnOf "later_of" "later_of" (defArgs sd_later_of) (defBody sd_later_of) (defScope sd_later_of) .none kV45 dc45 pm45 an45 cd45 ct45), sl45⟩) (c45 : PySem.W.codeIn K cd45 "later_of" = true) (k45 : PySem.W.keepIn K (.ref f45) = true)
    (a46 : PySem.W.nsIn K mainGlobals "parted" = some (some (.ref f46))) (l46 : K.lookup f46 = some ⟨oc46, od46, .func (PySem.W.fnOf "parted" "parted" (defArgs sd_parted) (defBody sd_parted) (defScope sd_parted) .none kV46 dc46 pm46 an46 cd46 ct46), sl46⟩) (c46 : PySem.W.codeIn K cd46 "parted" = true) (k46 : PySem.W.keepIn K (.ref f46) = true)
    (a47 : PySem.W.nsIn K mainGlobals "frac_ranked" = some (some (.ref f47))) (l47 : K.lookup f47 = some ⟨oc47, od47, .func (PySem.W.fnOf "frac_ranked" "frac_ranked" (defArgs sd_frac_ranked) (defBody sd_frac_ranked) (defScope sd_frac_ranked) .none kV47 dc47 pm47 an47 cd47 ct47), sl47⟩) (c47 : PySem.W.codeIn K cd47 "frac_ranked" = true) (k47 : PySem.W.keepIn K (.ref f47) = true)
    (a48 : PySem.W.nsIn K mainGlobals "gap_of" = some (some (.ref f48))) (l48 : K.lookup f48 = some ⟨oc48, od48, .func (PySem.W.fnOf "gap_of" "gap_of" (defArgs sd_gap_of) (defBody sd_gap_of) (defScope sd_gap_of) .none kV48 dc48 pm48 an48 cd48 ct48), sl48⟩) (c48 : PySem.W.codeIn K cd48 "gap_of" = true) (k48 : PySem.W.keepIn K (.ref f48) = true)
    (a49 : PySem.W.nsIn K mainGlobals "common_of" = some (some (.ref f49))) (l49 : K.lookup f49 = some ⟨oc49, od49, .func (PySem.W.fnOf "common_of" "common_of" (defArgs sd_common_of) (defBody sd_common_of) (defScope sd_common_of) .none kV49 dc49 pm49 an49 cd49 ct49), sl49⟩) (c49 : PySem.W.codeIn K cd49 "common_of" = true) (k49 : PySem.W.keepIn K (.ref f49) = true)
    (a50 : PySem.W.nsIn K mainGlobals "rounded_size" = some (some (.ref f50))) (l50 : K.lookup f50 = some ⟨oc50, od50, .func (PySem.W.fnOf "rounded_size" "rounded_size" (defArgs sd_rounded_size) (defBody sd_rounded_size) (defScope sd_rounded_size) .none kV50 dc50 pm50 an50 cd50 ct50), sl50⟩) (c50 : PySem.W.codeIn K cd50 "rounded_size" = true) (k50 : PySem.W.keepIn K (.ref f50) = true)
    (a51 : PySem.W.nsIn K mainGlobals "fraction_of" = some (some (.ref f51))) (l51 : K.lookup f51 = some ⟨oc51, od51, .func (PySem.W.fnOf "fraction_of" "fraction_of" (defArgs sd_fraction_of) (defBody sd_fraction_of) (defScope sd_fraction_of) (.ref T51) kV51 dc51 pm51 an51 cd51 ct51), sl51⟩) (c51 : PySem.W.codeIn K cd51 "fraction_of" = true) (k51 : PySem.W.keepIn K (.ref f51) = true)
    (ld51 : K.lookup T51 = some ⟨od51c, od51d, .seq #[Value.none] nd51, od51s⟩)
    (a52 : PySem.W.nsIn K mainGlobals "divided" = some (some (.ref f52))) (l52 : K.lookup f52 = some ⟨oc52, od52, .func (PySem.W.fnOf "divided" "divided" (defArgs sd_divided) (defBody sd_divided) (defScope sd_divided) (.ref T52) kV52 dc52 pm52 an52 cd52 ct52), sl52⟩) (c52 : PySem.W.codeIn K cd52 "divided" = true) (k52 : PySem.W.keepIn K (.ref f52) = true)
    (ld52 : K.lookup T52 = some ⟨od52c, od52d, .seq #[(.str "down" tkd52)] nd52, od52s⟩)
    (a53 : PySem.W.nsIn K mainGlobals "frac_plus" = some (some (.ref f53))) (l53 : K.lookup f53 = some ⟨oc53, od53, .func (PySem.W.fnOf "frac_plus" "frac_plus" (defArgs sd_frac_plus) (defBody sd_frac_plus) (defScope sd_frac_plus) .none kV53 dc53 pm53 an53 cd53 ct53), sl53⟩) (c53 : PySem.W.codeIn K cd53 "frac_plus" = true) (k53 : PySem.W.keepIn K (.ref f53) = true)
    (a54 : PySem.W.nsIn K mainGlobals "last_two" = some (some (.ref f54))) (l54 : K.lookup f54 = some ⟨oc54, od54, .func (PySem.W.fnOf "last_two" "last_two" (defArgs sd_last_two) (defBody sd_last_two) (defScope sd_last_two) .none kV54 dc54 pm54 an54 cd54 ct54), sl54⟩) (c54 : PySem.W.codeIn K cd54 "last_two" = true) (k54 : PySem.W.keepIn K (.ref f54) = true)
    (a55 : PySem.W.nsIn K mainGlobals "frac_minus" = some (some (.ref f55))) (l55 : K.lookup f55 = some ⟨oc55, od55, .func (PySem.W.fnOf "frac_minus" "frac_minus" (defArgs sd_frac_minus) (defBody sd_frac_minus) (defScope sd_frac_minus) .none kV55 dc55 pm55 an55 cd55 ct55), sl55⟩) (c55 : PySem.W.codeIn K cd55 "frac_minus" = true) (k55 : PySem.W.keepIn K (.ref f55) = true)
    (a56 : PySem.W.nsIn K mainGlobals "closest" = some (some (.ref f56))) (l56 : K.lookup f56 = some ⟨oc56, od56, .func (PySem.W.fnOf "closest" "closest" (defArgs sd_closest) (defBody sd_closest) (defScope sd_closest) .none kV56 dc56 pm56 an56 cd56 ct56), sl56⟩) (c56 : PySem.W.codeIn K cd56 "closest" = true) (k56 : PySem.W.keepIn K (.ref f56) = true)
    (a57 : PySem.W.nsIn K mainGlobals "_law_told" = some (some (.ref f57))) (l57 : K.lookup f57 = some ⟨oc57, od57, .func (PySem.W.fnOf "_law_told" "_law_told" (defArgs sd_told) (defBody sd_told) (defScope sd_told) .none kV57 dc57 pm57 an57 cd57 ct57), sl57⟩) (c57 : PySem.W.codeIn K cd57 "_law_told" = true) (k57 : PySem.W.keepIn K (.ref f57) = true)
    (a58 : PySem.W.nsIn K mainGlobals "law" = some (some (.ref f58))) (l58 : K.lookup f58 = some ⟨oc58, od58, .func (PySem.W.fnOf "law" "law" (defArgs sd_law) (defBody sd_law) (defScope sd_law) .none kV58 dc58 pm58 an58 cd58 ct58), sl58⟩) (c58 : PySem.W.codeIn K cd58 "law" = true) (k58 : PySem.W.keepIn K (.ref f58) = true)
    (z0 : PySem.W.nsIn K mainGlobals "len" = some none)
    (z1 : PySem.W.nsIn K mainGlobals "abs" = some none)
    (z2 : PySem.W.nsIn K mainGlobals "max" = some none)
    (z3 : PySem.W.nsIn K mainGlobals "min" = some none)
    (z4 : PySem.W.nsIn K mainGlobals "int" = some none)
    (z5 : PySem.W.nsIn K mainGlobals "bool" = some none)
    (z6 : PySem.W.nsIn K mainGlobals "tuple" = some none)
    (z7 : PySem.W.nsIn K mainGlobals "list" = some none)
    (z8 : PySem.W.nsIn K mainGlobals "str" = some none)
    (z9 : PySem.W.nsIn K mainGlobals "range" = some none)
    (z10 : PySem.W.nsIn K mainGlobals "isinstance" = some none)
    (z11 : PySem.W.nsIn K mainGlobals "reversed" = some none)
    (z12 : PySem.W.nsIn K mainGlobals "enumerate" = some none)
    (z13 : PySem.W.nsIn K mainGlobals "ValueError" = some none)
    (cst0 : PySem.W.nsIn K mainGlobals "BITS" = some (some (.int 16 tk0)))
    (cst1 : PySem.W.nsIn K mainGlobals "BASE" = some (some (.int 65536 tk1)))
    (cstT0 : PySem.W.nsIn K mainGlobals "WAYS" = some (some (.ref tp0)))
    (ltT0 : K.lookup tp0 = some ⟨.type "tuple", dp0, .seq #[.str "down" tk0_0, .str "up" tk0_1, .str "zero" tk0_2, .str "near" tk0_3] np0, sp0⟩)
    (cstN0 : PySem.W.nsIn K mainGlobals "EARLIEST" = some (some (.ref an0_0)))
    (ltN0_0 : K.lookup an0_0 = some ⟨.type "tuple", dn0_0, .seq #[.ref an0_1, .ref an0_3] nn0_0, sn0_0⟩)
    (ltN0_1 : K.lookup an0_1 = some ⟨.type "tuple", dn0_1, .seq #[.int 0 tn0_1_0, .ref an0_2] nn0_1, sn0_1⟩)
    (ltN0_2 : K.lookup an0_2 = some ⟨.type "tuple", dn0_2, .seq #[] nn0_2, sn0_2⟩)
    (ltN0_3 : K.lookup an0_3 = some ⟨.type "tuple", dn0_3, .seq #[.int 1 tn0_3_0] nn0_3, sn0_3⟩)
    (cstN1 : PySem.W.nsIn K mainGlobals "AHEAD" = some (some (.ref an1_0)))
    (ltN1_0 : K.lookup an1_0 = some ⟨.type "tuple", dn1_0, .seq #[.ref an1_1, .ref an1_3] nn1_0, sn1_0⟩)
    (ltN1_1 : K.lookup an1_1 = some ⟨.type "tuple", dn1_1, .seq #[.int 1 tn1_1_0, .ref an1_2] nn1_1, sn1_1⟩)
    (ltN1_2 : K.lookup an1_2 = some ⟨.type "tuple", dn1_2, .seq #[.int 1 tn1_2_0] nn1_2, sn1_2⟩)
    (ltN1_3 : K.lookup an1_3 = some ⟨.type "tuple", dn1_3, .seq #[] nn1_3, sn1_3⟩)
    (xa_NumberError : PySem.W.nsIn K mainGlobals "NumberError" = some (some (.ref ca_NumberError)))
    (xe_NumberError : PySem.W.excIn K ca_NumberError vBases "ValueError.__new__" = true)
    (xt_NumberError : PySem.W.typeIn K (.ref ca_NumberError) = some (.type "type"))
    (xi_NumberError : PySem.W.isClsIn K ca_NumberError = true)
    (xg_NumberError : PySem.W.findIn K (.ref ca_NumberError) "__getattribute__" = some (some (.builtin "BaseException.__getattribute__")))
    (xh_NumberError : PySem.W.findIn K (.ref ca_NumberError) "__getattr__" = some none)
    (xc_NumberError : PySem.W.findIn K (.ref ca_NumberError) "__class__" = some (some (.builtin "object.__class__")))
    (xo_NumberError : PySem.W.mroIn K ca_NumberError (.type "object") = some true)
    (xb_NumberError : PySem.W.mroIn K ca_NumberError (.type "BaseException") = some true)
    (xa_NoNatural : PySem.W.nsIn K mainGlobals "NoNatural" = some (some (.ref ca_NoNatural)))
    (xa_BelowNought : PySem.W.nsIn K mainGlobals "BelowNought" = some (some (.ref ca_BelowNought)))
    (xe_BelowNought : PySem.W.excIn K ca_BelowNought vBases "ValueError.__new__" = true)
    (xt_BelowNought : PySem.W.typeIn K (.ref ca_BelowNought) = some (.type "type"))
    (xi_BelowNought : PySem.W.isClsIn K ca_BelowNought = true)
    (xg_BelowNought : PySem.W.findIn K (.ref ca_BelowNought) "__getattribute__" = some (some (.builtin "BaseException.__getattribute__")))
    (xh_BelowNought : PySem.W.findIn K (.ref ca_BelowNought) "__getattr__" = some none)
    (xc_BelowNought : PySem.W.findIn K (.ref ca_BelowNought) "__class__" = some (some (.builtin "object.__class__")))
    (xo_BelowNought : PySem.W.mroIn K ca_BelowNought (.type "object") = some true)
    (xb_BelowNought : PySem.W.mroIn K ca_BelowNought (.type "BaseException") = some true)
    (xa_NoCount : PySem.W.nsIn K mainGlobals "NoCount" = some (some (.ref ca_NoCount)))
    (xe_NoCount : PySem.W.excIn K ca_NoCount vBases "ValueError.__new__" = true)
    (xt_NoCount : PySem.W.typeIn K (.ref ca_NoCount) = some (.type "type"))
    (xi_NoCount : PySem.W.isClsIn K ca_NoCount = true)
    (xg_NoCount : PySem.W.findIn K (.ref ca_NoCount) "__getattribute__" = some (some (.builtin "BaseException.__getattribute__")))
    (xh_NoCount : PySem.W.findIn K (.ref ca_NoCount) "__getattr__" = some none)
    (xc_NoCount : PySem.W.findIn K (.ref ca_NoCount) "__class__" = some (some (.builtin "object.__class__")))
    (xo_NoCount : PySem.W.mroIn K ca_NoCount (.type "object") = some true)
    (xb_NoCount : PySem.W.mroIn K ca_NoCount (.type "BaseException") = some true)
    (xa_ByNought : PySem.W.nsIn K mainGlobals "ByNought" = some (some (.ref ca_ByNought)))
    (xe_ByNought : PySem.W.excIn K ca_ByNought vBases "ValueError.__new__" = true)
    (xt_ByNought : PySem.W.typeIn K (.ref ca_ByNought) = some (.type "type"))
    (xi_ByNought : PySem.W.isClsIn K ca_ByNought = true)
    (xg_ByNought : PySem.W.findIn K (.ref ca_ByNought) "__getattribute__" = some (some (.builtin "BaseException.__getattribute__")))
    (xh_ByNought : PySem.W.findIn K (.ref ca_ByNought) "__getattr__" = some none)
    (xc_ByNought : PySem.W.findIn K (.ref ca_ByNought) "__class__" = some (some (.builtin "object.__class__")))
    (xo_ByNought : PySem.W.mroIn K ca_ByNought (.type "object") = some true)
    (xb_ByNought : PySem.W.mroIn K ca_ByNought (.type "BaseException") = some true)
    (xa_NoWay : PySem.W.nsIn K mainGlobals "NoWay" = some (some (.ref ca_NoWay)))
    (xe_NoWay : PySem.W.excIn K ca_NoWay vBases "ValueError.__new__" = true)
    (xt_NoWay : PySem.W.typeIn K (.ref ca_NoWay) = some (.type "type"))
    (xi_NoWay : PySem.W.isClsIn K ca_NoWay = true)
    (xg_NoWay : PySem.W.findIn K (.ref ca_NoWay) "__getattribute__" = some (some (.builtin "BaseException.__getattribute__")))
    (xh_NoWay : PySem.W.findIn K (.ref ca_NoWay) "__getattr__" = some none)
    (xc_NoWay : PySem.W.findIn K (.ref ca_NoWay) "__class__" = some (some (.builtin "object.__class__")))
    (xo_NoWay : PySem.W.mroIn K ca_NoWay (.type "object") = some true)
    (xb_NoWay : PySem.W.mroIn K ca_NoWay (.type "BaseException") = some true)
    (xa_NoChain : PySem.W.nsIn K mainGlobals "NoChain" = some (some (.ref ca_NoChain)))
    (xa_NoRoot : PySem.W.nsIn K mainGlobals "NoRoot" = some (some (.ref ca_NoRoot)))
    (xa_NoBase : PySem.W.nsIn K mainGlobals "NoBase" = some (some (.ref ca_NoBase)))
    (xa_NoDigit : PySem.W.nsIn K mainGlobals "NoDigit" = some (some (.ref ca_NoDigit)))
    (xa_TooLong : PySem.W.nsIn K mainGlobals "TooLong" = some (some (.ref ca_TooLong)))
    (xa_NoText : PySem.W.nsIn K mainGlobals "NoText" = some (some (.ref ca_NoText)))
    (xa_NoName : PySem.W.nsIn K mainGlobals "NoName" = some (some (.ref ca_NoName)))
    (xcg : PySem.W.specialIn K (.builtin "object.__class__") "__get__" = some (some (.builtin "getset_descriptor.__get__")))
    (xct : PySem.W.takesIn K (.builtin "object.__class__") = some true)
    (fi_ByNought_NumberError : PySem.W.kitOne K (.ref ca_ByNought) (.ref ca_NumberError) = some true)
    (fi_ByNought_NoNatural : PySem.W.kitOne K (.ref ca_ByNought) (.ref ca_NoNatural) = some false)
    (fi_ByNought_BelowNought : PySem.W.kitOne K (.ref ca_ByNought) (.ref ca_BelowNought) = some false)
    (fi_ByNought_NoCount : PySem.W.kitOne K (.ref ca_ByNought) (.ref ca_NoCount) = some false)
    (fi_ByNought_ByNought : PySem.W.kitOne K (.ref ca_ByNought) (.ref ca_ByNought) = some true)
    (fi_ByNought_NoWay : PySem.W.kitOne K (.ref ca_ByNought) (.ref ca_NoWay) = some false)
    (fi_ByNought_NoChain : PySem.W.kitOne K (.ref ca_ByNought) (.ref ca_NoChain) = some false)
    (fi_ByNought_NoRoot : PySem.W.kitOne K (.ref ca_ByNought) (.ref ca_NoRoot) = some false)
    (fi_ByNought_NoBase : PySem.W.kitOne K (.ref ca_ByNought) (.ref ca_NoBase) = some false)
    (fi_ByNought_NoDigit : PySem.W.kitOne K (.ref ca_ByNought) (.ref ca_NoDigit) = some false)
    (fi_ByNought_TooLong : PySem.W.kitOne K (.ref ca_ByNought) (.ref ca_TooLong) = some false)
    (fi_ByNought_NoText : PySem.W.kitOne K (.ref ca_ByNought) (.ref ca_NoText) = some false)
    (fi_ByNought_NoName : PySem.W.kitOne K (.ref ca_ByNought) (.ref ca_NoName) = some false)
    (fiv_ByNought : PySem.W.kitOne K (.ref ca_ByNought) (.type "ValueError") = some true)
    (ft_ByNought_NumberError : PySem.W.subIn K (.ref ca_ByNought) (.ref ca_NumberError) = some true)
    : ∃ fd : FuncData, (∀ (s : Shared) (v : Value), BindsTo s fd ⟨[v], []⟩ [("_law_script", v)]) ∧ ∀ base : Heap, K.In base → base.Ns mainGlobals mg → FnOk l.prog w K mg base CX0 12 fa fd ["_law_script"] (sp_law K) := by
  have e := hfa.symm.trans (PySem.W.mg_of X G a58)
  cases e
  have B : Glb K mg := ⟨PySem.W.mg_none_of X G z0, PySem.W.mg_none_of X G z1, PySem.W.mg_none_of X G z2, PySem.W.mg_none_of X G z3, PySem.W.mg_none_of X G z4, PySem.W.mg_none_of X G z5, PySem.W.mg_none_of X G z6, PySem.W.mg_none_of X G z7, PySem.W.mg_none_of X G z8, PySem.W.mg_none_of X G z9, PySem.W.mg_none_of X G z10, PySem.W.mg_none_of X G z11, PySem.W.mg_none_of X G z12, PySem.W.mg_none_of X G z13, ⟨_, PySem.W.mg_of X G cst0⟩, ⟨_, PySem.W.mg_of X G cst1⟩, ⟨_, PySem.W.mg_of X G cstT0, fun H => .inr ⟨_, _, _, ltT0, rfl, rfl, (by show 4 ≤ sizeLine; decide), (.cons ⟨_, rfl⟩ (.cons ⟨_, rfl⟩ (.cons ⟨_, rfl⟩ (.cons ⟨_, rfl⟩ .nil))))⟩⟩, ⟨_, _, _, _, PySem.W.mg_of X G cstN0, fun H => .inr ⟨_, _, _, ltN0_0, rfl, rfl, (by show 2 ≤ sizeLine; decide), (.cons rfl (.cons rfl .nil))⟩, fun H => .inr ⟨_, _, _, ltN0_1, rfl, rfl, (by show 2 ≤ sizeLine; decide), (.cons ⟨_, rfl⟩ (.cons rfl .nil))⟩, fun H => .inr ⟨_, _, _, ltN0_2, rfl, rfl, (by show 0 ≤ sizeLine; decide), .nil⟩, fun H => .inr ⟨_, _, _, ltN0_3, rfl, rfl, (by show 1 ≤ sizeLine; decide), (.cons ⟨_, rfl⟩ .nil)⟩⟩, ⟨_, _, _, _, PySem.W.mg_of X G cstN1, fun H => .inr ⟨_, _, _, ltN1_0, rfl, rfl, (by show 2 ≤ sizeLine; decide), (.cons rfl (.cons rfl .nil))⟩, fun H => .inr ⟨_, _, _, ltN1_1, rfl, rfl, (by show 2 ≤ sizeLine; decide), (.cons ⟨_, rfl⟩ (.cons rfl .nil))⟩, fun H => .inr ⟨_, _, _, ltN1_2, rfl, rfl, (by show 1 ≤ sizeLine; decide), (.cons ⟨_, rfl⟩ .nil)⟩, fun H => .inr ⟨_, _, _, ltN1_3, rfl, rfl, (by show 0 ≤ sizeLine; decide), .nil⟩⟩, ⟨_, ⟨xa_NumberError, xe_NumberError, xt_NumberError, xi_NumberError, xg_NumberError, xh_NumberError, xc_NumberError, xo_NumberError, xb_NumberError⟩, PySem.W.mg_of X G xa_NumberError⟩, ⟨_, xa_NoNatural, PySem.W.mg_of X G xa_NoNatural⟩, ⟨_, ⟨xa_BelowNought, xe_BelowNought, xt_BelowNought, xi_BelowNought, xg_BelowNought, xh_BelowNought, xc_BelowNought, xo_BelowNought, xb_BelowNought⟩, PySem.W.mg_of X G xa_BelowNought⟩, ⟨_, ⟨xa_NoCount, xe_NoCount, xt_NoCount, xi_NoCount, xg_NoCount, xh_NoCount, xc_NoCount, xo_NoCount, xb_NoCount⟩, PySem.W.mg_of X G xa_NoCount⟩, ⟨_, ⟨xa_ByNought, xe_ByNought, xt_ByNought, xi_ByNought, xg_ByNought, xh_ByNought, xc_ByNought, xo_ByNought, xb_ByNought⟩, PySem.W.mg_of X G xa_ByNought⟩, ⟨_, ⟨xa_NoWay, xe_NoWay, xt_NoWay, xi_NoWay, xg_NoWay, xh_NoWay, xc_NoWay, xo_NoWay, xb_NoWay⟩, PySem.W.mg_of X G xa_NoWay⟩, ⟨_, xa_NoChain, PySem.W.mg_of X G xa_NoChain⟩, ⟨_, xa_NoRoot, PySem.W.mg_of X G xa_NoRoot⟩, ⟨_, xa_NoBase, PySem.W.mg_of X G xa_NoBase⟩, ⟨_, xa_NoDigit, PySem.W.mg_of X G xa_NoDigit⟩, ⟨_, xa_TooLong, PySem.W.mg_of X G xa_TooLong⟩, ⟨_, xa_NoText, PySem.W.mg_of X G xa_NoText⟩, ⟨_, xa_NoName, PySem.W.mg_of X G xa_NoName⟩, xcg, xct, fun R C hR hC => by cases hR.symm.trans xa_ByNought; cases hC.symm.trans xa_NumberError; exact fi_ByNought_NumberError, fun R C hR hC => by cases hR.symm.trans xa_ByNought; cases hC.symm.trans xa_NoNatural; exact fi_ByNought_NoNatural, fun R C hR hC => by cases hR.symm.trans xa_ByNought; cases hC.symm.trans xa_BelowNought; exact fi_ByNought_BelowNought, fun R C hR hC => by cases hR.symm.trans xa_ByNought; cases hC.symm.trans xa_NoCount; exact fi_ByNought_NoCount, fun R C hR hC => by cases hR.symm.trans xa_ByNought; cases hC.symm.trans xa_ByNought; exact fi_ByNought_ByNought, fun R C hR hC => by cases hR.symm.trans xa_ByNought; cases hC.symm.trans xa_NoWay; exact fi_ByNought_NoWay, fun R C hR hC => by cases hR.symm.trans xa_ByNought; cases hC.symm.trans xa_NoChain; exact fi_ByNought_NoChain, fun R C hR hC => by cases hR.symm.trans xa_ByNought; cases hC.symm.trans xa_NoRoot; exact fi_ByNought_NoRoot, fun R C hR hC => by cases hR.symm.trans xa_ByNought; cases hC.symm.trans xa_NoBase; exact fi_ByNought_NoBase, fun R C hR hC => by cases hR.symm.trans xa_ByNought; cases hC.symm.trans xa_NoDigit; exact fi_ByNought_NoDigit, fun R C hR hC => by cases hR.symm.trans xa_ByNought; cases hC.symm.trans xa_TooLong; exact fi_ByNought_TooLong, fun R C hR hC => by cases hR.symm.trans xa_ByNought; cases hC.symm.trans xa_NoText; exact fi_ByNought_NoText, fun R C hR hC => by cases hR.symm.trans xa_ByNought; cases hC.symm.trans xa_NoName; exact fi_ByNought_NoName, fun R hR => by cases hR.symm.trans xa_ByNought; exact fiv_ByNought, fun R C hR hC => by cases hR.symm.trans xa_ByNought; cases hC.symm.trans xa_NumberError; exact ft_ByNought_NumberError⟩
  have F1 := fun_mk (st := sd_number_of) l1 c1 k1
  have D1 : DefAt K mg "number_of" sd_number_of pr_number_of _ _ := F1.defAt (F1.binds (ps := pr_number_of) fun _ _ _ _ _ _ us hl => match us, hl with | [_], _ => rfl) (PySem.W.mg_of X G a1)
  have F2 := fun_mk (st := sd_trimmed) l2 c2 k2
  have D2 : DefAt K mg "trimmed" sd_trimmed pr_trimmed _ _ := F2.defAt (F2.binds (ps := pr_trimmed) fun _ _ _ _ _ _ us hl => match us, hl with | [_], _ => rfl) (PySem.W.mg_of X G a2)
  have F3 := fun_mk (st := sd_limb_at) l3 c3 k3
  have D3 : DefAt K mg "limb_at" sd_limb_at pr_limb_at _ _ := F3.defAt (F3.binds (ps := pr_limb_at) fun _ _ _ _ _ _ us hl => match us, hl with | [_, _], _ => rfl) (PySem.W.mg_of X G a3)
  have F4 := fun_mk (st := sd_refuse_below_nought) l4 c4 k4
  have D4 : DefAt K mg "refuse_below_nought" sd_refuse_below_nought pr_refuse_below_nought _ _ := F4.defAt (F4.binds (ps := pr_refuse_below_nought) fun _ _ _ _ _ _ us hl => match us, hl with | [_], _ => rfl) (PySem.W.mg_of X G a4)
  have F5 := fun_mk (st := sd_compared) l5 c5 k5
  have D5 : DefAt K mg "compared" sd_compared pr_compared _ _ := F5.defAt (F5.binds (ps := pr_compared) fun _ _ _ _ _ _ us hl => match us, hl with | [_, _], _ => rfl) (PySem.W.mg_of X G a5)
  have F6 := fun_mk (st := sd_refuse_nought) l6 c6 k6
  have D6 : DefAt K mg "refuse_nought" sd_refuse_nought pr_refuse_nought _ _ := F6.defAt (F6.binds (ps := pr_refuse_nought) fun _ _ _ _ _ _ us hl => match us, hl with | [_], _ => rfl) (PySem.W.mg_of X G a6)
  have F7 := fun_mk (st := sd_signed) l7 c7 k7
  have D7 : DefAt K mg "signed" sd_signed pr_signed _ _ := F7.defAt (F7.binds (ps := pr_signed) fun _ _ _ _ _ _ us hl => match us, hl with | [_, _], _ => rfl) (PySem.W.mg_of X G a7)
  have F8 := fun_mk (st := sd_turned) l8 c8 k8
  have D8 : DefAt K mg "turned" sd_turned pr_turned _ _ := F8.defAt (F8.binds (ps := pr_turned) fun _ _ _ _ _ _ us hl => match us, hl with | [_], _ => rfl) (PySem.W.mg_of X G a8)
  have F9 := fun_mk (st := sd_refuse_no_way) l9 c9 k9
  have D9 : DefAt K mg "refuse_no_way" sd_refuse_no_way pr_refuse_no_way _ _ := F9.defAt (F9.binds (ps := pr_refuse_no_way) fun _ _ _ _ _ _ us hl => match us, hl with | [_, _], _ => rfl) (PySem.W.mg_of X G a9)
  have F10 := fun_mk (st := sd_cell) l10 c10 k10
  have D10 : DefAt K mg "_law_cell" sd_cell pr_cell _ _ := F10.defAt (F10.binds (ps := pr_cell) fun _ _ _ _ _ _ us hl => match us, hl with | [_, _], _ => rfl) (PySem.W.mg_of X G a10)
  have F11 := fun_mk (st := sd_mixed) l11 c11 k11
  have D11 : DefAt K mg "_law_mixed" sd_mixed pr_mixed _ _ := F11.defAt (F11.binds (ps := pr_mixed) fun _ _ _ _ _ _ us hl => match us, hl with | [_, _], _ => rfl) (PySem.W.mg_of X G a11)
  have F12 := fun_mk (st := sd_value) l12 c12 k12
  have D12 : DefAt K mg "_law_value" sd_value pr_value _ _ := F12.defAt (F12.binds (ps := pr_value) fun _ _ _ _ _ _ us hl => match us, hl with | [_], _ => rfl) (PySem.W.mg_of X G a12)
  have F13 := fun_mk (st := sd_natural) l13 c13 k13
  have D13 : DefAt K mg "_law_natural" sd_natural pr_natural _ _ := F13.defAt (F13.binds (ps := pr_natural) fun _ _ _ _ _ _ us hl => match us, hl with | [_], _ => rfl) (PySem.W.mg_of X G a13)
  have F14 := fun_mk (st := sd_limb) l14 c14 k14
  have D14 : DefAt K mg "_law_limb" sd_limb pr_limb _ _ := F14.defAt (F14.binds (ps := pr_limb) fun _ _ _ _ _ _ us hl => match us, hl with | [_], _ => rfl) (PySem.W.mg_of X G a14)
  have F15 := fun_mk (st := sd_common) l15 c15 k15
  have D15 : DefAt K mg "_law_common" sd_common pr_common _ _ := F15.defAt (F15.binds (ps := pr_common) fun _ _ _ _ _ _ us hl => match us, hl with | [_, _], _ => rfl) (PySem.W.mg_of X G a15)
  have F16 := fun_mk (st := sd_kind) l16 c16 k16
  have D16 : DefAt K mg "_law_kind" sd_kind pr_kind _ _ := F16.defAt (F16.binds (ps := pr_kind) fun _ _ _ _ _ _ us hl => match us, hl with | [_], _ => rfl) (PySem.W.mg_of X G a16)
  have F17 := fun_mk (st := sd_better) l17 c17 k17
  have D17 : DefAt K mg "_law_better" sd_better pr_better _ _ := F17.defAt (F17.binds (ps := pr_better) fun _ _ _ _ _ _ us hl => match us, hl with | [_, _, _, _], _ => rfl) (PySem.W.mg_of X G a17)
  have D18 : DefG (some (.int 1)) K mg "moved_up" sd_moved_up pr_moved_up _ _ := ⟨⟨_, _, _, _, _, _, _, _, _, _, rfl, l18, c18⟩, k18, fun s us KX hl => by rw [List.append_nil] at hl ⊢; exact (match us, hl with | [_, _], _ => BindsTo.of_defaults rfl (KX _ _ ld18) rfl rfl rfl), fun v hv => by cases hv; exact ⟨_, ⟨_, rfl⟩, fun s us KX hl => by have hl2 : us.length = 1 := Nat.succ.inj ((List.length_append ..).symm.trans hl); exact (match us, hl2 with | [_], _ => BindsTo.of_defaults rfl (KX _ _ ld18) rfl rfl rfl)⟩, PySem.W.mg_of X G a18⟩
  have F19 := fun_mk (st := sd_bit_at) l19 c19 k19
  have D19 : DefAt K mg "bit_at" sd_bit_at pr_bit_at _ _ := F19.defAt (F19.binds (ps := pr_bit_at) fun _ _ _ _ _ _ us hl => match us, hl with | [_, _], _ => rfl) (PySem.W.mg_of X G a19)
  have F20 := fun_mk (st := sd_carried) l20 c20 k20
  have D20 : DefAt K mg "carried" sd_carried pr_carried _ _ := F20.defAt (F20.binds (ps := pr_carried) fun _ _ _ _ _ _ us hl => match us, hl with | [_], _ => rfl) (PySem.W.mg_of X G a20)
  have F21 := fun_mk (st := sd_carries) l21 c21 k21
  have D21 : DefAt K mg "carries" sd_carries pr_carries _ _ := F21.defAt (F21.binds (ps := pr_carries) fun _ _ _ _ _ _ us hl => match us, hl with | [_, _], _ => rfl) (PySem.W.mg_of X G a21)
  have F22 := fun_mk (st := sd_minus) l22 c22 k22
  have D22 : DefAt K mg "minus" sd_minus pr_minus _ _ := F22.defAt (F22.binds (ps := pr_minus) fun _ _ _ _ _ _ us hl => match us, hl with | [_, _], _ => rfl) (PySem.W.mg_of X G a22)
  have F23 := fun_mk (st := sd_ranked) l23 c23 k23
  have D23 : DefAt K mg "ranked" sd_ranked pr_ranked _ _ := F23.defAt (F23.binds (ps := pr_ranked) fun _ _ _ _ _ _ us hl => match us, hl with | [_, _], _ => rfl) (PySem.W.mg_of X G a23)
  have F24 := fun_mk (st := sd_is) l24 c24 k24
  have D24 : DefAt K mg "_law_is" sd_is pr_is _ _ := F24.defAt (F24.binds (ps := pr_is) fun _ _ _ _ _ _ us hl => match us, hl with | [_, _], _ => rfl) (PySem.W.mg_of X G a24)
  have F25 := fun_mk (st := sd_number) l25 c25 k25
  have D25 : DefAt K mg "_law_number" sd_number pr_number _ _ := F25.defAt (F25.binds (ps := pr_number) fun _ _ _ _ _ _ us hl => match us, hl with | [_, _], _ => rfl) (PySem.W.mg_of X G a25)
  have F26 := fun_mk (st := sd_whole) l26 c26 k26
  have D26 : DefAt K mg "_law_whole" sd_whole pr_whole _ _ := F26.defAt (F26.binds (ps := pr_whole) fun _ _ _ _ _ _ us hl => match us, hl with | [_], _ => rfl) (PySem.W.mg_of X G a26)
  have F27 := fun_mk (st := sd_by_all) l27 c27 k27
  have D27 : DefAt K mg "_law_by_all" sd_by_all pr_by_all _ _ := F27.defAt (F27.binds (ps := pr_by_all) fun _ _ _ _ _ _ us hl => match us, hl with | [_, _, _], _ => rfl) (PySem.W.mg_of X G a27)
  have F28 := fun_mk (st := sd_by_chain) l28 c28 k28
  have D28 : DefAt K mg "_law_by_chain" sd_by_chain pr_by_chain _ _ := F28.defAt (F28.binds (ps := pr_by_chain) fun _ _ _ _ _ _ us hl => match us, hl with | [_, _, _], _ => rfl) (PySem.W.mg_of X G a28)
  have F29 := fun_mk (st := sd_times_limb) l29 c29 k29
  have D29 : DefAt K mg "times_limb" sd_times_limb pr_times_limb _ _ := F29.defAt (F29.binds (ps := pr_times_limb) fun _ _ _ _ _ _ us hl => match us, hl with | [_, _], _ => rfl) (PySem.W.mg_of X G a29)
  have F30 := fun_mk (st := sd_times) l30 c30 k30
  have D30 : DefAt K mg "times" sd_times pr_times _ _ := F30.defAt (F30.binds (ps := pr_times) fun _ _ _ _ _ _ us hl => match us, hl with | [_, _], _ => rfl) (PySem.W.mg_of X G a30)
  have F31 := fun_mk (st := sd_plus) l31 c31 k31
  have D31 : DefAt K mg "plus" sd_plus pr_plus _ _ := F31.defAt (F31.binds (ps := pr_plus) fun _ _ _ _ _ _ us hl => match us, hl with | [_, _], _ => rfl) (PySem.W.mg_of X G a31)
  have F32 := fun_mk (st := sd_half_goes_beyond) l32 c32 k32
  have D32 : DefAt K mg "half_goes_beyond" sd_half_goes_beyond pr_half_goes_beyond _ _ := F32.defAt (F32.binds (ps := pr_half_goes_beyond) fun _ _ _ _ _ _ us hl => match us, hl with | [_, _], _ => rfl) (PySem.W.mg_of X G a32)
  have F33 := fun_mk (st := sd_l_signed) l33 c33 k33
  have D33 : DefAt K mg "_law_signed" sd_l_signed pr_l_signed _ _ := F33.defAt (F33.binds (ps := pr_l_signed) fun _ _ _ _ _ _ us hl => match us, hl with | [_, _], _ => rfl) (PySem.W.mg_of X G a33)
  have F34 := fun_mk (st := sd_is_whole) l34 c34 k34
  have D34 : DefAt K mg "_law_is_whole" sd_is_whole pr_is_whole _ _ := F34.defAt (F34.binds (ps := pr_is_whole) fun _ _ _ _ _ _ us hl => match us, hl with | [_, _], _ => rfl) (PySem.W.mg_of X G a34)
  have F35 := fun_mk (st := sd_fraction) l35 c35 k35
  have D35 : DefAt K mg "_law_fraction" sd_fraction pr_fraction _ _ := F35.defAt (F35.binds (ps := pr_fraction) fun _ _ _ _ _ _ us hl => match us, hl with | [_, _], _ => rfl) (PySem.W.mg_of X G a35)
  have F36 := fun_mk (st := sd_step_of) l36 c36 k36
  have D36 : DefAt K mg "step_of" sd_step_of pr_step_of _ _ := F36.defAt (F36.binds (ps := pr_step_of) fun _ _ _ _ _ _ us hl => match us, hl with | [_, _], _ => rfl) (PySem.W.mg_of X G a36)
  have F37 := fun_mk (st := sd_added) l37 c37 k37
  have D37 : DefAt K mg "added" sd_added pr_added _ _ := F37.defAt (F37.binds (ps := pr_added) fun _ _ _ _ _ _ us hl => match us, hl with | [_, _], _ => rfl) (PySem.W.mg_of X G a37)
  have F38 := fun_mk (st := sd_multiplied) l38 c38 k38
  have D38 : DefAt K mg "multiplied" sd_multiplied pr_multiplied _ _ := F38.defAt (F38.binds (ps := pr_multiplied) fun _ _ _ _ _ _ us hl => match us, hl with | [_, _], _ => rfl) (PySem.W.mg_of X G a38)
  have F39 := fun_mk (st := sd_goes_beyond) l39 c39 k39
  have D39 : DefAt K mg "goes_beyond" sd_goes_beyond pr_goes_beyond _ _ := F39.defAt (F39.binds (ps := pr_goes_beyond) fun _ _ _ _ _ _ us hl => match us, hl with | [_, _, _, _, _], _ => rfl) (PySem.W.mg_of X G a39)
  have F40 := fun_mk (st := sd_pair) l40 c40 k40
  have D40 : DefAt K mg "_law_pair" sd_pair pr_pair _ _ := F40.defAt (F40.binds (ps := pr_pair) fun _ _ _ _ _ _ us hl => match us, hl with | [_, _, _], _ => rfl) (PySem.W.mg_of X G a40)
  have F41 := fun_mk (st := sd_is_fraction) l41 c41 k41
  have D41 : DefAt K mg "_law_is_fraction" sd_is_fraction pr_is_fraction _ _ := F41.defAt (F41.binds (ps := pr_is_fraction) fun _ _ _ _ _ _ us hl => match us, hl with | [_, _, _], _ => rfl) (PySem.W.mg_of X G a41)
  have F42 := fun_mk (st := sd_steps_through) l42 c42 k42
  have D42 : DefAt K mg "steps_through" sd_steps_through pr_steps_through _ _ := F42.defAt (F42.binds (ps := pr_steps_through) fun _ _ _ _ _ _ us hl => match us, hl with | [_, _, _], _ => rfl) (PySem.W.mg_of X G a42)
  have F43 := fun_mk (st := sd_taken) l43 c43 k43
  have D43 : DefAt K mg "taken" sd_taken pr_taken _ _ := F43.defAt (F43.binds (ps := pr_taken) fun _ _ _ _ _ _ us hl => match us, hl with | [_, _], _ => rfl) (PySem.W.mg_of X G a43)
  have F44 := fun_mk (st := sd_across) l44 c44 k44
  have D44 : DefAt K mg "across" sd_across pr_across _ _ := F44.defAt (F44.binds (ps := pr_across) fun _ _ _ _ _ _ us hl => match us, hl with | [_, _], _ => rfl) (PySem.W.mg_of X G a44)
  have F45 := fun_mk (st := sd_later_of) l45 c45 k45
  have D45 : DefAt K mg "later_of" sd_later_of pr_later_of _ _ := F45.defAt (F45.binds (ps := pr_later_of) fun _ _ _ _ _ _ us hl => match us, hl with | [_, _, _], _ => rfl) (PySem.W.mg_of X G a45)
  have F46 := fun_mk (st := sd_parted) l46 c46 k46
  have D46 : DefAt K mg "parted" sd_parted pr_parted _ _ := F46.defAt (F46.binds (ps := pr_parted) fun _ _ _ _ _ _ us hl => match us, hl with | [_, _], _ => rfl) (PySem.W.mg_of X G a46)
  have F47 := fun_mk (st := sd_frac_ranked) l47 c47 k47
  have D47 : DefAt K mg "frac_ranked" sd_frac_ranked pr_frac_ranked _ _ := F47.defAt (F47.binds (ps := pr_frac_ranked) fun _ _ _ _ _ _ us hl => match us, hl with | [_, _], _ => rfl) (PySem.W.mg_of X G a47)
  have F48 := fun_mk (st := sd_gap_of) l48 c48 k48
  have D48 : DefAt K mg "gap_of" sd_gap_of pr_gap_of _ _ := F48.defAt (F48.binds (ps := pr_gap_of) fun _ _ _ _ _ _ us hl => match us, hl with | [_, _, _], _ => rfl) (PySem.W.mg_of X G a48)
  have F49 := fun_mk (st := sd_common_of) l49 c49 k49
  have D49 : DefAt K mg "common_of" sd_common_of pr_common_of _ _ := F49.defAt (F49.binds (ps := pr_common_of) fun _ _ _ _ _ _ us hl => match us, hl with | [_, _], _ => rfl) (PySem.W.mg_of X G a49)
  have F50 := fun_mk (st := sd_rounded_size) l50 c50 k50
  have D50 : DefAt K mg "rounded_size" sd_rounded_size pr_rounded_size _ _ := F50.defAt (F50.binds (ps := pr_rounded_size) fun _ _ _ _ _ _ us hl => match us, hl with | [_, _, _, _], _ => rfl) (PySem.W.mg_of X G a50)
  have D51 : DefG (some V.non) K mg "fraction_of" sd_fraction_of pr_fraction_of _ _ := ⟨⟨_, _, _, _, _, _, _, _, _, _, rfl, l51, c51⟩, k51, fun s us KX hl => by rw [List.append_nil] at hl ⊢; exact (match us, hl with | [_, _], _ => BindsTo.of_defaults rfl (KX _ _ ld51) rfl rfl rfl), fun v hv => by cases hv; exact ⟨_, rfl, fun s us KX hl => by have hl2 : us.length = 1 := Nat.succ.inj ((List.length_append ..).symm.trans hl); exact (match us, hl2 with | [_], _ => BindsTo.of_defaults rfl (KX _ _ ld51) rfl rfl rfl)⟩, PySem.W.mg_of X G a51⟩
  have D52 : DefG (some (.str "down")) K mg "divided" sd_divided pr_divided _ _ := ⟨⟨_, _, _, _, _, _, _, _, _, _, rfl, l52, c52⟩, k52, fun s us KX hl => by rw [List.append_nil] at hl ⊢; exact (match us, hl with | [_, _, _], _ => BindsTo.of_defaults rfl (KX _ _ ld52) rfl rfl rfl), fun v hv => by cases hv; exact ⟨_, ⟨_, rfl⟩, fun s us KX hl => by have hl2 : us.length = 2 := Nat.succ.inj ((List.length_append ..).symm.trans hl); exact (match us, hl2 with | [_, _], _ => BindsTo.of_defaults rfl (KX _ _ ld52) rfl rfl rfl)⟩, PySem.W.mg_of X G a52⟩
  have F53 := fun_mk (st := sd_frac_plus) l53 c53 k53
  have D53 : DefAt K mg "frac_plus" sd_frac_plus pr_frac_plus _ _ := F53.defAt (F53.binds (ps := pr_frac_plus) fun _ _ _ _ _ _ us hl => match us, hl with | [_, _], _ => rfl) (PySem.W.mg_of X G a53)
  have F54 := fun_mk (st := sd_last_two) l54 c54 k54
  have D54 : DefAt K mg "last_two" sd_last_two pr_last_two _ _ := F54.defAt (F54.binds (ps := pr_last_two) fun _ _ _ _ _ _ us hl => match us, hl with | [_, _], _ => rfl) (PySem.W.mg_of X G a54)
  have F55 := fun_mk (st := sd_frac_minus) l55 c55 k55
  have D55 : DefAt K mg "frac_minus" sd_frac_minus pr_frac_minus _ _ := F55.defAt (F55.binds (ps := pr_frac_minus) fun _ _ _ _ _ _ us hl => match us, hl with | [_, _], _ => rfl) (PySem.W.mg_of X G a55)
  have F56 := fun_mk (st := sd_closest) l56 c56 k56
  have D56 : DefAt K mg "closest" sd_closest pr_closest _ _ := F56.defAt (F56.binds (ps := pr_closest) fun _ _ _ _ _ _ us hl => match us, hl with | [_, _], _ => rfl) (PySem.W.mg_of X G a56)
  have F57 := fun_mk (st := sd_told) l57 c57 k57
  have D57 : DefAt K mg "_law_told" sd_told pr_told _ _ := F57.defAt (F57.binds (ps := pr_told) fun _ _ _ _ _ _ us hl => match us, hl with | [_, _], _ => rfl) (PySem.W.mg_of X G a57)
  have F58 := fun_mk (st := sd_law) l58 c58 k58
  have D58 : DefAt K mg "law" sd_law pr_law _ _ := F58.defAt (F58.binds (ps := pr_law) fun _ _ _ _ _ _ us hl => match us, hl with | [_], _ => rfl) (PySem.W.mg_of X G a58)
  refine ⟨PySem.W.fnOf "law" "law" (defArgs sd_law) (defBody sd_law) (defScope sd_law) .none kV58 dc58 pm58 an58 cd58 ct58, fun s v => .of_eq rfl, fun base _ _ => ?_⟩
  have c_number_of := ok_number_of (P := l.prog) (w := w) (base := base) D1 B 
  have c_trimmed := ok_trimmed (P := l.prog) (w := w) (base := base) D2 B 
  have c_limb_at := ok_limb_at (P := l.prog) (w := w) (base := base) D3 B 
  have c_refuse_below_nought := ok_refuse_below_nought (P := l.prog) (w := w) (base := base) D4 B 
  have c_compared := ok_compared (P := l.prog) (w := w) (base := base) D5 B 
  have c_refuse_nought := ok_refuse_nought (P := l.prog) (w := w) (base := base) D6 B 
  have c_signed := ok_signed (P := l.prog) (w := w) (base := base) D7 B 
  have c_turned := ok_turned (P := l.prog) (w := w) (base := base) D8 B 
  have c_refuse_no_way := ok_refuse_no_way (P := l.prog) (w := w) (base := base) D9 B 
  have c_cell := ok_cell (P := l.prog) (w := w) (base := base) D10 B 
  have c_mixed := ok_mixed (P := l.prog) (w := w) (base := base) D11 B 
  have c_value := ok_value (P := l.prog) (w := w) (base := base) D12 B 
  have c_natural := ok_natural (P := l.prog) (w := w) (base := base) D13 B 
  have c_limb := ok_limb (P := l.prog) (w := w) (base := base) D14 B 
  have c_common := ok_common (P := l.prog) (w := w) (base := base) D15 B 
  have c_kind := ok_kind (P := l.prog) (w := w) (base := base) D16 B 
  have c_better := ok_better (P := l.prog) (w := w) (base := base) D17 B 
  have c_moved_up := ok_moved_up (P := l.prog) (w := w) (base := base) D18 B c_refuse_below_nought c_trimmed
  have c_bit_at := ok_bit_at (P := l.prog) (w := w) (base := base) D19 B c_refuse_below_nought c_limb_at
  have c_carried := ok_carried (P := l.prog) (w := w) (base := base) D20 B c_trimmed
  have c_carries := ok_carries (P := l.prog) (w := w) (base := base) D21 B c_limb_at
  have c_minus := ok_minus (P := l.prog) (w := w) (base := base) D22 B c_trimmed c_compared c_limb_at
  have c_ranked := ok_ranked (P := l.prog) (w := w) (base := base) D23 B c_compared
  have c_is := ok_is (P := l.prog) (w := w) (base := base) D24 B c_natural
  have c_number := ok_number (P := l.prog) (w := w) (base := base) D25 B c_value c_limb c_mixed
  have c_whole := ok_whole (P := l.prog) (w := w) (base := base) D26 B c_natural
  have c_by_all := ok_by_all (P := l.prog) (w := w) (base := base) D27 B c_common c_better
  have c_by_chain := ok_by_chain (P := l.prog) (w := w) (base := base) D28 B c_better
  have c_times_limb := ok_times_limb (P := l.prog) (w := w) (base := base) D29 B c_carried
  have c_times := ok_times (P := l.prog) (w := w) (base := base) D30 B c_carried
  have c_plus := ok_plus (P := l.prog) (w := w) (base := base) D31 B c_trimmed c_carries c_limb_at
  have c_half_goes_beyond := ok_half_goes_beyond (P := l.prog) (w := w) (base := base) D32 B c_bit_at
  have c_l_signed := ok_l_signed (P := l.prog) (w := w) (base := base) D33 B c_number
  have c_is_whole := ok_is_whole (P := l.prog) (w := w) (base := base) D34 B c_is
  have c_fraction := ok_fraction (P := l.prog) (w := w) (base := base) D35 B c_common c_whole c_natural
  have c_step_of := ok_step_of (P := l.prog) (w := w) (base := base) D36 B c_times_limb c_compared c_minus c_number_of
  have c_added := ok_added (P := l.prog) (w := w) (base := base) D37 B c_signed c_compared c_minus c_plus
  have c_multiplied := ok_multiplied (P := l.prog) (w := w) (base := base) D38 B c_times
  have c_goes_beyond := ok_goes_beyond (P := l.prog) (w := w) (base := base) D39 B c_compared c_moved_up c_half_goes_beyond
  have c_pair := ok_pair (P := l.prog) (w := w) (base := base) D40 B c_l_signed c_cell c_number
  have c_is_fraction := ok_is_fraction (P := l.prog) (w := w) (base := base) D41 B c_fraction c_is_whole c_is c_value
  have c_steps_through := ok_steps_through (P := l.prog) (w := w) (base := base) D42 B c_step_of c_trimmed
  have c_taken := ok_taken (P := l.prog) (w := w) (base := base) D43 B c_added c_turned
  have c_across := ok_across (P := l.prog) (w := w) (base := base) D44 B c_multiplied
  have c_later_of := ok_later_of (P := l.prog) (w := w) (base := base) D45 B c_added c_plus c_multiplied c_times
  have c_parted := ok_parted (P := l.prog) (w := w) (base := base) D46 B c_refuse_nought c_steps_through c_trimmed
  have c_frac_ranked := ok_frac_ranked (P := l.prog) (w := w) (base := base) D47 B c_ranked c_across
  have c_gap_of := ok_gap_of (P := l.prog) (w := w) (base := base) D48 B c_times c_taken c_across
  have c_common_of := ok_common_of (P := l.prog) (w := w) (base := base) D49 B c_parted
  have c_rounded_size := ok_rounded_size (P := l.prog) (w := w) (base := base) D50 B c_parted c_goes_beyond c_plus
  have c_fraction_of := ok_fraction_of (P := l.prog) (w := w) (base := base) D51 B c_refuse_nought c_common_of c_signed c_parted
  have c_divided := ok_divided (P := l.prog) (w := w) (base := base) D52 B c_refuse_no_way c_signed c_rounded_size c_taken c_multiplied
  have c_frac_plus := ok_frac_plus (P := l.prog) (w := w) (base := base) D53 B c_fraction_of c_added c_across c_times
  have c_last_two := ok_last_two (P := l.prog) (w := w) (base := base) D54 B c_divided c_later_of c_compared
  have c_frac_minus := ok_frac_minus (P := l.prog) (w := w) (base := base) D55 B c_frac_plus c_turned
  have c_closest := ok_closest (P := l.prog) (w := w) (base := base) D56 B c_last_two c_later_of c_compared c_parted c_signed c_minus c_gap_of
  have c_told := ok_told (P := l.prog) (w := w) (base := base) D57 B c_closest c_kind
  exact ok_law (P := l.prog) (w := w) (base := base) D58 B c_pair c_common c_fraction c_cell c_told c_by_chain c_by_all c_natural c_is_fraction c_frac_ranked c_number c_frac_minus

theorem walk {l : PySem.W.OpenLaw} {q : Program} {loose : List Str} {XP : (Str → Option Value) → Heap → Prop} {YP : World → Heap → Prop} {d : DefRec} {K : Params → PySem.W.Frag} (hn : l.most = some 63) (hdf : d.params.defaults = [])
    (hY : ∀ (w : World) (h : Heap), YP w h → (K w.params).In h)
    (F : ∀ (w : World) (mg : Str → Option Value) (fa : Addr) (h : Heap), (K w.params).In h → h.Ns mainGlobals mg → mg d.name = some (.ref fa) →
      ∃ fd : FuncData, (∀ (s : Shared) (u : Value), BindsTo s fd ⟨[u], []⟩ [("_law_script", u)]) ∧ ∀ base : Heap, (K w.params).In base → base.Ns mainGlobals mg → FnOk l.prog w (K w.params) mg base CX0 12 fa fd ["_law_script"] (sp_law (K w.params))) :
    PySem.W.WalkO q loose XP YP l.row.toRowW d [] (fun f vs => PySem.call f vs) :=
  L2.walk_of (n := 63) (k := 12) (x := "_law_script") (CX := fun _ => CX0) (sp := fun w => sp_law (K w.params)) hn (by decide) hdf ⟨rfl, by decide, by decide⟩ hY F (fun _ _ a ns hl _ hS => ⟨a, ns, rfl, hS, hl, fun _ => rfl⟩) fun _ _ _ _ _ z => z
end Toy
def PySem.W.Fast.tw1000836436469630862 : Unit := ()
def PySem.W.Fast.tw10020461349751926053 : Unit := ()
def PySem.W.Fast.tw10026367064138537138 : Unit := ()
def PySem.W.Fast.tw10059222435176858984 : Unit := ()
def PySem.W.Fast.tw10079503523527067106 : Unit := ()
def PySem.W.Fast.tw10097493146027540080 : Unit := ()
def PySem.W.Fast.tw10108223373153831587 : Unit := ()
def PySem.W.Fast.tw10160971152494229683 : Unit := ()
def PySem.W.Fast.tw10173626022219563728 : Unit := ()
def PySem.W.Fast.tw10212710863014852963 : Unit := ()
def PySem.W.Fast.tw10215218395479125909 : Unit := ()
def PySem.W.Fast.tw10272989665112999893 : Unit := ()
def PySem.W.Fast.tw10273075391924603818 : Unit := ()
def PySem.W.Fast.tw10275178416876794303 : Unit := ()
def PySem.W.Fast.tw10277956134427218719 : Unit := ()
def PySem.W.Fast.tw10284901106811481864 : Unit := ()
def PySem.W.Fast.tw10287842383428300684 : Unit := ()
def PySem.W.Fast.tw10317734634213153691 : Unit := ()
def PySem.W.Fast.tw10333969714614227912 : Unit := ()
def PySem.W.Fast.tw10339766152383912580 : Unit := ()
def PySem.W.Fast.tw10350914727879051770 : Unit := ()
def PySem.W.Fast.tw10394198573683200330 : Unit := ()
def PySem.W.Fast.tw10466344770814781173 : Unit := ()
def PySem.W.Fast.tw10482452626101137198 : Unit := ()
def PySem.W.Fast.tw10537741557912503899 : Unit := ()
def PySem.W.Fast.tw10613147877439163549 : Unit := ()
def PySem.W.Fast.tw10674882062426756359 : Unit := ()
def PySem.W.Fast.tw10689447519870003273 : Unit := ()
def PySem.W.Fast.tw10711804495953670715 : Unit := ()
def PySem.W.Fast.tw1075994944863570858 : Unit := ()
def PySem.W.Fast.tw1077125249680104762 : Unit := ()
def PySem.W.Fast.tw1078723529635607937 : Unit := ()
def PySem.W.Fast.tw10831953337409990217 : Unit := ()
def PySem.W.Fast.tw10856167029169588810 : Unit := ()
def PySem.W.Fast.tw10893520313569463485 : Unit := ()
def PySem.W.Fast.tw10940074050212127161 : Unit := ()
def PySem.W.Fast.tw10996100655765062479 : Unit := ()
def PySem.W.Fast.tw11061103113834955700 : Unit := ()
def PySem.W.Fast.tw11132512418323834443 : Unit := ()
def PySem.W.Fast.tw111472407051507830 : Unit := ()
def PySem.W.Fast.tw11197227943579916534 : Unit := ()
def PySem.W.Fast.tw1122566196312155283 : Unit := ()
def PySem.W.Fast.tw11245035567460821781 : Unit := ()
def PySem.W.Fast.tw11253408415486827179 : Unit := ()
def PySem.W.Fast.tw11277016312075446778 : Unit := ()
def PySem.W.Fast.tw11323672655899786073 : Unit := ()
def PySem.W.Fast.tw11343512912491801460 : Unit := ()
def PySem.W.Fast.tw11374892054380682813 : Unit := ()
def PySem.W.Fast.tw11408543343786956656 : Unit := ()
def PySem.W.Fast.tw11434250613286655430 : Unit := ()
def PySem.W.Fast.tw11449408561946473374 : Unit := ()
def PySem.W.Fast.tw11499324657736043493 : Unit := ()
def PySem.W.Fast.tw11532976884681510033 : Unit := ()
def PySem.W.Fast.tw11534747033092453959 : Unit := ()
def PySem.W.Fast.tw11537215911616207333 : Unit := ()
def PySem.W.Fast.tw11556801106979158192 : Unit := ()
def PySem.W.Fast.tw1159180208400955327 : Unit := ()
def PySem.W.Fast.tw11602516750543109620 : Unit := ()
def PySem.W.Fast.tw11636192252588488688 : Unit := ()
def PySem.W.Fast.tw11650668750832124393 : Unit := ()
def PySem.W.Fast.tw11748542808311708944 : Unit := ()
def PySem.W.Fast.tw11770757660262654489 : Unit := ()
def PySem.W.Fast.tw11790171890402778386 : Unit := ()
def PySem.W.Fast.tw1183108117631225325 : Unit := ()
def PySem.W.Fast.tw11863706487583745935 : Unit := ()
def PySem.W.Fast.tw11888797183547369646 : Unit := ()
def PySem.W.Fast.tw11905373669140231855 : Unit := ()
def PySem.W.Fast.tw11924721370461196405 : Unit := ()
def PySem.W.Fast.tw12006488846892113779 : Unit := ()
def PySem.W.Fast.tw1203295380737790689 : Unit := ()
def PySem.W.Fast.tw12061289641951056492 : Unit := ()
def PySem.W.Fast.tw12067976752252629251 : Unit := ()
def PySem.W.Fast.tw12073896319509056969 : Unit := ()
def PySem.W.Fast.tw12100415650296533435 : Unit := ()
def PySem.W.Fast.tw1215492051858508804 : Unit := ()
def PySem.W.Fast.tw12198453354017035927 : Unit := ()
def PySem.W.Fast.tw12231181975731161652 : Unit := ()
def PySem.W.Fast.tw12280305600544690825 : Unit := ()
def PySem.W.Fast.tw12302925880320248639 : Unit := ()
def PySem.W.Fast.tw12329493663915759123 : Unit := ()
def PySem.W.Fast.tw12359093115514631206 : Unit := ()
def PySem.W.Fast.tw1237467523102123422 : Unit := ()
def PySem.W.Fast.tw12387279453580772559 : Unit := ()
def PySem.W.Fast.tw12420344887511723202 : Unit := ()
def PySem.W.Fast.tw12496090111127669160 : Unit := ()
def PySem.W.Fast.tw12593214297699302587 : Unit := ()
def PySem.W.Fast.tw12718350225984825397 : Unit := ()
def PySem.W.Fast.tw12733324389473840235 : Unit := ()
def PySem.W.Fast.tw12764129746483029774 : Unit := ()
def PySem.W.Fast.tw1276631097380295937 : Unit := ()
def PySem.W.Fast.tw12772778013654778999 : Unit := ()
def PySem.W.Fast.tw1278114782157383549 : Unit := ()
def PySem.W.Fast.tw1278945500362657868 : Unit := ()
def PySem.W.Fast.tw12828226075418426027 : Unit := ()
def PySem.W.Fast.tw12839022817879479593 : Unit := ()
def PySem.W.Fast.tw12850462335284945752 : Unit := ()
def PySem.W.Fast.tw12858347764801231698 : Unit := ()
def PySem.W.Fast.tw12878536190063988557 : Unit := ()
def PySem.W.Fast.tw12891415174968087165 : Unit := ()
def PySem.W.Fast.tw12935774744295975911 : Unit := ()
def PySem.W.Fast.tw12948386070827984319 : Unit := ()
def PySem.W.Fast.tw12967318041040341818 : Unit := ()
def PySem.W.Fast.tw12993768413146417686 : Unit := ()
def PySem.W.Fast.tw13006908190318337003 : Unit := ()
def PySem.W.Fast.tw13077131724168611122 : Unit := ()
def PySem.W.Fast.tw13109003514728150016 : Unit := ()
def PySem.W.Fast.tw13236468835723959710 : Unit := ()
def PySem.W.Fast.tw13274901452718306872 : Unit := ()
def PySem.W.Fast.tw13327987080894031962 : Unit := ()
def PySem.W.Fast.tw13336560789083877281 : Unit := ()
def PySem.W.Fast.tw13350932617605747667 : Unit := ()
def PySem.W.Fast.tw13493543551197373594 : Unit := ()
def PySem.W.Fast.tw13511021301093854906 : Unit := ()
def PySem.W.Fast.tw13542099803946434570 : Unit := ()
def PySem.W.Fast.tw13554768476998984307 : Unit := ()
def PySem.W.Fast.tw13572760149315105746 : Unit := ()
def PySem.W.Fast.tw13590485094947016082 : Unit := ()
def PySem.W.Fast.tw13601902423665056816 : Unit := ()
def PySem.W.Fast.tw13682332005841356431 : Unit := ()
def PySem.W.Fast.tw13708646501652593228 : Unit := ()
def PySem.W.Fast.tw13717317246753275141 : Unit := ()
def PySem.W.Fast.tw13718019228912652668 : Unit := ()
def PySem.W.Fast.tw13745652596992494483 : Unit := ()
def PySem.W.Fast.tw13768876981720378321 : Unit := ()
def PySem.W.Fast.tw13813880228174711304 : Unit := ()
def PySem.W.Fast.tw13832470039505997825 : Unit := ()
def PySem.W.Fast.tw13871615587526738878 : Unit := ()
def PySem.W.Fast.tw13895285326676171874 : Unit := ()
def PySem.W.Fast.tw13910485790130172853 : Unit := ()
def PySem.W.Fast.tw13951492897655631601 : Unit := ()
def PySem.W.Fast.tw13960048593683881603 : Unit := ()
def PySem.W.Fast.tw1398523699767934323 : Unit := ()
def PySem.W.Fast.tw14053371784101529494 : Unit := ()
def PySem.W.Fast.tw14092156131775683407 : Unit := ()
def PySem.W.Fast.tw1409614708333475773 : Unit := ()
def PySem.W.Fast.tw14165629096621503762 : Unit := ()
def PySem.W.Fast.tw14179495090738210578 : Unit := ()
def PySem.W.Fast.tw14212303553005493719 : Unit := ()
def PySem.W.Fast.tw14309085594604539743 : Unit := ()
def PySem.W.Fast.tw14342943683371747113 : Unit := ()
def PySem.W.Fast.tw14362085695045561263 : Unit := ()
def PySem.W.Fast.tw14362274126308093251 : Unit := ()
def PySem.W.Fast.tw1437482136481768491 : Unit := ()
def PySem.W.Fast.tw14385641546040767255 : Unit := ()
def PySem.W.Fast.tw14420180732464687291 : Unit := ()
def PySem.W.Fast.tw14491002961443793206 : Unit := ()
def PySem.W.Fast.tw14495365337278529266 : Unit := ()
def PySem.W.Fast.tw14528120989578878170 : Unit := ()
def PySem.W.Fast.tw14642533171502829258 : Unit := ()
def PySem.W.Fast.tw14680786255500833154 : Unit := ()
def PySem.W.Fast.tw14707262115033991295 : Unit := ()
def PySem.W.Fast.tw14714602352211436979 : Unit := ()
def PySem.W.Fast.tw1475380989051297785 : Unit := ()
def PySem.W.Fast.tw14758761719906848788 : Unit := ()
def PySem.W.Fast.tw14769716793994637322 : Unit := ()
def PySem.W.Fast.tw14773917868514337296 : Unit := ()
def PySem.W.Fast.tw14776770213748693143 : Unit := ()
def PySem.W.Fast.tw14805869491342271449 : Unit := ()
def PySem.W.Fast.tw14805933536176741806 : Unit := ()
def PySem.W.Fast.tw14813635297497950475 : Unit := ()
def PySem.W.Fast.tw14849118248558698167 : Unit := ()
def PySem.W.Fast.tw14858125560538093810 : Unit := ()
def PySem.W.Fast.tw1487830890740820045 : Unit := ()
def PySem.W.Fast.tw14903970992034159797 : Unit := ()
def PySem.W.Fast.tw14949259567683357103 : Unit := ()
def PySem.W.Fast.tw14960260584310100588 : Unit := ()
def PySem.W.Fast.tw14981433770833593161 : Unit := ()
def PySem.W.Fast.tw15028677528433130565 : Unit := ()
def PySem.W.Fast.tw15029653596849029573 : Unit := ()
def PySem.W.Fast.tw15045583237174012402 : Unit := ()
def PySem.W.Fast.tw15059411562395452162 : Unit := ()
def PySem.W.Fast.tw15106053052675668862 : Unit := ()
def PySem.W.Fast.tw15142897774879042328 : Unit := ()
def PySem.W.Fast.tw15157207692067529593 : Unit := ()
def PySem.W.Fast.tw15180611907706183633 : Unit := ()
def PySem.W.Fast.tw15184343981916539317 : Unit := ()
def PySem.W.Fast.tw15185336320940201396 : Unit := ()
def PySem.W.Fast.tw15229168670384121646 : Unit := ()
def PySem.W.Fast.tw15234631952103880980 : Unit := ()
def PySem.W.Fast.tw15409230080115918742 : Unit := ()
def PySem.W.Fast.tw15422030362149094496 : Unit := ()
def PySem.W.Fast.tw15463561532858284394 : Unit := ()
def PySem.W.Fast.tw15531436932477593420 : Unit := ()
def PySem.W.Fast.tw15589457018687215732 : Unit := ()
def PySem.W.Fast.tw15635571033141792874 : Unit := ()
def PySem.W.Fast.tw15641183256837888563 : Unit := ()
def PySem.W.Fast.tw1565253749561854282 : Unit := ()
def PySem.W.Fast.tw15680030564030759068 : Unit := ()
def PySem.W.Fast.tw15681385750017413524 : Unit := ()
def PySem.W.Fast.tw15702024603198099566 : Unit := ()
def PySem.W.Fast.tw15709104990607110126 : Unit := ()
def PySem.W.Fast.tw15736373656389343791 : Unit := ()
def PySem.W.Fast.tw15749074015811213415 : Unit := ()
def PySem.W.Fast.tw1582509816172536309 : Unit := ()
def PySem.W.Fast.tw15842151023625190693 : Unit := ()
def PySem.W.Fast.tw15858856960447382834 : Unit := ()
def PySem.W.Fast.tw15892565832499280943 : Unit := ()
def PySem.W.Fast.tw15934694941135428283 : Unit := ()
def PySem.W.Fast.tw1593749174189520256 : Unit := ()
def PySem.W.Fast.tw15974388060243866732 : Unit := ()
def PySem.W.Fast.tw15979014954297049558 : Unit := ()
def PySem.W.Fast.tw15985639041147745429 : Unit := ()
def PySem.W.Fast.tw15986184590355561359 : Unit := ()
def PySem.W.Fast.tw16013334545592681293 : Unit := ()
def PySem.W.Fast.tw16033077742239294049 : Unit := ()
def PySem.W.Fast.tw16078521034048104207 : Unit := ()
def PySem.W.Fast.tw16090529132997299261 : Unit := ()
def PySem.W.Fast.tw16124631349634198108 : Unit := ()
def PySem.W.Fast.tw16181283291379457455 : Unit := ()
def PySem.W.Fast.tw16234554557251552041 : Unit := ()
def PySem.W.Fast.tw16250322368294537295 : Unit := ()
def PySem.W.Fast.tw16266898605125438115 : Unit := ()
def PySem.W.Fast.tw16269351431309209655 : Unit := ()
def PySem.W.Fast.tw16301486410068319155 : Unit := ()
def PySem.W.Fast.tw1636317942947411368 : Unit := ()
def PySem.W.Fast.tw16413288008236305150 : Unit := ()
def PySem.W.Fast.tw16422393425484545926 : Unit := ()
def PySem.W.Fast.tw16443916761239207121 : Unit := ()
def PySem.W.Fast.tw16499160173082034669 : Unit := ()
def PySem.W.Fast.tw16503345721046244636 : Unit := ()
def PySem.W.Fast.tw16507487823274729949 : Unit := ()
def PySem.W.Fast.tw16521050376659834575 : Unit := ()
def PySem.W.Fast.tw16686400085599840664 : Unit := ()
def PySem.W.Fast.tw16704302073937318069 : Unit := ()
def PySem.W.Fast.tw16722065974438440099 : Unit := ()
def PySem.W.Fast.tw1672708038343479270 : Unit := ()
def PySem.W.Fast.tw16798392748414921729 : Unit := ()
def PySem.W.Fast.tw1682254793219248759 : Unit := ()
def PySem.W.Fast.tw16823384433421858592 : Unit := ()
def PySem.W.Fast.tw16878950292665367945 : Unit := ()
def PySem.W.Fast.tw16885237605884425269 : Unit := ()
def PySem.W.Fast.tw1704213003563621626 : Unit := ()
def PySem.W.Fast.tw17067978895534173023 : Unit := ()
def PySem.W.Fast.tw17079609438297614486 : Unit := ()
def PySem.W.Fast.tw17086596456766105514 : Unit := ()
def PySem.W.Fast.tw17126012322602344484 : Unit := ()
def PySem.W.Fast.tw17127638861432734711 : Unit := ()
def PySem.W.Fast.tw17238653076586154111 : Unit := ()
def PySem.W.Fast.tw17242809091277872175 : Unit := ()
def PySem.W.Fast.tw17263011030361510706 : Unit := ()
def PySem.W.Fast.tw17271169077538702376 : Unit := ()
def PySem.W.Fast.tw17294231280599069796 : Unit := ()
def PySem.W.Fast.tw17304350599174643843 : Unit := ()
def PySem.W.Fast.tw17360070164773894712 : Unit := ()
def PySem.W.Fast.tw17363417107383931170 : Unit := ()
def PySem.W.Fast.tw17409154284547593642 : Unit := ()
def PySem.W.Fast.tw17410311899080246022 : Unit := ()
def PySem.W.Fast.tw17449824850845781717 : Unit := ()
def PySem.W.Fast.tw17463337662019928308 : Unit := ()
def PySem.W.Fast.tw17505285333913247343 : Unit := ()
def PySem.W.Fast.tw17508117356883857463 : Unit := ()
def PySem.W.Fast.tw17546430033990730513 : Unit := ()
def PySem.W.Fast.tw17581649682840117854 : Unit := ()
def PySem.W.Fast.tw17640959500353626138 : Unit := ()
def PySem.W.Fast.tw17821561908832837993 : Unit := ()
def PySem.W.Fast.tw17868212000739252944 : Unit := ()
def PySem.W.Fast.tw17937869926773998485 : Unit := ()
def PySem.W.Fast.tw17945963723458995743 : Unit := ()
def PySem.W.Fast.tw17957641498129959843 : Unit := ()
def PySem.W.Fast.tw17987713190382393070 : Unit := ()
def PySem.W.Fast.tw18000605211316764895 : Unit := ()
def PySem.W.Fast.tw180674580936268439 : Unit := ()
def PySem.W.Fast.tw18104555095387774226 : Unit := ()
def PySem.W.Fast.tw18137652913624297497 : Unit := ()
def PySem.W.Fast.tw18154277875834612613 : Unit := ()
def PySem.W.Fast.tw18217238295430009188 : Unit := ()
def PySem.W.Fast.tw18310814719094882126 : Unit := ()
def PySem.W.Fast.tw18317694801724439379 : Unit := ()
def PySem.W.Fast.tw18330952427888667538 : Unit := ()
def PySem.W.Fast.tw18331816607402349751 : Unit := ()
def PySem.W.Fast.tw18348652579473779432 : Unit := ()
def PySem.W.Fast.tw18362670605094199588 : Unit := ()
def PySem.W.Fast.tw18369534905078044974 : Unit := ()
def PySem.W.Fast.tw18369735820031991576 : Unit := ()
def PySem.W.Fast.tw18373251048100840783 : Unit := ()
def PySem.W.Fast.tw18378078977776236733 : Unit := ()
def PySem.W.Fast.tw18403172710060131995 : Unit := ()
def PySem.W.Fast.tw18419503180962485033 : Unit := ()
def PySem.W.Fast.tw18424218650557154131 : Unit := ()
def PySem.W.Fast.tw1869376057194526895 : Unit := ()
def PySem.W.Fast.tw1880326776592649644 : Unit := ()
def PySem.W.Fast.tw1927401208037502957 : Unit := ()
def PySem.W.Fast.tw1938616912641117706 : Unit := ()
def PySem.W.Fast.tw1948426147992901918 : Unit := ()
def PySem.W.Fast.tw2027664492192032026 : Unit := ()
def PySem.W.Fast.tw2034743054064665378 : Unit := ()
def PySem.W.Fast.tw2076503060500121606 : Unit := ()
def PySem.W.Fast.tw2087587295447934371 : Unit := ()
def PySem.W.Fast.tw2134689482161696515 : Unit := ()
def PySem.W.Fast.tw2149838000425825137 : Unit := ()
def PySem.W.Fast.tw2185242437578227932 : Unit := ()
def PySem.W.Fast.tw2186762276374909086 : Unit := ()
def PySem.W.Fast.tw2267553526361265359 : Unit := ()
def PySem.W.Fast.tw2284952613502187509 : Unit := ()
def PySem.W.Fast.tw2301587889019650320 : Unit := ()
def PySem.W.Fast.tw2334694876283212346 : Unit := ()
def PySem.W.Fast.tw2347512250415644246 : Unit := ()
def PySem.W.Fast.tw2364370555896632460 : Unit := ()
def PySem.W.Fast.tw2382186377361572272 : Unit := ()
def PySem.W.Fast.tw2386449069087400232 : Unit := ()
def PySem.W.Fast.tw2389149050155856026 : Unit := ()
def PySem.W.Fast.tw2401282416892121250 : Unit := ()
def PySem.W.Fast.tw2405625434161506058 : Unit := ()
def PySem.W.Fast.tw2466122401385373517 : Unit := ()
def PySem.W.Fast.tw2467512988861392948 : Unit := ()
def PySem.W.Fast.tw2470658120714161133 : Unit := ()
def PySem.W.Fast.tw2480944461019121820 : Unit := ()
def PySem.W.Fast.tw2533897974645705969 : Unit := ()
def PySem.W.Fast.tw257073057304359438 : Unit := ()
def PySem.W.Fast.tw2609339424442375869 : Unit := ()
def PySem.W.Fast.tw2683238748201315808 : Unit := ()
def PySem.W.Fast.tw2686702558686445708 : Unit := ()
def PySem.W.Fast.tw2719757122168195920 : Unit := ()
def PySem.W.Fast.tw272775057823025998 : Unit := ()
def PySem.W.Fast.tw274197730935257393 : Unit := ()
def PySem.W.Fast.tw2754721293678210169 : Unit := ()
def PySem.W.Fast.tw2775166286943896378 : Unit := ()
def PySem.W.Fast.tw2779713386306495917 : Unit := ()
def PySem.W.Fast.tw2798913853107558960 : Unit := ()
def PySem.W.Fast.tw2823614651592262507 : Unit := ()
def PySem.W.Fast.tw2850189152873933231 : Unit := ()
def PySem.W.Fast.tw2868048168893495388 : Unit := ()
def PySem.W.Fast.tw2871350246192366754 : Unit := ()
def PySem.W.Fast.tw28945617254176495 : Unit := ()
def PySem.W.Fast.tw2898245771320342745 : Unit := ()
def PySem.W.Fast.tw2904613085763724936 : Unit := ()
def PySem.W.Fast.tw2919885647508667950 : Unit := ()
def PySem.W.Fast.tw2938464225298026325 : Unit := ()
def PySem.W.Fast.tw2970618529010324418 : Unit := ()
def PySem.W.Fast.tw3003355756249328866 : Unit := ()
def PySem.W.Fast.tw3019720387107599106 : Unit := ()
def PySem.W.Fast.tw3061453251254946893 : Unit := ()
def PySem.W.Fast.tw3099979252837640269 : Unit := ()
def PySem.W.Fast.tw3128259587703915919 : Unit := ()
def PySem.W.Fast.tw318062855864641142 : Unit := ()
def PySem.W.Fast.tw3192502055615262002 : Unit := ()
def PySem.W.Fast.tw3210779498880971866 : Unit := ()
def PySem.W.Fast.tw3228010676905084687 : Unit := ()
def PySem.W.Fast.tw3243715482582016187 : Unit := ()
def PySem.W.Fast.tw3360190435071898420 : Unit := ()
def PySem.W.Fast.tw3438347934276742002 : Unit := ()
def PySem.W.Fast.tw3481579443153863368 : Unit := ()
def PySem.W.Fast.tw3482114335414451193 : Unit := ()
def PySem.W.Fast.tw3500684017844079915 : Unit := ()
def PySem.W.Fast.tw3538689956228730111 : Unit := ()
def PySem.W.Fast.tw357464118606519596 : Unit := ()
def PySem.W.Fast.tw3577658787121884753 : Unit := ()
def PySem.W.Fast.tw3589909284948844416 : Unit := ()
def PySem.W.Fast.tw3741524125598907814 : Unit := ()
def PySem.W.Fast.tw3746709379172867825 : Unit := ()
def PySem.W.Fast.tw3756415244775306941 : Unit := ()
def PySem.W.Fast.tw3797248153821368952 : Unit := ()
def PySem.W.Fast.tw3827016012655151389 : Unit := ()
def PySem.W.Fast.tw3827239802281351718 : Unit := ()
def PySem.W.Fast.tw385731285884274107 : Unit := ()
def PySem.W.Fast.tw3889456292963576891 : Unit := ()
def PySem.W.Fast.tw38904542973093411 : Unit := ()
def PySem.W.Fast.tw3905849769888782196 : Unit := ()
def PySem.W.Fast.tw3944116829959117614 : Unit := ()
def PySem.W.Fast.tw3975702698391742263 : Unit := ()
def PySem.W.Fast.tw3983092626896588485 : Unit := ()
def PySem.W.Fast.tw4008655903484812083 : Unit := ()
def PySem.W.Fast.tw4020589856481170038 : Unit := ()
def PySem.W.Fast.tw4056726170121107524 : Unit := ()
def PySem.W.Fast.tw4060860573449681688 : Unit := ()
def PySem.W.Fast.tw4093254740734091016 : Unit := ()
def PySem.W.Fast.tw4093480758038075692 : Unit := ()
def PySem.W.Fast.tw4130308653647907746 : Unit := ()
def PySem.W.Fast.tw4148694906712729929 : Unit := ()
def PySem.W.Fast.tw4181466730179869870 : Unit := ()
def PySem.W.Fast.tw4186914980012757703 : Unit := ()
def PySem.W.Fast.tw4211017765248024549 : Unit := ()
def PySem.W.Fast.tw4226615747670394251 : Unit := ()
def PySem.W.Fast.tw424457000156748220 : Unit := ()
def PySem.W.Fast.tw4268323066021712450 : Unit := ()
def PySem.W.Fast.tw4275330053592397810 : Unit := ()
def PySem.W.Fast.tw4309607430189829223 : Unit := ()
def PySem.W.Fast.tw4345527542286511940 : Unit := ()
def PySem.W.Fast.tw4347603031847481311 : Unit := ()
def PySem.W.Fast.tw4348519244051150035 : Unit := ()
def PySem.W.Fast.tw4413499338249623593 : Unit := ()
def PySem.W.Fast.tw4440529834331516641 : Unit := ()
def PySem.W.Fast.tw4473876888683137149 : Unit := ()
def PySem.W.Fast.tw4495696588152981091 : Unit := ()
def PySem.W.Fast.tw451162476739445939 : Unit := ()
def PySem.W.Fast.tw453114326176747523 : Unit := ()
def PySem.W.Fast.tw4580913470851213737 : Unit := ()
def PySem.W.Fast.tw4614947285973258565 : Unit := ()
def PySem.W.Fast.tw4627103707393485343 : Unit := ()
def PySem.W.Fast.tw463474708700787715 : Unit := ()
def PySem.W.Fast.tw4643699678156626125 : Unit := ()
def PySem.W.Fast.tw4665405187920269538 : Unit := ()
def PySem.W.Fast.tw4717637627392906725 : Unit := ()
def PySem.W.Fast.tw4796242918245224386 : Unit := ()
def PySem.W.Fast.tw4868059755954810051 : Unit := ()
def PySem.W.Fast.tw4949708215298637579 : Unit := ()
def PySem.W.Fast.tw4965053331559657238 : Unit := ()
def PySem.W.Fast.tw5003936833078000765 : Unit := ()
def PySem.W.Fast.tw5030428358744299363 : Unit := ()
def PySem.W.Fast.tw5032011411708679659 : Unit := ()
def PySem.W.Fast.tw5070195179746686956 : Unit := ()
def PySem.W.Fast.tw5080164006587544739 : Unit := ()
def PySem.W.Fast.tw5083511816863952156 : Unit := ()
def PySem.W.Fast.tw5245915762629742887 : Unit := ()
def PySem.W.Fast.tw5408932710495153796 : Unit := ()
def PySem.W.Fast.tw5414844779999987632 : Unit := ()
def PySem.W.Fast.tw5416405336633499399 : Unit := ()
def PySem.W.Fast.tw547520974224840348 : Unit := ()
def PySem.W.Fast.tw5483044363517217107 : Unit := ()
def PySem.W.Fast.tw5495225123240243656 : Unit := ()
def PySem.W.Fast.tw5514303214809350685 : Unit := ()
def PySem.W.Fast.tw5585622208284852671 : Unit := ()
def PySem.W.Fast.tw5597718764287252654 : Unit := ()
def PySem.W.Fast.tw5613930019469440166 : Unit := ()
def PySem.W.Fast.tw5666207386959023597 : Unit := ()
def PySem.W.Fast.tw5731663384539968386 : Unit := ()
def PySem.W.Fast.tw5735326133900547675 : Unit := ()
def PySem.W.Fast.tw5787757182449327688 : Unit := ()
def PySem.W.Fast.tw580493558824463315 : Unit := ()
def PySem.W.Fast.tw5833755232358589087 : Unit := ()
def PySem.W.Fast.tw5843720026903979811 : Unit := ()
def PySem.W.Fast.tw5850168055455238970 : Unit := ()
def PySem.W.Fast.tw5867663590991309886 : Unit := ()
def PySem.W.Fast.tw5919027764219690812 : Unit := ()
def PySem.W.Fast.tw6030774627476778148 : Unit := ()
def PySem.W.Fast.tw6072411455405845036 : Unit := ()
def PySem.W.Fast.tw6079899837420606306 : Unit := ()
def PySem.W.Fast.tw6129288160802871622 : Unit := ()
def PySem.W.Fast.tw6168583185312162881 : Unit := ()
def PySem.W.Fast.tw6210789735491909657 : Unit := ()
def PySem.W.Fast.tw623966207799593799 : Unit := ()
def PySem.W.Fast.tw6258229567068351002 : Unit := ()
def PySem.W.Fast.tw6263253638491657208 : Unit := ()
def PySem.W.Fast.tw6281212343884856633 : Unit := ()
def PySem.W.Fast.tw6282165545567953944 : Unit := ()
def PySem.W.Fast.tw6283962434940106630 : Unit := ()
def PySem.W.Fast.tw6285236024736797371 : Unit := ()
def PySem.W.Fast.tw6285474947105057838 : Unit := ()
def PySem.W.Fast.tw6285532973572344820 : Unit := ()
def PySem.W.Fast.tw6346459389472042965 : Unit := ()
def PySem.W.Fast.tw6410166115816225524 : Unit := ()
def PySem.W.Fast.tw6513885277363298170 : Unit := ()
def PySem.W.Fast.tw655309172927258694 : Unit := ()
def PySem.W.Fast.tw6572471715569982317 : Unit := ()
def PySem.W.Fast.tw6587781354827130900 : Unit := ()
def PySem.W.Fast.tw6719392324477049483 : Unit := ()
def PySem.W.Fast.tw6784320293778845231 : Unit := ()
def PySem.W.Fast.tw6787858861172568716 : Unit := ()
def PySem.W.Fast.tw6797946127192392874 : Unit := ()
def PySem.W.Fast.tw6823035118317752288 : Unit := ()
def PySem.W.Fast.tw683260843830116069 : Unit := ()
def PySem.W.Fast.tw6837070468250648544 : Unit := ()
def PySem.W.Fast.tw6855075369010028404 : Unit := ()
def PySem.W.Fast.tw687529592728535017 : Unit := ()
def PySem.W.Fast.tw6876979198132058881 : Unit := ()
def PySem.W.Fast.tw6878460106754804762 : Unit := ()
def PySem.W.Fast.tw6881239451368429120 : Unit := ()
def PySem.W.Fast.tw693622916648096482 : Unit := ()
def PySem.W.Fast.tw6964685949669521138 : Unit := ()
def PySem.W.Fast.tw6983358841784135492 : Unit := ()
def PySem.W.Fast.tw7065851731469967758 : Unit := ()
def PySem.W.Fast.tw7079421544253364125 : Unit := ()
def PySem.W.Fast.tw7178377382028094062 : Unit := ()
def PySem.W.Fast.tw7180999391367501897 : Unit := ()
def PySem.W.Fast.tw7189801799804780015 : Unit := ()
def PySem.W.Fast.tw7192543529887791086 : Unit := ()
def PySem.W.Fast.tw7220100987673050780 : Unit := ()
def PySem.W.Fast.tw7231860136290311546 : Unit := ()
def PySem.W.Fast.tw7374916240748577178 : Unit := ()
def PySem.W.Fast.tw7404004326180334148 : Unit := ()
def PySem.W.Fast.tw7425425486360433153 : Unit := ()
def PySem.W.Fast.tw7434864594943503037 : Unit := ()
def PySem.W.Fast.tw7477573543338581979 : Unit := ()
def PySem.W.Fast.tw7515746374705171705 : Unit := ()
def PySem.W.Fast.tw7560261409752541554 : Unit := ()
def PySem.W.Fast.tw758400062414184795 : Unit := ()
def PySem.W.Fast.tw762845084485988254 : Unit := ()
def PySem.W.Fast.tw7653702988999454652 : Unit := ()
def PySem.W.Fast.tw768450382287023591 : Unit := ()
def PySem.W.Fast.tw7694167335054222763 : Unit := ()
def PySem.W.Fast.tw7702731831574825655 : Unit := ()
def PySem.W.Fast.tw7759910398515941017 : Unit := ()
def PySem.W.Fast.tw7825392833053517564 : Unit := ()
def PySem.W.Fast.tw7850209114423774400 : Unit := ()
def PySem.W.Fast.tw7862819379528574418 : Unit := ()
def PySem.W.Fast.tw7865252499089545396 : Unit := ()
def PySem.W.Fast.tw7901101593036030005 : Unit := ()
def PySem.W.Fast.tw7903885211512134727 : Unit := ()
def PySem.W.Fast.tw7909061544536273335 : Unit := ()
def PySem.W.Fast.tw7995183161956893524 : Unit := ()
def PySem.W.Fast.tw8003753628036789418 : Unit := ()
def PySem.W.Fast.tw8039363008857136164 : Unit := ()
def PySem.W.Fast.tw8054070221911816721 : Unit := ()
def PySem.W.Fast.tw8059188195752448796 : Unit := ()
def PySem.W.Fast.tw8186060629383755086 : Unit := ()
def PySem.W.Fast.tw8199194377043780036 : Unit := ()
def PySem.W.Fast.tw8241707749820228012 : Unit := ()
def PySem.W.Fast.tw8299494784338214839 : Unit := ()
def PySem.W.Fast.tw830492590864479156 : Unit := ()
def PySem.W.Fast.tw8305401079617798102 : Unit := ()
def PySem.W.Fast.tw8362444878942304413 : Unit := ()
def PySem.W.Fast.tw8365352653668586035 : Unit := ()
def PySem.W.Fast.tw8418747858934916346 : Unit := ()
def PySem.W.Fast.tw8419526882323540725 : Unit := ()
def PySem.W.Fast.tw8478953801480512607 : Unit := ()
def PySem.W.Fast.tw8488738791301518958 : Unit := ()
def PySem.W.Fast.tw8494339450069835615 : Unit := ()
def PySem.W.Fast.tw8532607874895043775 : Unit := ()
def PySem.W.Fast.tw853973391884019970 : Unit := ()
def PySem.W.Fast.tw8549305754944856122 : Unit := ()
def PySem.W.Fast.tw855574811618737805 : Unit := ()
def PySem.W.Fast.tw8576636213244537465 : Unit := ()
def PySem.W.Fast.tw858982472825948274 : Unit := ()
def PySem.W.Fast.tw8608140255553805577 : Unit := ()
def PySem.W.Fast.tw8608938638536004665 : Unit := ()
def PySem.W.Fast.tw8620176774699333391 : Unit := ()
def PySem.W.Fast.tw8635832000755347253 : Unit := ()
def PySem.W.Fast.tw8651427265259110174 : Unit := ()
def PySem.W.Fast.tw8672894178063353159 : Unit := ()
def PySem.W.Fast.tw8698406558475314822 : Unit := ()
def PySem.W.Fast.tw8745839701229841288 : Unit := ()
def PySem.W.Fast.tw8752194982086505209 : Unit := ()
def PySem.W.Fast.tw8764191260419063945 : Unit := ()
def PySem.W.Fast.tw8772388090731996913 : Unit := ()
def PySem.W.Fast.tw8802359202531117252 : Unit := ()
def PySem.W.Fast.tw88465595660925081 : Unit := ()
def PySem.W.Fast.tw8897417147403519096 : Unit := ()
def PySem.W.Fast.tw8923430672956522349 : Unit := ()
def PySem.W.Fast.tw8943478028058503181 : Unit := ()
def PySem.W.Fast.tw8946021971743521276 : Unit := ()
def PySem.W.Fast.tw8948284619780121659 : Unit := ()
def PySem.W.Fast.tw8977325481573192255 : Unit := ()
def PySem.W.Fast.tw9003840046352065081 : Unit := ()
def PySem.W.Fast.tw9028583493491633010 : Unit := ()
def PySem.W.Fast.tw9058717624587867962 : Unit := ()
def PySem.W.Fast.tw9113868748436162952 : Unit := ()
def PySem.W.Fast.tw9136108588579344460 : Unit := ()
def PySem.W.Fast.tw9170982172955224783 : Unit := ()
def PySem.W.Fast.tw9186064051623878682 : Unit := ()
def PySem.W.Fast.tw9189281380860981771 : Unit := ()
def PySem.W.Fast.tw9214345020027464455 : Unit := ()
def PySem.W.Fast.tw9260854722403178273 : Unit := ()
def PySem.W.Fast.tw929367484993318060 : Unit := ()
def PySem.W.Fast.tw935407626445934797 : Unit := ()
def PySem.W.Fast.tw9407826981770594152 : Unit := ()
def PySem.W.Fast.tw9445900244031854005 : Unit := ()
def PySem.W.Fast.tw9508465439800062612 : Unit := ()
def PySem.W.Fast.tw951630405269560175 : Unit := ()
def PySem.W.Fast.tw9560137293297188871 : Unit := ()
def PySem.W.Fast.tw9578584354096819555 : Unit := ()
def PySem.W.Fast.tw9597870799570140772 : Unit := ()
def PySem.W.Fast.tw9609010986833932544 : Unit := ()
def PySem.W.Fast.tw9629768327963633159 : Unit := ()
def PySem.W.Fast.tw9638625093931152838 : Unit := ()
def PySem.W.Fast.tw9644434942895197336 : Unit := ()
def PySem.W.Fast.tw9657081616316721915 : Unit := ()
def PySem.W.Fast.tw9715180982763267556 : Unit := ()
def PySem.W.Fast.tw9771791416493745204 : Unit := ()
def PySem.W.Fast.tw9778973521055165233 : Unit := ()
def PySem.W.Fast.tw9806402571017349631 : Unit := ()
def PySem.W.Fast.tw9816241841860567757 : Unit := ()
def PySem.W.Fast.tw9818368030789382214 : Unit := ()
def PySem.W.Fast.tw9845636898814291686 : Unit := ()
def PySem.W.Fast.tw9849431283111958108 : Unit := ()
def PySem.W.Fast.tw9861713957118769157 : Unit := ()
def PySem.W.Fast.tw9870495244989469535 : Unit := ()
def PySem.W.Fast.tw9880486518178290768 : Unit := ()
def PySem.W.Fast.tw9885283521915235380 : Unit := ()
def PySem.W.Fast.tw9890372572688991040 : Unit := ()
def PySem.W.Fast.tw9898969099037545015 : Unit := ()
def PySem.W.Fast.tw9928244709924987849 : Unit := ()
open PySem PySem.W PyProof.Rows
set_option maxRecDepth 100000 in
set_option maxHeartbeats 0 in
theorem PySem.Challenge.cw_endless_k34_whole_closest_holds : PySem.Challenge.rw_endless_k34_whole_closest.Holds := by
  w_on; o_law; k_head; (case hw => w_witness2)
  k_fill
  refine Toy.walk (l := PySem.Challenge.rw_endless_k34_whole_closest) rfl rfl (fun w h Y => PySem.W.kIn_of Y) ?F
  case F =>
    intro w mg fa h KX G hmg
    refine' Toy.all_mk KX G hmg ?a1 ?l1 ?c1 ?k1 ?a2 ?l2 ?c2 ?k2 ?a3 ?l3 ?c3 ?k3 ?a4 ?l4 ?c4 ?k4 ?a5 ?l5 ?c5 ?k5 ?a6 ?l6 ?c6 ?k6 ?a7 ?l7 ?c7 ?k7 ?a8 ?l8 ?c8 ?k8 ?a9 ?l9 ?c9 ?k9 ?a10 ?l10 ?c10 ?k10 ?a11 ?l11 ?c11 ?k11 ?a12 ?l12 ?c12 ?k12 ?a13 ?l13 ?c13 ?k13 ?a14 ?l14 ?c14 ?k14 ?a15 ?l15 ?c15 ?k15 ?a16 ?l16 ?c16 ?k16 ?a17 ?l17 ?c17 ?k17 ?a18 ?l18 ?c18 ?k18 ?ld18 ?a19 ?l19 ?c19 ?k19 ?a20 ?l20 ?c20 ?k20 ?a21 ?l21 ?c21 ?k21 ?a22 ?l22 ?c22 ?k22 ?a23 ?l23 ?c23 ?k23 ?a24 ?l24 ?c24 ?k24 ?a25 ?l25 ?c25 ?k25 ?a26 ?l26 ?c26 ?k26 ?a27 ?l27 ?c27 ?k27 ?a28 ?l28 ?c28 ?k28 ?a29 ?l29 ?c29 ?k29 ?a30 ?l30 ?c30 ?k30 ?a31 ?l31 ?c31 ?k31 ?a32 ?l32 ?c32 ?k32 ?a33 ?l33 ?c33 ?k33 ?a34 ?l34 ?c34 ?k34 ?a35 ?l35 ?c35 ?k35 ?a36 ?l36 ?c36 ?k36 ?a37 ?l37 ?c37 ?k37 ?a38 ?l38 ?c38 ?k38 ?a39 ?l39 ?c39 ?k39 ?a40 ?l40 ?c40 ?k40 ?a41 ?l41 ?c41 ?k41 ?a42 ?l42 ?c42 ?k42 ?a43 ?l43 ?c43 ?k43 ?a44 ?l44 ?c44 ?k44 ?a45 ?l45 ?c45 ?k45 ?a46 ?l46 ?c46 ?k46 ?a47 ?l47 ?c47 ?k47 ?a48 ?l48 ?c48 ?k48 ?a49 ?l49 ?c49 ?k49 ?a50 ?l50 ?c50 ?k50 ?a51 ?l51 ?c51 ?k51 ?ld51 ?a52 ?l52 ?c52 ?k52 ?ld52 ?a53 ?l53 ?c53 ?k53 ?a54 ?l54 ?c54 ?k54 ?a55 ?l55 ?c55 ?k55 ?a56 ?l56 ?c56 ?k56 ?a57 ?l57 ?c57 ?k57 ?a58 ?l58 ?c58 ?k58 ?z0 ?z1 ?z2 ?z3 ?z4 ?z5 ?z6 ?z7 ?z8 ?z9 ?z10 ?z11 ?z12 ?z13 ?cst0 ?cst1 ?cstT0 ?ltT0 ?cstN0 ?ltN0_0 ?ltN0_1 ?ltN0_2 ?ltN0_3 ?cstN1 ?ltN1_0 ?ltN1_1 ?ltN1_2 ?ltN1_3 ?xa_NumberError ?xe_NumberError ?xt_NumberError ?xi_NumberError ?xg_NumberError ?xh_NumberError ?xc_NumberError ?xo_NumberError ?xb_NumberError ?xa_NoNatural ?xa_BelowNought ?xe_BelowNought ?xt_BelowNought ?xi_BelowNought ?xg_BelowNought ?xh_BelowNought ?xc_BelowNought ?xo_BelowNought ?xb_BelowNought ?xa_NoCount ?xe_NoCount ?xt_NoCount ?xi_NoCount ?xg_NoCount ?xh_NoCount ?xc_NoCount ?xo_NoCount ?xb_NoCount ?xa_ByNought ?xe_ByNought ?xt_ByNought ?xi_ByNought ?xg_ByNought ?xh_ByNought ?xc_ByNought ?xo_ByNought ?xb_ByNought ?xa_NoWay ?xe_NoWay ?xt_NoWay ?xi_NoWay ?xg_NoWay ?xh_NoWay ?xc_NoWay ?xo_NoWay ?xb_NoWay ?xa_NoChain ?xa_NoRoot ?xa_NoBase ?xa_NoDigit ?xa_TooLong ?xa_NoText ?xa_NoName ?xcg ?xct ?fi_ByNought_NumberError ?fi_ByNought_NoNatural ?fi_ByNought_BelowNought ?fi_ByNought_NoCount ?fi_ByNought_ByNought ?fi_ByNought_NoWay ?fi_ByNought_NoChain ?fi_ByNought_NoRoot ?fi_ByNought_NoBase ?fi_ByNought_NoDigit ?fi_ByNought_TooLong ?fi_ByNought_NoText ?fi_ByNought_NoName ?fiv_ByNought ?ft_ByNought_NumberError
    (case a1 => k_is)
    (case l1 => k_is)
    (case c1 => k_is)
    (case k1 => k_is)
    (case a2 => k_is)
    (case l2 => k_is)
    (case c2 => k_is)
    (case k2 => k_is)
    (case a3 => k_is)
    (case l3 => k_is)
    (case c3 => k_is)
    (case k3 => k_is)
    (case a4 => k_is)
    (case l4 => k_is)
    (case c4 => k_is)
    (case k4 => k_is)
    (case a5 => k_is)
    (case l5 => k_is)
    (case c5 => k_is)
    (case k5 => k_is)
    (case a6 => k_is)
    (case l6 => k_is)
    (case c6 => k_is)
    (case k6 => k_is)
    (case a7 => k_is)
    (case l7 => k_is)
    (case c7 => k_is)
    (case k7 => k_is)
    (case a8 => k_is)
    (case l8 => k_is)
    (case c8 => k_is)
    (case k8 => k_is)
    (case a9 => k_is)
    (case l9 => k_is)
    (case c9 => k_is)
    (case k9 => k_is)
    (case a10 => k_is)
    (case l10 => k_is)
    (case c10 => k_is)
    (case k10 => k_is)
    (case a11 => k_is)
    (case l11 => k_is)
    (case c11 => k_is)
    (case k11 => k_is)
    (case a12 => k_is)
    (case l12 => k_is)
    (case c12 => k_is)
    (case k12 => k_is)
    (case a13 => k_is)
    (case l13 => k_is)
    (case c13 => k_is)
    (case k13 => k_is)
    (case a14 => k_is)
    (case l14 => k_is)
    (case c14 => k_is)
    (case k14 => k_is)
    (case a15 => k_is)
    (case l15 => k_is)
    (case c15 => k_is)
    (case k15 => k_is)
    (case a16 => k_is)
    (case l16 => k_is)
    (case c16 => k_is)
    (case k16 => k_is)
    (case a17 => k_is)
    (case l17 => k_is)
    (case c17 => k_is)
    (case k17 => k_is)
    (case a18 => k_is)
    (case l18 => k_is)
    (case c18 => k_is)
    (case k18 => k_is)
    (case ld18 => k_is)
    (case a19 => k_is)
    (case l19 => k_is)
    (case c19 => k_is)
    (case k19 => k_is)
    (case a20 => k_is)
    (case l20 => k_is)
    (case c20 => k_is)
    (case k20 => k_is)
    (case a21 => k_is)
    (case l21 => k_is)
    (case c21 => k_is)
    (case k21 => k_is)
    (case a22 => k_is)
    (case l22 => k_is)
    (case c22 => k_is)
    (case k22 => k_is)
    (case a23 => k_is)
    (case l23 => k_is)
    (case c23 => k_is)
    (case k23 => k_is)
    (case a24 => k_is)
    (case l24 => k_is)
    (case c24 => k_is)
    (case k24 => k_is)
    (case a25 => k_is)
    (case l25 => k_is)
    (case c25 => k_is)
    (case k25 => k_is)
    (case a26 => k_is)
    (case l26 => k_is)
    (case c26 => k_is)
    (case k26 => k_is)
    (case a27 => k_is)
    (case l27 => k_is)
    (case c27 => k_is)
    (case k27 => k_is)
    (case a28 => k_is)
    (case l28 => k_is)
    (case c28 => k_is)
    (case k28 => k_is)
    (case a29 => k_is)
    (case l29 => k_is)
    (case c29 => k_is)
    (case k29 => k_is)
    (case a30 => k_is)
    (case l30 => k_is)
    (case c30 => k_is)
    (case k30 => k_is)
    (case a31 => k_is)
    (case l31 => k_is)
    (case c31 => k_is)
    (case k31 => k_is)
    (case a32 => k_is)
    (case l32 => k_is)
    (case c32 => k_is)
    (case k32 => k_is)
    (case a33 => k_is)
    (case l33 => k_is)
    (case c33 => k_is)
    (case k33 => k_is)
    (case a34 => k_is)
    (case l34 => k_is)
    (case c34 => k_is)
    (case k34 => k_is)
    (case a35 => k_is)
    (case l35 => k_is)
    (case c35 => k_is)
    (case k35 => k_is)
    (case a36 => k_is)
    (case l36 => k_is)
    (case c36 => k_is)
    (case k36 => k_is)
    (case a37 => k_is)
    (case l37 => k_is)
    (case c37 => k_is)
    (case k37 => k_is)
    (case a38 => k_is)
    (case l38 => k_is)
    (case c38 => k_is)
    (case k38 => k_is)
    (case a39 => k_is)
    (case l39 => k_is)
    (case c39 => k_is)
    (case k39 => k_is)
    (case a40 => k_is)
    (case l40 => k_is)
    (case c40 => k_is)
    (case k40 => k_is)
    (case a41 => k_is)
    (case l41 => k_is)
    (case c41 => k_is)
    (case k41 => k_is)
    (case a42 => k_is)
    (case l42 => k_is)
    (case c42 => k_is)
    (case k42 => k_is)
    (case a43 => k_is)
    (case l43 => k_is)
    (case c43 => k_is)
    (case k43 => k_is)
    (case a44 => k_is)
    (case l44 => k_is)
    (case c44 => k_is)
    (case k44 => k_is)
    (case a45 => k_is)
    (case l45 => k_is)
    (case c45 => k_is)
    (case k45 => k_is)
    (case a46 => k_is)
    (case l46 => k_is)
    (case c46 => k_is)
    (case k46 => k_is)
    (case a47 => k_is)
    (case l47 => k_is)
    (case c47 => k_is)
    (case k47 => k_is)
    (case a48 => k_is)
    (case l48 => k_is)
    (case c48 => k_is)
    (case k48 => k_is)
    (case a49 => k_is)
    (case l49 => k_is)
    (case c49 => k_is)
    (case k49 => k_is)
    (case a50 => k_is)
    (case l50 => k_is)
    (case c50 => k_is)
    (case k50 => k_is)
    (case a51 => k_is)
    (case l51 => k_is)
    (case c51 => k_is)
    (case k51 => k_is)
    (case ld51 => k_is)
    (case a52 => k_is)
    (case l52 => k_is)
    (case c52 => k_is)
    (case k52 => k_is)
    (case ld52 => k_is)
    (case a53 => k_is)
    (case l53 => k_is)
    (case c53 => k_is)
    (case k53 => k_is)
    (case a54 => k_is)
    (case l54 => k_is)
    (case c54 => k_is)
    (case k54 => k_is)
    (case a55 => k_is)
    (case l55 => k_is)
    (case c55 => k_is)
    (case k55 => k_is)
    (case a56 => k_is)
    (case l56 => k_is)
    (case c56 => k_is)
    (case k56 => k_is)
    (case a57 => k_is)
    (case l57 => k_is)
    (case c57 => k_is)
    (case k57 => k_is)
    (case a58 => k_is)
    (case l58 => k_is)
    (case c58 => k_is)
    (case k58 => k_is)
    (case z0 => k_is)
    (case z1 => k_is)
    (case z2 => k_is)
    (case z3 => k_is)
    (case z4 => k_is)
    (case z5 => k_is)
    (case z6 => k_is)
    (case z7 => k_is)
    (case z8 => k_is)
    (case z9 => k_is)
    (case z10 => k_is)
    (case z11 => k_is)
    (case z12 => k_is)
    (case z13 => k_is)
    (case cst0 => k_is)
    (case cst1 => k_is)
    (case cstT0 => k_is)
    (case ltT0 => k_is)
    (case cstN0 => k_is)
    (case ltN0_0 => k_is)
    (case ltN0_1 => k_is)
    (case ltN0_2 => k_is)
    (case ltN0_3 => k_is)
    (case cstN1 => k_is)
    (case ltN1_0 => k_is)
    (case ltN1_1 => k_is)
    (case ltN1_2 => k_is)
    (case ltN1_3 => k_is)
    (case xa_NumberError => k_is)
    (case xe_NumberError => k_exc)
    (case xt_NumberError => k_is)
    (case xi_NumberError => k_is)
    (case xg_NumberError => k_is)
    (case xh_NumberError => k_is)
    (case xc_NumberError => k_is)
    (case xo_NumberError => k_is)
    (case xb_NumberError => k_is)
    (case xa_NoNatural => k_is)
    (case xa_BelowNought => k_is)
    (case xe_BelowNought => k_exc)
    (case xt_BelowNought => k_is)
    (case xi_BelowNought => k_is)
    (case xg_BelowNought => k_is)
    (case xh_BelowNought => k_is)
    (case xc_BelowNought => k_is)
    (case xo_BelowNought => k_is)
    (case xb_BelowNought => k_is)
    (case xa_NoCount => k_is)
    (case xe_NoCount => k_exc)
    (case xt_NoCount => k_is)
    (case xi_NoCount => k_is)
    (case xg_NoCount => k_is)
    (case xh_NoCount => k_is)
    (case xc_NoCount => k_is)
    (case xo_NoCount => k_is)
    (case xb_NoCount => k_is)
    (case xa_ByNought => k_is)
    (case xe_ByNought => k_exc)
    (case xt_ByNought => k_is)
    (case xi_ByNought => k_is)
    (case xg_ByNought => k_is)
    (case xh_ByNought => k_is)
    (case xc_ByNought => k_is)
    (case xo_ByNought => k_is)
    (case xb_ByNought => k_is)
    (case xa_NoWay => k_is)
    (case xe_NoWay => k_exc)
    (case xt_NoWay => k_is)
    (case xi_NoWay => k_is)
    (case xg_NoWay => k_is)
    (case xh_NoWay => k_is)
    (case xc_NoWay => k_is)
    (case xo_NoWay => k_is)
    (case xb_NoWay => k_is)
    (case xa_NoChain => k_is)
    (case xa_NoRoot => k_is)
    (case xa_NoBase => k_is)
    (case xa_NoDigit => k_is)
    (case xa_TooLong => k_is)
    (case xa_NoText => k_is)
    (case xa_NoName => k_is)
    (case xcg => k_is)
    (case xct => k_is)
    (case fi_ByNought_NumberError => kit_is)
    (case fi_ByNought_NoNatural => kit_is)
    (case fi_ByNought_BelowNought => kit_is)
    (case fi_ByNought_NoCount => kit_is)
    (case fi_ByNought_ByNought => kit_is)
    (case fi_ByNought_NoWay => kit_is)
    (case fi_ByNought_NoChain => kit_is)
    (case fi_ByNought_NoRoot => kit_is)
    (case fi_ByNought_NoBase => kit_is)
    (case fi_ByNought_NoDigit => kit_is)
    (case fi_ByNought_TooLong => kit_is)
    (case fi_ByNought_NoText => kit_is)
    (case fi_ByNought_NoName => kit_is)
    (case fiv_ByNought => kit_is)
    (case ft_ByNought_NumberError => k_is)
#print axioms PySem.Challenge.cw_endless_k34_whole_closest_holds
