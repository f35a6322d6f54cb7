import PyProof.Rows.All
import Wide.All
import OpenK.AllK
import Wide.FinOn
import Lean
import PyProof.EqAt
import PyProof.EqKinds
import PyProof.TupleCall
import PySem.Challenge.RW_twotabs_k08_versions_written
set_option Elab.async false
set_option linter.all false
set_option maxRecDepth 100000
/-! THE HAND LAYER, for ints, bools, texts, own classes, LISTS and tuples (index, slices, in, append, pop ..), calls, loops. Paste it whole ahead of your own text; what your proof does not reach may be deleted. -/
namespace L2
open PySem PySem.Spec PyProof.Rows

/-- a key: an int or a str -/
abbrev Key := Sum Int Str
def keyIs : Key → Value → Bool
  | .inl k, v => Value.isInt k v
  | .inr x, v => Value.isStrOf x v
def keyH (w : World) : Key → Int
  | .inl k => hashInt k
  | .inr x => hashStr w x
theorem keyIs_shape : ∀ {k : Key} {v : Value}, keyIs k v = true → (∃ i t, k = Sum.inl i ∧ v = Value.int i t) ∨ (∃ x t, k = Sum.inr x ∧ v = Value.str x t)
  | .inl i, v, h => by
    obtain ⟨t, e⟩ := Value.isInt_shape (k := i) (v := v) h
    exact .inl ⟨i, t, rfl, e⟩
  | .inr x, v, h => by
    obtain ⟨t, e⟩ := Value.isStrOf_shape (x := x) (v := v) h
    exact .inr ⟨x, t, rfl, e⟩
theorem key_ll (a b : Int) : decide ((Sum.inl a : Key) = Sum.inl b) = (a == b) := by
  by_cases e : a = b
  · subst e; simp
  · have h : ¬ (Sum.inl a : Key) = Sum.inl b := fun q => e (Sum.inl.inj q)
    rw [decide_eq_false h]
    exact (beq_eq_false_iff_ne.mpr e).symm
theorem key_rr (a b : Str) : decide ((Sum.inr a : Key) = Sum.inr b) = decide (a = b) := by
  by_cases e : a = b
  · subst e; simp
  · have h : ¬ (Sum.inr a : Key) = Sum.inr b := fun q => e (Sum.inr.inj q)
    rw [decide_eq_false h, decide_eq_false e]
theorem key_lr (a : Int) (b : Str) : decide ((Sum.inl a : Key) = Sum.inr b) = false := decide_eq_false (fun q => nomatch q)
theorem key_rl (a : Str) (b : Int) : decide ((Sum.inr a : Key) = Sum.inl b) = false := decide_eq_false (fun q => nomatch q)

def mixKind (prog : Program) (w : World) : PySem.KeyKind prog w Key where
  is := keyIs
  hash := keyH w
  inj := fun v a b ha hb => by
    rcases keyIs_shape ha with ⟨i, t, rfl, rfl⟩ | ⟨x, t, rfl, rfl⟩
    · rcases keyIs_shape hb with ⟨j, u, rfl, e⟩ | ⟨y, u, rfl, e⟩
      · injection e with e1 _; rw [e1]
      · exact nomatch e
    · rcases keyIs_shape hb with ⟨j, u, rfl, e⟩ | ⟨y, u, rfl, e⟩
      · exact nomatch e
      · injection e with e1 _; rw [e1]
  byValue := fun k v h => by
    rcases keyIs_shape h with ⟨i, t, rfl, rfl⟩ | ⟨x, t, rfl, rfl⟩ <;> rfl
  pyHash := fun hv h => by
    rcases keyIs_shape hv with ⟨i, t, rfl, rfl⟩ | ⟨x, t, rfl, rfl⟩
    · exact wpAny_pyHash_int h
    · exact wpAny_pyHash_str h
  eqBool := fun hu hv h => by
    rcases keyIs_shape hu with ⟨i, t, rfl, rfl⟩ | ⟨x, t, rfl, rfl⟩
    · rcases keyIs_shape hv with ⟨j, u, rfl, rfl⟩ | ⟨y, u, rfl, rfl⟩
      · rw [key_ll] at h; exact wpAny_eqBool_int h
      · rw [key_lr] at h; exact SeqAt.EqAt.int_str i t y u _ _ _ _ h
    · rcases keyIs_shape hv with ⟨j, u, rfl, rfl⟩ | ⟨y, u, rfl, rfl⟩
      · rw [key_rl] at h; exact SeqAt.EqAt.str_int x t j u _ _ _ _ h
      · rw [key_rr] at h; exact wpAny_eqBool_str h
  «strs» := fun k x t v h => by
    rcases keyIs_shape h with ⟨i, u, rfl, e⟩ | ⟨y, u, rfl, e⟩
    · exact nomatch e
    · injection e with e1 _
      subst e1
      cases v <;> rfl

end L2

namespace L2
open PySem PySem.Spec PyProof.Rows

/-- a value, without the heap -/
inductive V where
  | non | bl (b : Bool) | int (i : Int) | str (x : Str) | byt (b : Array UInt8) | flt (b : UInt64) | ref (a : Addr) | ty (n : String)
  deriving DecidableEq

def RelV : V → Value → Prop
  | .non, u => u = Value.none
  | .bl b, u => u = Value.bool b
  | .int i, u => ∃ t, u = Value.int i t
  | .str x, u => ∃ t, u = Value.str x t
  | .byt b, u => ∃ t, u = Value.bytes b t
  | .flt b, u => ∃ t, u = Value.float b t
  | .ref a, u => u = Value.ref a
  | .ty n, u => u = Value.type n

abbrev Vals : List V → List Value → Prop := Paired RelV
theorem Vals.length {xs : List V} {us : List Value} (r : Vals xs us) : xs.length = us.length := Paired.length r
theorem Vals.get : ∀ {xs : List V} {us : List Value} {i : Nat} {x : V}, Vals xs us → xs[i]? = some x → ∃ u, us[i]? = some u ∧ RelV x u
  | _, _, _, _, .nil, e => by simp at e
  | _, _, 0, _, .cons r _, e => by simp at e; subst e; exact ⟨_, rfl, r⟩
  | _, _, i + 1, x, .cons _ t, e => by
    obtain ⟨u, h1, h2⟩ := Vals.get (i := i) (x := x) t (by simpa using e)
    exact ⟨u, by simpa using h1, h2⟩
theorem Vals.append : ∀ {xs ys : List V} {us ws : List Value}, Vals xs us → Vals ys ws → Vals (xs ++ ys) (us ++ ws)
  | _, _, _, _, .nil, s => s
  | _, _, _, _, .cons r t, s => .cons r (Vals.append t s)
theorem Vals.take : ∀ {xs : List V} {us : List Value} (n : Nat), Vals xs us → Vals (xs.take n) (us.take n)
  | _, _, 0, _ => .nil
  | _, _, _ + 1, .nil => .nil
  | _, _, n + 1, .cons r t => .cons r (Vals.take n t)
theorem Vals.drop : ∀ {xs : List V} {us : List Value} (n : Nat), Vals xs us → Vals (xs.drop n) (us.drop n)
  | _, _, 0, r => r
  | _, _, _ + 1, .nil => .nil
  | _, _, n + 1, .cons _ t => Vals.drop n t
def RelO : Option V → Option Value → Prop
  | some v, some u => RelV v u
  | none, none => True
  | _, _ => False
def KV {κ : Type} : List (κ × V) → List (κ × Value) → Prop := Paired fun (p : κ × V) (q : κ × Value) => p.1 = q.1 ∧ RelV p.2 q.2

/-- a key of a dict (00_mix): an int or a text -/
def kV : Key → V
  | .inl i => .int i
  | .inr x => .str x

/-- what stands at a tracked address -/
inductive HO where
  /-- a list -/
  | lst (xs : List V)
  /-- a tuple (never changes) -/
  | tup (xs : List V)
  /-- a dict whose keys are ints and texts; one whose keys are tuples of ints and texts (the empty one is both) -/
  | dK (kvs : List (Key × V)) | dT (kvs : List (List Key × V))
  /-- a set of ints: its members, its size -/
  | set (S : Int → Bool) (n : Nat)
  /-- an instance of the class at C, its dict at dx, its attributes -/
  | ins (C dx : Addr) (fs : List (Str × V))
  /-- the dict of the instance at x -/
  | own (x : Addr)
  /-- the dict of an exception -/
  | xd (fs : List (Str × V))
  /-- a bound method, f of x -/
  | met (f x : Addr)
  /-- a range object lo, lo + 1, .. below hi -/
  | rng (lo hi : Int)
  /-- a thing that is known to the object (the script; a dict while a loop walks it): read, never written while it is so -/
  | frz (o : Obj) (u : HO)
  /-- a code object's table -/
  | tbl (ps : Array Value)
  /-- any other thing, by what is true of its one object (a def of one's own: SetO a S n := HO.ext fun h => ..) -/
  | ext (φ : Heap → Prop)

abbrev Hp := Addr → Option HO
def upd (H : Hp) (a : Addr) (o : HO) : Hp := fun b => if b = a then some o else H b
theorem upd_same {H : Hp} {a : Addr} {o : HO} : upd H a o a = some o := by unfold upd; rw [if_pos rfl]
theorem upd_ne {H : Hp} {a b : Addr} {o : HO} (h : b ≠ a) : upd H a o b = H b := by unfold upd; rw [if_neg h]
theorem upd_upd {H : Hp} {a : Addr} {o u : HO} : upd (upd H a o) a u = upd H a u := by
  funext b; unfold upd; split <;> rfl
/-- two objects of different content stand apart -/
theorem ne_of {H : Hp} {a b : Addr} {o u : HO} (h : H a = some o) (h' : H b = some u) (d : o ≠ u) : a ≠ b := by
  intro e; subst e; rw [h] at h'; exact d (Option.some.inj h')
theorem ne_of_none {H : Hp} {a b : Addr} {o : HO} (h : H a = some o) (h' : H b = none) : a ≠ b := by
  intro e; subst e; rw [h] at h'; cases h'

section
variable (P : Program) (w : World)
def ObjOk (H : Hp) (h : Heap) (a : Addr) : HO → Prop
  | .lst xs => xs.length ≤ sizeLine ∧ ∃ (its : List Value) (n : Nat), Vals xs its ∧ h.get? a = some { cls := .type "list", data := .seq its.toArray n }
  | .tup xs => xs.length ≤ sizeLine ∧ ∃ its : List Value, Vals xs its ∧ IsTup h a its.toArray
  | .dK kvs => kvs.length ≤ sizeLine ∧ (a == sysModules) = false ∧ ∃ vs, KV kvs vs ∧ h.DictOf (mixKind P w) a vs
  | .dT kvs => kvs.length ≤ sizeLine ∧ (a == sysModules) = false ∧ ∃ xs : List (List Key × Addr × Value),
      Paired (fun (p : List Key × V) (q : List Key × Addr × Value) => p.1 = q.1 ∧ H q.2.1 = some (.tup (p.1.map kV)) ∧ RelV p.2 q.2.2) kvs xs ∧
      ∃ o es ep, h.get? a = some o ∧ o.ExactDict ∧ o.data = .dict es ep ∧ es.toList = xs.map (entryOfKey (tupleKind (mixKind P w))) ∧ (xs.map (·.1)).Nodup
  | .set S n => h.SetOf (intKind P w) a S n
  | .ins C dx fs => H dx = some (.own a) ∧ fs.length ≤ 1000 ∧ dx ≠ a ∧ h.get? a = some (PySem.W.instObj C dx) ∧
      ∃ mA, h.Ns1 dx mA ∧ (∀ f, RelO (fs.lookup f) (mA f)) ∧ PySem.Within mA (fs.map (·.1))
  | .own _ => ∃ o, h.get? a = some o
  | .xd fs => ∃ mA, h.Ns1 a mA ∧ ∀ f, RelO (fs.lookup f) (mA f)
  | .rng lo hi => ∃ t u v, h.get? a = some { cls := .type "range", data := .fields #[.int lo t, .int hi u, .int 1 v] }
  | .frz o u => h.get? a = some o ∧ ObjOk H h a u
  | .tbl ps => h.get? a = some { cls := .none, data := .fields ps }
  | .met f x => h.get? a = some (PySem.W.methodObj (.ref f) (.ref x))
  | .ext φ => φ h ∧ (∃ o, h.get? a = some o) ∧ ∀ h1 h2 : Heap, φ h1 → (∀ o, h1.get? a = some o → h2.get? a = some o) → φ h2
/-- the abstract heap is held -/
def HOk (H : Hp) (h : Heap) : Prop := ∀ a o, H a = some o → ObjOk P w H h a o
end

section
variable {P : Program} {w : World} {H H' : Hp} {h h' : Heap} {a : Addr} {o : HO}
theorem ObjOk.lt (x : ObjOk P w H h a o) : a < h.objs.size := by
  cases o with
  | lst xs => obtain ⟨_, _, _, _, e⟩ := x; exact Heap.lt_size e
  | tup xs => obtain ⟨_, _, _, p⟩ := x; exact p.lt
  | dK kvs => obtain ⟨_, _, _, _, o, _, _, e, _⟩ := x; exact Heap.lt_size e
  | dT kvs => obtain ⟨_, _, _, _, o, _, _, e, _⟩ := x; exact Heap.lt_size e
  | set S n => obtain ⟨o, _, _, _, e, _⟩ := x; exact Heap.lt_size e
  | ins C dx fs => obtain ⟨_, _, _, e, _⟩ := x; exact Heap.lt_size e
  | own y => obtain ⟨_, e⟩ := x; exact Heap.lt_size e
  | xd fs => obtain ⟨_, ⟨_, _, _, e, _⟩, _⟩ := x; exact Heap.lt_size e
  | rng lo hi => obtain ⟨_, _, _, e⟩ := x; exact Heap.lt_size e
  | frz ob u => obtain ⟨e, _⟩ := x; exact Heap.lt_size e
  | tbl ps => exact Heap.lt_size (show h.get? a = some _ from x)
  | met f y => exact Heap.lt_size (show h.get? a = some _ from x)
  | ext φ => obtain ⟨_, ⟨_, e⟩, _⟩ := x; exact Heap.lt_size e
theorem Paired.mapP {α β : Type} {F G : α → β → Prop} : ∀ {l₁ : List α} {l₂ : List β}, Paired F l₁ l₂ → (∀ a b, F a b → G a b) → Paired G l₁ l₂
  | _, _, .nil, _ => .nil
  | _, _, .cons r t, f => .cons (f _ _ r) (Paired.mapP t f)
/-- what an object's description leans on: its own object, its own dict, the tuples -/
theorem ObjOk.stay (x : ObjOk P w H h a o) (k : ∀ b u, (b = a ∨ H b = some (.own a)) → h.get? b = some u → h'.get? b = some u)
    (ho : ∀ b, H b = some (.own a) → H' b = some (.own a)) (ht : ∀ b xs, H b = some (.tup xs) → H' b = some (.tup xs)) : ObjOk P w H' h' a o := by
  induction o with
  | lst xs => obtain ⟨z, its, n, r, e⟩ := x; exact ⟨z, its, n, r, k _ _ (.inl rfl) e⟩
  | tup xs => obtain ⟨z, its, r, ob, e, c⟩ := x; exact ⟨z, its, r, ob, k _ _ (.inl rfl) e, c⟩
  | dK kvs => obtain ⟨z, y, vs, r, ob, es, ep, e, c⟩ := x; exact ⟨z, y, vs, r, ob, es, ep, k _ _ (.inl rfl) e, c⟩
  | dT kvs =>
    obtain ⟨z, y, xs, r, ob, es, ep, e, c⟩ := x
    exact ⟨z, y, xs, Paired.mapP r fun p q z => ⟨z.1, ht _ _ z.2.1, z.2.2⟩, ob, es, ep, k _ _ (.inl rfl) e, c⟩
  | set S n => obtain ⟨ob, es, ep, t, e, c⟩ := x; exact ⟨ob, es, ep, t, k _ _ (.inl rfl) e, c⟩
  | ins C dx fs =>
    obtain ⟨d, z, ne, e, mA, ⟨od, es, ep, e2, c⟩, r⟩ := x
    exact ⟨ho _ d, z, ne, k _ _ (.inl rfl) e, mA, ⟨od, es, ep, k _ _ (.inr d) e2, c⟩, r⟩
  | own y => obtain ⟨ob, e⟩ := x; exact ⟨ob, k _ _ (.inl rfl) e⟩
  | xd fs => obtain ⟨mA, ⟨od, es, ep, e, c⟩, r⟩ := x; exact ⟨mA, ⟨od, es, ep, k _ _ (.inl rfl) e, c⟩, r⟩
  | rng lo hi => obtain ⟨t, u, v, e⟩ := x; exact ⟨t, u, v, k _ _ (.inl rfl) e⟩
  | frz ob u ih => obtain ⟨e, q⟩ := x; exact ⟨k _ _ (.inl rfl) e, ih q⟩
  | tbl ps =>
    have e : h.get? a = some { cls := .none, data := .fields ps } := x
    show h'.get? a = some { cls := .none, data := .fields ps }
    exact k a _ (.inl rfl) e
  | met f y =>
    have e : h.get? a = some (PySem.W.methodObj (.ref f) (.ref y)) := x
    show h'.get? a = some (PySem.W.methodObj (.ref f) (.ref y))
    exact k a _ (.inl rfl) e
  | ext φ => obtain ⟨p, ⟨o, e⟩, st⟩ := x; exact ⟨st _ _ p fun o q => k _ _ (.inl rfl) q, ⟨o, k _ _ (.inl rfl) e⟩, st⟩
theorem HOk.lt (x : HOk P w H h) (e : H a = some o) : a < h.objs.size := (x a o e).lt
theorem HOk.fresh (x : HOk P w H h) (e : h.objs.size ≤ a) : H a = none := by
  cases q : H a with
  | none => rfl
  | some u => exact absurd (Nat.lt_of_lt_of_le (x.lt q) e) (Nat.lt_irrefl _)
/-- every object of the heap is kept -/
theorem HOk.kept (x : HOk P w H h) (k : ∀ b u, h.get? b = some u → h'.get? b = some u) : HOk P w H h' := fun a o e =>
  (x a o e).stay (fun b u _ q => k b u q) (fun _ q => q) fun _ _ q => q
/-- a new object is laid and tracked -/
theorem HOk.laid (x : HOk P w H h) (k : ∀ b u, h.get? b = some u → h'.get? b = some u) (hp : h.objs.size ≤ a) (new : ObjOk P w (upd H a o) h' a o) : HOk P w (upd H a o) h' := fun b u e => by
  have hn := x.fresh hp
  by_cases hb : b = a
  · subst hb; rw [upd_same] at e; cases e; exact new
  · rw [upd_ne hb] at e
    exact (x b u e).stay (fun c v _ q => k c v q) (fun c q => by rw [upd_ne (ne_of_none q hn)]; exact q) fun c xs q => by rw [upd_ne (ne_of_none q hn)]; exact q
end

/-- what may be read as u: it is u, or a known u -/
def Rd (H : Hp) (a : Addr) (u : HO) : Prop := H a = some u ∨ ∃ o, H a = some (.frz o u)
theorem Rd.ok {P : Program} {w : World} {H : Hp} {h : Heap} {a : Addr} {u : HO} (r : Rd H a u) (x : HOk P w H h) : ObjOk P w H h a u := by
  rcases r with r | ⟨o, r⟩
  · exact x a u r
  · obtain ⟨_, q⟩ := x a _ r
    exact q
/-- what may be written -/
def Mut : Option HO → Prop
  | some (.lst _) => True
  | some (.dK _) => True
  | some (.dT _) => True
  | some (.set _ _) => True
  | some (.ins _ _ _) => True
  | some (.ext _) => True
  | _ => False
section
variable {P : Program} {w : World} {H : Hp} {h h' : Heap} {x e : Addr} {o' : HO}
/-- the object at e is changed: x itself, or the dict of the instance x -/
theorem HOk.write (ok : HOk P w H h) (mu : Mut (H x)) (he : e = x ∨ H e = some (.own x)) (k : ∀ b u, b ≠ e → h.get? b = some u → h'.get? b = some u) (heo : ∃ u, h'.get? e = some u)
    (new : ObjOk P w (upd H x o') h' x o') : HOk P w (upd H x o') h' := fun b u q => by
  have nown : ∀ c y, H c = some (.own y) → c ≠ x := fun c y r z => by subst z; rw [r] at mu; exact mu
  have ntup : ∀ c xs, H c = some (.tup xs) → c ≠ x := fun c xs r z => by subst z; rw [r] at mu; exact mu
  by_cases hb : b = x
  · subst hb; rw [upd_same] at q; cases q; exact new
  · rw [upd_ne hb] at q
    by_cases hbe : b = e
    · have q' : H b = some (.own x) := by
        rcases he with z | z
        · exact absurd (hbe.trans z) hb
        · rw [hbe]; exact z
      rw [q] at q'; cases q'
      obtain ⟨v, hv⟩ := heo
      exact ⟨v, by rw [hbe]; exact hv⟩
    · refine (ok b u q).stay (fun c v hc r => k c v ?_ r) (fun c r => by rw [upd_ne (nown c b r)]; exact r) fun c xs r => by rw [upd_ne (ntup c xs r)]; exact r
      rcases hc with rfl | hc
      · exact hbe
      · rintro rfl
        rcases he with z | z
        · exact nown c b hc z
        · rw [hc] at z; cases z; exact hb rfl
end

/-! ### kept unless tracked; of the frames at fs (the callers') the slots may change (an exception that passes writes there); of the records at ex (iterators) nothing is said -/
structure Un (fs ex : List Addr) (H H' : Hp) (h h' : Heap) : Prop where
  keep : ∀ b o, h.get? b = some o → H b = none → b ∉ fs → b ∉ ex → h'.get? b = some o
  slot : ∀ b o, h.get? b = some o → H b = none → b ∈ fs → b ∉ ex → ∃ sl, h'.get? b = some { o with slots := sl }
  free : ∀ b o, h.get? b = some o → H b = none → b ∉ ex → H' b = none
  there : ∀ b o, h.get? b = some o → b ∉ ex → ∃ o', h'.get? b = some o'
  tups : ∀ b xs, H b = some (.tup xs) → H' b = some (.tup xs)
  frzs : ∀ b o u, H b = some (.frz o u) → H' b = some (.frz o u)
  tbls : ∀ b ps, H b = some (.tbl ps) → ∃ more, H' b = some (.tbl (ps ++ more))
section
variable {fs fs' ex ex' : List Addr} {H H1 H2 : Hp} {h h1 h2 h' : Heap} {a x e : Addr} {o : HO}
theorem Un.any (u : Un fs ex H H1 h h1) {b : Addr} {ob : Obj} (q : h.get? b = some ob) (n : H b = none) (hx : b ∉ ex) : ∃ sl, h1.get? b = some { ob with slots := sl } := by
  by_cases hb : b ∈ fs
  · exact u.slot b ob q n hb hx
  · exact ⟨ob.slots, u.keep b ob q n hb hx⟩
theorem Un.kept (k : ∀ b u, h.get? b = some u → h'.get? b = some u) : Un fs ex H H h h' :=
  ⟨fun b ob q _ _ _ => k b ob q, fun b ob q _ _ _ => ⟨ob.slots, k b ob q⟩, fun _ _ _ n _ => n, fun b ob q _ => ⟨ob, k b ob q⟩, fun _ _ q => q, fun _ _ _ q => q, fun _ ps q => ⟨#[], by rw [q]; simp⟩⟩
theorem Un.refl : Un fs ex H H h h := Un.kept fun _ _ q => q
theorem Un.laid (k : ∀ b u, h.get? b = some u → h'.get? b = some u) (hp : h.objs.size ≤ a) (hn : H a = none) : Un fs ex H (upd H a o) h h' where
  keep := fun b u q _ _ _ => k b u q
  slot := fun b u q _ _ _ => ⟨u.slots, k b u q⟩
  free := fun b u q n _ => by rw [upd_ne (Nat.ne_of_lt (Nat.lt_of_lt_of_le (Heap.lt_size q) hp))]; exact n
  there := fun b u q _ => ⟨u, k b u q⟩
  tups := fun b xs q => by rw [upd_ne (ne_of_none q hn)]; exact q
  frzs := fun b u xs q => by rw [upd_ne (ne_of_none q hn)]; exact q
  tbls := fun b ps q => ⟨#[], by rw [upd_ne (ne_of_none q hn), q]; simp⟩
theorem Un.write (mu : Mut (H x)) (he : e = x ∨ H e = some (.own x)) (k : ∀ b u, b ≠ e → h.get? b = some u → h'.get? b = some u) (heo : ∃ u, h'.get? e = some u) : Un fs ex H (upd H x o) h h' := by
  have hx : ∀ b, H b = none → b ≠ x := fun b n z => by subst z; rw [n] at mu; exact mu
  have hb : ∀ b, H b = none → b ≠ e := fun b n z => by
    subst z
    rcases he with r | r
    · exact hx b n r
    · rw [n] at r; cases r
  have hm : ∀ b u, H b = some u → ¬ Mut (some u) → b ≠ x := fun b u q nm z => by subst z; rw [q] at mu; exact nm mu
  refine ⟨fun b u q n _ _ => k b u (hb b n) q, fun b u q n _ _ => ⟨u.slots, k b u (hb b n) q⟩, fun b u q n _ => by rw [upd_ne (hx b n)]; exact n, fun b u q _ => ?_,
    fun b xs q => by rw [upd_ne (hm b _ q fun z => z)]; exact q, fun b u xs q => by rw [upd_ne (hm b _ q fun z => z)]; exact q, fun b ps q => ⟨#[], by rw [upd_ne (hm b _ q fun z => z), q]; simp⟩⟩
  by_cases hbe : b = e
  · subst hbe; exact heo
  · exact ⟨u, k b u hbe q⟩
end

/-! ### the heap without what is tracked -/
def trk (h : Heap) (H : Hp) : List Addr := (List.range h.objs.size).filter fun a => (H a).isSome
def hidT (h : Heap) (H : Hp) : Heap := PySem.W.hideAll h (trk h H)
theorem hidT_size (h : Heap) (H : Hp) : (hidT h H).objs.size = h.objs.size := PySem.W.hideAll_size _ _
theorem hidT_get {h : Heap} {H : Hp} {b : Addr} {o : Obj} (e : h.get? b = some o) (n : H b = none) : (hidT h H).get? b = some o :=
  PySem.W.hideAll_get _ e fun hm => by
    have q : (H b).isSome = true := (List.mem_filter.mp hm).2
    rw [n] at q; simp at q
theorem of_hidT {h : Heap} {H : Hp} {b : Addr} {o : Obj} (e : (hidT h H).get? b = some o) : h.get? b = some o ∧ H b = none := by
  have e' : h.get? b = some o := PySem.W.of_hideAll (trk h H) e
  refine ⟨e', ?_⟩
  cases q : H b with
  | none => rfl
  | some x =>
    have hm : b ∈ trk h H := List.mem_filter.mpr ⟨List.mem_range.mpr (Heap.lt_size e'), by simp [q]⟩
    have z : (hidT h H).get? b = none := PySem.W.hideAll_none (trk h H) hm
    rw [z] at e; cases e

/-! ### OpenK's ledger, filled with every new object but one -/
end L2

namespace L2
open PySem PySem.Spec PyProof.Rows

/-- the module's facts, over the base: the heap at the law's entry without what is tracked there -/
structure Mod (K : PySem.W.Frag) (mg : Str → Option Value) (base : Heap) : Prop where
  kin : K.In base
  glob : base.Ns mainGlobals mg
  blt : ∃ mb, base.Ns builtinsNs mb ∧ ∀ x : Str, x ≠ "__name__" → mb x = bootBuiltins x
  nolimit : base.NoLimit

/-- the context: a def's body (or a comprehension's block) running. base: fixed through the whole law; s₀, H₀: the entry; outer: the frames whose slots others may change (a def's callers); stack: all frames that run;
   ex: iterators that were made ahead of the entry and are walked here (a comprehension's); fn: the names whose cells were made at the entry (a def: all; a comprehension's block: its own); calm: not within an except suite; pn: pins that every state bears; xe: what is wanted of an exception that leaves the code -/
structure Cx where
  prog : Program
  w : World
  K : PySem.W.Frag
  mg : Str → Option Value
  base : Heap
  A : Around
  N : List Str
  s₀ : Shared
  H₀ : Hp
  env : Env
  outer : List Env
  stack : List Env
  ex : List Addr
  fn : Str → Bool
  calm : Bool
  pn : List (Addr × Obj)
  xe : Value → Shared → Prop
/-- the callers' frames -/
def frs (l : List Env) : List Addr := l.filterMap (·.frame)
abbrev Cx.fs (X : Cx) : List Addr := frs X.outer

def Vis (sc : Scope) (x : Str) : Prop := sc.names.lookup x = some .local ∨ sc.names.lookup x = some .cell ∨ sc.names.lookup x = some .free
def Loc (sc : Scope) (x : Str) : Prop := sc.names.lookup x = some .local ∨ sc.names.lookup x = some .cell
def Look (env : Env) (h : Heap) (m : Str → Option Value) (x : Str) (u : Value) : Prop :=
  (env.kindOf x = some .local ∧ m x = some u) ∨ ((env.kindOf x = some .cell ∨ env.kindOf x = some .free) ∧ ∃ c, env.cells.lookup x = some c ∧ h.IsCell c (some u))

structure Cx.Ok (X : Cx) : Prop where
  mod : Mod X.K X.mg X.base
  kind : X.env.scope.kind = .function
  glob : X.env.globals = mainGlobals
  blt : X.env.builtins = builtinsNs
  above : X.s₀.heap.objs.size ≤ X.env.locals
  inj : ∀ x y c, X.env.cells.lookup x = some c → X.env.cells.lookup y = some c → x = y
  has : ∀ x, (X.env.kindOf x = some .cell ∨ X.env.kindOf x = some .free) → ∃ c, X.env.cells.lookup x = some c
  cab : ∀ x c, X.fn x = true → X.env.cells.lookup x = some c → X.s₀.heap.objs.size ≤ c
  hd : X.calm = true → X.A.handled = none
  frames : X.A.frames = some X.stack
  stk : X.stack = X.outer ∨ (X.stack = X.env :: X.outer ∧ X.env.frame = some X.env.locals)
  exf : ∀ b ∈ X.ex, b ≠ X.env.locals ∧ ∀ x c, X.env.cells.lookup x = some c → c ≠ b
  bs : ∀ b o, X.base.get? b = some o → X.s₀.heap.get? b = some o ∧ X.H₀ b = none
  bsz : X.base.objs.size ≤ X.s₀.heap.objs.size
  noex : ∀ b o, X.base.get? b = some o → b ∉ X.ex
  exfs : ∀ b ∈ X.ex, b ∉ X.fs
  funs : X.s₀.heap.FunFrames X.base X.outer
  frf : ∀ b ∈ X.fs, X.H₀ b = none

structure Inv (X : Cx) (pins : List (Addr × Obj)) (σ : List (Option V)) (H : Hp) (s : Shared) : Prop where
  ok : X.Ok
  os : s.os = X.s₀.os
  bare : AllBare s.gens
  base : Un X.fs X.ex X.H₀ H X.s₀.heap s.heap
  loc : ∃ m, s.heap.Ns X.env.locals m ∧ ∀ (i : Nat) (x : Str) (v : V), X.N[i]? = some x → σ[i]? = some (some v) → Vis X.env.scope x → ∃ u, RelV v u ∧ Look X.env s.heap m x u
  cell : ∀ x c, X.env.cells.lookup x = some c → ∃ v, s.heap.IsCell c v
  free : H X.env.locals = none
  freeC : ∀ x c, X.env.cells.lookup x = some c → H c = none
  pin : ∀ p ∈ X.pn ++ pins, s.heap.get? p.1 = some p.2 ∧ H p.1 = none ∧ p.1 ≠ X.env.locals ∧ p.1 ∉ X.fs ∧ ∀ v, p.2.data ≠ .cell v
  hok : HOk X.prog X.w H s.heap
  len : σ.length = X.N.length

section
variable {X : Cx} {pins : List (Addr × Obj)} {σ : List (Option V)} {H H' : Hp} {s : Shared} {h' : Heap}

theorem Cx.Ok.nofr (ok : X.Ok) {b : Addr} {o : Obj} (e : X.base.get? b = some o) : b ∉ X.fs := fun hb => by
  have := (ok.funs.mem hb).1
  rw [e] at this; cases this
theorem Inv.bs (I : Inv X pins σ H s) : ∀ b o, X.base.get? b = some o → s.heap.get? b = some o ∧ H b = none := fun b o e =>
  ⟨I.base.keep b o (I.ok.bs b o e).1 (I.ok.bs b o e).2 (I.ok.nofr e) (I.ok.noex b o e), I.base.free b o (I.ok.bs b o e).1 (I.ok.bs b o e).2 (I.ok.noex b o e)⟩
theorem Inv.bk (I : Inv X pins σ H s) : ∀ b o, X.base.get? b = some o → s.heap.get? b = some o := fun b o e => (I.bs b o e).1
theorem Inv.mod (I : Inv X pins σ H s) : Mod X.K X.mg X.base := I.ok.mod
theorem Inv.kIn (I : Inv X pins σ H s) : X.K.In s.heap := I.ok.mod.kin.keeps I.bk
theorem Inv.lt (I : Inv X pins σ H s) : X.env.locals < s.heap.objs.size := let ⟨_, hn, _⟩ := I.loc; hn.lt
theorem Inv.sz (I : Inv X pins σ H s) : X.s₀.heap.objs.size ≤ s.heap.objs.size := Nat.le_trans I.ok.above (Nat.le_of_lt I.lt)
theorem Inv.nofs (I : Inv X pins σ H s) {a : Addr} (h : s.heap.objs.size ≤ a) : a ∉ X.fs := fun hb => by
  obtain ⟨_, o, ho, _⟩ := I.ok.funs.mem hb
  exact absurd (Nat.lt_of_lt_of_le (Heap.lt_size ho) (Nat.le_trans I.sz h)) (Nat.lt_irrefl _)
theorem Inv.cne (I : Inv X pins σ H s) : ∀ x c, X.env.cells.lookup x = some c → c ≠ X.env.locals := fun x c e z => by
  obtain ⟨v, o, ho, hd⟩ := I.cell x c e
  obtain ⟨m, ⟨o', es, ep, ho', hd', _⟩, _⟩ := I.loc
  rw [z, ho'] at ho; cases ho; rw [hd'] at hd; cases hd
theorem Inv.funs (I : Inv X pins σ H s) : s.heap.FunFrames X.base X.outer := by
  have all : ∀ (l : List Env), (∀ b ∈ frs l, b ∈ X.fs) → X.s₀.heap.FunFrames X.base l → s.heap.FunFrames X.base l := by
    intro l
    induction l with
    | nil => intro _ _; trivial
    | cons env r ih =>
      intro hs hl
      obtain ⟨hk, ⟨L, o, hf, hn, ho, hd⟩, hr⟩ := hl
      have hL : L ∈ X.fs := hs L (by unfold frs; rw [List.filterMap_cons, hf]; exact List.mem_cons_self)
      obtain ⟨sl, e⟩ := I.base.slot L o ho (I.ok.frf L hL) hL fun z => I.ok.exfs L z hL
      exact ⟨hk, ⟨L, _, hf, hn, e, hd⟩, ih (fun b hb => hs b (by unfold frs; rw [List.filterMap_cons, hf]; exact List.mem_cons_of_mem _ hb)) hr⟩
  exact all X.outer (fun _ hb => hb) I.ok.funs

/-- the frames that run, for a call -/
theorem Inv.stack (I : Inv X pins σ H s) : s.heap.FunFrames X.base X.stack := by
  rcases I.ok.stk with e | ⟨e, hf⟩
  · rw [e]; exact I.funs
  · rw [e]
    obtain ⟨m, hn, _⟩ := I.loc
    refine .cons (by rw [I.ok.kind]; decide) hf hn ?_ I.funs
    exact Heap.get?_none_of_le (Nat.le_trans I.ok.bsz I.ok.above)
theorem Inv.stkSub (I : Inv X pins σ H s) : ∀ b ∈ frs X.stack, b ∈ X.env.locals :: X.fs := fun b hb => by
  rcases I.ok.stk with e | ⟨e, hf⟩
  · rw [e] at hb; exact List.mem_cons_of_mem _ hb
  · rw [e] at hb
    unfold frs at hb
    rw [List.filterMap_cons, hf] at hb
    exact hb
theorem Inv.stkFree (I : Inv X pins σ H s) : ∀ b ∈ frs X.stack, H b = none := fun b hb => by
  rcases List.mem_cons.mp (I.stkSub b hb) with e | hb
  · rw [e]; exact I.free
  · obtain ⟨_, o, ho, _⟩ := I.ok.funs.mem hb
    exact I.base.free b o ho (I.ok.frf b hb) fun z => I.ok.exfs b z hb

/-- THE STEP: the untracked objects but the frame and the records at ch are kept (the callers' frames up to slots), the frame's map is kept, the new abstract heap is held -/
theorem Inv.step {g' : Array GenState} {t' : Nat} {d' : Drawn} {ch : List Addr} (I : Inv X pins σ H s)
    (hch : ∀ b ∈ ch, (b ∈ X.ex ∨ X.s₀.heap.objs.size ≤ b) ∧ b ≠ X.env.locals ∧ (∀ x c, X.env.cells.lookup x = some c → c ≠ b) ∧ ∀ p ∈ X.pn ++ pins, p.1 ≠ b)
    (keep : ∀ b o, b ≠ X.env.locals → b ∉ X.fs → b ∉ ch → s.heap.get? b = some o → H b = none → h'.get? b = some o)
    (slot : ∀ b o, b ≠ X.env.locals → b ∈ X.fs → b ∉ ch → s.heap.get? b = some o → H b = none → ∃ sl, h'.get? b = some { o with slots := sl }) (free : ∀ b o, b ∉ ch → s.heap.get? b = some o → H b = none → H' b = none)
    (there : ∀ b o, b ∉ ch → s.heap.get? b = some o → ∃ o', h'.get? b = some o')
    (tups : ∀ b xs, H b = some (.tup xs) → H' b = some (.tup xs)) (frzs : ∀ b o u, H b = some (.frz o u) → H' b = some (.frz o u)) (tbls : ∀ b ps, H b = some (.tbl ps) → ∃ more, H' b = some (.tbl (ps ++ more)))
    (ns : ∀ m, s.heap.Ns X.env.locals m → h'.Ns X.env.locals m) (hok : HOk X.prog X.w H' h') (hg : AllBare g') :
    Inv X pins σ H' { s with heap := h', gens := g', drawn := d', toks := t' } := by
  have neL : ∀ b o, X.s₀.heap.get? b = some o → b ≠ X.env.locals := fun b o e => Nat.ne_of_lt (Nat.lt_of_lt_of_le (Heap.lt_size e) I.ok.above)
  have neC : ∀ b o, X.s₀.heap.get? b = some o → b ∉ X.ex → b ∉ ch := fun b o e hx hb => by
    rcases (hch b hb).1 with z | z
    · exact hx z
    · exact absurd (Nat.lt_of_lt_of_le (Heap.lt_size e) z) (Nat.lt_irrefl _)
  have cellK : ∀ x c, X.env.cells.lookup x = some c → ∀ v, s.heap.IsCell c v → h'.IsCell c v := fun x c e v ⟨o, ho, hd⟩ => by
    have nch : c ∉ ch := fun z => (hch c z).2.2.1 x c e rfl
    by_cases hc : c ∈ X.fs
    · obtain ⟨sl, q⟩ := slot c o (I.cne x c e) hc nch ho (I.freeC x c e)
      exact ⟨_, q, hd⟩
    · exact ⟨o, keep c o (I.cne x c e) hc nch ho (I.freeC x c e), hd⟩
  refine ⟨I.ok, I.os, hg, ⟨fun b o e n hb hx => ?_, fun b o e n hb hx => ?_, fun b o e n hx => ?_, fun b o e hx => ?_, fun b xs e => tups b xs (I.base.tups b xs e), fun b o xs e => frzs b o xs (I.base.frzs b o xs e), fun b ps e => ?_⟩, ?_, fun x c e => ?_, ?_, fun x c e => ?_, fun p hp => ?_, hok, I.len⟩
  · exact keep b o (neL b o e) hb (neC b o e hx) (I.base.keep b o e n hb hx) (I.base.free b o e n hx)
  · obtain ⟨sl, e1⟩ := I.base.slot b o e n hb hx
    obtain ⟨sl', e2⟩ := slot b _ (neL b o e) hb (neC b o e hx) e1 (I.base.free b o e n hx)
    exact ⟨sl', e2⟩
  · obtain ⟨o', e1⟩ := I.base.there b o e hx
    exact free b o' (neC b o e hx) e1 (I.base.free b o e n hx)
  · obtain ⟨o', e1⟩ := I.base.there b o e hx
    exact there b o' (neC b o e hx) e1
  · obtain ⟨m1, e1⟩ := I.base.tbls b ps e
    obtain ⟨m2, e2⟩ := tbls b _ e1
    exact ⟨m1 ++ m2, by rw [e2, Array.append_assoc]⟩
  · obtain ⟨m, hn, hl⟩ := I.loc
    refine ⟨m, ns m hn, fun i x v e1 e2 e3 => ?_⟩
    obtain ⟨u, r, l⟩ := hl i x v e1 e2 e3
    refine ⟨u, r, ?_⟩
    rcases l with l | ⟨k, c, e, z⟩
    · exact .inl l
    · exact .inr ⟨k, c, e, cellK x c e _ z⟩
  · obtain ⟨v, z⟩ := I.cell x c e
    exact ⟨v, cellK x c e v z⟩
  · obtain ⟨m, ⟨o, _, _, ho, _⟩, _⟩ := I.loc
    exact free _ o (fun z => (hch _ z).2.1 rfl) ho I.free
  · obtain ⟨v, o, ho, hd⟩ := I.cell x c e
    exact free c o (fun z => (hch c z).2.2.1 x c e rfl) ho (I.freeC x c e)
  · obtain ⟨e, n, ne, nf, d⟩ := I.pin p hp
    have nch : p.1 ∉ ch := fun z => (hch p.1 z).2.2.2 p hp rfl
    exact ⟨keep p.1 p.2 ne nf nch e n, free p.1 p.2 nch e n, ne, nf, d⟩
/-- .. where the frame's own object is kept too -/
theorem Inv.un {t' : Nat} (I : Inv X pins σ H s) (u : Un X.fs [] H H' s.heap h') (hok : HOk X.prog X.w H' h') : Inv X pins σ H' { s with heap := h', toks := t' } := by
  obtain ⟨m, ⟨o, es, ep, ho, r⟩, _⟩ := id I.loc
  obtain ⟨sl, hL⟩ := u.any ho I.free (by simp)
  exact I.step (g' := s.gens) (d' := s.drawn) (ch := []) (fun _ z => nomatch z) (fun b o _ hb _ e n => u.keep b o e n hb (by simp)) (fun b o _ hb _ e n => u.slot b o e n hb (by simp)) (fun b o _ e n => u.free b o e n (by simp)) (fun b o _ e => u.there b o e (by simp)) u.tups u.frzs u.tbls (fun m' hm => by
    obtain ⟨o', es', ep', ho', r'⟩ := hm
    rw [ho] at ho'; cases ho'
    exact ⟨_, es', ep', hL, r'⟩) hok I.bare
/-- behind a call (or a comprehension's block): the slots of this frame may have changed too, the records at ch may have turned -/
theorem Inv.call {g' : Array GenState} {t' : Nat} {d' : Drawn} {ch : List Addr} (I : Inv X pins σ H s) (u : Un (frs X.stack) ch H H' s.heap h') (hok : HOk X.prog X.w H' h') (hg : AllBare g')
    (hch : ∀ b ∈ ch, (b ∈ X.ex ∨ X.s₀.heap.objs.size ≤ b) ∧ b ≠ X.env.locals ∧ (∀ x c, X.env.cells.lookup x = some c → c ≠ b) ∧ ∀ p ∈ X.pn ++ pins, p.1 ≠ b) :
    Inv X pins σ H' { s with heap := h', gens := g', drawn := d', toks := t' } := by
  obtain ⟨m, ⟨o, es, ep, ho, r⟩, _⟩ := id I.loc
  obtain ⟨sl, hL⟩ := u.any ho I.free fun z => (hch _ z).2.1 rfl
  exact I.step (ch := ch) hch (fun b o hL hb hc e n => u.keep b o e n (fun z => (List.mem_cons.mp (I.stkSub b z)).elim hL hb) hc) (fun b o _ _ hc e n => u.any e n hc) (fun b o hc e n => u.free b o e n hc) (fun b o hc e => u.there b o e hc) u.tups u.frzs u.tbls (fun m' hm => by
    obtain ⟨o', es', ep', ho', r'⟩ := hm
    rw [ho] at ho'; cases ho'
    exact ⟨_, es', ep', hL, r'⟩) hok hg
/-- an untracked record of ours (an iterator) has turned -/
theorem Inv.turned {t' : Nat} {it : Addr} (I : Inv X pins σ H s) (k : ∀ b o, b ≠ it → s.heap.get? b = some o → h'.get? b = some o) (hn : H it = none) (hL : it ≠ X.env.locals)
    (h1 : it ∈ X.ex ∨ X.s₀.heap.objs.size ≤ it) (h2 : ∀ x c, X.env.cells.lookup x = some c → c ≠ it) (h3 : ∀ p ∈ X.pn ++ pins, p.1 ≠ it) : Inv X pins σ H { s with heap := h', toks := t' } := by
  have nit : ∀ b u, H b = some u → b ≠ it := fun b u e z => by rw [z, hn] at e; cases e
  refine I.step (g' := s.gens) (d' := s.drawn) (ch := [it]) (fun b hb => ?_) (fun b o _ _ hc e _ => k b o (fun z => hc (by simp [z])) e) (fun b o _ _ hc e _ => ⟨o.slots, k b o (fun z => hc (by simp [z])) e⟩) (fun _ _ _ _ n => n)
    (fun b o hc e => ⟨o, k b o (fun z => hc (by simp [z])) e⟩) (fun _ _ e => e) (fun _ _ _ e => e) (fun b ps e => ⟨#[], by rw [e]; simp⟩) (fun m hm => ?_) (fun b u e => ?_) I.bare
  · have e : b = it := by simpa using hb
    subst e
    exact ⟨h1, hL, h2, h3⟩
  · obtain ⟨o, es, ep, ho, r⟩ := hm
    exact ⟨o, es, ep, k _ o (Ne.symm hL) ho, r⟩
  · refine (I.hok b u e).stay (fun c v hc q => k c v ?_ q) (fun _ q => q) fun _ _ q => q
    rcases hc with z | z
    · rw [z]; exact nit b u e
    · exact nit c _ z
theorem Inv.tok (I : Inv X pins σ H s) (t : Nat) : Inv X pins σ H { s with toks := t } := I.un (h' := s.heap) (t' := t) Un.refl I.hok
/-- all objects kept -/
theorem Inv.kept {t' : Nat} (I : Inv X pins σ H s) (k : ∀ b u, s.heap.get? b = some u → h'.get? b = some u) : Inv X pins σ H { s with heap := h', toks := t' } := I.un (Un.kept k) (I.hok.kept k)
/-- a new object laid and tracked -/
theorem Inv.laid {a : Addr} {o : HO} {t' : Nat} (I : Inv X pins σ H s) (k : ∀ b u, s.heap.get? b = some u → h'.get? b = some u) (hp : s.heap.objs.size ≤ a) (new : ObjOk X.prog X.w (upd H a o) h' a o) :
    Inv X pins σ (upd H a o) { s with heap := h', toks := t' } := I.un (Un.laid k hp (I.hok.fresh hp)) (I.hok.laid k hp new)
/-- an object written -/
theorem Inv.write {x e : Addr} {o : HO} {t' : Nat} (I : Inv X pins σ H s) (mu : Mut (H x)) (he : e = x ∨ H e = some (.own x)) (k : ∀ b u, b ≠ e → s.heap.get? b = some u → h'.get? b = some u) (heo : ∃ u, h'.get? e = some u)
    (new : ObjOk X.prog X.w (upd H x o) h' x o) : Inv X pins σ (upd H x o) { s with heap := h', toks := t' } := I.un (Un.write mu he k heo) (I.hok.write mu he k heo new)
/-- forgetting slots, pins -/
theorem Inv.weak {σ' : List (Option V)} (I : Inv X pins σ H s) (hl : σ'.length = σ.length) (w : ∀ (i : Nat) v, σ'[i]? = some (some v) → σ[i]? = some (some v)) : Inv X pins σ' H s :=
  ⟨I.ok, I.os, I.bare, I.base, let ⟨m, hn, hl'⟩ := I.loc; ⟨m, hn, fun i x v e1 e2 e3 => hl' i x v e1 (w i v e2) e3⟩, I.cell, I.free, I.freeC, I.pin, I.hok, hl.trans I.len⟩
theorem Inv.pins_of {pins' : List (Addr × Obj)} (I : Inv X pins σ H s) (h : ∀ p ∈ pins', s.heap.get? p.1 = some p.2 ∧ H p.1 = none ∧ p.1 ≠ X.env.locals ∧ p.1 ∉ X.fs ∧ ∀ v, p.2.data ≠ .cell v) : Inv X pins' σ H s :=
  ⟨I.ok, I.os, I.bare, I.base, I.loc, I.cell, I.free, I.freeC, fun p hp => (List.mem_append.mp hp).elim (fun z => I.pin p (List.mem_append_left _ z)) (h p), I.hok, I.len⟩

theorem nodup_ix {N : List Str} (hN : N.Nodup) {i j : Nat} {x : Str} (a : N[i]? = some x) (b : N[j]? = some x) : i = j := by
  obtain ⟨h1, e1⟩ := List.getElem?_eq_some_iff.mp a
  obtain ⟨h2, e2⟩ := List.getElem?_eq_some_iff.mp b
  exact (List.getElem_inj hN).mp (e1.trans e2.symm)

/-- a name is stored; what changed -/
theorem store_ok2 {M : Model} {A : Around} {E : Value → Shared → Prop} {i : Nat} {x : Str} {v : V} {u : Value} {Q : Unit → Shared → Prop} (I : Inv X pins σ H s) (hN : X.N.Nodup) (hi : X.N[i]? = some x) (hx : Loc X.env.scope x) (r : RelV v u)
    (h : ∀ s', Inv X pins (σ.set i (some v)) H s' → (∃ a, Heap.SameBut a s.heap s'.heap ∧ (a = X.env.locals ∨ X.env.cells.lookup x = some a)) → Q () s') (hf : X.fn x = true ∨ X.env.scope.names.lookup x = some .local := by first | exact .inl rfl | exact .inr rfl | assumption) : wpAny M A (storeName X.env x u) Q E s := by
  obtain ⟨m, hn, hl⟩ := id I.loc
  have hcls : (X.env.scope.kind == .class || (X.env.scope.kind == .module && X.env.locals != X.env.globals)) = false := by rw [I.ok.kind]; rfl
  have hiσ : i < σ.length := by rw [I.len]; exact (List.getElem?_eq_some_iff.mp hi).1
  have cne := I.cne
  have tracked : ∀ {a : Addr} {h' : Heap}, (∃ o, s.heap.get? a = some o ∧ H a = none) → Heap.SameBut a s.heap h' → HOk X.prog X.w H h' := fun {a h'} ha hs b ob e => by
    obtain ⟨_, _, hfree⟩ := ha
    refine (I.hok b ob e).stay (fun c w' hc q => (hs.2 c ?_).trans q) (fun _ q => q) fun _ _ q => q
    rintro rfl
    rcases hc with rfl | hc
    · rw [hfree] at e; cases e
    · rw [hfree] at hc; cases hc
  rcases hx with hk | hk
  · refine wpAny_storeName_local hk hn (fun h' hn' hs => ?_) hcls
    obtain ⟨oL, _, _, hoL, _⟩ := id hn
    refine h _ ⟨I.ok, I.os, I.bare, ⟨fun b o e n hb hx => ?_, fun b o e n hb hx => ?_, I.base.free, fun b o e hx => ?_, I.base.tups, I.base.frzs, I.base.tbls⟩, ⟨_, hn', fun j y v' e1 e2 e3 => ?_⟩, fun y c e => ?_, I.free, I.freeC, fun p hp => ?_, tracked ⟨oL, hoL, I.free⟩ hs, by simpa using I.len⟩ ⟨_, hs, .inl rfl⟩
    · exact (hs.2 b (Nat.ne_of_lt (Nat.lt_of_lt_of_le (Heap.lt_size e) I.ok.above))).trans (I.base.keep b o e n hb hx)
    · obtain ⟨sl, e1⟩ := I.base.slot b o e n hb hx
      exact ⟨sl, (hs.2 b (Nat.ne_of_lt (Nat.lt_of_lt_of_le (Heap.lt_size e) I.ok.above))).trans e1⟩
    · obtain ⟨o', e1⟩ := I.base.there b o e hx
      exact ⟨o', (hs.2 b (Nat.ne_of_lt (Nat.lt_of_lt_of_le (Heap.lt_size e) I.ok.above))).trans e1⟩
    · by_cases hj : j = i
      · subst hj
        rw [hi] at e1; cases e1
        rw [List.getElem?_set_self hiσ] at e2
        cases e2
        exact ⟨u, r, .inl ⟨hk, by simp⟩⟩
      · rw [List.getElem?_set_ne (Ne.symm hj)] at e2
        obtain ⟨u', r', q⟩ := hl j y v' e1 e2 e3
        refine ⟨u', r', ?_⟩
        rcases q with ⟨k, e⟩ | ⟨k, c, e, z⟩
        · refine .inl ⟨k, ?_⟩
          have : y ≠ x := fun e => hj (nodup_ix hN e1 (e ▸ hi))
          simp [this, e]
        · exact .inr ⟨k, c, e, z.sameBut hs (cne y c e)⟩
    · obtain ⟨w', z⟩ := I.cell y c e
      exact ⟨w', z.sameBut hs (cne y c e)⟩
    · obtain ⟨e, n, ne, nf, d⟩ := I.pin p hp
      exact ⟨(hs.2 p.1 ne).trans e, n, ne, nf, d⟩
  · have hfn : X.fn x = true := by
      rcases hf with z | z
      · exact z
      · rw [z] at hk; cases hk
    obtain ⟨c, hc⟩ := I.ok.has x (.inl hk)
    obtain ⟨w', z⟩ := I.cell x c hc
    refine wpAny_storeName_cell I.ok.kind hk hc z (fun h' hc' hs => ?_)
    obtain ⟨oc, hoc, hocd⟩ := id z
    refine h { s with heap := h' } ⟨I.ok, I.os, I.bare, ⟨fun b o e n hb hx => ?_, fun b o e n hb hx => ?_, I.base.free, fun b o e hx => ?_, I.base.tups, I.base.frzs, I.base.tbls⟩, ⟨m, hn.sameBut hs (Ne.symm (cne x c hc)), fun j y v' e1 e2 e3 => ?_⟩, fun y c' e => ?_, I.free, I.freeC, fun p hp => ?_, tracked ⟨oc, hoc, I.freeC x c hc⟩ hs, by simpa using I.len⟩ ⟨c, hs, .inr hc⟩
    · exact (hs.2 b (Nat.ne_of_lt (Nat.lt_of_lt_of_le (Heap.lt_size e) (I.ok.cab x c hfn hc)))).trans (I.base.keep b o e n hb hx)
    · obtain ⟨sl, e1⟩ := I.base.slot b o e n hb hx
      exact ⟨sl, (hs.2 b (Nat.ne_of_lt (Nat.lt_of_lt_of_le (Heap.lt_size e) (I.ok.cab x c hfn hc)))).trans e1⟩
    · obtain ⟨o', e1⟩ := I.base.there b o e hx
      exact ⟨o', (hs.2 b (Nat.ne_of_lt (Nat.lt_of_lt_of_le (Heap.lt_size e) (I.ok.cab x c hfn hc)))).trans e1⟩
    · by_cases hj : j = i
      · subst hj
        rw [hi] at e1; cases e1
        rw [List.getElem?_set_self hiσ] at e2
        cases e2
        exact ⟨u, r, .inr ⟨.inl hk, c, hc, hc'⟩⟩
      · rw [List.getElem?_set_ne (Ne.symm hj)] at e2
        obtain ⟨u', r', q⟩ := hl j y v' e1 e2 e3
        refine ⟨u', r', ?_⟩
        rcases q with q | ⟨k, c', e, z'⟩
        · exact .inl q
        · refine .inr ⟨k, c', e, z'.sameBut hs ?_⟩
          rintro rfl
          exact hj (nodup_ix hN e1 (I.ok.inj _ _ _ e hc ▸ hi))
    · by_cases hcc : c' = c
      · subst hcc; exact ⟨_, hc'⟩
      · obtain ⟨w2, z2⟩ := I.cell y c' e
        exact ⟨w2, z2.sameBut hs hcc⟩
    · obtain ⟨e, n, ne, nf, d⟩ := I.pin p hp
      refine ⟨(hs.2 p.1 ?_).trans e, n, ne, nf, d⟩
      intro q
      rw [q, hoc] at e
      have q' : oc = p.2 := Option.some.inj e
      exact d w' (by rw [← q']; exact hocd)
theorem store_ok {M : Model} {A : Around} {E : Value → Shared → Prop} {i : Nat} {x : Str} {v : V} {u : Value} {Q : Unit → Shared → Prop} (I : Inv X pins σ H s) (hN : X.N.Nodup) (hi : X.N[i]? = some x) (hx : Loc X.env.scope x) (r : RelV v u)
    (h : ∀ s', Inv X pins (σ.set i (some v)) H s' → Q () s') (hf : X.fn x = true ∨ X.env.scope.names.lookup x = some .local := by first | exact .inl rfl | exact .inr rfl | assumption) : wpAny M A (storeName X.env x u) Q E s :=
  store_ok2 I hN hi hx r (fun s' I' _ => h s' I') hf
/-- behind a call or a block, the state as it is -/
theorem Inv.call' {s' : Shared} {ch : List Addr} (I : Inv X pins σ H s) (ho : s'.os = s.os) (u : Un (frs X.stack) ch H H' s.heap s'.heap) (hok : HOk X.prog X.w H' s'.heap) (hg : AllBare s'.gens)
    (hch : ∀ b ∈ ch, (b ∈ X.ex ∨ X.s₀.heap.objs.size ≤ b) ∧ b ≠ X.env.locals ∧ (∀ x c, X.env.cells.lookup x = some c → c ≠ b) ∧ ∀ p ∈ X.pn ++ pins, p.1 ≠ b) : Inv X pins σ H' s' := by
  obtain ⟨h', g', d', t', o'⟩ := s'
  have e : o' = s.os := ho
  subst e
  exact I.call (g' := g') (t' := t') (d' := d') u hok hg hch
end

/-! ### the judgements -/
/-- an exception: its class, its own dict's address (where it has one), the abstract heap behind it -/
abbrev XK := Value → Option Addr → Hp → Prop
abbrev St := List (Option V)
abbrev VK := V → Hp → Prop
/-- an expression's reading; a test's; an argument list's -/
abbrev TE := St → Hp → VK → Prop
abbrev TT := St → Hp → (Bool → Hp → Prop) → Prop
abbrev TA := St → Hp → (List V → Hp → Prop) → Prop
/-- what is wanted behind a statement -/
structure Ends where
  nx : St → Hp → Prop
  rt : VK
  bk : St → Hp → Prop := fun _ _ => False
  ct : St → Hp → Prop := fun _ _ => False
abbrev TS := Ends → St → Hp → Prop

def EP (X : Cx) (pins : List (Addr × Obj)) (σ : St) (Q : VK) (u : Value) (s' : Shared) : Prop := ∃ v H', Inv X pins σ H' s' ∧ RelV v u ∧ Q v H'
def TP (X : Cx) (pins : List (Addr × Obj)) (σ : St) (Q : Bool → Hp → Prop) (b : Bool) (s' : Shared) : Prop := ∃ H', Inv X pins σ H' s' ∧ Q b H'
def AP (X : Cx) (pins : List (Addr × Obj)) (σ : St) (Q : List V → Hp → Prop) (us : List Value) (s' : Shared) : Prop := ∃ vs H', Inv X pins σ H' s' ∧ Vals vs us ∧ Q vs H'
def SP (X : Cx) (pins : List (Addr × Obj)) (D : Ends) (f : Flow) (s' : Shared) : Prop :=
  match f with
  | .next => ∃ σ' H', Inv X pins σ' H' s' ∧ D.nx σ' H'
  | .brk => ∃ σ' H', Inv X pins σ' H' s' ∧ D.bk σ' H'
  | .cont => ∃ σ' H', Inv X pins σ' H' s' ∧ D.ct σ' H'
  | .ret u => ∃ v σ' H', Inv X pins σ' H' s' ∧ RelV v u ∧ D.rt v H'

structure PE (X : Cx) (e : Expr) (t : TE) : Prop where
  run :
  ∀ (pins : List (Addr × Obj)) (s : Shared) (σ : St) (H : Hp) (Q : VK), Inv X pins σ H s → t σ H Q → wpAny (model X.prog X.w) X.A (eval e X.env) (EP X pins σ Q) X.xe s
instance {X : Cx} {e : Expr} {t : TE} : CoeFun (PE X e t) (fun _ =>
  ∀ (pins : List (Addr × Obj)) (s : Shared) (σ : St) (H : Hp) (Q : VK), Inv X pins σ H s → t σ H Q → wpAny (model X.prog X.w) X.A (eval e X.env) (EP X pins σ Q) X.xe s
  ) := ⟨fun h => h.run⟩
structure PT (X : Cx) (e : Expr) (t : TT) : Prop where
  run :
  ∀ (pins : List (Addr × Obj)) (s : Shared) (σ : St) (H : Hp) (Q : Bool → Hp → Prop), Inv X pins σ H s → t σ H Q → wpAny (model X.prog X.w) X.A (isTrue e X.env (eval e X.env)) (TP X pins σ Q) X.xe s
instance {X : Cx} {e : Expr} {t : TT} : CoeFun (PT X e t) (fun _ =>
  ∀ (pins : List (Addr × Obj)) (s : Shared) (σ : St) (H : Hp) (Q : Bool → Hp → Prop), Inv X pins σ H s → t σ H Q → wpAny (model X.prog X.w) X.A (isTrue e X.env (eval e X.env)) (TP X pins σ Q) X.xe s
  ) := ⟨fun h => h.run⟩
/-- a test whatever its 'whole' is (and, or) -/
structure PW (X : Cx) (e : Expr) (t : TT) : Prop where
  run :
  ∀ (whole : Sem Value) (pins : List (Addr × Obj)) (s : Shared) (σ : St) (H : Hp) (Q : Bool → Hp → Prop), Inv X pins σ H s → t σ H Q → wpAny (model X.prog X.w) X.A (isTrue e X.env whole) (TP X pins σ Q) X.xe s
instance {X : Cx} {e : Expr} {t : TT} : CoeFun (PW X e t) (fun _ =>
  ∀ (whole : Sem Value) (pins : List (Addr × Obj)) (s : Shared) (σ : St) (H : Hp) (Q : Bool → Hp → Prop), Inv X pins σ H s → t σ H Q → wpAny (model X.prog X.w) X.A (isTrue e X.env whole) (TP X pins σ Q) X.xe s
  ) := ⟨fun h => h.run⟩
theorem PW.pt {X : Cx} {e : Expr} {t : TT} (h : PW X e t) : PT X e t := .mk (h _)
/-- an argument list (no star), from the left -/
structure PA (X : Cx) (es : List Expr) (t : TA) : Prop where
  run :
  ∀ (pos : Pos) (pins : List (Addr × Obj)) (s : Shared) (σ : St) (H : Hp) (Q : List V → Hp → Prop), Inv X pins σ H s → t σ H Q → wpAny (model X.prog X.w) X.A (spliced (backTo pos (starEach es X.env))) (AP X pins σ Q) X.xe s
instance {X : Cx} {es : List Expr} {t : TA} : CoeFun (PA X es t) (fun _ =>
  ∀ (pos : Pos) (pins : List (Addr × Obj)) (s : Shared) (σ : St) (H : Hp) (Q : List V → Hp → Prop), Inv X pins σ H s → t σ H Q → wpAny (model X.prog X.w) X.A (spliced (backTo pos (starEach es X.env))) (AP X pins σ Q) X.xe s
  ) := ⟨fun h => h.run⟩
structure PS (X : Cx) (st : Stmt) (t : TS) : Prop where
  run :
  ∀ (pins : List (Addr × Obj)) (s : Shared) (σ : St) (H : Hp) (D : Ends), Inv X pins σ H s → t D σ H → wpAny (model X.prog X.w) X.A (exec st X.env) (SP X pins D) X.xe s
instance {X : Cx} {st : Stmt} {t : TS} : CoeFun (PS X st t) (fun _ =>
  ∀ (pins : List (Addr × Obj)) (s : Shared) (σ : St) (H : Hp) (D : Ends), Inv X pins σ H s → t D σ H → wpAny (model X.prog X.w) X.A (exec st X.env) (SP X pins D) X.xe s
  ) := ⟨fun h => h.run⟩
structure PSs (X : Cx) (st : List Stmt) (t : TS) : Prop where
  run :
  ∀ (pins : List (Addr × Obj)) (s : Shared) (σ : St) (H : Hp) (D : Ends), Inv X pins σ H s → t D σ H → wpAny (model X.prog X.w) X.A (execs st X.env) (SP X pins D) X.xe s
instance {X : Cx} {st : List Stmt} {t : TS} : CoeFun (PSs X st t) (fun _ =>
  ∀ (pins : List (Addr × Obj)) (s : Shared) (σ : St) (H : Hp) (D : Ends), Inv X pins σ H s → t D σ H → wpAny (model X.prog X.w) X.A (execs st X.env) (SP X pins D) X.xe s
  ) := ⟨fun h => h.run⟩
/-- weaken the end -/
theorem thn {α : Type} {t : Sem α} {Q Q' : α → Shared → Prop} {M : Model} {A : Around} {E : Value → Shared → Prop} {s : Shared} (h : wpAny M A t Q E s) (hQ : ∀ a s, Q a s → Q' a s) : wpAny M A t Q' E s := wpAny_mono h hQ fun _ _ x => x
end L2

namespace L2
open PySem PySem.Spec PyProof.Rows
section
variable {X : Cx}

/-! ### names and constants -/
def tVar (i : Nat) : TE := fun σ H Q => ∃ v, σ[i]? = some (some v) ∧ Q v H
def tC (v : V) : TE := fun _ H Q => Q v H
theorem pe_var {i : Nat} {x : Str} {pos : Pos} (hN : X.N[i]? = some x) (hv : Vis X.env.scope x) (hd : (x == ("__debug__" : Str)) = false := by decide) (hcd : (x == ("__classdict__" : Str)) = false := by decide) : PE X (.Name x pos) (tVar i) := .mk <| by
  intro pins s σ H Q I h
  obtain ⟨v, e, h⟩ := h
  obtain ⟨m, hn, hl⟩ := I.loc
  obtain ⟨u, r, l⟩ := hl i x v hN e hv
  have fin : EP X pins σ Q u s := ⟨v, H, I, r, h⟩
  rcases l with ⟨hk, hm⟩ | ⟨hk, c, hc, hcell⟩
  · exact wpAny_Name (wpAny_loadName_local I.ok.kind hk hn hm fin) hd
  · rcases hk with hk | hk
    · exact wpAny_Name (wpAny_loadName_cell I.ok.kind hk hc hcell fin) hd
    · exact wpAny_Name (wpAny_loadName_free I.ok.kind hk hc hcell fin hcd) hd
theorem pe_int {i j pos} : PE X (.Constant (.int i) j pos) (tC (.int i)) := .mk <| fun _ _ _ H _ I h => wpAny_Constant_int ⟨.int i, H, I.tok _, ⟨_, rfl⟩, h⟩
theorem pe_bl {b j pos} : PE X (.Constant (.bool b) j pos) (tC (.bl b)) := .mk <| fun _ _ _ H _ I h => Constant_bool ⟨.bl b, H, I, rfl, h⟩
theorem pe_non {j pos} : PE X (.Constant .none j pos) (tC .non) := .mk <| fun _ _ _ H _ I h => Constant_none ⟨.non, H, I, rfl, h⟩
theorem pe_str {x j pos} : PE X (.Constant (.str x) j pos) (tC (.str x)) := .mk <| fun _ _ _ H _ I h => Calls.Constant_str ⟨.str x, H, I.tok _, ⟨_, rfl⟩, h⟩

/-- a global name of the def -/
def Gl (X : Cx) (x : Str) : Prop := X.env.kindOf x = some .globalImplicit
theorem ld_glob {E : Value → Shared → Prop} {pins : List (Addr × Obj)} {s : Shared} {σ : St} {H : Hp} {x : Str} {u : Value} {pos : Pos} {Q : Value → Shared → Prop} (I : Inv X pins σ H s) (hg : Gl X x) (hm : X.mg x = some u) (h : Q u s)
    (hd : (x == ("__debug__" : Str)) = false := by decide) : wpAny (model X.prog X.w) X.A (eval (.Name x pos) X.env) Q E s :=
  Calls.Name_function_global I.ok.kind hg (Calls.loadGlobal_global (by rw [I.ok.glob]; exact I.mod.glob.keeps I.bk) hm h) hd
theorem ld_blt {E : Value → Shared → Prop} {pins : List (Addr × Obj)} {s : Shared} {σ : St} {H : Hp} {x : Str} {u : Value} {pos : Pos} {Q : Value → Shared → Prop} (I : Inv X pins σ H s) (hg : Gl X x) (hm : X.mg x = none) (hv : bootBuiltins x = some u) (h : Q u s)
    (hn : x ≠ "__name__" := by decide) (hd : (x == ("__debug__" : Str)) = false := by decide) : wpAny (model X.prog X.w) X.A (eval (.Name x pos) X.env) Q E s := by
  obtain ⟨mb, h1, h2⟩ := I.mod.blt
  exact Calls.Name_function_global I.ok.kind hg (Calls.loadGlobal_builtin (by rw [I.ok.glob]; exact I.mod.glob.keeps I.bk) hm (by rw [I.ok.blt]; exact h1.keeps I.bk) ((h2 x hn).trans hv) h) hd
/-- a module's constant, a class, a function, as a value -/
theorem pe_glob {x : Str} {v : V} {u : Value} {pos : Pos} (hg : Gl X x) (hm : X.mg x = some u) (r : RelV v u) (hd : (x == ("__debug__" : Str)) = false := by decide) : PE X (.Name x pos) (tC v) := .mk <| fun _ _ _ H _ I h => ld_glob I hg hm ⟨v, H, I, r, h⟩ hd
theorem pe_bltn {x : Str} {v : V} {u : Value} {pos : Pos} (hg : Gl X x) (hm : X.mg x = none) (hv : bootBuiltins x = some u) (r : RelV v u) (hn : x ≠ "__name__" := by decide) (hd : (x == ("__debug__" : Str)) = false := by decide) : PE X (.Name x pos) (tC v) := .mk <| fun _ _ _ H _ I h => ld_blt I hg hm hv ⟨v, H, I, r, h⟩ hn hd

/-! ### arithmetic -/
variable {a b : Expr} {ta tb : TE} {pos : Pos}
/-! ### comparisons -/
/-- a comparison as a value, as a test -/
def tB (t : TE) : TT := fun σ H Q => t σ H fun x H1 => ∃ c, x = .bl c ∧ Q c H1
/-- an expression whose value is a bool, as a test -/
theorem pt_val {e : Expr} {t : TE} (h : PE X e t) (he : ∀ whole, isTrue e X.env whole = (do let v ← whole; standAt e.pos; holding [v] (truthy v)) := by intro _; rfl) : PT X e (tB t) := .mk <| by
  intro pins s σ H Q I hw
  refine isTrue_plain (thn (h pins s σ H _ I hw) fun v s1 ⟨x, H1, I1, r1, q1⟩ => ?_) (he _)
  obtain ⟨d, rfl, q⟩ := q1
  cases r1
  exact wpAny_truthy_bool ⟨H1, I1, q⟩

/-! ### and, or, not -/
variable {tA tB' : TT} {rest : List Expr}
def tAnd (t u : TT) : TT := fun σ H Q => t σ H fun c H1 => if c = true then u σ H1 Q else Q false H1
def tOr (t u : TT) : TT := fun σ H Q => t σ H fun c H1 => if c = true then Q true H1 else u σ H1 Q
def tNot (t : TT) : TT := fun σ H Q => t σ H fun c H1 => Q (!c) H1
theorem pw_and1 (ha : PT X a tA) : PW X (.BoolOp .And [a] pos) tA := .mk <| by
  intro wh pins s σ H Q I h
  refine isTrue_and (thn (ha pins s σ H Q I h) fun c s1 e => ?_)
  cases c with
  | true => exact isTrue_and_nil e
  | false => exact e
theorem pw_or1 (ha : PT X a tA) : PW X (.BoolOp .Or [a] pos) tA := .mk <| by
  intro wh pins s σ H Q I h
  refine isTrue_or (thn (ha pins s σ H Q I h) fun c s1 e => ?_)
  cases c with
  | false => exact isTrue_or_nil e
  | true => exact e
theorem pw_and (ha : PT X a tA) (hb : PW X (.BoolOp .And (b :: rest) pos) tB') : PW X (.BoolOp .And (a :: b :: rest) pos) (tAnd tA tB') := .mk <| by
  intro wh pins s σ H Q I h
  refine isTrue_and (thn (ha pins s σ H _ I h) fun c s1 ⟨H1, I1, q1⟩ => ?_)
  cases c with
  | true => exact hb wh pins s1 σ H1 Q I1 q1
  | false => exact ⟨H1, I1, q1⟩
theorem pw_or (ha : PT X a tA) (hb : PW X (.BoolOp .Or (b :: rest) pos) tB') : PW X (.BoolOp .Or (a :: b :: rest) pos) (tOr tA tB') := .mk <| by
  intro wh pins s σ H Q I h
  refine isTrue_or (thn (ha pins s σ H _ I h) fun c s1 ⟨H1, I1, q1⟩ => ?_)
  cases c with
  | true => exact ⟨H1, I1, q1⟩
  | false => exact hb wh pins s1 σ H1 Q I1 q1
theorem pt_not (ha : PT X a tA) : PT X (.UnaryOp .Not a pos) (tNot tA) := .mk <| by
  intro pins s σ H Q I h
  exact isTrue_not (ha pins s σ H (fun c H1 => Q (!c) H1) I h)
/-- .. as values (bools) -/
def tAndV (ta tb : TE) : TE := fun σ H Q => ta σ H fun x H1 => ∃ c, x = .bl c ∧ if c = true then tb σ H1 Q else Q (.bl false) H1
def tNotV (ta : TE) : TE := fun σ H Q => ta σ H fun x H1 => ∃ c, x = .bl c ∧ Q (.bl (!c)) H1
theorem pe_one {op} {t : TE} (h : PE X a t) : PE X (.BoolOp op [a] pos) t := .mk <| fun pins s σ H Q I hw => BoolOp_one (h pins s σ H Q I hw)
theorem pe_and (ha : PE X a ta) (hb : PE X (.BoolOp .And (b :: rest) pos) tb) : PE X (.BoolOp .And (a :: b :: rest) pos) (tAndV ta tb) := .mk <| by
  intro pins s σ H Q I h
  refine BoolOp_and (thn (ha pins s σ H _ I h) fun v s1 ⟨x, H1, I1, r1, q1⟩ => ?_)
  obtain ⟨c, rfl, q1⟩ := q1
  cases r1
  refine wpAny_truthy_bool ?_
  cases c with
  | true => exact hb pins s1 σ H1 Q I1 q1
  | false => exact ⟨.bl false, H1, I1, rfl, q1⟩
theorem pe_not (ha : PE X a ta) : PE X (.UnaryOp .Not a pos) (tNotV ta) := .mk <| by
  intro pins s σ H Q I h
  refine UnaryOp_ (thn (ha pins s σ H _ I h) fun v s1 ⟨x, H1, I1, r1, q1⟩ => ?_)
  obtain ⟨c, rfl, q1⟩ := q1
  cases r1
  exact not_of (wpAny_truthy_bool ⟨.bl (!c), H1, I1, rfl, q1⟩)
/-- a if t else b -/
def tIf (t : TT) (ta tb : TE) : TE := fun σ H Q => t σ H fun c H1 => if c = true then ta σ H1 Q else tb σ H1 Q
theorem pe_ifExp {c : Expr} (hc : PT X c tA) (ha : PE X a ta) (hb : PE X b tb) : PE X (.IfExp c a b pos) (tIf tA ta tb) := .mk <| by
  intro pins s σ H Q I h
  refine wpAny_IfExp (thn (hc pins s σ H _ I h) fun d s1 ⟨H1, I1, q1⟩ => ?_)
  cases d with
  | true => exact ha pins s1 σ H1 Q I1 q1
  | false => exact hb pins s1 σ H1 Q I1 q1
end
end L2

namespace L2
open PySem PySem.Spec PyProof.Rows

/-! ### a list, a tuple that is read: tracked, frozen, or an object of the module -/
def SqL (K : PySem.W.Frag) (H : Hp) (a : Addr) (xs : List V) : Prop :=
  Rd H a (.lst xs) ∨
    ∃ (o : Obj) (its : Array Value) (n : Nat), K.lookup a = some o ∧ o.cls = .type "list" ∧ o.dict = none ∧ o.data = .seq its n ∧ its.size ≤ sizeLine ∧ Vals xs its.toList
def SqT (K : PySem.W.Frag) (H : Hp) (a : Addr) (xs : List V) : Prop :=
  Rd H a (.tup xs) ∨
    ∃ (o : Obj) (its : Array Value) (n : Nat), K.lookup a = some o ∧ o.cls = .type "tuple" ∧ o.data = .seq its n ∧ its.size ≤ sizeLine ∧ Vals xs its.toList
def absV : Value → Option V
  | .none => some .non
  | .bool b => some (.bl b)
  | .int i _ => some (.int i)
  | .str x _ => some (.str x)
  | .bytes b _ => some (.byt b)
  | .float b _ => some (.flt b)
  | .ref a => some (.ref a)
  | .type n => some (.ty n)
  | _ => none
theorem RelV.abs {x : V} {u : Value} (r : RelV x u) : absV u = some x := by
  cases x with
  | non => cases r; rfl
  | bl _ => cases r; rfl
  | int _ => obtain ⟨t, rfl⟩ := r; rfl
  | str _ => obtain ⟨t, rfl⟩ := r; rfl
  | byt _ => obtain ⟨t, rfl⟩ := r; rfl
  | flt _ => obtain ⟨t, rfl⟩ := r; rfl
  | ref _ => cases r; rfl
  | ty _ => cases r; rfl
theorem RelV.inj {x y : V} {u : Value} (r : RelV x u) (q : RelV y u) : x = y := Option.some.inj (r.abs.symm.trans q.abs)
theorem Vals.inj : ∀ {xs ys : List V} {us : List Value}, Vals xs us → Vals ys us → xs = ys
  | _, _, _, .nil, .nil => rfl
  | _, _, _, .cons r t, .cons r' t' => by rw [r.inj r', Vals.inj t t']
section
variable {X : Cx} {pins : List (Addr × Obj)} {σ : St} {H : Hp} {s : Shared} {a : Addr} {xs ys : List V}
theorem SqL.of {K : PySem.W.Frag} (h : H a = some (.lst xs)) : SqL K H a xs := .inl (.inl h)
theorem SqT.of {K : PySem.W.Frag} (h : H a = some (.tup xs)) : SqT K H a xs := .inl (.inl h)
theorem Inv.list (I : Inv X pins σ H s) (h : SqL X.K H a xs) : ∃ its : List Value, Vals xs its ∧ PlainL s.heap a its.toArray ∧ xs.length ≤ sizeLine := by
  rcases h with h | ⟨o, its, n, hk, hc, hd, hs, hz, r⟩
  · obtain ⟨z, its, n, r, e⟩ := h.ok I.hok
    exact ⟨its, r, ⟨_, n, e, rfl, rfl, rfl⟩, z⟩
  · refine ⟨its.toList, r, ⟨o, n, I.kIn a o hk, hc, hd, by simpa using hs⟩, ?_⟩
    have e := r.length
    simp only [Array.length_toList] at e
    omega
theorem Inv.tuple (I : Inv X pins σ H s) (h : SqT X.K H a xs) : ∃ its : List Value, Vals xs its ∧ IsTup s.heap a its.toArray ∧ xs.length ≤ sizeLine := by
  rcases h with h | ⟨o, its, n, hk, hc, hs, hz, r⟩
  · obtain ⟨z, its, r, p⟩ := h.ok I.hok
    exact ⟨its, r, p, z⟩
  · refine ⟨its.toList, r, ⟨o, I.kIn a o hk, hc, n, by simpa using hs⟩, ?_⟩
    have e := r.length
    simp only [Array.length_toList] at e
    omega
theorem Inv.list_inj (I : Inv X pins σ H s) (h : SqL X.K H a xs) (h' : SqL X.K H a ys) : xs = ys := by
  obtain ⟨its, r, ⟨o, n, e, _, _, d⟩, _⟩ := I.list h
  obtain ⟨its', r', ⟨o', n', e', _, _, d'⟩, _⟩ := I.list h'
  rw [e] at e'; cases e'
  rw [d] at d'
  injection d' with d1 _
  have : its = its' := by simpa using congrArg Array.toList d1
  subst this
  exact r.inj r'
theorem Inv.tuple_inj (I : Inv X pins σ H s) (h : SqT X.K H a xs) (h' : SqT X.K H a ys) : xs = ys := by
  obtain ⟨its, r, ⟨o, e, _, n, d⟩, _⟩ := I.tuple h
  obtain ⟨its', r', ⟨o', e', _, n', d'⟩, _⟩ := I.tuple h'
  rw [e] at e'; cases e'
  rw [d] at d'
  injection d' with d1 _
  have : its = its' := by simpa using congrArg Array.toList d1
  subst this
  exact r.inj r'
end

/-! ### another wish about exceptions -/
abbrev Cx.wish (X : Cx) (E : Value → Shared → Prop) : Cx := { X with xe := E }
/-- no exception leaves -/
abbrev Cx.nox (X : Cx) : Cx := X.wish fun _ _ => False
theorem Cx.Ok.wish {X : Cx} (ok : X.Ok) (E : Value → Shared → Prop) : (X.wish E).Ok :=
  ⟨ok.mod, ok.kind, ok.glob, ok.blt, ok.above, ok.inj, ok.has, ok.cab, ok.hd, ok.frames, ok.stk, ok.exf, ok.bs, ok.bsz, ok.noex, ok.exfs, ok.funs, ok.frf⟩
theorem Cx.Ok.unwish {X : Cx} {E : Value → Shared → Prop} (ok : (X.wish E).Ok) : X.Ok :=
  ⟨ok.mod, ok.kind, ok.glob, ok.blt, ok.above, ok.inj, ok.has, ok.cab, ok.hd, ok.frames, ok.stk, ok.exf, ok.bs, ok.bsz, ok.noex, ok.exfs, ok.funs, ok.frf⟩
section
variable {X : Cx} {pins : List (Addr × Obj)} {σ : St} {H : Hp} {s : Shared} {E : Value → Shared → Prop}
theorem Inv.wish (I : Inv X pins σ H s) (E : Value → Shared → Prop) : Inv (X.wish E) pins σ H s := ⟨I.ok.wish E, I.os, I.bare, I.base, I.loc, I.cell, I.free, I.freeC, I.pin, I.hok, I.len⟩
theorem Inv.unwish (I : Inv (X.wish E) pins σ H s) : Inv X pins σ H s := ⟨I.ok.unwish, I.os, I.bare, I.base, I.loc, I.cell, I.free, I.freeC, I.pin, I.hok, I.len⟩
theorem SP.unwish {D : Ends} {f : Flow} {s' : Shared} (h : SP (X.wish E) pins D f s') : SP X pins D f s' := by
  cases f with
  | next => obtain ⟨σ', H', I, q⟩ := h; exact ⟨σ', H', I.unwish, q⟩
  | brk => obtain ⟨σ', H', I, q⟩ := h; exact ⟨σ', H', I.unwish, q⟩
  | cont => obtain ⟨σ', H', I, q⟩ := h; exact ⟨σ', H', I.unwish, q⟩
  | ret u => obtain ⟨v, σ', H', I, r, q⟩ := h; exact ⟨v, σ', H', I.unwish, r, q⟩
theorem PSs.nox {st : List Stmt} {t : TS} (h : PSs X.nox st t) : PSs X st t := .mk <| fun pins s σ H D I hw =>
  wpAny_mono (h pins s σ H D (I.wish _) hw) (fun _ _ q => q.unwish) fun _ _ z => False.elim z
end

/-! ### blocks and small statements -/
section
variable {X : Cx} {st : Stmt} {rest : List Stmt} {t u : TS} {e : Expr} {te : TE} {pos : Pos}
def tNext : TS := fun D σ H => D.nx σ H
def tSeq (t u : TS) : TS := fun D σ H => t { D with nx := u D } σ H
theorem pss_nil : PSs X [] tNext := .mk <| fun _ _ σ H _ I h => wpAny_execs_nil ⟨σ, H, I, h⟩
theorem pss_cons (h1 : PS X st t) (h2 : PSs X rest u) : PSs X (st :: rest) (tSeq t u) := .mk <| by
  intro pins s σ H D I h
  refine wpAny_execs_cons (thn (h1 pins s σ H { D with nx := u D } I h) fun f s1 q => ?_)
  cases f with
  | next =>
    obtain ⟨σ', H', I', q⟩ := q
    exact h2 pins s1 σ' H' D I' q
  | ret v => exact q
  | brk => exact q
  | cont => exact q
theorem pss_one (h1 : PS X st t) : PSs X [st] t := .mk <| by
  intro pins s σ H D I h
  refine wpAny_execs_cons (thn (h1 pins s σ H D I h) fun f s1 q => ?_)
  cases f with
  | next => exact wpAny_execs_nil q
  | ret v => exact q
  | brk => exact q
  | cont => exact q
/-- in a def's body nothing is shown -/
theorem Inv.quiet {pins : List (Addr × Obj)} {σ : St} {H : Hp} {s : Shared} (I : Inv X pins σ H s) : interactive X.env = false := by simp [interactive, I.ok.kind]
/-- an expression whose value is dropped -/
def tDrop (te : TE) : TS := fun D σ H => te σ H fun _ H1 => D.nx σ H1
theorem ps_expr (he : PE X e te) (hs : swapsWith e none pos.line X.env = pure false := by rfl) : PS X (.Expr e pos) (tDrop te) := .mk <| by
  intro pins s σ H D I h
  exact wpAny_Expr_any (thn (he pins s σ H _ I h) fun v s1 ⟨x, H1, I1, r1, q1⟩ => ⟨σ, H1, I1, q1⟩) I.quiet hs
def tRet (te : TE) : TS := fun D σ H => te σ H D.rt
theorem ps_ret (he : PE X e te) : PS X (.Return (some e) pos) (tRet te) := .mk <| by
  intro pins s σ H D I h
  exact wpAny_Return_some (thn (he pins s σ H _ I h) fun v s1 ⟨x, H1, I1, r1, q1⟩ => ⟨x, σ, H1, I1, r1, q1⟩)
def tIfS (c : TT) (t u : TS) : TS := fun D σ H => c σ H fun b H1 => if b = true then t D σ H1 else u D σ H1
theorem ps_if {c : Expr} {a b : List Stmt} {tc : TT} (hc : PT X c tc) (ha : PSs X a t) (hb : PSs X b u) : PS X (.If c a b pos) (tIfS tc t u) := .mk <| by
  intro pins s σ H D I h
  refine wpAny_If (thn (hc pins s σ H _ I h) fun d s1 ⟨H1, I1, q1⟩ => ?_)
  cases d with
  | true => exact ha pins s1 σ H1 D I1 q1
  | false => exact hb pins s1 σ H1 D I1 q1
end

/-! ### targets -/
abbrev TG := V → St → Hp → (St → Hp → Prop) → Prop
abbrev TGs := List V → St → Hp → (St → Hp → Prop) → Prop
structure PG (X : Cx) (target : Expr) (t : TG) : Prop where
  run :
  ∀ (pins : List (Addr × Obj)) (s : Shared) (σ : St) (H : Hp) (v : V) (u : Value) (Q : St → Hp → Prop), Inv X pins σ H s → RelV v u → t v σ H Q →
    wpAny (model X.prog X.w) X.A (assign target X.env u) (fun _ s' => ∃ σ' H', Inv X pins σ' H' s' ∧ Q σ' H') X.xe s
instance {X : Cx} {target : Expr} {t : TG} : CoeFun (PG X target t) (fun _ =>
  ∀ (pins : List (Addr × Obj)) (s : Shared) (σ : St) (H : Hp) (v : V) (u : Value) (Q : St → Hp → Prop), Inv X pins σ H s → RelV v u → t v σ H Q →
    wpAny (model X.prog X.w) X.A (assign target X.env u) (fun _ s' => ∃ σ' H', Inv X pins σ' H' s' ∧ Q σ' H') X.xe s
  ) := ⟨fun h => h.run⟩
/-- several targets, one after another -/
structure PGs (X : Cx) (ts : List Expr) (t : TGs) : Prop where
  run :
  ∀ (pins : List (Addr × Obj)) (s : Shared) (σ : St) (H : Hp) (vs : List V) (us : List Value) (Q : St → Hp → Prop), Inv X pins σ H s → Vals vs us → t vs σ H Q →
    wpAny (model X.prog X.w) X.A (assignInOrder ((assignEach ts X.env).map (·.2)) us) (fun _ s' => ∃ σ' H', Inv X pins σ' H' s' ∧ Q σ' H') X.xe s
instance {X : Cx} {ts : List Expr} {t : TGs} : CoeFun (PGs X ts t) (fun _ =>
  ∀ (pins : List (Addr × Obj)) (s : Shared) (σ : St) (H : Hp) (vs : List V) (us : List Value) (Q : St → Hp → Prop), Inv X pins σ H s → Vals vs us → t vs σ H Q →
    wpAny (model X.prog X.w) X.A (assignInOrder ((assignEach ts X.env).map (·.2)) us) (fun _ s' => ∃ σ' H', Inv X pins σ' H' s' ∧ Q σ' H') X.xe s
  ) := ⟨fun h => h.run⟩
section
variable {X : Cx} {pos : Pos}
def gName (i : Nat) : TG := fun v σ H Q => Q (σ.set i (some v)) H
theorem pg_name {i : Nat} {x : Str} (hN : X.N.Nodup) (hi : X.N[i]? = some x) (hx : Loc X.env.scope x) (hf : X.fn x = true ∨ X.env.scope.names.lookup x = some .local := by first | exact .inl rfl | exact .inr rfl | assumption) : PG X (.Name x pos) (gName i) := .mk <| by
  intro pins s σ H v u Q I r h
  exact wpAny_assign_Name (store_ok I hN hi hx r (fun s' I' => ⟨_, H, I', h⟩) hf)
def gNil : TGs := fun vs σ H Q => vs = [] ∧ Q σ H
def gCons (t : TG) (u : TGs) : TGs := fun vs σ H Q => ∃ v r, vs = v :: r ∧ t v σ H fun σ' H' => u r σ' H' Q
theorem pgs_nil : PGs X [] gNil := .mk <| by
  intro pins s σ H vs us Q I r h
  obtain ⟨e, h⟩ := h
  subst e
  cases r
  exact assignInOrder_nil ⟨σ, H, I, h⟩
theorem pgs_cons {e : Expr} {es : List Expr} {t : TG} {u : TGs} (h1 : PG X e t) (h2 : PGs X es u)
    (hs : (assignEach (e :: es) X.env).map (·.2) = assign e X.env :: (assignEach es X.env).map (·.2) := by rfl) : PGs X (e :: es) (gCons t u) := .mk <| by
  intro pins s σ H vs us Q I r h
  obtain ⟨v, vr, e1, h⟩ := h
  subst e1
  cases r with
  | cons r rr =>
    rw [hs]
    refine assignInOrder_cons (thn (h1 pins s σ H _ _ _ I r h) fun _ s1 ⟨σ1, H1, I1, q1⟩ => ?_)
    exact h2 pins s1 σ1 H1 _ _ Q I1 rr q1
/-- (a, b, ..) = a tuple of that length -/
def gTup (K : PySem.W.Frag) (n : Nat) (t : TGs) : TG := fun v σ H Q => ∃ a xs, v = .ref a ∧ SqT K H a xs ∧ xs.length = n ∧ t xs σ H Q
theorem pg_tup {es : List Expr} {k : Nat} {t : TGs} {n : Nat} (hc : X.calm = true) (h : PGs X es t)
    (hn : (assignEach es X.env).length = n := by rfl) (hst : (assignEach es X.env).findIdx? (·.1) = none := by rfl) : PG X (.Tuple es k pos) (gTup X.K n t) := .mk <| by
  intro pins s σ H v u Q I r hw
  obtain ⟨a, xs, e1, hq, hl, hw⟩ := hw
  subst e1
  cases r
  obtain ⟨its, rv, ht, hz⟩ := I.tuple hq
  refine assign_Tuple_tuple (I.ok.hd hc) ht (by simp [hn, ← hl, rv.length]) hst fun h' hx => ?_
  have I1 : Inv X pins σ H { s with heap := h' } := I.kept (t' := s.toks) fun b o e => hx b o (Nat.ne_of_lt (Heap.lt_size e)) e
  exact h pins _ σ H xs _ Q I1 (by simpa using rv) hw
/-- target = value -/
def tAsg (te : TE) (g : TG) : TS := fun D σ H => te σ H fun x H1 => g x σ H1 D.nx
theorem ps_asg {tg e : Expr} {te : TE} {g : TG} (he : PE X e te) (hg : PG X tg g) (hs : swapsWithSole [tg] e pos.line X.env = pure false := by rfl) (hw : swappedStores [tg] e X.env = pure none := by rfl)
    (h1 : (assignEach [tg] X.env).map (·.2) = [assign tg X.env] := by rfl) : PS X (.Assign [tg] e pos) (tAsg te g) := .mk <| by
  intro pins s σ H D I h
  refine wpAny_Assign_stores (thn (he pins s σ H _ I h) fun v s1 ⟨x, H1, I1, r1, q1⟩ => ?_) hs hw
  rw [h1]
  exact thn (hg pins s1 σ H1 x v _ I1 r1 q1) fun _ s2 q => q
/-- name = value -/
theorem ps_set {i : Nat} {x : Str} {e : Expr} {te : TE} {pos' : Pos} (hN : X.N.Nodup) (hi : X.N[i]? = some x) (hx : Loc X.env.scope x) (he : PE X e te) (hs : swapsWith e (some (.Name x pos')) pos.line X.env = pure false := by rfl) (hf : X.fn x = true ∨ X.env.scope.names.lookup x = some .local := by first | exact .inl rfl | exact .inr rfl | assumption) :
    PS X (.Assign [.Name x pos'] e pos) (tAsg te (gName i)) := .mk <| by
  intro pins s σ H D I h
  refine wpAny_Assign_Name (thn (he pins s σ H _ I h) fun v s1 ⟨y, H1, I1, r1, q1⟩ => ?_) hs
  exact store_ok I1 hN hi hx r1 (fun s2 I2 => ⟨_, H1, I2, q1⟩) hf
end

/-! ### while -/
section
variable {X : Cx} {pos : Pos}
end

/-! ### what a loop or a comprehension walks -/
/-- at turn i: it yields x (the heap may grow), or it stops -/
structure It where
  go : Nat → Hp → Prop
  yld : Nat → Hp → V → Hp → Prop
  stop : Nat → Hp → Prop
/-- the iterator's own objects may turn: they are not the frame's, not pinned, younger than the entry (or a comprehension's own) -/
def FpOk (X : Cx) (pins : List (Addr × Obj)) (H : Hp) (b : Addr) : Prop :=
  H b = none ∧ b ≠ X.env.locals ∧ b ∉ X.fs ∧ (b ∈ X.ex ∨ X.s₀.heap.objs.size ≤ b) ∧ (∀ x c, X.env.cells.lookup x = some c → c ≠ b) ∧ ∀ p ∈ X.pn ++ pins, p.1 ≠ b
theorem Inv.fpOk {X : Cx} {pins : List (Addr × Obj)} {σ : St} {H H' : Hp} {s : Shared} {b : Addr} (I : Inv X pins σ H s) (hb : s.heap.objs.size ≤ b) (hn : H' b = none) : FpOk X pins H' b := by
  refine ⟨hn, Nat.ne_of_gt (Nat.lt_of_lt_of_le I.lt hb), I.nofs hb, .inr (Nat.le_trans I.sz hb), fun x c e z => ?_, fun p hp z => ?_⟩
  · obtain ⟨v, q⟩ := I.cell x c e
    exact absurd (Nat.lt_of_lt_of_le q.lt (by rw [z]; exact hb)) (Nat.lt_irrefl _)
  · exact absurd (Nat.lt_of_lt_of_le (Heap.lt_size (I.pin p hp).1) (by rw [z]; exact hb)) (Nat.lt_irrefl _)
structure Turn (P : Program) (w : World) (K : PySem.W.Frag) (tg : Expr) (J : It) (fp : List Addr) (it : Addr) (tn : Nat → Heap → Prop) : Prop where
  mem : it ∈ fp
  obj : ∀ i h, tn i h → ∀ b ∈ fp, ∃ o, h.get? b = some o ∧ ∀ v, o.data ≠ .cell v
  keep : ∀ i h h', tn i h → (∀ b ∈ fp, ∀ o, h.get? b = some o → h'.get? b = some o) → tn i h'
  item : ∀ (X : Cx), X.prog = P → X.w = w → X.K = K → X.calm = true → ∀ (i : Nat) (pins : List (Addr × Obj)) (s : Shared) (σ : St) (H : Hp) (E : Value → Shared → Prop), Inv X pins σ H s → (∀ b ∈ fp, FpOk X pins H b) → tn i s.heap → J.go i H →
    wpAny (model P w) X.A (pyNext (.ref it)) (fun r s1 => ∃ u, r = some u ∧
      wpAny (model P w) X.A (letOwnedTupleGo tg (.ref it) u) (fun _ s2 => ∃ x H', Inv X pins σ H' s2 ∧ RelV x u ∧ J.yld i H x H' ∧ tn (i + 1) s2.heap ∧ ∀ b ∈ fp, H' b = none) E s1) E s
  done : ∀ (X : Cx), X.prog = P → X.w = w → X.K = K → X.calm = true → ∀ (i : Nat) (pins : List (Addr × Obj)) (s : Shared) (σ : St) (H : Hp) (E : Value → Shared → Prop), Inv X pins σ H s → (∀ b ∈ fp, FpOk X pins H b) → tn i s.heap → J.stop i H →
    wpAny (model P w) X.A (pyNext (.ref it)) (fun r s1 => r = none ∧ Inv X pins σ H s1) E s
  self : ∀ (A : Around) (i : Nat) (s : Shared) (Q : Value → Shared → Prop) (E : Value → Shared → Prop), tn i s.heap → Q (.ref it) s → wpAny (model P w) A (pyIter (.ref it)) Q E s
abbrev TI := St → Hp → (It → Hp → Prop) → Prop
/-- an iterator has come -/
def PIE (X : Cx) (pins : List (Addr × Obj)) (σ : St) (tg : Expr) (R : It → Hp → Prop) (itv : Value) (s2 : Shared) : Prop :=
  ∃ (it : Addr) (fp : List Addr) (tn : Nat → Heap → Prop) (J : It) (H' : Hp), itv = .ref it ∧ Inv X pins σ H' s2 ∧ Turn X.prog X.w X.K tg J fp it tn ∧ tn 0 s2.heap ∧ (∀ b ∈ fp, FpOk X pins H' b) ∧ R J H'
structure PI (X : Cx) (tg iter : Expr) (wi : TI) : Prop where
  run :
  ∀ (pins : List (Addr × Obj)) (s : Shared) (σ : St) (H : Hp) (R : It → Hp → Prop), Inv X pins σ H s → wi σ H R →
    wpAny (model X.prog X.w) X.A (eval iter X.env) (fun v s1 => wpAny (model X.prog X.w) X.A (pyIter v) (PIE X pins σ tg R) X.xe s1) X.xe s
instance {X : Cx} {tg iter : Expr} {wi : TI} : CoeFun (PI X tg iter wi) (fun _ =>
  ∀ (pins : List (Addr × Obj)) (s : Shared) (σ : St) (H : Hp) (R : It → Hp → Prop), Inv X pins σ H s → wi σ H R →
    wpAny (model X.prog X.w) X.A (eval iter X.env) (fun v s1 => wpAny (model X.prog X.w) X.A (pyIter v) (PIE X pins σ tg R) X.xe s1) X.xe s
  ) := ⟨fun h => h.run⟩

/-- the step ahead of the store is nothing for an iterator that keeps no tuple -/
theorem go_of {M : Model} {A : Around} {E : Value → Shared → Prop} {s : Shared} {tg : Expr} {it : Addr} {u : Value} {o : Obj} {n : String} {vs : Array Value} {Q : Unit → Shared → Prop} (ho : s.heap.get? it = some o) (hc : o.cls = .type n) (hd : o.data = .fields vs)
    (hn : ["enumerate", "zip", "dict_itemiterator", "dict_reverseitemiterator", "odict_iterator", "itertools.zip_longest", "itertools.pairwise"].contains n = false) (hQ : Q () s) : wpAny M A (letOwnedTupleGo tg (.ref it) u) Q E s := by
  unfold letOwnedTupleGo
  cases tg <;> first
    | exact wpAny_pure hQ
    | (cases u <;> first
        | exact wpAny_pure hQ
        | (refine wpAny_bind (wpAny_load ho ?_)
           rw [hc, hd]
           show wpAny M A (if (["enumerate", "zip", "dict_itemiterator", "dict_reverseitemiterator", "odict_iterator", "itertools.zip_longest", "itertools.pairwise"].contains n && vs[0]? == some (rawInt _)) = true then _ else _) Q E s
           rw [if_neg (by intro h; rw [hn, Bool.false_and] at h; cases h)]
           exact wpAny_pure hQ))

/-- the list at a, as it stands at each turn (a loop may append to it) -/
def Itl (K : PySem.W.Frag) (a : Addr) : It :=
  ⟨fun i H => ∃ xs x, SqL K H a xs ∧ xs[i]? = some x, fun i H x H' => H' = H ∧ ∀ xs, SqL K H a xs → xs[i]? = some x, fun i H => ∃ xs, SqL K H a xs ∧ xs.length ≤ i⟩
def Itt (K : PySem.W.Frag) (a : Addr) : It :=
  ⟨fun i H => ∃ xs x, SqT K H a xs ∧ xs[i]? = some x, fun i H x H' => H' = H ∧ ∀ xs, SqT K H a xs → xs[i]? = some x, fun i H => ∃ xs, SqT K H a xs ∧ xs.length ≤ i⟩
/-- lo, lo + 1, .. (n of them) -/
def Itr (lo : Int) (n : Nat) : It := ⟨fun i _ => i < n, fun i H x H' => H' = H ∧ x = .int (lo + i), fun i _ => n ≤ i⟩
theorem turn_list {P : Program} {w : World} {K : PySem.W.Frag} {tg : Expr} (a it : Addr) : Turn P w K tg (Itl K a) [it] it (fun i h => h.IsListIter it a i) where
  mem := by simp
  obj := fun i h st b hb => by
    have e : b = it := by simpa using hb
    subst e
    obtain ⟨o, e, c, d⟩ := st
    exact ⟨o, e, fun v z => by rw [d] at z; cases z⟩
  keep := fun i h h' st k => st.at fun o e => k it (by simp) o e
  item := by
    intro X hP hw hK hc i pins s σ H E I hf st hg
    subst hP hw hK
    obtain ⟨xs, x, hq, hx⟩ := hg
    obtain ⟨its, rv, p, hz⟩ := I.list hq
    obtain ⟨u, hu, ru⟩ := rv.get hx
    obtain ⟨f0, f1, f2, f3, f4, f5⟩ := hf it (by simp)
    refine wpAny_pyNext_list_item st p.isList (x := u) (by simpa using hu) fun h' st' sb => ?_
    have I1 : Inv X pins σ H { s with heap := h' } := I.turned (t' := s.toks) (fun b o hb e => (sb.2 b hb).trans e) f0 f1 f3 f4 f5
    obtain ⟨o, e, c, d⟩ := id st'
    exact ⟨u, rfl, go_of (s := { s with heap := h' }) e c d (by decide) ⟨x, H, I1, ru, ⟨rfl, fun ys hy => by rw [I.list_inj hy hq]; exact hx⟩, st', fun b hb => (hf b hb).1⟩⟩
  done := by
    intro X hP hw hK hc i pins s σ H E I hf st hg
    subst hP hw hK
    obtain ⟨xs, hq, hx⟩ := hg
    obtain ⟨its, rv, p, hz⟩ := I.list hq
    obtain ⟨f0, f1, f2, f3, f4, f5⟩ := hf it (by simp)
    have hl := rv.length
    exact wpAny_pyNext_list_end (I.ok.hd hc) st p.isList (by simp; omega) fun h' eb => ⟨rfl, I.turned (t' := s.toks) (fun b o hb e => eb b o hb e) f0 f1 f3 f4 f5⟩
  self := fun _ _ _ _ _ st h => wpAny_pyIter_listiter st h
theorem turn_tuple {P : Program} {w : World} {K : PySem.W.Frag} {tg : Expr} (a it : Addr) : Turn P w K tg (Itt K a) [it] it (fun i h => h.IsTupleIter it a i) where
  mem := by simp
  obj := fun i h st b hb => by
    have e : b = it := by simpa using hb
    subst e
    obtain ⟨o, e, c, d⟩ := st
    exact ⟨o, e, fun v z => by rw [d] at z; cases z⟩
  keep := fun i h h' st k => st.at fun o e => k it (by simp) o e
  item := by
    intro X hP hw hK hc i pins s σ H E I hf st hg
    subst hP hw hK
    obtain ⟨xs, x, hq, hx⟩ := hg
    obtain ⟨its, rv, p, hz⟩ := I.tuple hq
    obtain ⟨u, hu, ru⟩ := rv.get hx
    obtain ⟨f0, f1, f2, f3, f4, f5⟩ := hf it (by simp)
    refine wpAny_pyNext_tuple_item st (show s.heap.IsTuple a its.toArray from p) (x := u) (by simpa using hu) fun h' st' sb => ?_
    have I1 : Inv X pins σ H { s with heap := h' } := I.turned (t' := s.toks) (fun b o hb e => (sb.2 b hb).trans e) f0 f1 f3 f4 f5
    obtain ⟨o, e, c, d⟩ := id st'
    exact ⟨u, rfl, go_of (s := { s with heap := h' }) e c d (by decide) ⟨x, H, I1, ru, ⟨rfl, fun ys hy => by rw [I.tuple_inj hy hq]; exact hx⟩, st', fun b hb => (hf b hb).1⟩⟩
  done := by
    intro X hP hw hK hc i pins s σ H E I hf st hg
    subst hP hw hK
    obtain ⟨xs, hq, hx⟩ := hg
    obtain ⟨its, rv, p, hz⟩ := I.tuple hq
    obtain ⟨f0, f1, f2, f3, f4, f5⟩ := hf it (by simp)
    have hl := rv.length
    exact wpAny_pyNext_tuple_end (I.ok.hd hc) st (show s.heap.IsTuple a its.toArray from p) (by simp; omega) fun h' eb => ⟨rfl, I.turned (t' := s.toks) (fun b o hb e => eb b o hb e) f0 f1 f3 f4 f5⟩
  self := fun _ _ _ _ _ st h => wpAny_pyIter_tupleiter st h
theorem turn_range {P : Program} {w : World} {K : PySem.W.Frag} {tg : Expr} (it : Addr) (lo : Int) (n : Nat) : Turn P w K tg (Itr lo n) [it] it (fun i h => IsRangeIter h it (lo + (i : Nat) * 1) ((n : Int) - (i : Nat)) 1) where
  mem := by simp
  obj := fun i h st b hb => by
    have e : b = it := by simpa using hb
    subst e
    exact ⟨_, st, fun v z => by
      have z' : Data.fields _ = Data.cell v := z
      cases z'⟩
  keep := fun i h h' st k => k it (by simp) _ st
  item := by
    intro X hP hw hK hc i pins s σ H E I hf st hg
    subst hP hw hK
    obtain ⟨f0, f1, f2, f3, f4, f5⟩ := hf it (by simp)
    have W := Walks.range (prog := X.prog) (w := X.w) (I.ok.hd hc) it lo 1 n
    refine W.item i s _ _ hg st fun v h' tk hv st' kk => ?_
    obtain ⟨t, rfl⟩ := hv
    have I1 : Inv X pins σ H { s with heap := h', toks := tk } := I.turned (fun b o hb e => kk b o (by simpa using hb) e) f0 f1 f3 f4 f5
    refine ⟨_, rfl, go_of (s := { s with heap := h', toks := tk }) (n := "range_iterator") st' rfl rfl (by decide) ⟨.int (lo + i), H, I1, ⟨t, ?_⟩, ⟨rfl, rfl⟩, st', fun b hb => (hf b hb).1⟩⟩
    rw [Int.mul_one]
  done := by
    intro X hP hw hK hc i pins s σ H E I hf st hg
    subst hP hw hK
    obtain ⟨f0, f1, f2, f3, f4, f5⟩ := hf it (by simp)
    exact wpAny_pyNext_range_end (I.ok.hd hc) st (by have : n ≤ i := hg; omega) fun h' eb => ⟨rfl, I.turned (t' := s.toks) (fun b o hb e => eb b o hb e) f0 f1 f3 f4 f5⟩
  self := fun _ _ _ _ _ st h => wpAny_pyIter_rangeiter st h
end L2

namespace L2
open PySem PySem.Spec PyProof.Rows
section
variable {X : Cx} {tg : Expr}
def iList (K : PySem.W.Frag) (tl : TE) : TI := fun σ H R => tl σ H fun x H1 => ∃ a, x = .ref a ∧ (∃ xs, SqL K H1 a xs) ∧ R (Itl K a) H1
def iTup (K : PySem.W.Frag) (tl : TE) : TI := fun σ H R => tl σ H fun x H1 => ∃ a, x = .ref a ∧ (∃ xs, SqT K H1 a xs) ∧ R (Itt K a) H1
theorem pi_list {l : Expr} {tl : TE} (hl : PE X l tl) : PI X tg l (iList X.K tl) := .mk <| by
  intro pins s σ H R I h
  refine thn (hl pins s σ H _ I h) fun v s1 ⟨x, H1, I1, r1, q1⟩ => ?_
  obtain ⟨a, e, ⟨xs, hq⟩, q⟩ := q1
  subst e
  cases r1
  obtain ⟨its, rv, p, hz⟩ := I1.list hq
  refine wpAny_pyIter_list p.isList ?_
  refine ⟨s1.heap.objs.size, [s1.heap.objs.size], _, _, H1, rfl, I1.kept (t' := s1.toks) fun b o e => Heap.get?_push_of_some _ e, turn_list a _, ⟨_, Heap.get?_push_size _ rfl, rfl, rfl⟩, fun b hb => ?_, q⟩
  have e : b = s1.heap.objs.size := by simpa using hb
  subst e
  exact I1.fpOk (Nat.le_refl _) (I1.hok.fresh (Nat.le_refl _))
theorem pi_tup {l : Expr} {tl : TE} (hl : PE X l tl) : PI X tg l (iTup X.K tl) := .mk <| by
  intro pins s σ H R I h
  refine thn (hl pins s σ H _ I h) fun v s1 ⟨x, H1, I1, r1, q1⟩ => ?_
  obtain ⟨a, e, ⟨xs, hq⟩, q⟩ := q1
  subst e
  cases r1
  obtain ⟨its, rv, p, hz⟩ := I1.tuple hq
  refine wpAny_pyIter_tuple (show s1.heap.IsTuple a its.toArray from p) ?_
  refine ⟨s1.heap.objs.size, [s1.heap.objs.size], _, _, H1, rfl, I1.kept (t' := s1.toks) fun b o e => Heap.get?_push_of_some _ e, turn_tuple a _, ⟨_, Heap.get?_push_size _ rfl, rfl, rfl⟩, fun b hb => ?_, q⟩
  have e : b = s1.heap.objs.size := by simpa using hb
  subst e
  exact I1.fpOk (Nat.le_refl _) (I1.hok.fresh (Nat.le_refl _))
/-- a range object just made, walked -/
theorem range_it {pins : List (Addr × Obj)} {σ : St} {H : Hp} {s : Shared} {R : It → Hp → Prop} {E : Value → Shared → Prop} {lo hi : Int} {t u v : Tok} {tk : Nat} (I : Inv X pins σ H s) (h1 : -(2 ^ 62) ≤ lo) (h2 : lo < 2 ^ 62) (h3 : -(2 ^ 62) ≤ hi) (h4 : hi < 2 ^ 62)
    (q : R (Itr lo (hi - lo).toNat) H) : wpAny (model X.prog X.w) X.A (pyIter (.ref s.heap.objs.size)) (PIE X pins σ tg R) E { s with heap := s.heap.push { cls := .type "range", data := .fields #[.int lo t, .int hi u, .int 1 v] }, toks := tk } := by
  refine wpAny_pyIter_range (IsRange.new ..) (small_one h1 h2 h3 h4) ?_
  have I1 : Inv X pins σ H { s with heap := s.heap.push { cls := .type "range", data := .fields #[.int lo t, .int hi u, .int 1 v] }, toks := tk } := I.kept fun b o e => Heap.get?_push_of_some _ e
  refine ⟨(s.heap.push { cls := .type "range", data := .fields #[.int lo t, .int hi u, .int 1 v] }).objs.size, [(s.heap.push { cls := .type "range", data := .fields #[.int lo t, .int hi u, .int 1 v] }).objs.size], _, _, H, rfl,
    I1.kept (t' := tk) fun b o e => Heap.get?_push_of_some _ e, turn_range _ lo (hi - lo).toNat, ?_, fun b hb => ?_, q⟩
  · have e1 : lo + ((0 : Nat) : Int) * 1 = lo := by simp
    have e2 : (((hi - lo).toNat : Nat) : Int) - ((0 : Nat) : Int) = Builtin.Range.rangeSize lo hi 1 := by rw [rangeSize_one]; split <;> omega
    show IsRangeIter _ _ (lo + ((0 : Nat) : Int) * 1) ((((hi - lo).toNat : Nat) : Int) - ((0 : Nat) : Int)) 1
    rw [e1, e2]
    exact Heap.get?_push_size _ rfl
  · have e : b = (s.heap.push { cls := .type "range", data := .fields #[.int lo t, .int hi u, .int 1 v] }).objs.size := by simpa using hb
    subst e
    exact I1.fpOk (Nat.le_refl _) (I1.hok.fresh (Nat.le_refl _))
def iRng1 (ta : TA) : TI := fun σ H R => ta σ H fun vs H1 => ∃ j : Int, vs = [.int j] ∧ -(2 ^ 62) ≤ j ∧ j < 2 ^ 62 ∧ R (Itr 0 j.toNat) H1
theorem pi_range1 {a : Expr} {ta : TA} {p pos : Pos} (hg : Gl X "range") (hm : X.mg "range" = none) (ha : PA X [a] ta) (hs : starEach [a] X.env = [(false, eval a X.env)] := by rfl) : PI X tg (.Call (.Name "range" p) [a] [] pos) (iRng1 ta) := .mk <| by
  intro pins s σ H R I h
  refine Call_ (ld_blt I hg hm boot_range (PyProof.Rows.callWith_type1 (thn (ha pos pins s σ H _ I h) fun us s1 ⟨vs, H1, I1, r1, q1⟩ => ?_) hs rfl))
  obtain ⟨j, e, q1, q2, q⟩ := q1
  subst e
  cases r1 with
  | cons r rr =>
    cases rr
    obtain ⟨t, rfl⟩ := r
    exact call_range_1 (range_it I1 (by omega) (by omega) q1 q2 (by simpa using q))
/-! ### for -/
/-- W: the invariant by the turn and a measure; N: what the body is to reach -/
def tFor (wi : TI) (g : TG) (tb : TS) : TS := fun D σ H => wi σ H fun J H1 => ∃ W : Nat → Nat → St → Hp → Prop, (∃ m, W 0 m σ H1) ∧ ∀ i m σ H, W i m σ H →
  (J.stop i H ∧ D.nx σ H) ∨ (J.go i H ∧ ∃ N : St → Hp → Prop, (∀ σ' H', N σ' H' → ∃ m', m' < m ∧ W (i + 1) m' σ' H') ∧ ∀ x H', J.yld i H x H' → g x σ H' fun σ2 H2 => tb { D with nx := N, ct := N, bk := D.nx } σ2 H2)
/-- the records at fp as they stand -/
def pinsAt (fp : List Addr) (h : Heap) : List (Addr × Obj) := fp.filterMap fun b => (h.get? b).map fun o => (b, o)
theorem mem_pinsAt {fp : List Addr} {h : Heap} {b : Addr} {o : Obj} (hb : b ∈ fp) (e : h.get? b = some o) : (b, o) ∈ pinsAt fp h := List.mem_filterMap.mpr ⟨b, hb, by rw [e]; rfl⟩
theorem of_pinsAt {fp : List Addr} {h : Heap} {p : Addr × Obj} (hp : p ∈ pinsAt fp h) : p.1 ∈ fp ∧ h.get? p.1 = some p.2 := by
  obtain ⟨b, hb, e⟩ := List.mem_filterMap.mp hp
  cases q : h.get? b with
  | none => rw [q] at e; cases e
  | some o =>
    rw [q] at e
    have e' : (b, o) = p := Option.some.inj e
    subst e'
    exact ⟨hb, q⟩
theorem Inv.pinned {pins : List (Addr × Obj)} {σ : St} {H : Hp} {s : Shared} {fp : List Addr} (I : Inv X pins σ H s) (hf : ∀ b ∈ fp, FpOk X pins H b) (ho : ∀ b ∈ fp, ∃ o, s.heap.get? b = some o ∧ ∀ v, o.data ≠ .cell v) : Inv X (pins ++ pinsAt fp s.heap) σ H s :=
  I.pins_of fun p hp => (List.mem_append.mp hp).elim (fun z => I.pin p (List.mem_append_right _ z)) fun z => by
    obtain ⟨hb, e⟩ := of_pinsAt z
    obtain ⟨f0, f1, f2, _⟩ := hf p.1 hb
    obtain ⟨o, e', d⟩ := ho p.1 hb
    rw [e] at e'; cases e'
    exact ⟨e, f0, f1, f2, d⟩
theorem Inv.unpinned {pins pl : List (Addr × Obj)} {σ : St} {H : Hp} {s : Shared} (I : Inv X (pins ++ pl) σ H s) : Inv X pins σ H s := I.pins_of fun p hp => I.pin p (List.mem_append_right _ (List.mem_append_left _ hp))
theorem ps_for {iter : Expr} {body : List Stmt} {wi : TI} {g : TG} {tb : TS} {pos : Pos} (hp : PassesOwn (model X.prog X.w) X.A X.env X.xe) (hc : X.calm = true) (hi : PI X tg iter wi) (hg : PG X tg g) (hb : PSs X body tb)
    (hs : ∀ x, foldedSetIterable iter X.env x = pure x := by intro _; rfl) : PS X (.For tg iter body [] pos) (tFor wi g tb) := .mk <| by
  intro pins s σ H D I h
  refine wpAny_For (thn (hi pins s σ H _ I h) fun v s1 h1 => thn h1 fun itv s2 h2 => ?_) hs
  obtain ⟨it, fp, tn, J, H2, e, I2, T, st2, f2, W, ⟨m0, w0⟩, turn⟩ := h2
  subst e
  -- what stays true of the iterator's objects through the loop
  have stat : ∀ {H' : Hp}, (∀ b ∈ fp, H' b = none) → ∀ b ∈ fp, FpOk X pins H' b := fun hn b hb => ⟨hn b hb, (f2 b hb).2⟩
  refine codeAny_forLoop_any (fun n s' => ∃ i σ' H', Inv X pins σ' H' s' ∧ tn i s'.heap ∧ (∀ b ∈ fp, H' b = none) ∧ W i n σ' H') ?_ m0 ⟨0, σ, H2, I2, st2, fun b hb => (f2 b hb).1, w0⟩
  rintro n s3 ⟨i, σ3, H3, I3, st3, fr3, w3⟩
  rcases turn i n σ3 H3 w3 with ⟨stop, qn⟩ | ⟨go, N, hN, step⟩
  · refine wpAny_passesOwn hp (thn (T.done X rfl rfl rfl hc i pins s3 σ3 H3 X.xe I3 (stat fr3) st3 stop) fun r s4 ⟨hr, I4⟩ => ?_)
    subst hr
    exact wpAny_execs_nil ⟨σ3, H3, I4, qn⟩
  · refine wpAny_passesOwn hp (thn (T.item X rfl rfl rfl hc i pins s3 σ3 H3 X.xe I3 (stat fr3) st3 go) fun r s4 ⟨u, hr, h4⟩ => ?_)
    subst hr
    refine wpAny_passesOwn hp (thn h4 fun _ s5 ⟨x, H5, I5, r5, y5, st5, fr5⟩ => ?_)
    have I5' := I5.pinned (stat fr5) (T.obj _ _ st5)
    refine wpAny_passesOwn hp (thn (hg _ s5 σ3 H5 x u _ I5' r5 (step x H5 y5)) fun _ s6 ⟨σ6, H6, I6, q6⟩ => ?_)
    refine wpAny_passesOwn hp (thn (hb _ s6 σ6 H6 _ I6 q6) fun f s7 q7 => ?_)
    have again : ∀ {σ7 : St} {H7 : Hp}, Inv X (pins ++ pinsAt fp s5.heap) σ7 H7 s7 → N σ7 H7 → ∃ m, m < n ∧ ∃ i σ' H', Inv X pins σ' H' s7 ∧ tn i s7.heap ∧ (∀ b ∈ fp, H' b = none) ∧ W i m σ' H' := fun {σ7 H7} I7 n7 => by
      obtain ⟨m', hm, w7⟩ := hN σ7 H7 n7
      refine ⟨m', hm, i + 1, σ7, H7, I7.unpinned, T.keep _ _ _ st5 fun b hb o e => (I7.pin (b, o) (List.mem_append_right _ (List.mem_append_right _ (mem_pinsAt hb e)))).1, fun b hb => ?_, w7⟩
      obtain ⟨o, e, d⟩ := T.obj _ _ st5 b hb
      exact (I7.pin (b, o) (List.mem_append_right _ (List.mem_append_right _ (mem_pinsAt hb e)))).2.1
    cases f with
    | next => obtain ⟨σ7, H7, I7, n7⟩ := q7; exact again I7 n7
    | cont => obtain ⟨σ7, H7, I7, n7⟩ := q7; exact again I7 n7
    | brk => obtain ⟨σ7, H7, I7, q7⟩ := q7; exact ⟨σ7, H7, I7.unpinned, q7⟩
    | ret v => obtain ⟨x7, σ7, H7, I7, r7, q7⟩ := q7; exact ⟨x7, σ7, H7, I7.unpinned, r7, q7⟩
end

/-! ### the forms one uses -/
/-- over a list that the body leaves as it is -/
theorem for_list {K : PySem.W.Frag} {a : Addr} {xs : List V} {g : TG} {tb : TS} {D : Ends} {σ : St} {H : Hp} (Pv : Nat → St → Hp → Prop) (h0 : Pv 0 σ H) (hl : ∀ i σ H, i ≤ xs.length → Pv i σ H → SqL K H a xs)
    (hs : ∀ i x σ H, xs[i]? = some x → Pv i σ H → g x σ H fun σ2 H2 => tb { D with nx := Pv (i + 1), ct := Pv (i + 1), bk := D.nx } σ2 H2) (hd : ∀ σ H, Pv xs.length σ H → D.nx σ H) :
    ∃ W : Nat → Nat → St → Hp → Prop, (∃ m, W 0 m σ H) ∧ ∀ i m σ H, W i m σ H →
      ((Itl K a).stop i H ∧ D.nx σ H) ∨ ((Itl K a).go i H ∧ ∃ N : St → Hp → Prop, (∀ σ' H', N σ' H' → ∃ m', m' < m ∧ W (i + 1) m' σ' H') ∧ ∀ x H', (Itl K a).yld i H x H' → g x σ H' fun σ2 H2 => tb { D with nx := N, ct := N, bk := D.nx } σ2 H2) := by
  refine ⟨fun i m σ H => m = xs.length - i ∧ i ≤ xs.length ∧ Pv i σ H, ⟨xs.length, by simp, Nat.zero_le _, h0⟩, ?_⟩
  rintro i m σ H ⟨rfl, hi, p⟩
  have q := hl i σ H hi p
  by_cases hlt : i < xs.length
  · refine .inr ⟨⟨xs, xs[i], q, by simp [hlt]⟩, Pv (i + 1), fun σ' H' p' => ⟨xs.length - (i + 1), by omega, rfl, hlt, p'⟩, fun x H' y => ?_⟩
    obtain ⟨e, y⟩ := y
    subst e
    exact hs i x σ _ (y xs q) p
  · have e : i = xs.length := by omega
    subst e
    exact .inl ⟨⟨xs, q, Nat.le_refl _⟩, hd σ H p⟩
theorem for_range {lo : Int} {n : Nat} {g : TG} {tb : TS} {D : Ends} {σ : St} {H : Hp} (Pv : Nat → St → Hp → Prop) (h0 : Pv 0 σ H)
    (hs : ∀ i σ H, i < n → Pv i σ H → g (.int (lo + i)) σ H fun σ2 H2 => tb { D with nx := Pv (i + 1), ct := Pv (i + 1), bk := D.nx } σ2 H2) (hd : ∀ σ H, Pv n σ H → D.nx σ H) :
    ∃ W : Nat → Nat → St → Hp → Prop, (∃ m, W 0 m σ H) ∧ ∀ i m σ H, W i m σ H →
      ((Itr lo n).stop i H ∧ D.nx σ H) ∨ ((Itr lo n).go i H ∧ ∃ N : St → Hp → Prop, (∀ σ' H', N σ' H' → ∃ m', m' < m ∧ W (i + 1) m' σ' H') ∧ ∀ x H', (Itr lo n).yld i H x H' → g x σ H' fun σ2 H2 => tb { D with nx := N, ct := N, bk := D.nx } σ2 H2) := by
  refine ⟨fun i m σ H => m = n - i ∧ i ≤ n ∧ Pv i σ H, ⟨n, by simp, Nat.zero_le _, h0⟩, ?_⟩
  rintro i m σ H ⟨rfl, hi, p⟩
  by_cases hlt : i < n
  · refine .inr ⟨hlt, Pv (i + 1), fun σ' H' p' => ⟨n - (i + 1), by omega, rfl, hlt, p'⟩, fun x H' y => ?_⟩
    obtain ⟨e, y⟩ := y
    subst e y
    exact hs i σ _ hlt p
  · have e : i = n := by omega
    subst e
    exact .inl ⟨Nat.le_refl _, hd σ H p⟩
end L2

namespace L2
open PySem PySem.Spec PyProof.Rows

abbrev R2 := V → V → Hp → VK → Prop
/-- a two-place operation on values: f is binaryOp op, inplaceOp op or compareOp op -/
def OpR (X : Cx) (f : Value → Value → Sem Value) (r : R2) : Prop :=
  ∀ (pins : List (Addr × Obj)) (s : Shared) (σ : St) (H : Hp) (x y : V) (v u : Value) (Q : VK), Inv X pins σ H s → RelV x v → RelV y u → r x y H Q →
    wpAny (model X.prog X.w) X.A (f v u) (EP X pins σ Q) X.xe s
/-- a one-place operation -/
def UnR (X : Cx) (f : Value → Sem Value) (r : V → Hp → VK → Prop) : Prop :=
  ∀ (pins : List (Addr × Obj)) (s : Shared) (σ : St) (H : Hp) (x : V) (v : Value) (Q : VK), Inv X pins σ H s → RelV x v → r x H Q →
    wpAny (model X.prog X.w) X.A (f v) (EP X pins σ Q) X.xe s
/-- a call of a value that is known (a builtin, a type) with values -/
def CallR (X : Cx) (f : Value) (r : List V → Hp → VK → Prop) : Prop :=
  ∀ (pins : List (Addr × Obj)) (s : Shared) (σ : St) (H : Hp) (xs : List V) (us : List Value) (Q : VK), Inv X pins σ H s → Vals xs us → r xs H Q →
    wpAny (model X.prog X.w) X.A (call f us) (EP X pins σ Q) X.xe s
def tOp (r : R2) (ta tb : TE) : TE := fun σ H Q => ta σ H fun x H1 => tb σ H1 fun y H2 => r x y H2 Q
def tUn (r : V → Hp → VK → Prop) (ta : TE) : TE := fun σ H Q => ta σ H fun x H1 => r x H1 Q
/-- ints in, under C, and a value out -/
def rI (C : Int → Int → Prop) (g : Int → Int → V) : R2 := fun x y H Q => ∃ i j, x = .int i ∧ y = .int j ∧ C i j ∧ Q (g i j) H
def rI0 (g : Int → Int → V) : R2 := fun x y H Q => ∃ i j, x = .int i ∧ y = .int j ∧ Q (g i j) H
def rU (g : Int → V) : V → Hp → VK → Prop := fun x H Q => ∃ i, x = .int i ∧ Q (g i) H

section
variable {X : Cx} {a b c : Expr} {ta tb tc : TE} {pos : Pos}

theorem binT (ha : PE X a ta) (hb : PE X b tb) {pins : List (Addr × Obj)} {s : Shared} {σ : St} {H : Hp} {R : V → V → Hp → Prop} (I : Inv X pins σ H s)
    (h : ta σ H fun x H1 => tb σ H1 fun y H2 => R x y H2) {Q : Value → Shared → Prop} {f : Value → Value → Sem Value}
    (hf : ∀ v u s2 x y H2, Inv X pins σ H2 s2 → RelV x v → RelV y u → R x y H2 → wpAny (model X.prog X.w) X.A (f v u) Q X.xe s2) :
    wpAny (model X.prog X.w) X.A (eval a X.env) (fun v s₁ => wpAny (model X.prog X.w) X.A (eval b X.env) (fun u s₂ => wpAny (model X.prog X.w) X.A (f v u) Q X.xe s₂) X.xe s₁) X.xe s := by
  refine thn (ha pins s σ H _ I h) fun v s1 ⟨x, H1, I1, r1, q1⟩ => ?_
  refine thn (hb pins s1 σ H1 _ I1 q1) fun u s2 ⟨y, H2, I2, r2, q2⟩ => ?_
  exact hf v u s2 x y H2 I2 r1 r2 q2

theorem pe_op {op : Operator} {r : R2} (ho : OpR X (binaryOp op) r) (ha : PE X a ta) (hb : PE X b tb) : PE X (.BinOp a op b pos) (tOp r ta tb) := .mk <| by
  intro pins s σ H Q I h
  exact wpAny_BinOp (binT ha hb I h fun v u s2 x y H2 I2 rx ry q => ho pins s2 σ H2 x y v u Q I2 rx ry q)
theorem pe_un {op : UnaryOp} {r : V → Hp → VK → Prop} (ho : UnR X (unaryOp op) r) (ha : PE X a ta) : PE X (.UnaryOp op a pos) (tUn r ta) := .mk <| by
  intro pins s σ H Q I h
  exact UnaryOp_ (thn (ha pins s σ H _ I h) fun v s1 ⟨x, H1, I1, r1, q1⟩ => ho pins s1 σ H1 x v Q I1 r1 q1)
/-! ### ints -/
theorem opI {f : Value → Value → Sem Value} {C : Int → Int → Prop} {g : Int → Int → Int}
    (rule : ∀ (i j : Int) (t u : Tok) (s : Shared) (Q : Value → Shared → Prop) (E : Value → Shared → Prop), C i j → Q (.int (g i j) s.toks) { s with toks := s.toks + 1 } → wpAny (model X.prog X.w) X.A (f (.int i t) (.int j u)) Q E s) :
    OpR X f (rI C fun i j => .int (g i j)) := by
  intro pins s σ H x y v u Q I rx ry h
  obtain ⟨i, j, rfl, rfl, hc, q⟩ := h
  obtain ⟨t, rfl⟩ := rx
  obtain ⟨t', rfl⟩ := ry
  exact rule i j t t' s _ _ hc ⟨.int (g i j), H, I.tok _, ⟨_, rfl⟩, q⟩
theorem opI0 {f : Value → Value → Sem Value} {g : Int → Int → Int}
    (rule : ∀ (i j : Int) (t u : Tok) (s : Shared) (Q : Value → Shared → Prop) (E : Value → Shared → Prop), Q (.int (g i j) s.toks) { s with toks := s.toks + 1 } → wpAny (model X.prog X.w) X.A (f (.int i t) (.int j u)) Q E s) :
    OpR X f (rI0 fun i j => .int (g i j)) := by
  intro pins s σ H x y v u Q I rx ry h
  obtain ⟨i, j, rfl, rfl, q⟩ := h
  obtain ⟨t, rfl⟩ := rx
  obtain ⟨t', rfl⟩ := ry
  exact rule i j t t' s _ _ ⟨.int (g i j), H, I.tok _, ⟨_, rfl⟩, q⟩
theorem opB0 {f : Value → Value → Sem Value} {g : Int → Int → Bool}
    (rule : ∀ (i j : Int) (t u : Tok) (s : Shared) (Q : Value → Shared → Prop) (E : Value → Shared → Prop), Q (.bool (g i j)) s → wpAny (model X.prog X.w) X.A (f (.int i t) (.int j u)) Q E s) :
    OpR X f (rI0 fun i j => .bl (g i j)) := by
  intro pins s σ H x y v u Q I rx ry h
  obtain ⟨i, j, rfl, rfl, q⟩ := h
  obtain ⟨t, rfl⟩ := rx
  obtain ⟨t', rfl⟩ := ry
  exact rule i j t t' s _ _ ⟨.bl (g i j), H, I, rfl, q⟩

def CDiv (i j : Int) : Prop := 0 < j ∧ j < 1073741824
def CPow (i j : Int) : Prop := 0 ≤ j ∧ j ≤ 1000000 ∧ i.natAbs < 2 ^ 64
def CMul (i j : Int) : Prop := (-(2 ^ 64) < i ∧ i < 2 ^ 64) ∨ (-(2 ^ 64) < j ∧ j < 2 ^ 64)
theorem CMul.ok {i j : Int} (h : CMul i j) : IntMulOk i j := by
  rcases h with ⟨h1, h2⟩ | ⟨h1, h2⟩
  · exact .of_left (intBits_le_64 h1 h2)
  · exact .of_right (intBits_le_64 h1 h2)
theorem op_add : OpR X (binaryOp .Add) (rI0 fun i j => .int (i + j)) := opI0 fun _ _ _ _ _ _ _ q => add_int q
theorem op_sub : OpR X (binaryOp .Sub) (rI0 fun i j => .int (i - j)) := opI0 fun _ _ _ _ _ _ _ q => sub_int q
theorem op_mul : OpR X (binaryOp .Mult) (rI CMul fun i j => .int (i * j)) := opI fun _ _ _ _ _ _ _ hc q => mul_int q hc.ok
/-- // by a positive divisor -/
theorem op_fdiv : OpR X (binaryOp .FloorDiv) (rI CDiv fun i j => .int (i / j)) := opI fun i j _ _ _ _ _ hc q => by
  have h1 : (0 : Int) < j := hc.1
  have h2 : j < 1073741824 := hc.2
  exact floordiv_int (by omega) (by rw [Int.fdiv_eq_ediv_of_nonneg i (by omega)]; exact q) (.inl (PyProof.noPylong_small (by omega)))
/-- % by a positive divisor of any size -/
theorem op_mod : OpR X (binaryOp .Mod) (rI (fun _ j => 0 < j) fun i j => .int (i % j)) := opI fun i j _ _ _ _ _ hc q => by
  have h1 : (0 : Int) < j := hc
  exact mod_int' (by omega) (by rw [Int.fmod_eq_emod_of_nonneg i (by omega)]; exact q)
theorem op_pow : OpR X (binaryOp .Pow) (rI CPow fun i j => .int (i ^ j.toNat)) := opI fun _ _ _ _ _ _ _ hc q => pow_int_small hc.1 hc.2.1 hc.2.2 q
theorem unI {f : Value → Sem Value} {g : Int → Int}
    (rule : ∀ (i : Int) (t : Tok) (s : Shared) (Q : Value → Shared → Prop) (E : Value → Shared → Prop), Q (.int (g i) s.toks) { s with toks := s.toks + 1 } → wpAny (model X.prog X.w) X.A (f (.int i t)) Q E s) :
    UnR X f (rU fun i => .int (g i)) := by
  intro pins s σ H x v Q I rx h
  obtain ⟨i, rfl, q⟩ := h
  obtain ⟨t, rfl⟩ := rx
  exact rule i t s _ _ ⟨.int (g i), H, I.tok _, ⟨_, rfl⟩, q⟩
theorem un_neg : UnR X (unaryOp .USub) (rU fun i => .int (-i)) := unI fun _ _ _ _ _ q => neg_int q
/-! ### bools among ints: n += (a < b) -/
end

/-! ### comparisons -/
/-- the scalars that == tells apart as data does -/
def scal : V → V → Bool
  | .non, .non => true | .non, .int _ => true | .int _, .non => true | .non, .bl _ => true | .bl _, .non => true | .non, .str _ => true | .str _, .non => true
  | .int _, .int _ => true | .bl _, .bl _ => true | .str _, .str _ => true | .byt _, .byt _ => true
  | .int _, .str _ => true | .str _, .int _ => true | .bl _, .str _ => true | .str _, .bl _ => true
  | _, _ => false
def rEq : R2 := fun x y H Q => scal x y = true ∧ Q (.bl (decide (x = y))) H
def rNe : R2 := fun x y H Q => scal x y = true ∧ Q (.bl (!decide (x = y))) H

theorem dec_int {i j : Int} : decide (V.int i = V.int j) = (i == j) := by
  rw [Bool.eq_iff_iff]
  simp
theorem dec_bl {i j : Bool} : decide (V.bl i = V.bl j) = (i == j) := by
  rw [Bool.eq_iff_iff]
  simp
theorem dec_str {i j : Str} : decide (V.str i = V.str j) = (i == j) := by
  rw [Bool.eq_iff_iff]
  simp
theorem dec_byt {i j : Array UInt8} : decide (V.byt i = V.byt j) = (i.toList == j.toList) := by
  rw [Bool.eq_iff_iff]
  cases i
  cases j
  simp

section
variable {X : Cx} {a b c : Expr} {ta tb tc : TE} {pos : Pos}
theorem fin_bl {pins : List (Addr × Obj)} {σ : St} {H : Hp} {s : Shared} {Q : VK} {k k' : Bool} (I : Inv X pins σ H s) (q : Q (.bl k) H) (e : k = k') : EP X pins σ Q (.bool k') s := by
  subst e
  exact ⟨.bl k, H, I, rfl, q⟩
theorem op_eq : OpR X (compareOp .Eq) rEq := by
  intro pins s σ H x y v u Q I rx ry h
  obtain ⟨hs, q⟩ := h
  cases x with
  | non =>
    cases rx
    cases y with
    | non => cases ry; exact PySem.EqNone.eq_none_none (fin_bl I q (by simp))
    | bl j => cases ry; exact PySem.EqNone.eq_none_bool (fin_bl I q (by simp))
    | int j => obtain ⟨t', rfl⟩ := ry; exact PySem.EqNone.eq_none_int (fin_bl I q (by simp))
    | str j => obtain ⟨t', rfl⟩ := ry; exact PySem.EqNone.eq_none_str (fin_bl I q (by simp))
    | _ => exact absurd (show false = true from hs) Bool.false_ne_true
  | bl i =>
    cases rx
    cases y with
    | non => cases ry; exact PySem.EqNone.eq_bool_none (fin_bl I q (by simp))
    | bl j => cases ry; exact eq_bool (fin_bl I q dec_bl)
    | str j => obtain ⟨t', rfl⟩ := ry; exact PySem.EqMixed.eq_bool_str (fin_bl I q (by simp))
    | _ => exact absurd (show false = true from hs) Bool.false_ne_true
  | int i =>
    obtain ⟨t, rfl⟩ := rx
    cases y with
    | non => cases ry; exact PySem.EqNone.eq_int_none (fin_bl I q (by simp))
    | int j => obtain ⟨t', rfl⟩ := ry; exact eq_int (fin_bl I q dec_int)
    | str j => obtain ⟨t', rfl⟩ := ry; exact PySem.EqMixed.eq_int_str (fin_bl I q (by simp))
    | _ => exact absurd (show false = true from hs) Bool.false_ne_true
  | str i =>
    obtain ⟨t, rfl⟩ := rx
    cases y with
    | non => cases ry; exact PySem.EqNone.eq_str_none (fin_bl I q (by simp))
    | bl j => cases ry; exact PySem.EqMixed.eq_str_bool (fin_bl I q (by simp))
    | int j => obtain ⟨t', rfl⟩ := ry; exact PySem.EqMixed.eq_str_int (fin_bl I q (by simp))
    | str j => obtain ⟨t', rfl⟩ := ry; exact eq_str (fin_bl I q dec_str)
    | _ => exact absurd (show false = true from hs) Bool.false_ne_true
  | byt i =>
    obtain ⟨t, rfl⟩ := rx
    cases y with
    | byt j => obtain ⟨t', rfl⟩ := ry; exact PySem.W.eq_bytes (fin_bl I q dec_byt)
    | _ => exact absurd (show false = true from hs) Bool.false_ne_true
  | _ => cases y <;> exact absurd (show false = true from hs) Bool.false_ne_true
theorem op_ne : OpR X (compareOp .NotEq) rNe := by
  intro pins s σ H x y v u Q I rx ry h
  obtain ⟨hs, q⟩ := h
  cases x with
  | non =>
    cases rx
    cases y with
    | non => cases ry; exact PySem.EqNone.ne_none_none (fin_bl I q (by simp))
    | bl j => cases ry; exact PySem.EqNone.ne_none_bool (fin_bl I q (by simp))
    | int j => obtain ⟨t', rfl⟩ := ry; exact PySem.EqNone.ne_none_int (fin_bl I q (by simp))
    | str j => obtain ⟨t', rfl⟩ := ry; exact PySem.EqNone.ne_none_str (fin_bl I q (by simp))
    | _ => exact absurd (show false = true from hs) Bool.false_ne_true
  | bl i =>
    cases rx
    cases y with
    | non => cases ry; exact PySem.EqNone.ne_bool_none (fin_bl I q (by simp))
    | bl j => cases ry; exact ne_bool (fin_bl I q (congrArg not dec_bl))
    | str j => obtain ⟨t', rfl⟩ := ry; exact PySem.EqMixed.ne_bool_str (fin_bl I q (by simp))
    | _ => exact absurd (show false = true from hs) Bool.false_ne_true
  | int i =>
    obtain ⟨t, rfl⟩ := rx
    cases y with
    | non => cases ry; exact PySem.EqNone.ne_int_none (fin_bl I q (by simp))
    | int j => obtain ⟨t', rfl⟩ := ry; exact ne_int (fin_bl I q (congrArg not dec_int))
    | str j => obtain ⟨t', rfl⟩ := ry; exact PySem.EqMixed.ne_int_str (fin_bl I q (by simp))
    | _ => exact absurd (show false = true from hs) Bool.false_ne_true
  | str i =>
    obtain ⟨t, rfl⟩ := rx
    cases y with
    | non => cases ry; exact PySem.EqNone.ne_str_none (fin_bl I q (by simp))
    | bl j => cases ry; exact PySem.EqMixed.ne_str_bool (fin_bl I q (by simp))
    | int j => obtain ⟨t', rfl⟩ := ry; exact PySem.EqMixed.ne_str_int (fin_bl I q (by simp))
    | str j => obtain ⟨t', rfl⟩ := ry; exact ne_str (fin_bl I q (congrArg not dec_str))
    | _ => exact absurd (show false = true from hs) Bool.false_ne_true
  | byt i =>
    obtain ⟨t, rfl⟩ := rx
    cases y with
    | byt j => obtain ⟨t', rfl⟩ := ry; exact PySem.W.ne_bytes (fin_bl I q (congrArg not dec_byt))
    | _ => exact absurd (show false = true from hs) Bool.false_ne_true
  | _ => cases y <;> exact absurd (show false = true from hs) Bool.false_ne_true

theorem op_lt : OpR X (compareOp .Lt) (rI0 fun i j => .bl (decide (i < j))) := opB0 fun _ _ _ _ _ _ _ q => lt_int q
theorem op_gt : OpR X (compareOp .Gt) (rI0 fun i j => .bl (decide (j < i))) := opB0 fun _ _ _ _ _ _ _ q => gt_int q
theorem op_ge : OpR X (compareOp .GtE) (rI0 fun i j => .bl (decide (j ≤ i))) := opB0 fun _ _ _ _ _ _ _ q => ge_int q
/-- the one string within the other -/
theorem op_in_str : OpR X (compareOp .In) (fun x y H Q => ∃ i j, x = .str i ∧ y = .str j ∧ Q (.bl (!(Builtin.Str.occurrences j i 0 j.length 1).isEmpty)) H) := by
  intro pins s σ H x y v u Q I rx ry h
  obtain ⟨i, j, rfl, rfl, q⟩ := h
  obtain ⟨t, rfl⟩ := rx
  obtain ⟨t', rfl⟩ := ry
  exact in_str (fin_bl I q rfl)

/-- is None, is not None: the right side a value none -/
theorem op_isN : OpR X (compareOp .Is) (fun x y H Q => y = .non ∧ Q (.bl (decide (x = .non))) H) := by
  intro pins s σ H x y v u Q I rx ry h
  obtain ⟨rfl, q⟩ := h
  cases ry
  refine is_none_gen (fin_bl I q ?_)
  cases x <;> first
    | (cases rx; rfl)
    | (obtain ⟨t, rfl⟩ := rx; rfl)
theorem op_notN : OpR X (compareOp .IsNot) (fun x y H Q => y = .non ∧ Q (.bl (!decide (x = .non))) H) := by
  intro pins s σ H x y v u Q I rx ry h
  obtain ⟨rfl, q⟩ := h
  cases ry
  refine isnot_none_gen (fin_bl I q ?_)
  cases x <;> first
    | (cases rx; rfl)
    | (obtain ⟨t, rfl⟩ := rx; rfl)

theorem op_notin_str : OpR X (compareOp .NotIn) (fun x y H Q => ∃ i j, x = .str i ∧ y = .str j ∧ Q (.bl (!(!(Builtin.Str.occurrences j i 0 j.length 1).isEmpty))) H) := by
  intro pins s σ H x y v u Q I rx ry h
  obtain ⟨i, j, rfl, rfl, q⟩ := h
  obtain ⟨t, rfl⟩ := rx
  obtain ⟨t', rfl⟩ := ry
  exact notIn_str (fin_bl I q rfl)
theorem nomark (b : Expr) {op : CmpOp} (h : op ≠ .In := by decide) (h2 : op ≠ .NotIn := by decide) : behindInMarks op b = false := by
  have e1 : (op == CmpOp.In) = false := by cases op <;> first | rfl | exact absurd rfl h
  have e2 : (op == CmpOp.NotIn) = false := by cases op <;> first | rfl | exact absurd rfl h2
  cases b <;> simp [behindInMarks, e1, e2]
/-- a comparison as a value; hm: nomark b, or (for in, not in) by with_unfolding_all rfl -/
theorem pe_cmpR {op : CmpOp} {r : R2} (ho : OpR X (compareOp op) r) (ha : PE X a ta) (hb : PE X b tb) (hm : behindInMarks op b = false) : PE X (.Compare a [op] [b] pos) (tOp r ta tb) := .mk <| by
  intro pins s σ H Q I h
  exact wpAny_Compare1 (binT ha hb I h fun v u s2 x y H2 I2 rx ry q => ho pins s2 σ H2 x y v u Q I2 rx ry q) hm
/-- a reading of a value as a test -/
def tTest (t : TE) : TT := fun σ H Q => t σ H fun x H' => ∃ k, x = .bl k ∧ Q k H'
theorem pt_cmpR {op : CmpOp} {r : R2} (ho : OpR X (compareOp op) r) (ha : PE X a ta) (hb : PE X b tb) (hm : behindInMarks op b = false) : PT X (.Compare a [op] [b] pos) (tTest (tOp r ta tb)) := .mk <| by
  intro pins s σ H Q I h
  refine wpAny_isTrue_Compare1 (thn (ha pins s σ H _ I h) fun v s1 ⟨x, H1, I1, r1, q1⟩ => thn (hb pins s1 σ H1 _ I1 q1) fun u s2 ⟨y, H2, I2, r2, q2⟩ =>
    thn (ho pins s2 σ H2 x y v u _ I2 r1 r2 q2) fun c s3 ⟨z, H3, I3, r3, k, e, q3⟩ => ?_) hm
  subst e
  cases r3
  exact wpAny_truthy_bool ⟨H3, I3, q3⟩
/-- a op1 b op2 c -/
def tChain (r r' : R2) (ta tb tc : TE) : TE := fun σ H Q => ta σ H fun x H1 => tb σ H1 fun y H2 => r x y H2 fun z H3 => ∃ k, z = .bl k ∧
  (if k = true then tc σ H3 fun w' H4 => r' y w' H4 Q else Q (.bl false) H3)
theorem pt_chain {op op' : CmpOp} {r r' : R2} (ho : OpR X (compareOp op) r) (ho' : OpR X (compareOp op') r') (ha : PE X a ta) (hb : PE X b tb) (hc : PE X c tc)
    (hm : lastMarks [op, op'] [b, c] = false := by with_unfolding_all rfl) : PT X (.Compare a [op, op'] [b, c] pos) (tTest (tChain r r' ta tb tc)) := .mk <| by
  intro pins s σ H Q I h
  refine isTrue_chain (thn (ha pins s σ H _ I h) fun v s1 ⟨x, H1, I1, r1, q1⟩ => test_link (thn (hb pins s1 σ H1 _ I1 q1) fun u s2 ⟨y, H2, I2, r2, q2⟩ =>
    thn (ho pins s2 σ H2 x y v u _ I2 r1 r2 q2) fun d s3 ⟨z, H3, I3, r3, k, e, q3⟩ => ?_)) hm
  subst e
  cases r3
  refine wpAny_truthy_bool ?_
  cases k with
  | false =>
    obtain ⟨k', e', q'⟩ := q3
    cases e'
    exact ite_ff ⟨H3, I3, q'⟩
  | true =>
    refine ite_tt (test_last (thn (hc pins s3 σ H3 _ I3 q3) fun w' s4 ⟨z', H4, I4, r4, q4⟩ => thn (ho' pins s4 σ H4 y z' u w' _ I4 r2 r4 q4) fun d' s5 ⟨z2, H5, I5, r5, k2, e2, q5⟩ => ?_))
    subst e2
    cases r5
    exact wpAny_truthy_bool ⟨H5, I5, q5⟩

/-! ### truth -/
theorem line63 : (sizeLine : Nat) < 2 ^ 63 := by rw [sizeLine_eq]; decide
/-! ### strs and bytes -/
theorem op_add_str : OpR X (binaryOp .Add) (fun x y H Q => ∃ i j, x = .str i ∧ y = .str j ∧ i.length + j.length ≤ sizeLine ∧ Q (.str (i ++ j)) H) := by
  intro pins s σ H x y v u Q I rx ry h
  obtain ⟨i, j, rfl, rfl, hz, q⟩ := h
  obtain ⟨t, rfl⟩ := rx
  obtain ⟨t', rfl⟩ := ry
  exact add_str (fun t' tk => ⟨.str (i ++ j), H, I.tok _, ⟨_, rfl⟩, q⟩) hz
/-! ### scalar builtins, by CallR -/
theorem vals1 {x : V} {us : List Value} (r : Vals [x] us) : ∃ u, us = [u] ∧ RelV x u := by
  cases r with
  | cons r1 r2 => cases r2; exact ⟨_, rfl, r1⟩
theorem call_abs : CallR X (.builtin "abs") (fun xs H Q => ∃ i, xs = [.int i] ∧ Q (.int (if i < 0 then -i else i)) H) := by
  intro pins s σ H xs us Q I r h
  obtain ⟨i, rfl, q⟩ := h
  obtain ⟨u, rfl, t, rfl⟩ := vals1 r
  exact call_abs_int fun u tk => ⟨.int (if i < 0 then -i else i), H, I.tok _, ⟨_, rfl⟩, q⟩
theorem call_str_int : CallR X (.type "str") (fun xs H Q => ∃ i, xs = [.int i] ∧ i.natAbs.log2 < 1920 ∧ Q (.str (toString i)) H) := by
  intro pins s σ H xs us Q I r h
  obtain ⟨i, rfl, hz, q⟩ := h
  obtain ⟨u, rfl, t, rfl⟩ := vals1 r
  exact PySem.P.str_of_int hz ⟨.str _, H, I.tok _, ⟨_, rfl⟩, q⟩
end
end L2

namespace L2
open PySem PySem.Spec PyProof.Rows

/-! ### an instance, its attributes a map -/
section
variable {prog : Program} {w : World} {A : Around} {E : Value → Shared → Prop} {s : Shared} {K : PySem.W.Frag} {x dx C f : Addr} {mA : Str → Option Value} {name : Str} {v : Value}

end

/-! ### the attributes as a list of pairs -/
section
variable {P : Program} {w : World} {H H' : Hp} {h h' : Heap} {a C dx : Addr} {fs fs' : List (Str × V)}
end

/-! ### what of the text a class must have -/
section
variable {X : Cx} {pins : List (Addr × Obj)} {σ : St} {H : Hp} {s : Shared} {a C dx : Addr} {fs : List (Str × V)} {f : Str} {v : V} {A : Around} {E : Value → Shared → Prop}

end

/-! ### readings and rules -/
section
variable {X : Cx} {o e value : Expr} {f : Str} {pos pos' tpos : Pos} {ta tv : TE}
end

/-! ### isinstance -/
section
variable {X : Cx} {pins : List (Addr × Obj)} {σ : St} {H : Hp} {s : Shared} {A : Around} {E : Value → Shared → Prop} {Q : Value → Shared → Prop} {c : Value} {b : Bool}
end
end L2

namespace L2
open PySem PySem.Spec PyProof.Rows

/-! ### room -/
structure Room (k : Nat) (A : Around) : Prop where
  hd : A.handled = none
  dp : A.depth + 3 * k + 5 < recursionLimit
  un : A.units + 16 * k + 200 < cLine
theorem Room.mono {j k : Nat} {A : Around} (r : Room k A) (h : j ≤ k) : Room j A := ⟨r.hd, by have := r.dp; omega, by have := r.un; omega⟩
theorem Room.deeper {k : Nat} {A : Around} (r : Room (k + 1) A) (env : Env) : Room k (A.deeper env) :=
  ⟨r.hd, by have := r.dp; show A.depth + 1 + 3 * k + 5 < _; omega, by have := r.un; show A.units + 3 + 16 * k + 200 < _; omega⟩
theorem Room.depth {k : Nat} {A : Around} (r : Room k A) : A.depth < recursionLimit := by have := r.dp; omega
theorem Room.units {k : Nat} {A : Around} (r : Room k A) : A.units + 64 < cLine := by have := r.un; omega
/-! ### argument lists and displays -/
def tNil : TA := fun _ H Q => Q [] H
def tCons (ta : TE) (tr : TA) : TA := fun σ H Q => ta σ H fun x H1 => tr σ H1 fun xs H2 => Q (x :: xs) H2
section
variable {X : Cx} {e : Expr} {es : List Expr} {te : TE} {t : TA} {pos : Pos}
theorem pa_nil : PA X [] tNil := .mk <| fun _ _ _ _ H Q I h => Calls.spliced_nil ⟨[], H, I, .nil, h⟩
theorem pa_cons (ha : PE X e te) (hr : PA X es t) (hs : starEach (e :: es) X.env = (false, eval e X.env) :: starEach es X.env := by rfl) : PA X (e :: es) (tCons te t) := .mk <| by
  intro pos pins s σ H Q I h
  rw [hs]
  show wpAny _ _ (spliced ((false, eval e X.env) :: backTo pos (starEach es X.env))) _ _ s
  refine Calls.spliced_cons (thn (ha pins s σ H _ I h) fun u s1 ⟨x, H1, I1, r1, q1⟩ => ?_)
  exact thn (hr pos pins s1 σ H1 _ I1 q1) fun us s2 ⟨xs, H2, I2, r2, q2⟩ => ⟨x :: xs, H2, I2, .cons r1 r2, q2⟩

/-- a tuple, a list of written items -/
def tTup (t : TA) : TE := fun σ H Q => t σ H fun xs H1 => xs.length ≤ sizeLine ∧ ∀ p, H1 p = none → Q (.ref p) (upd H1 p (.tup xs))
def tLst (t : TA) : TE := fun σ H Q => t σ H fun xs H1 => xs.length ≤ sizeLine ∧ ∀ p, H1 p = none → Q (.ref p) (upd H1 p (.lst xs))
theorem pe_tup {x1} (h : PA X es t) : PE X (.Tuple es x1 pos) (tTup t) := .mk <| by
  intro pins s σ H Q I hq
  refine wpAny_Tuple_spliced (thn (h pos pins s σ H _ I hq) fun us s1 ⟨xs, H1, I1, r, z, q⟩ => ⟨by rw [← r.length]; exact z, ?_⟩)
  have hf : H1 s1.heap.objs.size = none := I1.hok.fresh (Nat.le_refl _)
  refine ⟨.ref s1.heap.objs.size, upd H1 s1.heap.objs.size (.tup xs), I1.laid (t' := s1.toks) (fun b u e => Heap.get?_push_of_some _ e) (Nat.le_refl _) ?_, rfl, q _ hf⟩
  exact ⟨z, us, r, ⟨_, Heap.get?_push_size _ rfl, rfl, _, rfl⟩⟩
theorem pe_lst (h : PA X es t) : PE X (.List es pos) (tLst t) := .mk <| by
  intro pins s σ H Q I hq
  refine wpAny_List_spliced (thn (h pos pins s σ H _ I hq) fun us s1 ⟨xs, H1, I1, r, z, q⟩ => ⟨by rw [← r.length]; exact z, ?_⟩)
  have hf : H1 s1.heap.objs.size = none := I1.hok.fresh (Nat.le_refl _)
  refine ⟨.ref s1.heap.objs.size, upd H1 s1.heap.objs.size (.lst xs), I1.laid (t' := s1.toks) (fun b u e => Heap.get?_push_of_some _ e) (Nat.le_refl _) ?_, rfl, q _ hf⟩
  exact ⟨z, us, 0, r, Heap.get?_push_size _ rfl⟩
end

/-! ### what a def promises -/
/-- a def's promise: the bound arguments in the parameters' order, the heap, the wanted end, the wanted exception -/
abbrev Sp := List V → Hp → VK → XK → Prop
/-- how an exception lies behind a call (file 08 gives it): the callers' frames, abstract heap and state ahead of the call, the wish, the exception, the state -/
abbrev CXT := List Env → Hp → Shared → XK → Value → Shared → Prop

/-- the state at a call -/
structure Env0 (P : Program) (w : World) (K : PySem.W.Frag) (mg : Str → Option Value) (base : Heap) (A : Around) (outer : List Env) (s : Shared) (H : Hp) : Prop where
  frames : A.frames = some outer
  mod : Mod K mg base
  bs : ∀ b o, base.get? b = some o → s.heap.get? b = some o ∧ H b = none
  bsz : base.objs.size ≤ s.heap.objs.size
  funs : s.heap.FunFrames base outer
  frf : ∀ b ∈ frs outer, H b = none
  hok : HOk P w H s.heap
  bare : AllBare s.gens
/-- a call's end -/
def CE (outer : List Env) (P : Program) (w : World) (H : Hp) (s : Shared) (Q : VK) (u : Value) (s' : Shared) : Prop :=
  ∃ v H', s'.os = s.os ∧ AllBare s'.gens ∧ Un (frs outer) [] H H' s.heap s'.heap ∧ HOk P w H' s'.heap ∧ RelV v u ∧ Q v H'
def CR (CX : CXT) (outer : List Env) (P : Program) (w : World) (H : Hp) (s : Shared) (Q : VK) (E : XK) (r : Result) (s' : Shared) : Prop :=
  match r with
  | .ok (.ret u) => CE outer P w H s Q u s'
  | .ok _ => False
  | .error e => CX outer H s E e s'
structure FnOk (P : Program) (w : World) (K : PySem.W.Frag) (mg : Str → Option Value) (base : Heap) (CX : CXT) (k : Nat) (f : Addr) (fd : FuncData) (ps : List Str) (sp : Sp) : Prop where
  len : ∀ vs H Q E, sp vs H Q E → vs.length = ps.length
  run : ∀ (A : Around) (outer : List Env) (s : Shared) (H : Hp) (args : Args) (us : List Value) (vs : List V) (Q : VK) (E : XK), Room k A → Env0 P w K mg base A outer s H → BindsTo s fd args (ps.zip us) → Vals vs us → sp vs H Q E →
    codeAny (model P w) A (.call (.ref f) args) (CR CX outer P w H s Q E) s
/-- a weaker promise -/
theorem FnOk.imp {P : Program} {w : World} {K : PySem.W.Frag} {mg : Str → Option Value} {base : Heap} {CX : CXT} {k : Nat} {f : Addr} {fd : FuncData} {ps : List Str} {sp sp' : Sp} (F : FnOk P w K mg base CX k f fd ps sp)
    (h : ∀ vs H Q E, sp' vs H Q E → sp vs H Q E) : FnOk P w K mg base CX k f fd ps sp' :=
  ⟨fun vs H Q E q => F.len vs H Q E (h _ _ _ _ q), fun A outer s H args us vs Q E hr he hb hv hs => F.run A outer s H args us vs Q E hr he hb hv (h _ _ _ _ hs)⟩

section
variable {X : Cx} {pins : List (Addr × Obj)} {σ : St} {H : Hp} {s s' : Shared}
/-- from a body: what a callee wants -/
theorem Inv.env0 (I : Inv X pins σ H s) : Env0 X.prog X.w X.K X.mg X.base X.A X.stack s H :=
  ⟨I.ok.frames, I.ok.mod, I.bs, Nat.le_trans I.ok.bsz I.sz, I.stack, I.stkFree, I.hok, I.bare⟩
/-- behind a call -/
theorem Inv.after {Q : VK} {u : Value} (I : Inv X pins σ H s) (h : CE X.stack X.prog X.w H s Q u s') : EP X pins σ Q u s' := by
  obtain ⟨v, H', os, bare, un, hok, r, q⟩ := h
  obtain ⟨hh, g, d, t, os'⟩ := s'
  obtain rfl : os' = s.os := os
  exact ⟨v, H', I.call (h' := hh) (g' := g) (d' := d) (t' := t) (ch := []) un hok bare (fun b z => absurd z (by simp)), r, q⟩
end

/-! ### calls -/
/-- f(..): the written arguments, then the defaults dvs; E: what is wanted of an exception -/
def tCall (sp : Sp) (dvs : List V) (E : XK) (t : TA) : TE := fun σ H Q => t σ H fun vs H1 => sp (vs ++ dvs) H1 Q E
/-- how the parameters are bound: us the positional arguments, kw the keywords' values by name, ds the defaults that fill up -/
def Binds (K : PySem.W.Frag) (fd : FuncData) (ps : List Str) (ds : List Value) : Prop :=
  ∀ (s : Shared) (us : List Value), K.In s.heap → (us ++ ds).length = ps.length → BindsTo s fd ⟨us, []⟩ (ps.zip (us ++ ds))
/-- every parameter is given -/
theorem Binds.all {K : PySem.W.Frag} {fd : FuncData} {ps : List Str} (h : ∀ us : List Value, us.length = ps.length → bindArgs fd ⟨us, []⟩ = pure (ps.zip us)) : Binds K fd ps [] := fun s us _ hl => by
  rw [List.append_nil] at hl ⊢
  exact .of_eq (h us hl)

/-- an exception of a callee reaches what this body wants of exceptions -/
def Passes (CX : CXT) (X : Cx) (E : XK) : Prop := ∀ (pins : List (Addr × Obj)) (σ : St) (H : Hp) (s : Shared) (e : Value) (s' : Shared), Inv X pins σ H s → CX X.stack H s E e s' → X.xe e s'

section
variable {X : Cx} {CX : CXT} {k : Nat} {f C : Addr} {fd : FuncData} {ps : List Str} {sp : Sp} {dvs : List V} {ds : List Value} {E : XK} {x m : Str} {p pos apos : Pos} {e o : Expr} {es : List Expr} {ta : TE} {t : TA}

/-- the callee runs -/
theorem run_fn {pins : List (Addr × Obj)} {σ : St} {H : Hp} {s : Shared} {Q : VK} {us : List Value} {vs : List V} (F : FnOk X.prog X.w X.K X.mg X.base CX k f fd ps sp) (hr : Room k X.A) (hb : Binds X.K fd ps ds) (hd : Vals dvs ds) (hx : Passes CX X E)
    (I : Inv X pins σ H s) (r : Vals vs us) (h : sp (vs ++ dvs) H Q E) : wpAny (model X.prog X.w) X.A (call (.ref f) us) (EP X pins σ Q) X.xe s := by
  have r2 : Vals (vs ++ dvs) (us ++ ds) := r.append hd
  have hl : (us ++ ds).length = ps.length := by rw [← r2.length]; exact F.len _ _ _ _ h
  refine wpAny_call (codeAny_mono (F.run X.A X.stack s H ⟨us, []⟩ (us ++ ds) (vs ++ dvs) Q E hr I.env0 (hb s us I.kIn hl) r2 h) fun r s' hq => ?_)
  cases r with
  | error e => exact hx pins σ H s e s' I hq
  | ok fl =>
    cases fl with
    | ret u => exact I.after hq
    | next => exact False.elim hq
    | brk => exact False.elim hq
    | cont => exact False.elim hq

theorem pe_call (F : FnOk X.prog X.w X.K X.mg X.base CX k f fd ps sp) (hr : Room k X.A) (hg : Gl X x) (hm : X.mg x = some (.ref f)) (hk : PySem.W.keepIn X.K (.ref f) = true) (hb : Binds X.K fd ps ds) (hd : Vals dvs ds) (hx : Passes CX X E)
    (ha : PA X (e :: es) t) (hdb : (x == ("__debug__" : Str)) = false := by decide) (he : starEach (e :: es) X.env = (false, eval e X.env) :: starEach es X.env := by rfl) (hpl : (backTo pos (starEach es X.env)).any (·.1) = false := by rfl) :
    PE X (.Call (.Name x p) (e :: es) [] pos) (tCall sp dvs E t) := .mk <| by
  intro pins s σ H Q I h
  refine wpAny_Call_Name_kw (ld_glob I hg hm ?_ hdb)
  refine PySem.W.callWith_K (h₀ := X.base) I.ok.mod.kin hk (thn (ha pos pins s σ H _ I h) fun us s1 ⟨vs, H1, I1, r, q⟩ => ⟨I1.kIn, ?_⟩) he hpl
  exact run_fn F hr hb hd hx I1 r q
theorem pe_call0 (F : FnOk X.prog X.w X.K X.mg X.base CX k f fd ps sp) (hr : Room k X.A) (hg : Gl X x) (hm : X.mg x = some (.ref f)) (hk : PySem.W.keepIn X.K (.ref f) = true) (hb : Binds X.K fd ps ds) (hd : Vals dvs ds) (hx : Passes CX X E)
    (hdb : (x == ("__debug__" : Str)) = false := by decide) : PE X (.Call (.Name x p) [] [] pos) (tCall sp dvs E tNil) := .mk <| by
  intro pins s σ H Q I h
  refine wpAny_Call_Name_kw (ld_glob I hg hm ?_ hdb)
  exact PySem.W.callWith_K0 I.kIn hk (run_fn (us := []) F hr hb hd hx I .nil h)

end

/-! ### keywords -/
section
variable {X : Cx} {CX : CXT} {k : Nat} {f C : Addr} {fd : FuncData} {ps ks : List Str} {sp : Sp} {E : XK} {x m : Str} {p pos apos kpos : Pos} {e o : Expr} {es : List Expr} {kws : List Keyword} {te ta : TE} {t tk : TA} {nm : Option Str}
variable {g : List Value → List Value → List Value} {gV : List V → List V → List V}
end

/-! ### a def's body keeps its promise -/
/-- names: the parameters first -/
structure FnScope (N P : List Str) (sc : Scope) : Prop where
  kind : sc.kind = .function
  co : sc.isCoroutine = false
  gen : sc.isGenerator = false
  nd : N.Nodup
  pre : N.take P.length = P
  par : ∀ x ∈ P, sc.names.lookup x = some .local ∨ sc.names.lookup x = some .cell
  nofree : ∀ y ∈ sc.names, y.2 ≠ .free

theorem bindL_out {kindOf : Str → Option NameKind} {x : Str} : ∀ {binds : List (Str × Value)} {m : Str → Option Value}, (∀ v, (x, v) ∉ binds) → bindL kindOf binds m x = m x
  | [], _, _ => rfl
  | (n, v) :: r, m, h => by
    unfold bindL
    rw [bindL_out fun w hw => h w (List.mem_cons_of_mem _ hw)]
    split
    · have : x ≠ n := by rintro rfl; exact h v List.mem_cons_self
      simp [this]
    · rfl
theorem bindC_out {kindOf : Str → Option NameKind} {x : Str} : ∀ {binds : List (Str × Value)} {m : Str → Option Value}, (∀ v, (x, v) ∉ binds) → bindC kindOf binds m x = m x
  | [], _, _ => rfl
  | (n, v) :: r, m, h => by
    unfold bindC
    rw [bindC_out fun w hw => h w (List.mem_cons_of_mem _ hw)]
    split
    · rfl
    · have : x ≠ n := by rintro rfl; exact h v List.mem_cons_self
      simp [this]
theorem bindL_get {kindOf : Str → Option NameKind} {x : Str} {v : Value} : ∀ {P : List Str} {vs : List Value} {i : Nat} {m : Str → Option Value}, P.Nodup → P[i]? = some x → vs[i]? = some v → kindOf x = some .local →
    bindL kindOf (P.zip vs) m x = some v
  | [], _, _, _, _, h, _, _ => by simp at h
  | _ :: _, [], _, _, _, _, h, _ => by simp at h
  | p :: P, w :: vs, 0, m, nd, h1, h2, hk => by
    simp at h1 h2; subst h1; subst h2
    show bindL kindOf ((p, w) :: P.zip vs) m p = _
    unfold bindL
    rw [bindL_out fun v hv => (List.nodup_cons.mp nd).1 (List.of_mem_zip hv).1, if_pos hk]
    simp
  | p :: P, w :: vs, i + 1, m, nd, h1, h2, hk => by
    show bindL kindOf ((p, w) :: P.zip vs) m x = _
    unfold bindL
    exact bindL_get (i := i) (List.nodup_cons.mp nd).2 (by simpa using h1) (by simpa using h2) hk
theorem bindC_get {kindOf : Str → Option NameKind} {x : Str} {v : Value} : ∀ {P : List Str} {vs : List Value} {i : Nat} {m : Str → Option Value}, P.Nodup → P[i]? = some x → vs[i]? = some v → kindOf x ≠ some .local →
    bindC kindOf (P.zip vs) m x = some v
  | [], _, _, _, _, h, _, _ => by simp at h
  | _ :: _, [], _, _, _, _, h, _ => by simp at h
  | p :: P, w :: vs, 0, m, nd, h1, h2, hk => by
    simp at h1 h2; subst h1; subst h2
    show bindC kindOf ((p, w) :: P.zip vs) m p = _
    unfold bindC
    rw [bindC_out fun v hv => (List.nodup_cons.mp nd).1 (List.of_mem_zip hv).1, if_neg hk]
    simp
  | p :: P, w :: vs, i + 1, m, nd, h1, h2, hk => by
    show bindC kindOf ((p, w) :: P.zip vs) m x = _
    unfold bindC
    exact bindC_get (i := i) (List.nodup_cons.mp nd).2 (by simpa using h1) (by simpa using h2) hk

/-- the names' values at the entry -/
def start (N : List Str) (vs : List V) : St := vs.map some ++ List.replicate (N.length - vs.length) none

/-- the context of a def's body, at its entry; an exception leaves the frame, then lies as CX says -/
def cxOf (CX : CXT) (P : Program) (w : World) (K : PySem.W.Frag) (mg : Str → Option Value) (base : Heap) (N : List Str) (qual : Str) (scope : Scope) (f : Addr) (cd : Value) (A : Around) (outer : List Env) (s : Shared) (H : Hp) (E : XK) : Cx where
  prog := P
  w := w
  K := K
  mg := mg
  base := base
  A := A.deeper (envOfC qual scope s.heap.objs.size f cd)
  N := N
  s₀ := s
  H₀ := H
  env := envOfC qual scope s.heap.objs.size f cd
  outer := outer
  stack := envOfC qual scope s.heap.objs.size f cd :: outer
  ex := []
  calm := true
  fn := fun _ => true
  pn := []
  xe := fun e s' => wpAny (model P w) (A.deeper (envOfC qual scope s.heap.objs.size f cd)) (leaving (envOfC qual scope s.heap.objs.size f cd) e) (fun _ s'' => CX outer H s E e s'') (fun e' s'' => CX outer H s E e' s'') s'

theorem cell_has {sc : Scope} {n : Nat} {x : Str} (h : sc.names.lookup x = some .cell) : ∃ c, (cellsFrom n sc.names []).lookup x = some c := by
  have q := PySem.W.cellsFrom_some sc.names n [] (.inl h)
  exact Option.isSome_iff_exists.mp q

theorem inv_start {CX : CXT} {P : Program} {w : World} {K : PySem.W.Frag} {mg : Str → Option Value} {base : Heap} {N ps : List Str} {qual : Str} {scope : Scope} {f : Addr} {cd : Value} {A : Around} {outer : List Env} {s s1 : Shared} {H : Hp} {E : XK} {us : List Value} {vs : List V}
    (S : FnScope N ps scope) (hd : A.handled = none) (e0 : Env0 P w K mg base A outer s H) (hl : vs.length = ps.length) (r : Vals vs us)
    (x : InCallC s s.heap.objs.size (bindL (envOfC qual scope s.heap.objs.size f cd).kindOf (ps.zip us) fun _ => none) (cellsFrom (s.heap.objs.size + 1) scope.names []) (bindC (envOfC qual scope s.heap.objs.size f cd).kindOf (ps.zip us) fun _ => none) s1) :
    Inv (cxOf CX P w K mg base N qual scope f cd A outer s H E) [] (start N vs) H s1 := by
  have hpl : ps.length ≤ N.length := by have := congrArg List.length S.pre; rw [List.length_take] at this; omega
  obtain ⟨h1, tk, rfl, hk⟩ := x.done
  have noA : ∀ b : Addr, b ∉ (cxOf CX P w K mg base N qual scope f cd A outer s H E).ex := fun b z => absurd (show b ∈ ([] : List Addr) from z) (by simp)
  refine ⟨⟨e0.mod, S.kind, rfl, rfl, Nat.le_refl _, fun y z c h1 h2 => ?_, fun y hy => ?_, fun y c _ h => ?_, fun _ => hd, Around.frames_deeper e0.frames, .inr ⟨rfl, rfl⟩, fun b z => absurd z (noA b), e0.bs, e0.bsz, fun b _ _ => noA b, fun b z => absurd z (noA b), e0.funs, e0.frf⟩,
    rfl, e0.bare, Un.kept hk, ⟨_, x.toInCall.ns, fun i y v h1 h2 h3 => ?_⟩, fun y c h => ⟨_, x.cell y c h⟩, e0.hok.fresh (Nat.le_refl _), fun y c h => ?_, fun p hp => absurd (show p ∈ ([] : List (Addr × Obj)) from hp) (by simp), e0.hok.kept hk, ?_⟩
  · exact name_of_addr x.apart (PySem.mem_of_lookup h1) (PySem.mem_of_lookup h2)
  · have hy : scope.names.lookup y = some .cell ∨ scope.names.lookup y = some .free := hy
    rcases hy with hy | hy
    · exact cell_has hy
    · exact absurd rfl (S.nofree _ (PySem.mem_of_lookup hy))
  · exact Nat.le_of_lt (x.above y c (PySem.mem_of_lookup h))
  · have hi : i < vs.length := by
      unfold start at h2
      by_cases hi : i < vs.length
      · exact hi
      · rw [List.getElem?_append_right (by simpa using hi)] at h2
        rw [List.getElem?_replicate] at h2
        split at h2 <;> cases h2
    have ha : vs[i]? = some v := by
      unfold start at h2
      rw [List.getElem?_append_left (by simpa using hi), List.getElem?_map] at h2
      cases e : vs[i]? with
      | none => rw [e] at h2; cases h2
      | some a => rw [e] at h2; cases h2; rfl
    obtain ⟨u, hu, rv⟩ := r.get ha
    have hp : ps[i]? = some y := by
      rw [← S.pre, List.getElem?_take_of_lt (by omega)]; exact h1
    have ndP : ps.Nodup := by rw [← S.pre]; exact S.nd.sublist (List.take_sublist _ _)
    refine ⟨u, rv, ?_⟩
    rcases S.par y (List.mem_of_getElem? hp) with k | k
    · exact .inl ⟨k, bindL_get ndP hp hu k⟩
    · obtain ⟨c, e⟩ := cell_has (n := s.heap.objs.size + 1) k
      refine .inr ⟨.inl k, c, e, ?_⟩
      have q := x.cell y c e
      rw [bindC_get ndP hp hu (by show scope.names.lookup y ≠ _; rw [k]; decide)] at q
      exact q
  · exact e0.hok.fresh (Nat.le_of_lt (x.above y c (PySem.mem_of_lookup h)))
  · unfold start
    show _ = N.length
    rw [List.length_append, List.length_map, List.length_replicate]
    omega

/-- THE RULE: a def (or a method) of the text, by its body. The body's reading t is chosen for each entry; it is run at the parameters' values -/
theorem fn_of {CX : CXT} {P : Program} {w : World} {K : PySem.W.Frag} {mg : Str → Option Value} {base : Heap} {k : Nat} {f : Addr} {name qual : Str} {params : Arguments} {body : List Stmt} {scope : Scope} {dV kV doc pm cdv ct oc : Value} {an od : Option Addr}
    {osl : Array (Option Value)} {N ps : List Str} {sp : Sp} (lk : K.lookup f = some ⟨oc, od, .func (PySem.W.fnOf name qual params body scope dV kV doc pm an cdv ct), osl⟩) (hcd : PySem.W.codeIn K cdv qual = true) (S : FnScope N ps scope)
    (len : ∀ vs H Q E, sp vs H Q E → vs.length = ps.length)
    (hbody : ∀ (A : Around) (outer : List Env) (s : Shared) (H : Hp) (vs : List V) (Q : VK) (E : XK), Room k (A.deeper (envOfC qual scope s.heap.objs.size f cdv)) → sp vs H Q E →
      ∃ t, PSs (cxOf CX P w K mg base N qual scope f cdv A outer s H E) body t ∧ t { nx := fun _ H' => Q .non H', rt := Q } (start N vs) H) :
    FnOk P w K mg base CX (k + 1) f (PySem.W.fnOf name qual params body scope dV kV doc pm an cdv ct) ps sp := by
  refine ⟨len, fun A outer s H args us vs Q E hr e0 hb r hsp => ?_⟩
  have hl := len _ _ _ _ hsp
  have KX : K.In s.heap := e0.mod.kin.keeps fun b o e => (e0.bs b o e).1
  have lim : s.heap.NoLimit := e0.mod.nolimit.keeps fun b o e => (e0.bs b o e).1
  have hkind : ∀ y ∈ ps.zip us, scope.names.lookup y.1 = some .local ∨ (scope.names.lookup y.1 = some .cell ∧ ((cellsFrom (s.heap.objs.size + 1) scope.names []).lookup y.1).isSome = true) := fun ⟨n, v⟩ hy => by
    rcases S.par n (List.of_mem_zip hy).1 with q | q
    · exact .inl q
    · exact .inr ⟨q, PySem.W.cellsFrom_some _ _ _ (.inl q)⟩
  refine codeAny_call_function hr.depth (KX _ _ lk) rfl S.co S.gen rfl (PySem.W.codeRec_of KX hcd) (hb _ _ _ _ ?_)
  refine wpAny_newFunctionEnv_cells S.kind hkind fun env he s1 x => ?_
  subst he
  refine ⟨lim.keeps x.toInCall.keep, codeAny_func ?_⟩
  obtain ⟨t, ht, hq⟩ := hbody A outer s H vs Q E (hr.deeper _) hsp
  have I : Inv (cxOf CX P w K mg base N qual scope f cdv A outer s H E) [] (start N vs) H s1 := inv_start S hr.hd e0 hl r x
  refine wpAny_mono (ht [] s1 (start N vs) H _ I hq) (fun fl s' hs => ?_) fun e s' hs => hs
  have fin : ∀ {σ' : St} {H' : Hp} {v : V} {u : Value}, Inv (cxOf CX P w K mg base N qual scope f cdv A outer s H E) [] σ' H' s' → RelV v u → Q v H' → CE outer P w H s Q u s' :=
    fun {σ' H' v u} J rv q => ⟨v, H', J.os, J.bare, J.base, J.hok, rv, q⟩
  cases fl with
  | ret u =>
    obtain ⟨v, σ', H', J, rv, q⟩ := hs
    exact fin J rv q
  | next =>
    obtain ⟨σ', H', J, q⟩ := hs
    exact fin (v := V.non) (u := Value.none) J rfl q
  | brk =>
    obtain ⟨_, _, _, q⟩ := hs
    exact False.elim q
  | cont =>
    obtain ⟨_, _, _, q⟩ := hs
    exact False.elim q
end L2

namespace L2
open PySem PySem.Spec PyProof.Rows
section
variable {X : Cx} {x : Str} {p pos : Pos} {e : Expr} {es : List Expr} {t : TA} {id T : String} {r : List V → Hp → VK → Prop}

def tCB (r : List V → Hp → VK → Prop) (t : TA) : TE := fun σ H Q => t σ H fun vs H1 => r vs H1 Q
/-- f(e, ..), f a built-in function -/
theorem pe_callB (hc : CallR X (.builtin id) r) (hg : Gl X x) (hm : X.mg x = none) (hv : bootBuiltins x = some (.builtin id)) (ha : PA X (e :: es) t) (hn : x ≠ "__name__" := by decide) (hdb : (x == ("__debug__" : Str)) = false := by decide)
    (he : starEach (e :: es) X.env = (false, eval e X.env) :: starEach es X.env := by rfl) (hpl : (backTo pos (starEach es X.env)).any (·.1) = false := by rfl) : PE X (.Call (.Name x p) (e :: es) [] pos) (tCB r t) := .mk <| by
  intro pins s σ H Q I h
  refine wpAny_Call_Name_kw (ld_blt I hg hm hv ?_ hn hdb)
  exact PyProof.Rows.callWith_builtin1 (thn (ha pos pins s σ H _ I h) fun us s1 ⟨vs, H1, I1, r1, q1⟩ => hc pins s1 σ H1 vs us Q I1 r1 q1) he hpl
/-- T(e, ..), T a built-in type -/
theorem pe_callTy (hc : CallR X (.type T) r) (hg : Gl X x) (hm : X.mg x = none) (hv : bootBuiltins x = some (.type T)) (ha : PA X (e :: es) t) (hn : x ≠ "__name__" := by decide) (hdb : (x == ("__debug__" : Str)) = false := by decide)
    (he : starEach (e :: es) X.env = (false, eval e X.env) :: starEach es X.env := by rfl) (hpl : (backTo pos (starEach es X.env)).any (·.1) = false := by rfl) : PE X (.Call (.Name x p) (e :: es) [] pos) (tCB r t) := .mk <| by
  intro pins s σ H Q I h
  refine wpAny_Call_Name_kw (ld_blt I hg hm hv ?_ hn hdb)
  exact PyProof.Rows.callWith_type1 (thn (ha pos pins s σ H _ I h) fun us s1 ⟨vs, H1, I1, r1, q1⟩ => hc pins s1 σ H1 vs us Q I1 r1 q1) he hpl
end
end L2

namespace HT
open PySem PyProof.Rows

section
open PySem.SeqAt
open PySem.AutoSeq1 (wpAny_loadPart')
open PySem.MeetsSeq PySem.MeetsSeq2 PySem.MeetsSeq3

end

section
variable {prog : Program} {w : World} {A : Around} {E : Value → Shared → Prop} {s : Shared}

/-- t + u, t not empty -/
theorem cat_tup {t b : Addr} {vs ws : List Value} {Q : Value → Shared → Prop} (ht : IsTup s.heap t vs.toArray) (hb : IsTup s.heap b ws.toArray) (hv : vs ≠ [])
    (h1 : ws = [] → Q (.ref t) s) (h2 : ws ≠ [] → Q (.ref s.heap.objs.size) { s with heap := s.heap.push { cls := .type "tuple", data := .seq (vs ++ ws).toArray } })
    (hsz : vs.length + ws.length ≤ sizeLine) : wpAny (model prog w) A (binaryOp .Add (.ref t) (.ref b)) Q E s := by
  obtain ⟨⟨cls, dd, data, sl⟩, ho, hc, n, hd⟩ := id ht
  obtain ⟨⟨cls2, dd2, data2, sl2⟩, ho2, hc2, n2, hd2⟩ := id hb
  simp only at hc hd hc2 hd2
  subst hc hd hc2 hd2
  have e : vs.toArray ++ ws.toArray = (vs ++ ws).toArray := by simp
  by_cases hw : ws = []
  · exact concat_meets ⟨_, ho, rfl⟩ ⟨_, ho2, rfl⟩ noFill_tuple_add seq_tuple_add PySem.F.slot_tuple_add PySem.F.entry_tuple_add (PySem.F.args_tuple_add_2 _ _)
      (tuple_addW1 t b vs.toArray ws.toArray n n2 dd dd2 sl sl2 (by simpa using hv) (by simp [hw])) ⟨ho, ho2, h1 hw⟩
  · refine concat_meets ⟨_, ho, rfl⟩ ⟨_, ho2, rfl⟩ noFill_tuple_add seq_tuple_add PySem.F.slot_tuple_add PySem.F.entry_tuple_add (PySem.F.args_tuple_add_2 _ _)
      (tuple_addW2 t b vs.toArray ws.toArray n n2 dd dd2 sl sl2 (by simpa using hv) (by simpa using hw) (by rw [List.size_toArray, List.size_toArray]; exact hsz)) ⟨ho, ho2, ?_⟩
    rw [e]
    exact h2 hw

/-! ### t[a:b], not the whole -/
/-- a slice's bound as a place among n (d where it is left out) -/
def sIx (n d : Nat) : Option Int → Nat
  | none => d
  | some v => if v < 0 then (v + (n : Int)).toNat else min v.toNat n
theorem sIx_none (n d : Nat) : sIx n d none = d := rfl
theorem sIx_nat (n d k : Nat) : sIx n d (some (k : Int)) = min k n := by
  show (if (k : Int) < 0 then ((k : Int) + (n : Int)).toNat else min (k : Int).toNat n) = min k n
  rw [if_neg (by omega), Int.toNat_natCast]
theorem sIx_le (n d : Nat) (hd : d ≤ n) (o : Option Int) : sIx n d o ≤ n := by
  cases o with
  | none => exact hd
  | some v =>
    show (if v < 0 then (v + (n : Int)).toNat else min v.toNat n) ≤ n
    by_cases hv : v < 0
    · rw [if_pos hv]; omega
    · rw [if_neg hv]; exact Nat.min_le_right _ _
theorem clip_eq (v : Int) (n d : Nat) : (if v < 0 then max (v + (n : Int)) 0 else min v (n : Int)) = ((sIx n d (some v) : Nat) : Int) := by
  show (if v < 0 then max (v + (n : Int)) 0 else min v (n : Int)) = (((if v < 0 then (v + (n : Int)).toNat else min v.toNat n) : Nat) : Int)
  by_cases hv : v < 0
  · simp only [if_pos hv]; omega
  · simp only [if_neg hv]; omega
theorem adjust_gen (lo hi : Option Int) (n : Nat) : Builtin.Slice.sliceAdjust lo hi 1 (n : Int) = (((sIx n 0 lo : Nat) : Int), ((sIx n n hi : Nat) : Int)) := by
  have h1 : ¬ ((1 : Int) < 0) := by omega
  unfold Builtin.Slice.sliceAdjust
  simp only [h1, if_false]
  refine Prod.ext ?_ ?_
  · cases lo with
    | none => rfl
    | some v => exact clip_eq v n 0
  · cases hi with
    | none => rfl
    | some v => exact clip_eq v n n
theorem places_gen (i j : Nat) : Builtin.Slice.slicePlaces (i : Int) (j : Int) 1 = j - i := by
  unfold Builtin.Slice.slicePlaces
  have h1 : (1 : Int) > 0 := by omega
  simp only [h1, if_true, Int.ediv_one]
  split <;> omega
theorem slicePart_ {v : Value} {o : Option Int} {Q : Option Int → Shared → Prop} (p : IsPart v o) (h : Q o s) : wpAny (model prog w) A (Builtin.Slice.slicePartIndex v) Q E s := by
  cases p with
  | none => exact slicePart_none h
  | int i t => exact slicePart_int h
theorem sliceApplied_gen {sl : Addr} {vl vu : Value} {lo hi : Option Int} {n : Nat} {Q : Int × Int × Nat → Shared → Prop} (hs : s.heap.IsSliceOf sl vl vu .none) (pl : IsPart vl lo) (pu : IsPart vu hi)
    (h : Q (((sIx n 0 lo : Nat) : Int), 1, sIx n n hi - sIx n 0 lo) s) : wpAny (model prog w) A (Builtin.Slice.sliceApplied (.ref sl) (pure (n : Int))) Q E s := by
  obtain ⟨os, hos, hcs, hds⟩ := id hs
  unfold Builtin.Slice.sliceApplied Builtin.Slice.sliceFields
  refine wpAny_bind (wpAny_bind (wpAny_field hos hds (x := vl) rfl (wpAny_bind (wpAny_field hos hds (x := vu) rfl (wpAny_bind (wpAny_field hos hds (x := .none) rfl (wpAny_pure ?_)))))))
  refine wpAny_bind (slicePart_none ?_)
  show wpAny _ _ (if ((1 : Int) == 0) = true then _ else _) _ _ s
  rw [if_neg (by decide)]
  refine wpAny_bind (slicePart_ pl (wpAny_bind (slicePart_ pu (wpAny_bind (wpAny_pure ?_)))))
  show wpAny _ _ (match Builtin.Slice.sliceAdjust lo hi 1 (n : Int) with | (lo, hi) => pure (lo, (1 : Int), Builtin.Slice.slicePlaces lo hi 1)) _ _ s
  rw [adjust_gen lo hi n]
  show wpAny _ _ (pure (((sIx n 0 lo : Nat) : Int), (1 : Int), Builtin.Slice.slicePlaces ((sIx n 0 lo : Nat) : Int) ((sIx n n hi : Nat) : Int) 1)) _ _ s
  rw [places_gen]
  exact wpAny_pure h
theorem pick_gen (xs : Array Value) (i k : Nat) : ((List.range k).filterMap fun (m : Nat) => xs[((i : Int) + (m : Int) * 1).toNat]?).toArray = ((xs.toList.drop i).take k).toArray := by
  have e : (fun (m : Nat) => xs[((i : Int) + (m : Int) * 1).toNat]?) = fun m => xs[i + m]? := by
    funext m
    have : ((i : Int) + (m : Int) * 1).toNat = i + m := by omega
    rw [this]
  rw [e]
  have := pick_run xs i k
  rw [List.filterMap_map] at this
  have e2 : ((fun x => xs[x]?) ∘ fun x => i + x) = fun m => xs[i + m]? := rfl
  rw [e2] at this
  rw [this]

theorem getItem_tuple_cut {t sl : Addr} {items : Array Value} {vl vu : Value} {lo hi : Option Int} {Q : Value → Shared → Prop} (ht : IsTup s.heap t items) (hs : s.heap.IsSliceOf sl vl vu .none) (pl : IsPart vl lo) (pu : IsPart vu hi)
    (hw : ¬ (sIx items.size 0 lo = 0 ∧ sIx items.size items.size hi = items.size))
    (h : Q (.ref s.heap.objs.size) { s with heap := s.heap.push { cls := .type "tuple", data := .seq ((items.toList.drop (sIx items.size 0 lo)).take (sIx items.size items.size hi - sIx items.size 0 lo)).toArray } })
    (hsz : items.size ≤ sizeLine) : wpAny (model prog w) A (getItem (.ref t) (.ref sl)) Q E s := by
  have htake : sizeOk (.seq ((items.toList.drop (sIx items.size 0 lo)).take (sIx items.size items.size hi - sIx items.size 0 lo)).toArray) := by
    show ((items.toList.drop (sIx items.size 0 lo)).take (sIx items.size items.size hi - sIx items.size 0 lo)).toArray.size ≤ sizeLine
    rw [List.size_toArray, List.length_take, List.length_drop, Array.length_toList]
    omega
  have hj : sIx items.size items.size hi ≤ items.size := sIx_le _ _ (Nat.le_refl _) hi
  obtain ⟨os, hos, hcs, hds⟩ := id hs
  have hTs : s.TypeIs (.ref sl) "slice" := ⟨os, hos, hcs⟩
  unfold getItem
  try with_reducible refine wpAny_holding ?_
  first | refine wpAny_bind (wpAny_pure ?_) | skip
  refine wpAny_bind (wpAny_sequenceKey ht.typeIs (by decide) ?_)
  refine wpAny_bind (wpAny_callSpecial?_slot (name := Str.ofString "__getitem__") ht.typeIs PyProof.Rows.slot_tuple_getitem
    (wpAny_call_entry PyProof.Rows.slot_tuple_getitem ht.typeIs entry_tuple_getitem ?_ (args_tuple_getitem _ _)))
  show wpAny _ _ (Builtin.Tuple.tupleItemsOf (.ref t) >>= _) _ _ s
  refine wpAny_bind (tupleItemsOf_ ht ?_)
  refine wpAny_bind (wpAny_typeOf hTs ?_)
  rw [if_pos (by decide)]
  refine wpAny_bind (sliceApplied_gen hs pl pu ?_)
  have hno : ¬ ((((sIx items.size 0 lo : Nat) : Int) == 0 && (1 : Int) == 1 && (sIx items.size items.size hi - sIx items.size 0 lo) == items.size) = true) := by
    intro q
    rw [Bool.and_eq_true, Bool.and_eq_true] at q
    have q1 : ((sIx items.size 0 lo : Nat) : Int) = 0 := eq_of_beq q.1.1
    have q2 : sIx items.size items.size hi - sIx items.size 0 lo = items.size := eq_of_beq q.2
    exact hw ⟨by omega, by omega⟩
  show wpAny _ _ (if (((sIx items.size 0 lo : Nat) : Int) == 0 && (1 : Int) == 1 && (sIx items.size items.size hi - sIx items.size 0 lo) == items.size) = true then _ else _) _ _ s
  rw [if_neg hno, pick_gen]
  first
    | exact wpAny_bind (m := Builtin.Tuple.tupleExact _) (wpAny_newObj_type (wpAny_pure ⟨_, rfl, wpAny_pure h⟩) htake)
    | exact wpAny_bind (m := Builtin.Tuple.tupleExact _) (wpAny_newObj_type (wpAny_bind (wpAny_pure (wpAny_pure ⟨_, rfl, wpAny_pure h⟩))) htake)
    | exact wpAny_bind (wpAny_bind (m := Builtin.Tuple.tupleExact _) (wpAny_newObj_type (wpAny_pure (wpAny_pure ⟨_, rfl, wpAny_pure h⟩)) htake))
    | exact wpAny_bind (wpAny_bind (m := Builtin.Tuple.tupleExact _) (wpAny_newObj_type (wpAny_pure ⟨_, rfl, wpAny_pure h⟩) htake))
end
end HT

namespace L2
open PySem PySem.Spec PyProof.Rows

/-! ### the parts of a slice -/
abbrev TO := St → Hp → (Option Int → Hp → Prop) → Prop
/-- a slice's part (left out, or an int) -/
def PO (X : Cx) (e : Option Expr) (t : TO) : Prop :=
  ∀ (pins : List (Addr × Obj)) (s : Shared) (σ : St) (H : Hp) (Q : Option Int → Hp → Prop), Inv X pins σ H s → t σ H Q →
    wpAny (model X.prog X.w) X.A (evalPart e X.env) (fun u s' => ∃ o H', Inv X pins σ H' s' ∧ IsPart u o ∧ Q o H') X.xe s
def tNoPart : TO := fun _ H Q => Q none H
def tPart (t : TE) : TO := fun σ H Q => t σ H fun x H1 => ∃ i, x = .int i ∧ Q (some i) H1

section
variable {X : Cx} {e : Expr} {te : TE} {lo hi : Option Expr} {tl th : TO} {pos p2 : Pos}

theorem po_none : PO X none tNoPart := by
  intro pins s σ H Q I h
  rw [evalPart_none]
  exact wpAny_pure ⟨none, H, I, .none, h⟩
theorem po_some (h : PE X e te) : PO X (some e) (tPart te) := by
  intro pins s σ H Q I hw
  rw [evalPart_some]
  refine thn (h pins s σ H _ I hw) fun u s1 ⟨x, H1, I1, r1, q1⟩ => ?_
  obtain ⟨i, rfl, q⟩ := q1
  obtain ⟨t, rfl⟩ := r1
  exact ⟨some i, H1, I1, .int i t, q⟩

/-- what a slice of a value is, by values: the slice object stands at sl -/
def SlR (X : Cx) (r : V → Option Int → Option Int → Hp → VK → Prop) : Prop :=
  ∀ (pins : List (Addr × Obj)) (s : Shared) (σ : St) (H : Hp) (x : V) (v vl vu : Value) (lo hi : Option Int) (sl : Addr) (Q : VK), Inv X pins σ H s → RelV x v → s.heap.IsSliceOf sl vl vu .none → IsPart vl lo → IsPart vu hi → r x lo hi H Q →
    ∃ T id, typeLookup (.type T) "__getitem__" = pure (some (.builtin id)) ∧ s.TypeIs v T ∧ wpAny (model X.prog X.w) X.A (getItem v (.ref sl)) (EP X pins σ Q) X.xe s
def tSl (r : V → Option Int → Option Int → Hp → VK → Prop) (te : TE) (tl th : TO) : TE := fun σ H Q => te σ H fun x H1 => tl σ H1 fun l H2 => th σ H2 fun u H3 => r x l u H3 Q
/-- a[lo:hi], any a -/
theorem pe_slice {r : V → Option Int → Option Int → Hp → VK → Prop} (hr : SlR X r) (he : PE X e te) (hl : PO X lo tl) (hu : PO X hi th) : PE X (.Subscript e (.Slice lo hi none p2) pos) (tSl r te tl th) := .mk <| by
  intro pins s σ H Q I h
  refine Subscript_ (thn (he pins s σ H _ I h) fun v s1 ⟨x, H1, I1, r1, q1⟩ => ?_)
  refine wpAny_Slice (thn (hl pins s1 σ H1 _ I1 q1) fun vl s2 ⟨l, H2, I2, pl, q2⟩ => thn (hu pins s2 σ H2 _ I2 q2) fun vu s3 ⟨u, H3, I3, pu, q3⟩ => ?_)
  rw [evalPart_none]
  refine wpAny_pure ?_
  have I4 : Inv X pins σ H3 { s3 with heap := s3.heap.push { cls := .type "slice", data := .fields #[vl, vu, .none] } } := I3.kept (t' := s3.toks) fun b ob q => Heap.get?_push_of_some _ q
  obtain ⟨T, id, hT, ht, hg⟩ := hr pins { s3 with heap := s3.heap.push { cls := .type "slice", data := .fields #[vl, vu, .none] } } σ H3 x v vl vu l u s3.heap.objs.size Q I4 r1 (Heap.IsSliceOf.new ..) pl pu q3
  show wpAny (model X.prog X.w) X.A (subscriptTail e (.Slice lo hi none p2) v (.ref s3.heap.objs.size)) (EP X pins σ Q) X.xe { s3 with heap := s3.heap.push { cls := .type "slice", data := .fields #[vl, vu, .none] } }
  exact tail_any (ops := [.ref s3.heap.objs.size, v]) ht hT hg (by with_unfolding_all rfl)

/-- the items of xs[lo:hi] -/
def cutV (xs : List V) (lo hi : Option Int) : List V := (xs.drop (HT.sIx xs.length 0 lo)).take (HT.sIx xs.length xs.length hi - HT.sIx xs.length 0 lo)
theorem cutV_length (xs : List V) (lo hi : Option Int) : (cutV xs lo hi).length ≤ xs.length := by
  unfold cutV
  rw [List.length_take, List.length_drop]
  omega
/-- t[lo:hi], not the whole of it (the whole would be t itself) -/
def rSlT (K : PySem.W.Frag) : V → Option Int → Option Int → Hp → VK → Prop := fun x lo hi H Q => ∃ a xs, x = .ref a ∧ SqT K H a xs ∧
  ¬ (HT.sIx xs.length 0 lo = 0 ∧ HT.sIx xs.length xs.length hi = xs.length) ∧ ∀ p, H p = none → Q (.ref p) (upd H p (.tup (cutV xs lo hi)))
theorem sl_tup : SlR X (rSlT X.K) := by
  intro pins s σ H x v vl vu lo hi sl Q I rx hs pl pu h
  obtain ⟨a, xs, rfl, hx, hw, q⟩ := h
  cases rx
  obtain ⟨its, r, ht, hz⟩ := I.tuple hx
  have hlen : its.toArray.size = xs.length := by rw [List.size_toArray]; exact r.length.symm
  refine ⟨"tuple", _, PyProof.Rows.slot_tuple_getitem.lookup, ht.typeIs, ?_⟩
  refine HT.getItem_tuple_cut ht hs pl pu (by rw [hlen]; exact hw) ?_ (by rw [hlen]; exact hz)
  rw [hlen]
  refine ⟨.ref s.heap.objs.size, _, I.laid (t' := s.toks) (o := .tup (cutV xs lo hi)) (fun b ob q => Heap.get?_push_of_some _ q) (Nat.le_refl _) ?_, rfl, q _ (I.hok.fresh (Nat.le_refl _))⟩
  exact ⟨Nat.le_trans (cutV_length xs lo hi) hz, _, (r.drop (HT.sIx xs.length 0 lo)).take (HT.sIx xs.length xs.length hi - HT.sIx xs.length 0 lo), IsTup.new _ _⟩

/-! ### t < u, t + u -/
/-- t + u, t not empty: u empty gives t itself -/
def rCatT (K : PySem.W.Frag) : R2 := fun x y H Q => ∃ a b xs ys, x = .ref a ∧ y = .ref b ∧ SqT K H a xs ∧ SqT K H b ys ∧ xs ≠ [] ∧ xs.length + ys.length ≤ sizeLine ∧
  (ys = [] → Q (.ref a) H) ∧ (ys ≠ [] → ∀ p, H p = none → Q (.ref p) (upd H p (.tup (xs ++ ys))))
theorem Vals.nil_iff {xs : List V} {us : List Value} (r : Vals xs us) : us = [] ↔ xs = [] := by
  cases r with
  | nil => simp
  | cons _ _ => simp
theorem op_catT : OpR X (binaryOp .Add) (rCatT X.K) := by
  intro pins s σ H x y v u Q I rx ry h
  obtain ⟨a, b, xs, ys, rfl, rfl, ha, hb, hx, hz, q1, q2⟩ := h
  cases rx
  cases ry
  obtain ⟨its, r1, p1, _⟩ := I.tuple ha
  obtain ⟨its2, r2, p2, _⟩ := I.tuple hb
  refine HT.cat_tup p1 p2 (fun z => hx (r1.nil_iff.mp z)) (fun z => ⟨.ref a, H, I, rfl, q1 (r2.nil_iff.mp z)⟩) (fun z => ?_) (by rw [← r1.length, ← r2.length]; exact hz)
  refine ⟨.ref s.heap.objs.size, _, I.laid (t' := s.toks) (o := .tup (xs ++ ys)) (fun b ob q => Heap.get?_push_of_some _ q) (Nat.le_refl _) ?_, rfl, q2 (fun w => z (r2.nil_iff.mpr w)) _ (I.hok.fresh (Nat.le_refl _))⟩
  exact ⟨by rw [List.length_append]; exact hz, _, r1.append r2, IsTup.new _ _⟩
end
end L2

namespace L2
open PySem PySem.Spec PyProof.Rows

/-! ### places -/
/-- the place that an index of any sign means -/
def ixN (n : Nat) (i : Int) : Option Nat := if 0 ≤ i then (if i < n then some i.toNat else none) else if -(n : Int) ≤ i then some (i + n).toNat else none
def atI {α : Type} (xs : List α) (i : Int) : Option α := (ixN xs.length i).bind fun j => xs[j]?
theorem ixN_seq {n : Nat} {i : Int} {j : Nat} (h : ixN n i = some j) : seqIndex? i n = some j ∧ j < n ∧ -(n : Int) ≤ i ∧ i < n := by
  unfold ixN at h
  by_cases h0 : 0 ≤ i
  · rw [if_pos h0] at h
    by_cases h1 : i < n
    · rw [if_pos h1] at h
      have e : i.toNat = j := Option.some.inj h
      exact ⟨by rw [seqIndex_of h0 h1, e], by omega, by omega, h1⟩
    · rw [if_neg h1] at h; cases h
  · rw [if_neg h0] at h
    by_cases h1 : -(n : Int) ≤ i
    · rw [if_pos h1] at h
      have e : (i + n).toNat = j := Option.some.inj h
      exact ⟨by rw [seqIndex_neg (by omega) h1, e], by omega, h1, by omega⟩
    · rw [if_neg h1] at h; cases h
theorem atI_get {α : Type} {xs : List α} {i : Int} {v : α} (h : atI xs i = some v) : ∃ j, seqIndex? i xs.length = some j ∧ xs[j]? = some v ∧ j < xs.length ∧ -(xs.length : Int) ≤ i ∧ i < xs.length := by
  unfold atI at h
  cases e : ixN xs.length i with
  | none => rw [e] at h; cases h
  | some j =>
    rw [e] at h
    obtain ⟨h1, h2, h3, h4⟩ := ixN_seq e
    exact ⟨j, h1, h, h2, h3, h4⟩
theorem atI_nat {α : Type} {xs : List α} {j : Nat} {v : α} (h : xs[j]? = some v) : atI xs (j : Int) = some v := by
  have hj : j < xs.length := (List.getElem?_eq_some_iff.mp h).1
  have e : ixN xs.length (j : Int) = some j := by
    unfold ixN
    rw [if_pos (by omega), if_pos (by omega)]; simp
  unfold atI; rw [e]; exact h
/-! ### what may be subscripted -/
/-- what stands as an index of a plain subscript -/
def PlainIx (b : Expr) : Prop := ∀ o i, subscripted b false o i = operate [o, i] (getItem o i)
/-- a subscript by values -/
def IxR (X : Cx) (r : R2) : Prop :=
  ∀ (value slice : Expr) (pins : List (Addr × Obj)) (s : Shared) (σ : St) (H : Hp) (x y : V) (v u : Value) (Q : VK), Inv X pins σ H s → RelV x v → RelV y u → r x y H Q →
    subscripted slice false v u = operate [v, u] (getItem v u) → wpAny (model X.prog X.w) X.A (subscriptTail value slice v u) (EP X pins σ Q) X.xe s
/-- a call of a builtin's method by values: the receiver, the arguments -/
def MtR (X : Cx) (id : String) (r : V → List V → Hp → VK → Prop) : Prop :=
  ∀ (pins : List (Addr × Obj)) (s : Shared) (σ : St) (H : Hp) (x : V) (xs : List V) (v : Value) (us : List Value) (Q : VK), Inv X pins σ H s → RelV x v → Vals xs us → r x xs H Q →
    wpAny (model X.prog X.w) X.A (call (.builtin id) (v :: us)) (EP X pins σ Q) X.xe s
section
variable {X : Cx} {a b : Expr} {ta tb : TE} {pos : Pos}
/-- a[b] -/
theorem pe_ix {r : R2} (hr : IxR X r) (ha : PE X a ta) (hb : PE X b tb) (hs : PlainIx b) : PE X (.Subscript a b pos) (tOp r ta tb) := .mk <| by
  intro pins s σ H Q I h
  exact Subscript_ (binT ha hb I h fun v u s2 x y H2 I2 rx ry q => hr a b pins s2 σ H2 x y v u Q I2 rx ry q (hs _ _))

def rIxL (K : PySem.W.Frag) : R2 := fun x y H Q => ∃ p xs i v, x = .ref p ∧ y = .int i ∧ SqL K H p xs ∧ atI xs i = some v ∧ Q v H
def rIxT (K : PySem.W.Frag) : R2 := fun x y H Q => ∃ p xs i v, x = .ref p ∧ y = .int i ∧ SqT K H p xs ∧ atI xs i = some v ∧ Q v H
def rIxS : R2 := fun x y H Q => ∃ z i c, x = .str z ∧ y = .int i ∧ z.length ≤ sizeLine ∧ atI z.cps.toList i = some c ∧ Q (.str ⟨#[c]⟩) H
theorem ix_list : IxR X (rIxL X.K) := by
  intro value slice pins s σ H x y v u Q I rx ry h hs
  obtain ⟨p, xs, i, z, rfl, rfl, hq, he, q⟩ := h
  cases rx
  obtain ⟨t, rfl⟩ := ry
  obtain ⟨its, r, pl, hz⟩ := I.list hq
  obtain ⟨j, h1, h2, h3, h4, h5⟩ := atI_get he
  obtain ⟨w, ew, rw'⟩ := r.get h2
  have hl := r.length
  have hn := line63
  have fin : EP X pins σ Q w s := ⟨z, H, I, rw', q⟩
  by_cases h0 : 0 ≤ i
  · have hj : i.toNat = j := by
      rw [seqIndex_of h0 h5] at h1
      exact Option.some.inj h1
    exact item_listR pl.isList h0 (by omega) (by rw [hj]; simpa using ew) fin hs
  · have hj : (i + (its.toArray.size : Int)).toNat = j := by
      rw [seqIndex_neg (by omega) h4] at h1
      rw [List.size_toArray, ← hl]
      exact Option.some.inj h1
    exact subscriptTail_builtinR (x := w) pl.isList.typeIs slot_list_getitem.lookup
      (wpAny_getItem_list_neg (Q := fun r s' => r = w ∧ EP X pins σ Q r s') pl.isList (by omega) (by rw [List.size_toArray] <;> omega) (by omega) (by rw [hj]; simpa using ew) ⟨rfl, fin⟩) hs
theorem ix_tup : IxR X (rIxT X.K) := by
  intro value slice pins s σ H x y v u Q I rx ry h hs
  obtain ⟨p, xs, i, z, rfl, rfl, hq, he, q⟩ := h
  cases rx
  obtain ⟨t, rfl⟩ := ry
  obtain ⟨its, r, pl, hz⟩ := I.tuple hq
  obtain ⟨j, h1, h2, h3, h4, h5⟩ := atI_get he
  obtain ⟨w, ew, rw'⟩ := r.get h2
  have hl := r.length
  have hn := line63
  have fin : EP X pins σ Q w s := ⟨z, H, I, rw', q⟩
  exact subscriptTail_builtinR (x := w) pl.typeIs slot_tuple_getitem.lookup
    (getItem_tuple (j := j) (Q := fun r s' => r = w ∧ EP X pins σ Q r s') pl (by omega) (by omega) (by rw [List.size_toArray, ← hl]; exact h1) (by simpa using ew) ⟨rfl, fin⟩) hs
theorem ix_str : IxR X rIxS := by
  intro value slice pins s σ H x y v u Q I rx ry h hs
  obtain ⟨z, i, c, rfl, rfl, hz, he, q⟩ := h
  obtain ⟨t, rfl⟩ := rx
  obtain ⟨t', rfl⟩ := ry
  obtain ⟨j, h1, h2, h3, h4, h5⟩ := atI_get he
  have hl : z.cps.toList.length = z.length := by simp [Str.length]
  rw [hl] at h1 h4 h5
  have hn := line63
  exact tail_any (typeIs_str s z t) slot_str_getitem.lookup (getItem_str (c := c) (by
    have e1 : decide (i < -(2 ^ 63 : Int)) = false := decide_eq_false (by omega)
    have e2 : decide (i ≥ 2 ^ 63) = false := decide_eq_false (by omega)
    rw [e1, e2, Bool.or_false]) (by rw [h1]; simpa using h2) ⟨.str ⟨#[c]⟩, H, I.tok _, ⟨_, rfl⟩, q⟩) hs
/-! ### xs[i] = v, any sign -/
/-! ### slices -/
theorem slice_bounds (lo hi : Option Int) (n : Nat) : (sliceBounds lo hi none n).1 = ((HT.sIx n 0 lo : Nat) : Int) ∧ (sliceBounds lo hi none n).2.1 = ((HT.sIx n n hi : Nat) : Int) ∧ (sliceBounds lo hi none n).2.2 = 1 := by
  refine ⟨?_, ?_, rfl⟩
  · cases lo with
    | none => simp [sliceBounds, HT.sIx]
    | some i =>
      simp only [sliceBounds, HT.sIx, Option.getD_none, show (1 : Int) > 0 by decide, if_true]
      by_cases h : i < 0
      · simp only [h, if_true] <;> omega
      · simp only [h, if_false] <;> omega
  · cases hi with
    | none => simp [sliceBounds, HT.sIx]
    | some i =>
      simp only [sliceBounds, HT.sIx, Option.getD_none, show (1 : Int) > 0 by decide, if_true]
      by_cases h : i < 0
      · simp only [h, if_true] <;> omega
      · simp only [h, if_false] <;> omega
theorem slicePick_cut (its : List Value) (lo hi : Option Int) : slicePick its.toArray lo hi none = ((its.drop (HT.sIx its.length 0 lo)).take (HT.sIx its.length its.length hi - HT.sIx its.length 0 lo)).toArray := by
  obtain ⟨h1, h2, h3⟩ := slice_bounds lo hi its.toArray.size
  unfold slicePick
  rw [h1, h2, h3]
  simp only [sliceRange_one, pick_run, List.size_toArray] <;> rfl
/-- xs[lo:hi] of a list: a new list -/
def rSlL (K : PySem.W.Frag) : V → Option Int → Option Int → Hp → VK → Prop := fun x lo hi H Q => ∃ a xs, x = .ref a ∧ SqL K H a xs ∧ ∀ p, H p = none → Q (.ref p) (upd H p (.lst (cutV xs lo hi)))
theorem sl_list : SlR X (rSlL X.K) := by
  intro pins s σ H x v vl vu lo hi sl Q I rx hs pl pu h
  obtain ⟨a, xs, rfl, hx, q⟩ := h
  cases rx
  obtain ⟨its, r, ht, hz⟩ := I.list hx
  have hlen := r.length
  refine ⟨"list", _, slot_list_getitem.lookup, ht.isList.typeIs, ?_⟩
  refine wpAny_getItem_list_slice ht.isList hs pl pu .none (by simp) ?_ (by rw [List.size_toArray] <;> omega)
  rw [slicePick_cut, ← hlen]
  refine ⟨.ref s.heap.objs.size, _, I.laid (t' := s.toks) (o := .lst (cutV xs lo hi)) (fun b ob q => Heap.get?_push_of_some _ q) (Nat.le_refl _) ?_, rfl, q _ (I.hok.fresh (Nat.le_refl _))⟩
  exact ⟨Nat.le_trans (cutV_length xs lo hi) hz, _, 0, (r.drop (HT.sIx xs.length 0 lo)).take (HT.sIx xs.length xs.length hi - HT.sIx xs.length 0 lo), Heap.get?_push_size _ rfl⟩

/-! ### in, not in: flat items -/
def flatV : V → Bool
  | .non => true
  | .bl _ => true
  | .int _ => true
  | .str _ => true
  | _ => false
/-- == of flat values -/
def eqV : V → V → Bool
  | .non, .non => true
  | .bl a, .bl b => a == b
  | .bl a, .int b => (if a then 1 else 0) == b
  | .int a, .bl b => a == (if b then 1 else 0)
  | .int a, .int b => a == b
  | .str a, .str b => a == b
  | _, _ => false
theorem eqAt_V {A : Around} {s : Shared} {y x : V} {u v : Value} (ry : RelV y u) (rx : RelV x v) (fy : flatV y = true) (fx : flatV x = true) : SeqAt.EqAt A s u v (eqV y x) := by
  cases y with
  | non =>
    cases ry
    cases x with
    | non => cases rx; exact SeqAt.EqAt.same _
    | bl b => cases rx; exact SeqAt.EqAt.none_bool b
    | int b => obtain ⟨t, rfl⟩ := rx; exact SeqAt.EqAt.none_int b t
    | str b => obtain ⟨t, rfl⟩ := rx; exact SeqAt.EqAt.none_str b t
    | _ => exact absurd (show false = true from fx) Bool.false_ne_true
  | bl a =>
    cases ry
    cases x with
    | non => cases rx; exact SeqAt.EqAt.bool_none a
    | bl b => cases rx; exact SeqAt.EqAt.bool_bool a b
    | int b => obtain ⟨t, rfl⟩ := rx; exact SeqAt.EqAt.bool_int a b t
    | str b => obtain ⟨t, rfl⟩ := rx; exact SeqAt.EqAt.bool_str a b t
    | _ => exact absurd (show false = true from fx) Bool.false_ne_true
  | int a =>
    obtain ⟨t', rfl⟩ := ry
    cases x with
    | non => cases rx; exact SeqAt.EqAt.int_none a t'
    | bl b => cases rx; exact SeqAt.EqAt.int_bool a t' b
    | int b => obtain ⟨t, rfl⟩ := rx; exact SeqAt.EqAt.int_int a t' b t
    | str b => obtain ⟨t, rfl⟩ := rx; exact SeqAt.EqAt.int_str a t' b t
    | _ => exact absurd (show false = true from fx) Bool.false_ne_true
  | str a =>
    obtain ⟨t', rfl⟩ := ry
    cases x with
    | non => cases rx; exact SeqAt.EqAt.str_none a t'
    | bl b => cases rx; exact SeqAt.EqAt.str_bool a t' b
    | int b => obtain ⟨t, rfl⟩ := rx; exact SeqAt.EqAt.str_int a t' b t
    | str b => obtain ⟨t, rfl⟩ := rx; exact SeqAt.EqAt.str_str a t' b t
    | _ => exact absurd (show false = true from fx) Bool.false_ne_true
  | _ => exact absurd (show false = true from fy) Bool.false_ne_true
/-- the items' answers, read off the values (a value's own answer does not lean on its token) -/
def eqU (x : V) (u : Value) : Bool := match u with
  | .none => eqV .non x
  | .bool b => eqV (.bl b) x
  | .int i _ => eqV (.int i) x
  | .str z _ => eqV (.str z) x
  | _ => false
theorem eqU_of {x y : V} {u : Value} (r : RelV y u) (f : flatV y = true) : eqU x u = eqV y x := by
  cases y with
  | non => cases r; rfl
  | bl b => cases r; rfl
  | int i => obtain ⟨t, rfl⟩ := r; rfl
  | str z => obtain ⟨t, rfl⟩ := r; rfl
  | _ => exact absurd (show false = true from f) Bool.false_ne_true
theorem any_eqU {x : V} : ∀ {xs : List V} {us : List Value}, Vals xs us → xs.all flatV = true → us.any (eqU x) = xs.any fun y => eqV y x
  | _, _, .nil, _ => rfl
  | y :: xs, u :: us, .cons r t, f => by
    rw [List.all_cons, Bool.and_eq_true] at f
    rw [List.any_cons, List.any_cons, eqU_of r f.1, any_eqU t f.2]
theorem mem_eqAt {A : Around} {s : Shared} {x : V} {v : Value} (rx : RelV x v) (fx : flatV x = true) : ∀ {xs : List V} {us : List Value}, Vals xs us → xs.all flatV = true → ∀ u ∈ us, SeqAt.EqAt A s u v (eqU x u)
  | _, _, .nil, _ => fun u hu => by cases hu
  | y :: xs, u :: us, .cons r t, f => fun u' hu => by
    rw [List.all_cons, Bool.and_eq_true] at f
    rcases List.mem_cons.mp hu with rfl | hu
    · rw [eqU_of r f.1]; exact eqAt_V r rx f.1 fx
    · exact mem_eqAt rx fx t f.2 u' hu
def inV (x : V) (xs : List V) : Bool := xs.any fun y => eqV y x
/-- x in a list or tuple of flat items -/
def rIn (K : PySem.W.Frag) (neg : Bool) : R2 := fun x y H Q => ∃ p xs, y = .ref p ∧ (SqL K H p xs ∨ SqT K H p xs) ∧ flatV x = true ∧ xs.all flatV = true ∧ Q (.bl (if neg then !inV x xs else inV x xs)) H
theorem op_in_seq : OpR X (compareOp .In) (rIn X.K false) := by
  intro pins s σ H x y v u Q I rx ry h
  obtain ⟨p, xs, rfl, hq, fx, fs, q⟩ := h
  cases ry
  rcases hq with hq | hq
  · obtain ⟨its, r, pl, hz⟩ := I.list hq
    refine SeqAt.in_listAt (eqU x) pl.isList (fun w hw => mem_eqAt rx fx r fs w (by simpa using hw)) ⟨.bl _, H, I, rfl, ?_⟩
    rw [show its.toArray.any (eqU x) = its.any (eqU x) by simp, any_eqU r fs]
    exact q
  · obtain ⟨its, r, pl, hz⟩ := I.tuple hq
    refine SeqAt.in_tupleAt (eqU x) pl (fun w hw => mem_eqAt rx fx r fs w (by simpa using hw)) ⟨.bl _, H, I, rfl, ?_⟩
    rw [show its.toArray.any (eqU x) = its.any (eqU x) by simp, any_eqU r fs]
    exact q
/-! ### len, list(x), tuple(x) of any list or tuple that is read -/
theorem call_len_seq : CallR X (.builtin "len") (fun xs H Q => ∃ p ys, xs = [.ref p] ∧ (SqL X.K H p ys ∨ SqT X.K H p ys) ∧ Q (.int ys.length) H) := by
  intro pins s σ H xs us Q I r h
  obtain ⟨p, ys, rfl, hq, q⟩ := h
  obtain ⟨u, rfl, rx⟩ := vals1 r
  cases rx
  have hn := line63
  rcases hq with hq | hq
  · obtain ⟨its, r', pl, hz⟩ := I.list hq
    have hlen := r'.length
    exact Calls.call_len_list pl.isList (by simp only [List.size_toArray] <;> omega) ⟨.int ys.length, H, I.tok _, ⟨s.toks + 1, by rw [List.size_toArray, hlen]⟩, q⟩
  · obtain ⟨its, r', pl, hz⟩ := I.tuple hq
    have hlen := r'.length
    exact len_tuple pl (by simp only [List.size_toArray] <;> omega) ⟨.int ys.length, H, I.tok _, ⟨s.toks + 1, by rw [List.size_toArray, hlen]⟩, q⟩
theorem call_len_str : CallR X (.builtin "len") (fun xs H Q => ∃ z, xs = [.str z] ∧ z.length ≤ sizeLine ∧ Q (.int z.length) H) := by
  intro pins s σ H xs us Q I r h
  obtain ⟨z, rfl, hz, q⟩ := h
  obtain ⟨u, rfl, t, rfl⟩ := vals1 r
  have hn := line63
  exact len_str (by omega) ⟨.int z.length, H, I.tok _, ⟨_, rfl⟩, q⟩
theorem call_tuple_of : CallR X (.type "tuple") (fun xs H Q => ∃ p ys, xs = [.ref p] ∧ ((SqL X.K H p ys ∧ ∀ l, H l = none → Q (.ref l) (upd H l (.tup ys))) ∨ (SqT X.K H p ys ∧ Q (.ref p) H))) := by
  intro pins s σ H xs us Q I r h
  obtain ⟨p, ys, rfl, h⟩ := h
  obtain ⟨u, rfl, rx⟩ := vals1 r
  cases rx
  rcases h with ⟨hq, q⟩ | ⟨hq, q⟩
  · obtain ⟨its, r', pl, hz⟩ := I.list hq
    have hlen := r'.length
    refine call_tuple_list pl.isList (fun h' kp => ?_) (by simp only [List.size_toArray] <;> omega)
    have I1 : Inv X pins σ H { s with heap := h' } := I.kept (t' := s.toks) kp
    have I2 : Inv X pins σ (upd H h'.objs.size (.tup ys)) { s with heap := h'.push { cls := .type "tuple", data := .seq its.toArray } } :=
      I1.laid (t' := s.toks) (fun b o e => Heap.get?_push_of_some _ e) (Nat.le_refl _) (show ObjOk X.prog X.w _ _ _ (.tup ys) from ⟨hz, its, r', IsTup.new _ _⟩)
    exact ⟨.ref h'.objs.size, _, I2, rfl, q _ (I1.hok.fresh (Nat.le_refl _))⟩
  · obtain ⟨its, r', pl, hz⟩ := I.tuple hq
    exact call_tuple_same pl ⟨.ref p, H, I, rfl, q⟩

/-! ### the call of a builtin's method: o.m(..) -/
/-- the value is of that builtin type -/
def tyV (K : PySem.W.Frag) (T : String) (x : V) (H : Hp) : Prop := match x with
  | .str _ => T = "str"
  | .int _ => T = "int"
  | .ref p => (T = "list" ∧ ∃ xs, SqL K H p xs) ∨ (T = "tuple" ∧ ∃ o, K.lookup p = some o ∧ o.cls = .type "tuple" ∧ o.dict = none) ∨
      (T = "dict" ∧ ((∃ kvs, H p = some (.dK kvs)) ∨ ∃ kvs, H p = some (.dT kvs))) ∨ (T = "set" ∧ ∃ S n, H p = some (.set S n))
  | _ => False
theorem tyV_is {pins : List (Addr × Obj)} {σ : St} {H : Hp} {s : Shared} {T : String} {x : V} {v : Value} (I : Inv X pins σ H s) (r : RelV x v) (ty : tyV X.K T x H) :
    s.TypeIs v T ∧ ∀ a, v = .ref a → ∃ ob, s.heap.get? a = some ob ∧ ob.dict = none := by
  cases x with
  | str z =>
    obtain ⟨t, rfl⟩ := r
    cases (show T = "str" from ty)
    exact ⟨typeIs_str s z t, fun _ e => nomatch e⟩
  | int i =>
    obtain ⟨t, rfl⟩ := r
    cases (show T = "int" from ty)
    exact ⟨typeIs_int s i t, fun _ e => nomatch e⟩
  | ref p =>
    cases r
    rcases ty with ⟨rfl, xs, hq⟩ | ⟨rfl, o, hk, hc, hd⟩ | ⟨rfl, hk⟩ | ⟨rfl, S, n, hk⟩
    · obtain ⟨its, _, pl, _⟩ := I.list hq
      refine ⟨pl.isList.typeIs, fun a e => ?_⟩
      cases e
      obtain ⟨o, n, e, c, hd, _⟩ := pl
      exact ⟨o, e, hd⟩
    · refine ⟨⟨o, I.kIn p o hk, hc⟩, fun a e => ?_⟩
      cases e
      exact ⟨o, I.kIn _ o hk, hd⟩
    · have z : ∃ o, s.heap.get? p = some o ∧ o.ExactDict := by
        rcases hk with ⟨kvs, hk⟩ | ⟨kvs, hk⟩
        · obtain ⟨_, _, _, _, o, _, _, e, ex, _⟩ := I.hok p _ hk
          exact ⟨o, e, ex⟩
        · obtain ⟨_, _, _, _, o, _, _, e, ex, _⟩ := I.hok p _ hk
          exact ⟨o, e, ex⟩
      obtain ⟨o, e, ex⟩ := z
      refine ⟨⟨o, e, ex.1⟩, fun a e2 => ?_⟩
      cases e2
      exact ⟨o, e, ex.2.1⟩
    · obtain ⟨o, _, _, _, e, ex, _⟩ := I.hok p _ hk
      refine ⟨⟨o, e, ex.1⟩, fun a e2 => ?_⟩
      cases e2
      exact ⟨o, e, ex.2.1⟩
  | _ => exact False.elim ty
def tBM0 (K : PySem.W.Frag) (T : String) (r : V → List V → Hp → VK → Prop) (to : TE) : TE := fun σ H Q => to σ H fun x H1 => tyV K T x H1 ∧ r x [] H1 Q
def tBM (K : PySem.W.Frag) (T : String) (r : V → List V → Hp → VK → Prop) (to : TE) (t : TA) : TE := fun σ H Q => to σ H fun x H1 => tyV K T x H1 ∧ t σ H1 fun xs H2 => r x xs H2 Q
variable {o e : Expr} {es : List Expr} {to : TE} {t : TA} {name : Str} {apos cpos : Pos} {T id : String} {r : V → List V → Hp → VK → Prop}
theorem pe_bm0 (pa : PlainAttrs T) (slot : Slot T name id) (hty : typeOf (.builtin id) = pure (.type "method_descriptor")) (hm : MtR X id r) (ho : PE X o to)
    (hbase : attributeBase o name X.env (eval o X.env) = eval o X.env := by rfl) (hline : (apos.endLine == cpos.line) = true := by rfl) : PE X (.Call (.Attribute o name apos) [] [] cpos) (tBM0 X.K T r to) := .mk <| by
  intro pins s σ H Q I h
  refine wpAny_Call_method0_late hbase hline (thn (ho pins s σ H _ I h) fun v s1 ⟨x, H1, I1, r1, ty, q1⟩ => ?_)
  obtain ⟨h1, h2⟩ := tyV_is I1 r1 ty
  exact ⟨T, id, pa, slot, hty, h1, h2, Calls.callWith_builtin rfl (PySem.evalArgs_none (hm pins s1 σ H1 x [] v [] Q I1 r1 .nil q1))⟩
theorem pe_bm (pa : PlainAttrs T) (slot : Slot T name id) (hty : typeOf (.builtin id) = pure (.type "method_descriptor")) (hm : MtR X id r) (ho : PE X o to) (ha : PA X (e :: es) t)
    (hbase : attributeBase o name X.env (eval o X.env) = eval o X.env := by rfl)
    (hfew : ((backTo cpos (starEach (e :: es) X.env)).all (fun x => !x.1) && (backToKw cpos (keywordEach [] X.env)).all (fun x => x.1.isSome)
      && decide ((e :: es).length + ([] : List Keyword).length + (if ([] : List Keyword).isEmpty then 0 else 1) < 30)) = true := by rfl)
    (hline : (apos.endLine == cpos.line) = true := by rfl) (hs : starEach (e :: es) X.env = (false, eval e X.env) :: starEach es X.env := by rfl) (hplain : (backTo cpos (starEach es X.env)).any (·.1) = false := by rfl) :
    PE X (.Call (.Attribute o name apos) (e :: es) [] cpos) (tBM X.K T r to t) := .mk <| by
  intro pins s σ H Q I h
  refine wpAny_Call_method_late hbase hfew hline rfl (thn (ho pins s σ H _ I h) fun v s1 ⟨x, H1, I1, r1, ty, q1⟩ => ?_)
  obtain ⟨h1, h2⟩ := tyV_is I1 r1 ty
  refine ⟨T, id, pa, slot, hty, h1, h2, ?_⟩
  have hA := ha cpos pins s1 σ H1 _ I1 q1
  rw [hs] at hA ⊢
  refine Calls.callWith_builtin (by show (false || (backTo cpos (starEach es X.env)).any (·.1)) = false; rw [hplain] <;> rfl) (Calls.evalArgs_plain ?_)
  exact thn hA fun us s2 ⟨vs, H2, I2, r2, q2⟩ => hm pins s2 σ H2 x vs v us Q I2 r1 r2 q2
/- xs.append(e), list.index on a module's tuple .. are MtR facts of 06m -/
end
end L2

namespace L2
open PySem PySem.Spec PyProof.Rows

def MtM (X : Cx) (id : String) (r : V → List V → Hp → VK → Prop) : Prop :=
  ∀ (pins : List (Addr × Obj)) (s : Shared) (σ : St) (H : Hp) (x : V) (xs : List V) (v : Value) (us : List Value) (Q : VK), Inv X pins σ H s → RelV x v → Vals xs us → r x xs H Q →
    wpAny (model X.prog X.w) X.A (call (.builtin id) (v :: us)) (EP X pins σ Q) X.xe s

/-! ### lists of values -/
theorem Vals.one : ∀ {x : V} {us : List Value}, Vals [x] us → ∃ u, us = [u] ∧ RelV x u
  | _, _, .cons r .nil => ⟨_, rfl, r⟩
theorem Vals.two : ∀ {x y : V} {us : List Value}, Vals [x, y] us → ∃ u v, us = [u, v] ∧ RelV x u ∧ RelV y v
  | _, _, _, .cons r (.cons q .nil) => ⟨_, _, rfl, r, q⟩
theorem Vals.zero : ∀ {us : List Value}, Vals [] us → us = []
  | _, .nil => rfl
section
variable {X : Cx} {pins : List (Addr × Obj)} {σ : St} {H : Hp} {s : Shared} {l b : Addr} {xs ys zs : List V}

/-! ### the two steps: a tracked list is rewritten, a new list is laid -/
theorem Inv.lset {its its' : List Value} {n : Nat} {f : Array Value → Array Value} {t' : Nat} (I : Inv X pins σ H s) (hH : H l = some (.lst xs))
    (e : s.heap.get? l = some { cls := .type "list", data := .seq its.toArray n }) (hf : f its.toArray = its'.toArray) (hv : Vals ys its') (hz : ys.length ≤ sizeLine) :
    Inv X pins σ (upd H l (.lst ys)) { s with heap := s.heap.update l (Obj.mapSeq f), toks := t' } := by
  have q := PySem.IsL.update e f
  rw [hf] at q
  refine I.write (x := l) (e := l) (by rw [hH]; exact trivial) (.inl rfl) (fun b' u hb hu => (Heap.get?_update_other s.heap (Obj.mapSeq f) (Ne.symm hb)).trans hu) ⟨_, q⟩ ?_
  exact ⟨hz, its', _, hv, q⟩
theorem Inv.lnew {its : List Value} {t' : Nat} (I : Inv X pins σ H s) (hv : Vals ys its) (hz : ys.length ≤ sizeLine) :
    Inv X pins σ (upd H s.heap.objs.size (.lst ys)) { s with heap := s.heap.push { cls := .type "list", data := .seq its.toArray }, toks := t' } :=
  I.laid (fun _ _ q => Heap.get?_push_of_some _ q) (Nat.le_refl _) ⟨hz, its, 0, hv, Heap.get?_push_size _ rfl⟩
theorem Inv.lstM (I : Inv X pins σ H s) (hH : H l = some (.lst xs)) : xs.length ≤ sizeLine ∧ ∃ (its : List Value) (n : Nat), Vals xs its ∧ xs.length = its.length ∧ s.heap.get? l = some { cls := .type "list", data := .seq its.toArray n } := by
  obtain ⟨z, its, n, r, e⟩ := I.hok l _ hH
  exact ⟨z, its, n, r, r.length, e⟩

end

section
variable {X : Cx}

/-! ### methods -/
def rAppend : V → List V → Hp → VK → Prop := fun x vs H Q => ∃ l xs y, x = .ref l ∧ vs = [y] ∧ H l = some (.lst xs) ∧ xs.length < sizeLine ∧ Q .non (upd H l (.lst (xs ++ [y])))
theorem mt_append : MtM X "list.append" rAppend := by
  intro pins s σ H x vs v us Q I rx rv h
  obtain ⟨l, xs, y, rfl, rfl, hH, hz, q⟩ := h
  cases rx
  obtain ⟨u, rfl, ru⟩ := rv.one
  obtain ⟨z, its, n, r, hl, e⟩ := I.lstM hH
  refine call_meets F.slot_list_append ⟨_, e, rfl⟩ F.entry_list_append (F.args_list_append_2 _ _) (PySem.list_append l its.toArray n u (by rw [List.size_toArray]; omega)) ⟨e, ?_⟩
  refine ⟨.non, _, I.lset (its' := its ++ [u]) hH e (by simp) (r.append (.cons ru .nil)) ?_, rfl, q⟩
  rw [List.length_append, List.length_singleton]
  omega

/-! ### list + list, list += list, list * int -/
/-! ### del xs[i] -/
end

/-! ### xs[a:b] = ys -/
section
variable {prog : Program} {w : World} {A : Around} {E : Value → Shared → Prop} {s : Shared}
end

section
variable {X : Cx}
end
end L2

namespace Att
open PySem PySem.W PySem.Calls PyProof.Rows

/-! ### the script -/
theorem ints_of_wellAll {P : Params} {h : Heap} : ∀ (ns : List Int) (vs : List Value), WellAll P h vs (ns.map WData.int) → IntsAre vs ns := by
  intro ns
  induction ns with
  | nil =>
    intro vs w
    rw [List.map_nil] at w
    cases w
    exact .nil
  | cons n ns ih =>
    intro vs w
    rw [List.map_cons] at w
    cases w with
    | cons a b =>
      cases a
      exact .cons _ _ (ih _ b)

theorem script_of {l : OpenLaw} {n : Nat} (hn : l.most = some n) {P : Params} {h : Heap} {args : List WData} {vals : List Value}
    (hpre : l.row.toRowW.claim.pre args = true) (hwl : WellAll P h vals args) :
    ∃ a vs ns, vals = [Value.ref a] ∧ args = [WData.list (ns.map WData.int)] ∧ h.get? a = some { cls := .type "list", data := .seq vs.toArray } ∧ IntsAre vs ns ∧ ns.length ≤ n := by
  have hsh : WShape.hasAll [] args [.list .int] = true := (pre_splitW hpre).1
  have hc : l.pre.holds [] { args := args } = true := (pre_splitW hpre).2
  obtain ⟨d, r, rfl, h1, h2⟩ := hasAllW_cons hsh
  obtain rfl := hasAllW_nil h2
  obtain ⟨xs, rfl, h3⟩ := hasW_list h1
  obtain ⟨ns, rfl⟩ := items_int h3
  have hlen : ns.length ≤ n := by
    unfold OpenLaw.pre at hc
    have h4 : (WTm.not (.lt (.lit (.int (n : Int))) (.len (.arg 0)))).holds [] { args := [.list (ns.map .int)] } = true := by
      have h4 := (holds_andW hc).1
      rw [hn] at h4
      exact h4
    have h5 := condW_of h4 (w_not (w_lt w_lit (w_len_list (w_arg rfl))))
    rw [List.length_map] at h5
    refine Nat.le_of_not_lt fun q => ?_
    have q' : (n : Int) < ((ns.length : Nat) : Int) := by omega
    first
      | (rw [decide_eq_true q'] at h5; exact absurd h5 (by decide))
      | (simp at h5; omega)
  cases hwl with
  | cons w1 w2 =>
    cases w2
    cases w1 with
    | list ho hall => exact ⟨_, _, ns, rfl, rfl, ho, ints_of_wellAll ns _ hall, hlen⟩

theorem post_true (l : OpenLaw) (args : List WData) : l.row.toRowW.claim.post args (.bool true) args = true :=
  postW_of (r := l.row.toRowW) (X := (true == true))
    (show WShape.has [] (.bool true) .bool = true by first | rfl | decide | simp [WShape.has, WShape.arms, WShape.armsAll])
    (show (WTm.eq .res (.lit (.bool true))).value [] { args := args, res := some (.bool true), after := args } = some (.bool (true == true)) from w_eq_bool (w_res rfl) w_lit) rfl

/-! ### the attachment: holds_open's last premise (the goal 'hc' behind k_head) from a wpAny of the law's body -/
/-- the same from a codeAny of the CALL (for a layer whose function contracts speak of calls) -/
theorem attach_call {l : OpenLaw} {n : Nat} {q : Program} {loose : List Str} {XP : (Str → Option Value) → Heap → Prop} {YP : World → Heap → Prop} {d : DefRec}
    (hn : l.most = some n) (hdf : d.params.defaults = [])
    (call : ∀ (w : World) (s₀ s₁ : Shared) (mg mb : Str → Option Value) (fa : Addr) (o : Obj) (pm cd doc : Value) (a : Addr) (vs : List Value) (ns : List Int),
      Ground q loose [] XP w s₀ mg mb s₁.heap → YP w s₁.heap →
      s₁.heap.get? fa = some o → o.data = .func (docDef d.name d.params d.body d.scope pm cd doc) → s₁.heap.CodeRec cd d.name → mg d.name = some (.ref fa) →
      s₁.heap.get? a = some { cls := .type "list", data := .seq vs.toArray } → IntsAre vs ns → ns.length ≤ n → s₁.gens = #[] →
      codeAny (model l.prog w) callerA (.call (.ref fa) ⟨[.ref a], []⟩) (fun r s' => r = .ok (.ret (.bool true)) ∧ OldK s₁.heap s'.heap ∧ s'.os = s₁.os ∧ AllBare s'.gens) s₁) :
    WalkO q loose XP YP l.row.toRowW d [] (fun f vs => PySem.call f vs) := by
  intro w s₀ s₁ mg mb G Y fa o pm cd doc dV kV ho hd hcd hD hmg hg args vals as hpre hlay hrd hwl hlo
  obtain rfl : dV = .none := Dflts.none hD hdf
  obtain rfl : kV = .none := Dflts.noKw hD
  obtain ⟨a, vs, ns, rfl, rfl, hobj, hints, hlen⟩ := script_of hn hpre hwl
  refine enter_call (codeAny_mono (call w s₀ s₁ mg mb fa o pm cd doc a vs ns G Y ho (fd_plain hd) hcd hmg hobj hints hlen hg) fun r s' hq => ?_)
  obtain ⟨rfl, h2, h3, h4⟩ := hq
  exact ⟨.inl ⟨.bool true, .bool true, [], rfl, fun _ => rfl, .bool true, post_true l _, fun _ => ⟨List.Pairwise.nil, fun _ hm => (nomatch hm)⟩⟩, h2, h3, h4⟩

/-! ### rules over ANY heap (no ledger) from facts about the written part K: the library's own take a ledger (News) for what they write -/
section
variable {prog : Program} {w : World} {A : Around} {E : Value → Shared → Prop} {s : Shared} {K : Frag}

/-! the whole heap as the ledger: makes every rule that writes through a ledger a rule over any heap -/
end
end Att

namespace L2
open PySem PySem.Spec PyProof.Rows

theorem vals_ints : ∀ {vs : List Value} {ns : List Int}, IntsAre vs ns → Vals (ns.map V.int) vs
  | _, _, .nil => .nil
  | _, _, .cons n t h => .cons ⟨t, rfl⟩ (vals_ints h)

/-- nothing is tracked but the script, known to the object (or it is an object of the module) -/
def Only (H : Hp) : Prop := ∀ b, H b = none ∨ ∃ o xs, H b = some (.frz o (.lst xs))

/-- THE HEAD: the law's promise, at the heap behind the top. F, the promise of the law's def, may use that base is part of the heap (so K.In base, base.Ns mainGlobals mg stand in Mod) -/
theorem law_call {P : Program} {w : World} {K : PySem.W.Frag} {mg mb : Str → Option Value} {CX : CXT} {k : Nat} {fa a : Addr} {fd : FuncData} {x : Str} {sp : Sp} {s₁ : Shared} {vs : List Value} {ns : List Int}
    (KX : K.In s₁.heap) (hns : s₁.heap.Ns mainGlobals mg) (hb : s₁.heap.Ns builtinsNs mb) (hbb : ∀ x : Str, x ≠ "__name__" → mb x = bootBuiltins x) (hlim : s₁.heap.NoLimit) (hg : s₁.gens = #[])
    (ha : s₁.heap.get? a = some { cls := .type "list", data := .seq vs.toArray }) (hi : IntsAre vs ns) (hl : ns.length ≤ sizeLine) (hr : Room k callerA)
    (F : ∀ base : Heap, K.In base → base.Ns mainGlobals mg → FnOk P w K mg base CX k fa fd [x] sp) (hbind : ∀ (s : Shared) (u : Value), BindsTo s fd ⟨[u], []⟩ [(x, u)])
    (hsp : ∀ H : Hp, Only H → SqL K H a (ns.map V.int) → sp [.ref a] H (fun v _ => v = .bl true) fun _ _ _ => False)
    (hCX : ∀ H e s', CX [] H s₁ (fun _ _ _ => False) e s' → False) :
    codeAny (model P w) callerA (.call (.ref fa) ⟨[.ref a], []⟩) (fun r s' => r = .ok (.ret (.bool true)) ∧ OldK s₁.heap s'.heap ∧ s'.os = s₁.os ∧ AllBare s'.gens) s₁ := by
  have rv := vals_ints hi
  have lenV := hi.length
  -- from an abstract heap in which nothing but the script may be tracked
  have core : ∀ H : Hp, Only H → SqL K H a (ns.map V.int) → HOk P w H s₁.heap → (∀ b, H b ≠ none → b = a) → (H a ≠ none → K.lookup a = none) →
      codeAny (model P w) callerA (.call (.ref fa) ⟨[.ref a], []⟩) (fun r s' => r = .ok (.ret (.bool true)) ∧ OldK s₁.heap s'.heap ∧ s'.os = s₁.os ∧ AllBare s'.gens) s₁ := by
    intro H hO hS hok hA hK
    have base_of : ∀ {b : Addr} {o : Obj}, s₁.heap.get? b = some o → H b = none → (hidT s₁.heap H).get? b = some o := fun e n => hidT_get e n
    have noA : ∀ {b : Addr} {o : Obj} {es : Array DictEntry} {ep : Nat}, s₁.heap.get? b = some o → o.data = .dict es ep → H b = none := fun {b o es ep} e d => by
      cases q : H b with
      | none => rfl
      | some u =>
        have e' : b = a := hA b (by rw [q]; simp)
        subst e'
        rw [ha] at e; cases e
        have d' : Data.seq vs.toArray _ = Data.dict es ep := d
        cases d'
    have nsK : ∀ {b : Addr} {m : Str → Option Value}, s₁.heap.Ns b m → (hidT s₁.heap H).Ns b m := fun {b m} ⟨o, es, ep, e, d, r⟩ => ⟨o, es, ep, base_of e (noA e d), d, r⟩
    have hKb : K.In (hidT s₁.heap H) := fun b o e => base_of (KX b o e) (by
      cases q : H b with
      | none => rfl
      | some u =>
        have e' : b = a := hA b (by rw [q]; simp)
        subst e'
        rw [hK (by rw [q]; simp)] at e; cases e)
    have hM : Mod K mg (hidT s₁.heap H) := ⟨hKb, nsK hns, ⟨mb, nsK hb, hbb⟩, let ⟨mc, h1, h2⟩ := hlim; ⟨mc, nsK h1, h2⟩⟩
    have e0 : Env0 P w K mg (hidT s₁.heap H) callerA [] s₁ H := ⟨rfl, hM, fun b o e => of_hidT e, Nat.le_of_eq (hidT_size _ _), trivial, fun b hb => absurd (show b ∈ ([] : List Addr) from hb) (by simp), hok, .of_eq hg⟩
    refine codeAny_mono ((F _ hKb (nsK hns)).run callerA [] s₁ H ⟨[.ref a], []⟩ [.ref a] [.ref a] _ _ hr e0 (hbind s₁ (.ref a)) (.cons rfl .nil) (hsp H hO hS)) fun r s' h => ?_
    cases r with
    | error e => exact (hCX H e s' h).elim
    | ok fl =>
      cases fl with
      | next => exact False.elim h
      | brk => exact False.elim h
      | cont => exact False.elim h
      | ret u =>
        obtain ⟨v, H', os, bare, un, hok', r', q⟩ := h
        have q' : v = .bl true := q
        subst q'
        obtain rfl : u = Value.bool true := r'
        refine ⟨rfl, OldK.of_keep fun b o e => ?_, os, bare⟩
        cases q : H b with
        | none => exact un.keep b o e q (by intro z; exact absurd (show b ∈ ([] : List Addr) from z) (by simp)) (by simp)
        | some u =>
          rcases hO b with z | ⟨ob, xs, z⟩
          · rw [q] at z; cases z
          · have z2 := un.frzs b ob _ z
            obtain ⟨e1, _⟩ := hok b _ z
            obtain ⟨e2, _⟩ := hok' b _ z2
            rw [e] at e1; cases e1
            exact e2
  cases hk : K.lookup a with
  | some o =>
    -- the script is one of the module's own objects
    have e := KX a o hk
    rw [ha] at e
    cases e
    refine core (fun _ => none) (fun _ => .inl rfl) (.inr ⟨_, vs.toArray, _, hk, rfl, rfl, rfl, by rw [List.size_toArray, lenV]; exact hl, by simpa using rv⟩) (fun b u z => by have z' : (none : Option HO) = some u := z; cases z') (fun b z => absurd rfl z) fun z => absurd rfl z
  | none =>
    refine core (fun b => if b = a then some (.frz { cls := .type "list", data := .seq vs.toArray } (.lst (ns.map V.int))) else none) (fun b => ?_) (.inl (.inr ⟨{ cls := .type "list", data := .seq vs.toArray }, if_pos rfl⟩)) (fun b u z => ?_) (fun b z => ?_) fun _ => hk
    · by_cases hb : b = a
      · exact .inr ⟨_, _, if_pos hb⟩
      · exact .inl (if_neg hb)
    · by_cases hb : b = a
      · have z' := (if_pos hb).symm.trans z
        cases z'
        subst hb
        exact ⟨ha, by rw [List.length_map]; exact hl, vs, _, rv, ha⟩
      · have z' := (if_neg hb).symm.trans z
        cases z'
    · by_cases hb : b = a
      · exact hb
      · exact absurd (if_neg hb) z
end L2

namespace L2
open PySem PySem.Spec PyProof.Rows

/-- the goal that k_head leaves (case hc), from the law's promise. F gives the function object fd (K's own) once, then the promise over every base -/
theorem walk_of {l : PySem.W.OpenLaw} {n k : Nat} {q : Program} {loose : List Str} {XP : (Str → Option Value) → Heap → Prop} {YP : World → Heap → Prop} {d : DefRec} {K : Params → PySem.W.Frag} {CX : World → CXT} {sp : World → Sp} {x : Str}
    (hn : l.most = some n) (hn2 : n ≤ sizeLine) (hdf : d.params.defaults = []) (hr : Room k callerA)
    (hY : ∀ (w : World) (h : Heap), YP w h → (K w.params).In h)
    (F : ∀ (w : World) (mg : Str → Option Value) (fa : Addr) (h : Heap), (K w.params).In h → h.Ns mainGlobals mg → mg d.name = some (.ref fa) →
      ∃ fd : FuncData, (∀ (s : Shared) (u : Value), BindsTo s fd ⟨[u], []⟩ [(x, u)]) ∧
        ∀ base : Heap, (K w.params).In base → base.Ns mainGlobals mg → FnOk l.prog w (K w.params) mg base (CX w) k fa fd [x] (sp w))
    (hsp : ∀ (w : World) (H : Hp) (a : Addr) (ns : List Int), ns.length ≤ n → Only H → SqL (K w.params) H a (ns.map V.int) → sp w [.ref a] H (fun v _ => v = .bl true) fun _ _ _ => False)
    (hCX : ∀ (w : World) (H : Hp) (s : Shared) (e : Value) (s' : Shared), CX w [] H s (fun _ _ _ => False) e s' → False) :
    PySem.W.WalkO q loose XP YP l.row.toRowW d [] (fun f vs => PySem.call f vs) := by
  refine Att.attach_call hn hdf fun w s₀ s₁ mg mb fa o pm cd doc a vs ns G Y ho hd hcd hmg hobj hints hlen hg => ?_
  have KX := hY w _ Y
  obtain ⟨fd, hb, hF⟩ := F w mg fa _ KX G.T.g hmg
  exact law_call KX G.T.g G.T.b G.T.builtins G.T.nolimit hg hobj hints (Nat.le_trans hlen hn2) hr hF hb (fun H hO hS => hsp w H a ns hlen hO hS) fun H e s' => hCX w H s₁ e s'
end L2

/- THE LAST THEOREM (shape; LID, My.* are yours):
   My.Adr: a structure of the addresses that your layer names (classes, functions); My.Txt K t: a structure (Prop) of the equations over K;
   My.txt_mk : {K} {implicit addresses ..} (e1 : nsIn K mainGlobals "law" = some (some (.ref f))) (e2 : K.lookup f = some ⟨oc, od, .func (fnOf "law" "law" params body scope dV kV doc pm an cdv ct), sl⟩) (e3 : codeIn K cdv "law" = true) .. : ∃ t, My.Txt K t

set_option maxRecDepth 100000 in
set_option maxHeartbeats 0 in
theorem PySem.Challenge.cw_LID_holds : PySem.Challenge.rw_LID.Holds := by
  w_on; o_law; k_head; (case hw => w_witness2)
  k_fill
  refine L2.walk_of (l := PySem.Challenge.rw_LID) (n := 63) (k := 40) (x := "script") (CX := fun w => ..) (sp := fun _ => My.sp_law) rfl (by decide) rfl ⟨rfl, by decide, by decide⟩ (fun w h Y => PySem.W.kIn_of Y) ?F ?S ?C
  case F =>
    intro w mg fa h KX G hmg
    have T : ∃ t, My.Txt (L2.KOf KX) t := by
      dsimp only [L2.KOf]                          -- K must stand as «<heap const> w.params» for k_is
      refine' My.txt_mk ?e1 ?e2 ?e3 ..
      (case e1 => PySem.W.k_is)                    -- in the order: a name -> its address -> its object -> its parts
      (case e2 => PySem.W.k_is)
      ..
    obtain ⟨t, T⟩ := T
    have e0 := hmg.symm.trans (PySem.W.mg_of KX G T.law)
    cases e0                                       -- fa is the law's own address
    exact ⟨_, fun s u => .of_eq rfl, fun base kb nb => My.law_fn T kb nb⟩     -- if «.of_eq rfl» comes too early: refine' ⟨_, ?b, fun base kb nb => My.law_fn T kb nb⟩; exact fun s u => .of_eq rfl
  case S => exact fun w H a ns hl hO hS => ..
  case C => exact ..
(the tactic k_is has no namespace: write k_is) -/

/-! SHORT WORDS over the layer: a def of the text, its body, what a loop and a test want. -/
namespace L2
open PySem PySem.Spec PyProof.Rows

/-! ### the text by places -/
def defArgs (s : Stmt) : Arguments := match s with
  | .FunctionDef _ a _ _ _ _ _ _ _ _ => a
  | _ => { posonlyargs := [], args := [], vararg := none, kwonlyargs := [], kw_defaults := [], kwarg := none, defaults := [] }
def defBody (s : Stmt) : List Stmt := match s with
  | .FunctionDef _ _ b _ _ _ _ _ _ _ => b
  | _ => []
def defScope (s : Stmt) : Scope := match s with
  | .FunctionDef _ _ _ _ _ _ sc _ _ _ => sc
  | _ => { kind := .function, names := [], isGenerator := false, isCoroutine := false }

/-! ### no exception leaves a def -/
abbrev E0 : XK := fun _ _ _ => False
/-! ### a def (or method) of the text as it stands behind the top -/
structure Fun (K : PySem.W.Frag) (x qual : Str) (st : Stmt) (f : Addr) (fd : FuncData) : Prop where
  ex : ∃ (oc : Value) (od : Option Addr) (kV doc pm : Value) (an : Option Addr) (cdv ct : Value) (osl : Array (Option Value)),
    fd = PySem.W.fnOf x qual (defArgs st) (defBody st) (defScope st) .none kV doc pm an cdv ct ∧ K.lookup f = some ⟨oc, od, .func fd, osl⟩ ∧ PySem.W.codeIn K cdv qual = true
  kp : PySem.W.keepIn K (.ref f) = true
section
variable {P : Program} {w : World} {K : PySem.W.Frag} {mg : Str → Option Value} {base : Heap}
/-- how its arguments bind (no defaults): h is «fun _ _ _ _ _ _ us hl => match us, hl with | [_, _], _ => rfl», one _ a parameter -/
theorem Fun.binds {x qual : Str} {st : Stmt} {f : Addr} {fd : FuncData} {ps : List Str} (F : Fun K x qual st f fd)
    (h : ∀ (kV doc pm : Value) (an : Option Addr) (cdv ct : Value) (us : List Value), us.length = ps.length → bindArgs (PySem.W.fnOf x qual (defArgs st) (defBody st) (defScope st) .none kV doc pm an cdv ct) ⟨us, []⟩ = pure (ps.zip us)) : Binds K fd ps [] := by
  obtain ⟨oc, od, kV, doc, pm, an, cdv, ct, osl, rfl, lk, hcd⟩ := F.ex
  exact .all (h kV doc pm an cdv ct)
theorem fun_mk {x qual : Str} {st : Stmt} {f : Addr} {oc : Value} {od an : Option Addr} {osl : Array (Option Value)} {kV doc pm cdv ct : Value} (l : K.lookup f = some ⟨oc, od, .func (PySem.W.fnOf x qual (defArgs st) (defBody st) (defScope st) .none kV doc pm an cdv ct), osl⟩)
    (c : PySem.W.codeIn K cdv qual = true) (k : PySem.W.keepIn K (.ref f) = true) : Fun K x qual st f (PySem.W.fnOf x qual (defArgs st) (defBody st) (defScope st) .none kV doc pm an cdv ct) := ⟨⟨oc, od, kV, doc, pm, an, cdv, ct, osl, rfl, l, c⟩, k⟩
end
theorem small1000 {n : Nat} (h : n ≤ 1000) : n < sizeLine := Nat.lt_of_le_of_lt h (by decide)

/-! ### expressions in short: the name that stands in the i-th slot -/
section
variable {X : Cx}
theorem pv (i : Nat) {x : Str} {pos : Pos} (hN : X.N[i]? = some x := by rfl) (hv : Vis X.env.scope x := by first | exact Or.inl rfl | exact Or.inr (Or.inl rfl) | exact Or.inr (Or.inr rfl)) (hd : (x == ("__debug__" : Str)) = false := by decide)
    (hcd : (x == ("__classdict__" : Str)) = false := by decide) : PE X (.Name x pos) (tVar i) := pe_var hN hv hd hcd
end

/-! ### tests -/
theorem iteF {A B : Prop} (h : B) : if false = true then A else B := by
  rw [if_neg Bool.false_ne_true]
  exact h
theorem iteT {A B : Prop} (h : A) : if true = true then A else B := by
  rw [if_pos rfl]
  exact h
theorem iteNS {c A B : Prop} [Decidable c] (hc : c) (h : B) : if (!decide c) = true then A else B := by
  rw [decide_eq_true hc]
  exact iteF h

/-! ### heaps -/
/-- all that was tracked is as it was -/
def Same (H H' : Hp) : Prop := ∀ b o, H b = some o → H' b = some o
theorem Same.refl (H : Hp) : Same H H := fun _ _ h => h
theorem Same.trans {H H1 H2 : Hp} (a : Same H H1) (b : Same H1 H2) : Same H H2 := fun c o h => b c o (a c o h)
theorem Same.free {H H' : Hp} (e : Same H H') {l : Addr} (h : H' l = Option.none) : H l = Option.none := by
  cases q : H l with
  | none => rfl
  | some o =>
    rw [e l o q] at h
    cases h
theorem Same.seq {K : PySem.W.Frag} {H H' : Hp} {a : Addr} {xs : List V} (e : Same H H') (h : SqL K H a xs) : SqL K H' a xs := by
  rcases h with (h | ⟨o, h⟩) | h
  · exact .inl (.inl (e _ _ h))
  · exact .inl (.inr ⟨o, e _ _ h⟩)
  · exact .inr h

end L2

namespace L2
open PySem PySem.Spec PyProof.Rows
section
variable {X : Cx} {pins : List (Addr × Obj)} {σ : St} {H : Hp} {s : Shared} {h' : Heap}
/-- untracked records of ours have turned, and a new object is laid and tracked -/
theorem Inv.turnLay {t' : Nat} {ch : List Addr} {T : Addr} {o : HO} (I : Inv X pins σ H s) (hf : ∀ b ∈ ch, FpOk X pins H b)
    (k : ∀ b u, b ∉ ch → s.heap.get? b = some u → h'.get? b = some u) (hT : s.heap.objs.size ≤ T)
    (new : ObjOk X.prog X.w (upd H T o) h' T o) : Inv X pins σ (upd H T o) { s with heap := h', toks := t' } := by
  have hn : H T = none := I.hok.fresh hT
  have nT : ∀ b u, s.heap.get? b = some u → b ≠ T := fun b u e => Nat.ne_of_lt (Nat.lt_of_lt_of_le (Heap.lt_size e) hT)
  have nch : ∀ b u, H b = some u → b ∉ ch := fun b u e hb => by rw [(hf b hb).1] at e; cases e
  have nTH : ∀ b u, H b = some u → b ≠ T := fun b u e => ne_of_none e hn
  refine I.step (g' := s.gens) (d' := s.drawn) (ch := ch) (fun b hb => ?_) (fun b o _ _ hc e _ => k b o hc e) (fun b o _ _ hc e _ => ⟨o.slots, k b o hc e⟩)
    (fun b u hc e n => by rw [upd_ne (nT b u e)]; exact n) (fun b u hc e => ⟨u, k b u hc e⟩) (fun b xs e => by rw [upd_ne (nTH b _ e)]; exact e) (fun b o' u e => by rw [upd_ne (nTH b _ e)]; exact e)
    (fun b ps e => ⟨#[], by rw [upd_ne (nTH b _ e), e]; simp⟩) (fun m hm => ?_) (fun b u e => ?_) I.bare
  · obtain ⟨f0, f1, f2, f3, f4, f5⟩ := hf b hb
    exact ⟨f3, f1, f4, f5⟩
  · obtain ⟨ob, es, ep, ho, r⟩ := hm
    exact ⟨ob, es, ep, k _ ob (fun z => (hf _ z).2.1 rfl) ho, r⟩
  · by_cases hb : b = T
    · subst hb; rw [upd_same] at e; cases e; exact new
    · rw [upd_ne hb] at e
      refine (I.hok b u e).stay (fun c v hc q => k c v ?_ q) (fun c q => by rw [upd_ne (nTH c _ q)]; exact q) fun c xs q => by rw [upd_ne (nTH c _ q)]; exact q
      rcases hc with z | z
      · rw [z]; exact nch b u e
      · exact nch c _ z
/-- untracked records of ours have turned -/
theorem Inv.turnedL {t' : Nat} {ch : List Addr} (I : Inv X pins σ H s) (hf : ∀ b ∈ ch, FpOk X pins H b)
    (k : ∀ b u, b ∉ ch → s.heap.get? b = some u → h'.get? b = some u) : Inv X pins σ H { s with heap := h', toks := t' } := by
  have nch : ∀ b u, H b = some u → b ∉ ch := fun b u e hb => by rw [(hf b hb).1] at e; cases e
  refine I.step (g' := s.gens) (d' := s.drawn) (ch := ch) (fun b hb => ?_) (fun b o _ _ hc e _ => k b o hc e) (fun b o _ _ hc e _ => ⟨o.slots, k b o hc e⟩)
    (fun b u hc e n => n) (fun b u hc e => ⟨u, k b u hc e⟩) (fun b xs e => e) (fun b o' u e => e)
    (fun b ps e => ⟨#[], by rw [e]; simp⟩) (fun m hm => ?_) (fun b u e => ?_) I.bare
  · obtain ⟨f0, f1, f2, f3, f4, f5⟩ := hf b hb
    exact ⟨f3, f1, f4, f5⟩
  · obtain ⟨ob, es, ep, ho, r⟩ := hm
    exact ⟨ob, es, ep, k _ ob (fun z => (hf _ z).2.1 rfl) ho, r⟩
  · refine (I.hok b u e).stay (fun c v hc q => k c v ?_ q) (fun c q => q) fun c xs q => q
    rcases hc with z | z
    · rw [z]; exact nch b u e
    · exact nch c _ z
end

/-! ### the signs of a text -/
def Its (x : Str) : It := ⟨fun i _ => i < x.cps.size, fun i H v H' => H' = H ∧ ∃ c, x.cps[i]? = some c ∧ v = .str ⟨#[c]⟩, fun i _ => i = x.cps.size⟩
theorem turn_str {P : Program} {w : World} {K : PySem.W.Frag} {tg : Expr} {x : Str} {it : Addr} {n : String} {t : Tok} (hn : n = "str_ascii_iterator" ∨ n = "str_iterator")
    (W : ∀ A' : Around, A'.handled = none → Walks P w A' it [it] [it] x.cps.size (SignAt x) (fun i h => h.IsStrIter it n x t i))
    (hs : ∀ (A : Around) (i : Nat) (s : Shared) (Q : Value → Shared → Prop) (E : Value → Shared → Prop), s.heap.IsStrIter it n x t i → Q (.ref it) s → wpAny (model P w) A (pyIter (.ref it)) Q E s) :
    Turn P w K tg (Its x) [it] it (fun i h => h.IsStrIter it n x t i) where
  mem := by simp
  obj := fun i h st b hb => by
    have e : b = it := by simpa using hb
    subst e
    obtain ⟨o, e, c, d⟩ := st
    exact ⟨o, e, fun v z => by rw [d] at z; cases z⟩
  keep := fun i h h' st k => let ⟨o, ho, r⟩ := st; ⟨o, k it (by simp) o ho, r⟩
  item := by
    intro X hP hw hK hc i pins s σ H E I hf st hg
    subst hP hw hK
    refine (W X.A (I.ok.hd hc)).item i s _ _ hg st fun v h' tk hv st' kk => ?_
    obtain ⟨c, u, hx, rfl⟩ := hv
    have I1 : Inv X pins σ H { s with heap := h', toks := tk } := I.turnedL hf kk
    obtain ⟨o, e, c', d⟩ := id st'
    refine ⟨_, rfl, go_of (s := { s with heap := h', toks := tk }) e c' d (by rcases hn with rfl | rfl <;> decide) ⟨.str ⟨#[c]⟩, H, I1, ⟨u, rfl⟩, ⟨rfl, c, hx, rfl⟩, st', fun b hb => (hf b hb).1⟩⟩
  done := by
    intro X hP hw hK hc i pins s σ H E I hf st hg
    subst hP hw hK
    have e : i = x.cps.size := hg
    subst e
    exact (W X.A (I.ok.hd hc)).done s _ _ st fun h' tk kk => ⟨rfl, I.turnedL hf kk⟩
  self := hs
section
variable {X : Cx} {tg : Expr}
def iStr (tl : TE) : TI := fun σ H R => tl σ H fun x H1 => ∃ z, x = .str z ∧ R (Its z) H1
theorem pi_str {l : Expr} {tl : TE} (hl : PE X l tl) : PI X tg l (iStr tl) := .mk <| by
  intro pins s σ H R I h
  refine thn (hl pins s σ H _ I h) fun v s1 ⟨x, H1, I1, r1, q1⟩ => ?_
  obtain ⟨z, e, q⟩ := q1
  subst e
  obtain ⟨t, rfl⟩ := r1
  have fpo : ∀ b ∈ [s1.heap.objs.size], FpOk X pins H1 b := fun b hb => by
    have e : b = s1.heap.objs.size := by simpa using hb
    subst e
    exact I1.fpOk (Nat.le_refl _) (I1.hok.fresh (Nat.le_refl _))
  cases ha : z.cps.all (· < 128)
  · exact wpAny_pyIter_wide ha ⟨s1.heap.objs.size, [s1.heap.objs.size], _, _, H1, rfl, I1.kept (t' := s1.toks) fun b o e => Heap.get?_push_of_some _ e,
      turn_str (n := "str_iterator") (t := t) (.inr rfl) (fun A' hA => Walks.strWide hA _ z t) (fun A i s Q E st h => wpAny_pyIter_striter_wide st h), ⟨_, Heap.get?_push_size _ rfl, rfl, rfl⟩, fpo, q⟩
  · exact wpAny_pyIter_ascii ha ⟨s1.heap.objs.size, [s1.heap.objs.size], _, _, H1, rfl, I1.kept (t' := s1.toks) fun b o e => Heap.get?_push_of_some _ e,
      turn_str (n := "str_ascii_iterator") (t := t) (.inl rfl) (fun A' hA => Walks.strAscii hA _ z t) (fun A i s Q E st h => wpAny_pyIter_striter_ascii st h), ⟨_, Heap.get?_push_size _ rfl, rfl, rfl⟩, fpo, q⟩
end
theorem for_str {x : Str} {g : TG} {tb : TS} {D : Ends} {σ : St} {H : Hp} (Pv : Nat → St → Hp → Prop) (h0 : Pv 0 σ H)
    (hs : ∀ i c σ H, x.cps[i]? = some c → Pv i σ H → g (.str ⟨#[c]⟩) σ H fun σ2 H2 => tb { D with nx := Pv (i + 1), ct := Pv (i + 1), bk := D.nx } σ2 H2) (hd : ∀ σ H, Pv x.cps.size σ H → D.nx σ H) :
    ∃ W : Nat → Nat → St → Hp → Prop, (∃ m, W 0 m σ H) ∧ ∀ i m σ H, W i m σ H →
      ((Its x).stop i H ∧ D.nx σ H) ∨ ((Its x).go i H ∧ ∃ N : St → Hp → Prop, (∀ σ' H', N σ' H' → ∃ m', m' < m ∧ W (i + 1) m' σ' H') ∧ ∀ v H', (Its x).yld i H v H' → g v σ H' fun σ2 H2 => tb { D with nx := N, ct := N, bk := D.nx } σ2 H2) := by
  refine ⟨fun i m σ H => m = x.cps.size - i ∧ i ≤ x.cps.size ∧ Pv i σ H, ⟨x.cps.size, by simp, Nat.zero_le _, h0⟩, ?_⟩
  rintro i m σ H ⟨rfl, hi, p⟩
  by_cases hlt : i < x.cps.size
  · refine .inr ⟨hlt, Pv (i + 1), fun σ' H' p' => ⟨x.cps.size - (i + 1), by omega, rfl, hlt, p'⟩, fun v H' y => ?_⟩
    obtain ⟨e, c, hc, rfl⟩ := y
    subst e
    exact hs i c σ _ hc p
  · have e : i = x.cps.size := by omega
    subst e
    exact .inl ⟨rfl, hd σ H p⟩

/-! ### enumerate over a list -/
def Ite (K : PySem.W.Frag) (a : Addr) : It :=
  ⟨fun i H => ∃ xs x, SqL K H a xs ∧ xs[i]? = some x, fun i H v H' => ∃ T y, v = .ref T ∧ H T = none ∧ H' = upd H T (.tup [.int i, y]) ∧ ∀ xs, SqL K H a xs → xs[i]? = some y, fun i H => ∃ xs, SqL K H a xs ∧ xs.length ≤ i⟩
theorem turn_enum {P : Program} {w : World} {K : PySem.W.Frag} {elts : List Expr} {kk : Nat} {tp : Pos} (a e it : Addr) (hne : e ≠ it) :
    Turn P w K (.Tuple elts kk tp) (Ite K a) [e, it] e (fun i h => (∃ old, IsEnum h e it (i : Nat) old) ∧ h.IsListIter it a i) where
  mem := by simp
  obj := fun i h st b hb => by
    obtain ⟨⟨old, he⟩, o, e', c, d⟩ := st
    have : b = e ∨ b = it := by simpa using hb
    rcases this with rfl | rfl
    · exact ⟨_, he, fun v z => nomatch z⟩
    · exact ⟨o, e', fun v z => by rw [d] at z; cases z⟩
  keep := fun i h h' st k => ⟨let ⟨old, he⟩ := st.1; ⟨old, k e (by simp) _ he⟩, st.2.at fun o q => k it (by simp) o q⟩
  item := by
    intro X hP hw hK hc i pins s σ H E I hf st hg
    subst hP hw hK
    obtain ⟨⟨old, he⟩, hit⟩ := st
    obtain ⟨xs, x, hq, hx⟩ := hg
    obtain ⟨its, rv, p, hz⟩ := I.list hq
    obtain ⟨u, hu, ru⟩ := rv.get hx
    have helt : e < s.heap.objs.size := Heap.lt_size he
    refine wpAny_pyNext_enum_item he hit p.isList (x := u) (by simpa using hu) hne fun h1 heo hit1 ht1 hz1 hk1 => ?_
    refine ⟨_, rfl, wpAny_letOwnedTupleGo_enum heo fun h2 he2 hs2 => ?_⟩
    have hT2 : h2.get? s.heap.objs.size = some { cls := .type "tuple", data := .seq #[.int i s.toks, u] } := (hs2.2 _ (Nat.ne_of_gt helt)).trans ht1
    have I2 : Inv X pins σ (upd H s.heap.objs.size (.tup [.int i, x])) { s with heap := h2, toks := s.toks + 1 } := by
      refine I.turnLay (ch := [e, it]) hf (fun b o hb q => ?_) (Nat.le_refl _) ?_
      · have n1 : b ≠ e := fun z => hb (by simp [z])
        have n2 : b ≠ it := fun z => hb (by simp [z])
        exact (hs2.2 b n1).trans (hk1 b o n1 n2 q)
      · exact ⟨by show 2 ≤ sizeLine; decide, [.int i s.toks, u], .cons ⟨_, rfl⟩ (.cons ru .nil), ⟨_, hT2, rfl, _, rfl⟩⟩
    have hn : H s.heap.objs.size = none := I.hok.fresh (Nat.le_refl _)
    refine ⟨.ref s.heap.objs.size, _, I2, rfl, ⟨_, x, rfl, hn, rfl, fun ys hy => by rw [I.list_inj hy hq]; exact hx⟩, ⟨⟨u, by simpa using he2⟩, hit1.at fun o q => (hs2.2 it (Ne.symm hne)).trans q⟩, fun b hb => ?_⟩
    have hb' : b < s.heap.objs.size := by
      have : b = e ∨ b = it := by simpa using hb
      rcases this with rfl | rfl
      · exact helt
      · obtain ⟨o, q, _⟩ := hit; exact Heap.lt_size q
    rw [upd_ne (Nat.ne_of_lt hb')]
    exact (hf b hb).1
  done := by
    intro X hP hw hK hc i pins s σ H E I hf st hg
    subst hP hw hK
    obtain ⟨⟨old, he⟩, hit⟩ := st
    obtain ⟨xs, hq, hx⟩ := hg
    obtain ⟨its, rv, p, hz⟩ := I.list hq
    have hl := rv.length
    exact wpAny_pyNext_enum_end (I.ok.hd hc) he hit p.isList (by simp; omega) fun h' eb => ⟨rfl, I.turnedL (t' := s.toks) hf fun b o hb q => eb b o (fun z => hb (by simp [z])) q⟩
  self := fun A i s Q E st h => by
    obtain ⟨⟨old, he⟩, hit⟩ := st
    have hT : s.TypeIs (.ref e) "enumerate" := ⟨_, he, rfl⟩
    refine wpAny_pyIter_slot hT F.slot_enumerate_iter (wpAny_call_entry F.slot_enumerate_iter hT F.entry_enumerate_iter ?_ (F.args_enumerate_iter_1 _))
    show wpAny _ _ (ret (.ref e)) _ _ s
    exact wpAny_pure ⟨_, rfl, "enumerate", _, hT, F.slot_enumerate_next.lookup, h⟩
end L2

namespace L2
open PySem PySem.Spec PyProof.Rows

/-! ### enumerate, as a loop walks it -/
section
variable {X : Cx}
def iEnum (K : PySem.W.Frag) (ta : TA) : TI := fun σ H R => ta σ H fun vs H1 => ∃ a, vs = [.ref a] ∧ (∃ xs, SqL K H1 a xs) ∧ R (Ite K a) H1
theorem pi_enum {elts : List Expr} {kk : Nat} {tp : Pos} {a : Expr} {ta : TA} {p pos : Pos} (hg : Gl X "enumerate") (hm : X.mg "enumerate" = none) (hb : bootBuiltins "enumerate" = some (.type "enumerate")) (ha : PA X [a] ta) (hs : starEach [a] X.env = [(false, eval a X.env)] := by rfl) :
    PI X (.Tuple elts kk tp) (.Call (.Name "enumerate" p) [a] [] pos) (iEnum X.K ta) := .mk <| by
  intro pins s σ H R I h
  refine Call_ (ld_blt I hg hm hb (PyProof.Rows.callWith_type1 (thn (ha pos pins s σ H _ I h) fun us s1 ⟨vs, H1, I1, r1, q1⟩ => ?_) hs rfl))
  obtain ⟨b, e, ⟨xs, hq⟩, q⟩ := q1
  subst e
  cases r1 with
  | cons r rr =>
    cases rr
    cases r
    obtain ⟨its, rv, pl, hz⟩ := I1.list hq
    refine call_enumerate_list pl.isList fun h' he hi hsz hk => ?_
    have I2 : Inv X pins σ H1 { s1 with heap := h' } := I1.kept (t' := s1.toks) hk
    have T := turn_enum (P := X.prog) (w := X.w) (K := X.K) (elts := elts) (kk := kk) (tp := tp) b (s1.heap.objs.size + 1) s1.heap.objs.size (Nat.succ_ne_self _)
    have t0 : (∃ old, IsEnum h' (s1.heap.objs.size + 1) s1.heap.objs.size ((0 : Nat) : Int) old) ∧ h'.IsListIter s1.heap.objs.size b 0 := ⟨⟨.none, by simpa using he⟩, hi⟩
    refine T.self X.A 0 _ _ _ t0 ⟨_, _, _, _, H1, rfl, I2, T, t0, fun c hc => ?_, q⟩
    have hc' : s1.heap.objs.size ≤ c := by
      have : c = s1.heap.objs.size + 1 ∨ c = s1.heap.objs.size := by simpa using hc
      rcases this with rfl | rfl
      · exact Nat.le_succ _
      · exact Nat.le_refl _
    exact I1.fpOk hc' (I1.hok.fresh hc')
end
theorem for_enum {K : PySem.W.Frag} {a : Addr} {xs : List V} {g : TG} {tb : TS} {D : Ends} {σ : St} {H : Hp} (Pv : Nat → St → Hp → Prop) (h0 : Pv 0 σ H) (hl : ∀ i σ H, i ≤ xs.length → Pv i σ H → SqL K H a xs)
    (hs : ∀ i x T σ H, xs[i]? = some x → Pv i σ H → H T = none → g (.ref T) σ (upd H T (.tup [.int i, x])) fun σ2 H2 => tb { D with nx := Pv (i + 1), ct := Pv (i + 1), bk := D.nx } σ2 H2) (hd : ∀ σ H, Pv xs.length σ H → D.nx σ H) :
    ∃ W : Nat → Nat → St → Hp → Prop, (∃ m, W 0 m σ H) ∧ ∀ i m σ H, W i m σ H →
      ((Ite K a).stop i H ∧ D.nx σ H) ∨ ((Ite K a).go i H ∧ ∃ N : St → Hp → Prop, (∀ σ' H', N σ' H' → ∃ m', m' < m ∧ W (i + 1) m' σ' H') ∧ ∀ x H', (Ite K a).yld i H x H' → g x σ H' fun σ2 H2 => tb { D with nx := N, ct := N, bk := D.nx } σ2 H2) := by
  refine ⟨fun i m σ H => m = xs.length - i ∧ i ≤ xs.length ∧ Pv i σ H, ⟨xs.length, by simp, Nat.zero_le _, h0⟩, ?_⟩
  rintro i m σ H ⟨rfl, hi, p⟩
  have q := hl i σ H hi p
  by_cases hlt : i < xs.length
  · refine .inr ⟨⟨xs, xs[i], q, by simp [hlt]⟩, Pv (i + 1), fun σ' H' p' => ⟨xs.length - (i + 1), by omega, rfl, hlt, p'⟩, fun x H' y => ?_⟩
    obtain ⟨T, z, rfl, hT, rfl, y⟩ := y
    exact hs i z T σ H (y xs q) p hT
  · have e : i = xs.length := by omega
    subst e
    exact .inl ⟨⟨xs, q, Nat.le_refl _⟩, hd σ H p⟩

/-! ### a comprehension's block -/
def clStep (env : Env) (cs : List (Str × Addr)) (p : Str × NameKind) : List (Str × Addr) := if p.2 = .free then (match env.cells.lookup p.1 with | some c => (p.1, c) :: cs | none => cs) else cs
def clOf (scope : Scope) (env : Env) : List (Str × Addr) := scope.names.foldl (clStep env) []
def compOk (scope : Scope) (env : Env) : Bool :=
  scope.names.all (fun p => p.2 != .cell) && scope.names.all (fun p => p.2 != .local || scope.names.lookup p.1 == some .local) && scope.names.all (fun p => p.2 != .free || (env.scope.names.lookup p.1 == some .cell || env.scope.names.lookup p.1 == some .free))

theorem closure_go {env : Env} : ∀ (ns : List (Str × NameKind)) (cs : List (Str × Addr)), (∀ p ∈ ns, p.2 = .free → ∃ c, env.cells.lookup p.1 = some c) →
    (forIn (m := Sem) ns cs fun (p : Str × NameKind) (cs : List (Str × Addr)) => (if (p.2 == .free) = true then do
        let c ← cellOf env p.1
        pure (ForInStep.yield ((p.1, c) :: cs)) else pure (ForInStep.yield cs))) = pure (ns.foldl (clStep env) cs)
  | [], cs, _ => rfl
  | p :: ns, cs, h => by
    rw [List.forIn_cons, List.foldl_cons]
    have ih := closure_go (env := env) ns
    have hr : ∀ q ∈ ns, q.2 = .free → ∃ c, env.cells.lookup q.1 = some c := fun q hq => h q (List.mem_cons_of_mem _ hq)
    by_cases hk : p.2 = .free
    · obtain ⟨c, e⟩ := h p List.mem_cons_self hk
      have e1 : (p.2 == NameKind.free) = true := by simp [hk]
      have e2 : clStep env cs p = (p.1, c) :: cs := by unfold clStep; rw [if_pos hk, e]
      have e3 : cellOf env p.1 = pure c := by unfold cellOf; rw [e]
      rw [if_pos e1, e3, e2]
      exact ih _ hr
    · have e1 : ¬ ((p.2 == NameKind.free) = true) := by simp [hk]
      have e2 : clStep env cs p = cs := by unfold clStep; rw [if_neg hk]
      rw [if_neg e1, e2]
      exact ih _ hr
theorem closure_is {scope : Scope} {env : Env} (h : ∀ p ∈ scope.names, p.2 = .free → ∃ c, env.cells.lookup p.1 = some c) : closureFor scope env = pure (clOf scope env) := by
  have e := closure_go (env := env) scope.names [] h
  have e2 := congrArg (fun (z : Sem (List (Str × Addr))) => z >>= fun s => pure s) e
  exact e2
theorem cl_in {env : Env} {x : Str} {c : Addr} : ∀ (ns : List (Str × NameKind)) (cs : List (Str × Addr)), (∀ y d, cs.lookup y = some d → env.cells.lookup y = some d) → (ns.foldl (clStep env) cs).lookup x = some c → env.cells.lookup x = some c
  | [], cs, h, e => h x c e
  | p :: ns, cs, h, e => by
    refine cl_in ns (clStep env cs p) (fun y d q => ?_) e
    unfold clStep at q
    split at q
    · split at q
      · rename_i c' ec
        rw [List.lookup_cons] at q
        split at q
        · rename_i he
          have : y = p.1 := by simpa using he
          subst this; rw [← q]; exact ec
        · exact h y d q
      · exact h y d q
    · exact h y d q
theorem cl_mono {env : Env} {x : Str} {c : Addr} (hx : env.cells.lookup x = some c) : ∀ (ns : List (Str × NameKind)) (cs : List (Str × Addr)), cs.lookup x = some c → (ns.foldl (clStep env) cs).lookup x = some c
  | [], cs, e => e
  | p :: ns, cs, e => by
    refine cl_mono hx ns (clStep env cs p) ?_
    unfold clStep
    split
    · split
      · rename_i c' ec
        rw [List.lookup_cons]
        split
        · rename_i he
          have : x = p.1 := by simpa using he
          subst this; rw [hx] at ec; exact ec.symm
        · exact e
      · exact e
    · exact e
theorem cl_has {env : Env} {x : Str} {c : Addr} (hx : env.cells.lookup x = some c) : ∀ (ns : List (Str × NameKind)) (cs : List (Str × Addr)), (x, NameKind.free) ∈ ns → (ns.foldl (clStep env) cs).lookup x = some c
  | [], cs, e => by simp at e
  | p :: ns, cs, e => by
    rcases List.mem_cons.mp e with e | e
    · subst e
      refine cl_mono hx ns _ ?_
      unfold clStep
      rw [if_pos rfl, hx]
      simp
    · exact cl_has hx ns _ e

theorem compOk_cell {scope : Scope} {env : Env} (h : compOk scope env = true) : ∀ p ∈ scope.names, p.2 ≠ .cell := fun p hp => by
  unfold compOk at h
  simp only [Bool.and_eq_true, List.all_eq_true] at h
  simpa using h.1.1 p hp
theorem compOk_local {scope : Scope} {env : Env} (h : compOk scope env = true) : ∀ p ∈ scope.names, p.2 = .local → scope.names.lookup p.1 = some .local := fun p hp e => by
  unfold compOk at h
  simp only [Bool.and_eq_true, List.all_eq_true] at h
  have := h.1.2 p hp
  rw [e] at this
  simpa using this
theorem compOk_free {scope : Scope} {env : Env} (h : compOk scope env = true) : ∀ p ∈ scope.names, p.2 = .free → env.kindOf p.1 = some .cell ∨ env.kindOf p.1 = some .free := fun p hp e => by
  unfold compOk at h
  simp only [Bool.and_eq_true, List.all_eq_true] at h
  have := h.2 p hp
  rw [e] at this
  simpa [Env.kindOf] using this

theorem lookup_relabel {env : Env} : ∀ {names : List (Str × NameKind)} {x : Str} {k : NameKind},
    (names.map fun (n, k) => if (k == NameKind.free && env.scope.kind == .function && env.kindOf n == some .cell) then (n, NameKind.cell) else (n, k)).lookup x = some k →
      names.lookup x = some k ∨ (names.lookup x = some .free ∧ k = .cell)
  | [], _, _, h => by simp at h
  | (n, j) :: r, x, k, h => by
    have ih := @lookup_relabel env r x k
    rw [List.map_cons] at h
    by_cases hx : (x == n) = true
    · rw [List.lookup_cons, hx]
      by_cases hc : (j == NameKind.free && env.scope.kind == .function && env.kindOf n == some .cell) = true
      · simp only [hc, if_true] at h
        rw [List.lookup_cons, hx] at h
        have hj : j = .free := by
          simp only [Bool.and_eq_true] at hc
          simpa using hc.1.1
        exact .inr ⟨by simp [hj], (Option.some.inj h).symm⟩
      · simp only [hc, if_false] at h
        have h' : List.lookup x ((n, j) :: List.map (fun x => if (x.snd == NameKind.free && env.scope.kind == ScopeKind.function && env.kindOf x.fst == some NameKind.cell) = true then (x.fst, NameKind.cell) else (x.fst, x.snd)) r) = some k := by simpa using h
        rw [List.lookup_cons, hx] at h'
        exact .inl h'
    · have hx' : (x == n) = false := by simpa using hx
      rw [List.lookup_cons, hx']
      apply ih
      by_cases hc : (j == NameKind.free && env.scope.kind == .function && env.kindOf n == some .cell) = true
      · simp only [hc, if_true] at h
        rw [List.lookup_cons, hx'] at h
        exact h
      · have h' : List.lookup x ((n, j) :: List.map (fun x => if (x.snd == NameKind.free && env.scope.kind == ScopeKind.function && env.kindOf x.fst == some NameKind.cell) = true then (x.fst, NameKind.cell) else (x.fst, x.snd)) r) = some k := by simpa [hc] using h
        rw [List.lookup_cons, hx'] at h'
        exact h'
theorem relabel_free {env : Env} : ∀ {names : List (Str × NameKind)} {x : Str}, names.lookup x = some .free →
    ∃ k, (names.map fun (n, k) => if (k == NameKind.free && env.scope.kind == .function && env.kindOf n == some .cell) then (n, NameKind.cell) else (n, k)).lookup x = some k ∧ (k = .cell ∨ k = .free)
  | [], _, h => by simp at h
  | (n, j) :: r, x, h => by
    have ih := @relabel_free env r x
    by_cases hx : (x == n) = true
    · rw [List.lookup_cons, hx] at h
      have hj : j = .free := Option.some.inj h
      subst hj
      by_cases hc : (env.scope.kind == .function && env.kindOf n == some .cell) = true
      · refine ⟨.cell, ?_, .inl rfl⟩
        show List.lookup x ((if (NameKind.free == NameKind.free && env.scope.kind == .function && env.kindOf n == some .cell) = true then (n, NameKind.cell) else (n, NameKind.free)) :: _) = _
        rw [if_pos (by simpa using hc), List.lookup_cons, hx]
      · refine ⟨.free, ?_, .inr rfl⟩
        show List.lookup x ((if (NameKind.free == NameKind.free && env.scope.kind == .function && env.kindOf n == some .cell) = true then (n, NameKind.cell) else (n, NameKind.free)) :: _) = _
        rw [if_neg (by simpa using hc), List.lookup_cons, hx]
    · have hx' : (x == n) = false := by simpa using hx
      rw [List.lookup_cons, hx'] at h
      obtain ⟨k, e, hk⟩ := ih h
      refine ⟨k, ?_, hk⟩
      rw [List.map_cons]
      by_cases hc : (j == NameKind.free && env.scope.kind == .function && env.kindOf n == some .cell) = true
      · simp only [hc, if_true, List.lookup_cons, hx']
        exact e
      · show List.lookup x ((if (j == NameKind.free && env.scope.kind == .function && env.kindOf n == some .cell) = true then (n, NameKind.cell) else (n, j)) :: _) = _
        rw [if_neg hc, List.lookup_cons, hx']
        exact e

def Cx.comp (X : Cx) (scope : Scope) (C : Addr) (s₀ : Shared) (H₀ : Hp) (fp : List Addr) (N' : List Str) (E' : Value → Shared → Prop) : Cx :=
  { X with N := N', s₀ := s₀, H₀ := H₀, env := compEnvC scope (clOf scope X.env) C X.env, outer := X.stack, ex := fp, fn := fun _ => false, pn := [], xe := E' }
def caps (cap : List Nat) (σ : St) : St := cap.map fun j => (σ[j]?).join
def capOk (X : Cx) (scope : Scope) (N' : List Str) (nt : Nat) (cap : List Nat) : Bool :=
  (N'.length == nt + cap.length) && ((List.range cap.length).all fun j => match cap[j]?, N'[nt + j]? with
    | some i, some x => X.N[i]? == some x && scope.names.lookup x == some .free
    | _, _ => false)
section
variable {X : Cx}
theorem capOk_get {scope : Scope} {N' : List Str} {nt : Nat} {cap : List Nat} (h : capOk X scope N' nt cap = true) : N'.length = nt + cap.length ∧ ∀ j i, cap[j]? = some i → ∃ x, N'[nt + j]? = some x ∧ X.N[i]? = some x ∧ scope.names.lookup x = some .free := by
  unfold capOk at h
  simp only [Bool.and_eq_true, List.all_eq_true, beq_iff_eq] at h
  refine ⟨h.1, fun j i e => ?_⟩
  have hj : j < cap.length := (List.getElem?_eq_some_iff.mp e).1
  have q := h.2 j (List.mem_range.mpr hj)
  rw [e] at q
  cases q2 : N'[nt + j]? with
  | none => rw [q2] at q; simp at q
  | some x =>
    rw [q2] at q
    simp only [Bool.and_eq_true, beq_iff_eq] at q
    exact ⟨x, rfl, q.1, q.2⟩
/-- the block's context, at its entry -/
theorem comp_start {pins : List (Addr × Obj)} {σ : St} {H : Hp} {s3 : Shared} {scope : Scope} {fp : List Addr} {N' : List Str} {nt : Nat} {cap : List Nat} {h4 : Heap} {t4 : Nat} {E' : Value → Shared → Prop} {m : Str → Option Value}
    (I : Inv X pins σ H s3) (hk : scope.kind = .function) (hb : compOk scope X.env = true) (hc : capOk X scope N' nt cap = true) (hf : ∀ b ∈ fp, FpOk X pins H b) (hfl : ∀ b ∈ fp, b < s3.heap.objs.size)
    (hn : h4.Ns s3.heap.objs.size m) (kp : ∀ b o, s3.heap.get? b = some o → h4.get? b = some o) :
    Inv (X.comp scope s3.heap.objs.size s3 H fp N' E') [] (List.replicate nt none ++ caps cap σ) H { s3 with heap := h4, toks := t4 } := by
  obtain ⟨hlen, hcap⟩ := capOk_get hc
  have cin : ∀ x c, (clOf scope X.env).lookup x = some c → X.env.cells.lookup x = some c := fun x c e => cl_in scope.names [] (fun y d q => by simp at q) e
  have kin : ∀ x, ((X.comp scope s3.heap.objs.size s3 H fp N' E').env.kindOf x = some .cell ∨ (X.comp scope s3.heap.objs.size s3 H fp N' E').env.kindOf x = some .free) → scope.names.lookup x = some .free := fun x hx => by
    have one : ∀ k, (k = NameKind.cell ∨ k = NameKind.free) → (X.comp scope s3.heap.objs.size s3 H fp N' E').env.kindOf x = some k → scope.names.lookup x = some .free := fun k hk' e => by
      rcases lookup_relabel (env := X.env) (names := scope.names) (x := x) (k := k) e with z | z
      · rcases hk' with rfl | rfl
        · exact absurd rfl (compOk_cell hb _ (PySem.mem_of_lookup z))
        · exact z
      · exact z.1
    rcases hx with hx | hx
    · exact one _ (.inl rfl) hx
    · exact one _ (.inr rfl) hx
  have has : ∀ x, scope.names.lookup x = some .free → ∃ c, X.env.cells.lookup x = some c ∧ (clOf scope X.env).lookup x = some c := fun x hx => by
    have hm := PySem.mem_of_lookup hx
    obtain ⟨c, e⟩ := I.ok.has x (compOk_free hb _ hm rfl)
    exact ⟨c, e, cl_has e _ _ hm⟩
  refine ⟨⟨I.ok.mod, hk, I.ok.glob, I.ok.blt, Nat.le_refl _, fun x y c e1 e2 => I.ok.inj x y c (cin x c e1) (cin y c e2), fun x hx => ?_, fun x c z _ => absurd z Bool.false_ne_true, I.ok.hd, I.ok.frames, .inl rfl, fun b hb' => ⟨Nat.ne_of_lt (hfl b hb'), fun x c e => (hf b hb').2.2.2.2.1 x c (cin x c e)⟩,
    I.bs, Nat.le_trans I.ok.bsz I.sz, fun b o e hb' => ?_, fun b hb' hs => ?_, I.stack, I.stkFree⟩, rfl, I.bare, Un.kept kp, ⟨m, hn, fun i x v h1 h2 h3 => ?_⟩, fun x c e => ?_, I.hok.fresh (Nat.le_refl _), fun x c e => I.freeC x c (cin x c e), fun p hp => absurd hp (by simp [Cx.comp]), I.hok.kept kp, ?_⟩
  · obtain ⟨c, _, e⟩ := has x (kin x hx)
    exact ⟨c, e⟩
  · rcases (hf b hb').2.2.2.1 with z | z
    · exact I.ok.noex b o e z
    · exact absurd (Nat.lt_of_lt_of_le (Heap.lt_size e) (Nat.le_trans I.ok.bsz z)) (Nat.lt_irrefl _)
  · rcases List.mem_cons.mp (I.stkSub b hs) with z | z
    · exact (hf b hb').2.1 z
    · exact (hf b hb').2.2.1 z
  · have hge : nt ≤ i := by
      by_cases hlt : i < nt
      · rw [List.getElem?_append_left (by simpa using hlt), List.getElem?_replicate] at h2
        split at h2 <;> cases h2
      · omega
    obtain ⟨j, rfl⟩ : ∃ j, i = nt + j := ⟨i - nt, by omega⟩
    rw [List.getElem?_append_right (by simp), List.length_replicate, Nat.add_sub_cancel_left] at h2
    unfold caps at h2
    rw [List.getElem?_map] at h2
    cases ej : cap[j]? with
    | none => rw [ej] at h2; cases h2
    | some i' =>
      rw [ej] at h2
      have h2' : (σ[i']?).join = some v := Option.some.inj h2
      obtain ⟨x', e1, e2, e3⟩ := hcap j i' ej
      have : x' = x := by
        have h1' : N'[nt + j]? = some x := h1
        rw [e1] at h1'; exact Option.some.inj h1'
      subst this
      have hσ : σ[i']? = some (some v) := by
        cases q : σ[i']? with
        | none => rw [q] at h2'; cases h2'
        | some o => rw [q] at h2'; exact congrArg some h2'
      have hkx := compOk_free hb _ (PySem.mem_of_lookup e3) rfl
      obtain ⟨m', hn', hl'⟩ := I.loc
      obtain ⟨u, ru, lk⟩ := hl' i' x' v e2 hσ (hkx.elim (fun z => .inr (.inl z)) fun z => .inr (.inr z))
      refine ⟨u, ru, .inr ⟨?_, ?_⟩⟩
      · obtain ⟨k, ek, hk'⟩ := relabel_free (env := X.env) e3
        rcases hk' with rfl | rfl
        · exact .inl ek
        · exact .inr ek
      · rcases lk with ⟨kl, _⟩ | ⟨_, c, ec, icell⟩
        · rcases hkx with z | z <;> (rw [kl] at z; cases z)
        · exact ⟨c, cl_has ec _ _ (PySem.mem_of_lookup e3), icell.keeps kp⟩
  · obtain ⟨v, z⟩ := I.cell x c (cin x c e)
    exact ⟨v, z.keeps kp⟩
  · show (List.replicate nt none ++ caps cap σ).length = N'.length
    rw [hlen]
    simp [caps]
end
end L2

namespace L2
open PySem PySem.Spec PyProof.Rows
section
variable {prog : Program} {w : World} {A : Around} {E : Value → Shared → Prop} {R : Result → Shared → Prop} {s : Shared}
theorem compLoop_gen {elt target iter : Expr} {ifs : List Expr} {scope : Scope} {pos : Pos} {it acc : Value} {env : Env} (I : Nat → Shared → Prop)
    (turn : ∀ n s, I n s → wpAny (model prog w) A (pyNext it) (fun r s₁ => match r with
      | none => R (.ok .next) s₁
      | some v => wpAny (model prog w) A (letOwnedTupleGo target it v) (fun _ s₁' => wpAny (model prog w) A (assign target env v) (fun _ s₂ =>
          wpAny (model prog w) A (forIn ifs true fun c r => if r = true then do let ok ← isTrue c env (eval c env); pure (ForInStep.yield ok) else pure (ForInStep.yield r)) (fun ok s₃ =>
            if ok = true then wpAny (model prog w) A (eval elt env) (fun x s₄ =>
              wpAny (model prog w) A (call (.builtin "list.append") [acc, x]) (fun _ s₅ => ∃ m, m < n ∧ I m s₅) (notedBy (model prog w) A env fun e s' => R (.error e) s') s₄) (notedBy (model prog w) A env fun e s' => R (.error e) s') s₃
            else ∃ m, m < n ∧ I m s₃) (notedBy (model prog w) A env fun e s' => R (.error e) s') s₂) (notedBy (model prog w) A env fun e s' => R (.error e) s') s₁') (notedBy (model prog w) A env fun e s' => R (.error e) s') s₁) (notedBy (model prog w) A env fun e s' => R (.error e) s') s)
    (n : Nat) (h : I n s) : codeAny (model prog w) A (.compLoop (.ListComp elt [⟨target, iter, ifs, 0⟩] scope pos) 0 it acc env) R s := by
  refine codeAny_loop rfl I (fun n s hI => ?_) n h
  show wpAny _ A ((compTurn (.ListComp elt [⟨target, iter, ifs, 0⟩] scope pos) 0 it acc env).onRaise (fun x => do noteFrame x env; theTreesLotGoes x)) _ _ s
  refine wpAny_noted ?_
  rw [compTurn_list]
  refine wpAny_bind (wpAny_standAt (wpAny_bind (wpAny_mono (turn n s hI) (fun r s₁ h₁ => ?_) fun _ _ h' => h')))
  cases r with
  | none => exact wpAny_pure h₁
  | some v =>
    refine wpAny_bind (wpAny_mono h₁ (fun _ s₁' h₁' => ?_) fun _ _ h' => h')
    refine wpAny_bind (wpAny_mono h₁' (fun _ s₂ h₂ => wpAny_bind (wpAny_mono h₂ (fun ok s₃ h₃ => ?_) fun _ _ h' => h')) fun _ _ h' => h')
    cases ok with
    | false => exact wpAny_pure ⟨rfl, h₃⟩
    | true =>
      exact wpAny_bind (wpAny_bind (wpAny_mono h₃ (fun x s₄ h₄ => wpAny_bind (wpAny_mono h₄ (fun _ s₅ h₅ => wpAny_pure (wpAny_pure ⟨rfl, h₅⟩)) fun _ _ h' => h')) fun _ _ h' => h'))
end
/-- the tests of a clause -/
structure PIf (X : Cx) (ifs : List Expr) (t : TT) : Prop where
  run :
  ∀ (pins : List (Addr × Obj)) (s : Shared) (σ : St) (H : Hp) (Q : Bool → Hp → Prop), Inv X pins σ H s → t σ H Q →
    wpAny (model X.prog X.w) X.A (forIn ifs true fun c r => if r = true then do let ok ← isTrue c X.env (eval c X.env); pure (ForInStep.yield ok) else pure (ForInStep.yield r)) (TP X pins σ Q) X.xe s
instance {X : Cx} {ifs : List Expr} {t : TT} : CoeFun (PIf X ifs t) (fun _ =>
  ∀ (pins : List (Addr × Obj)) (s : Shared) (σ : St) (H : Hp) (Q : Bool → Hp → Prop), Inv X pins σ H s → t σ H Q →
    wpAny (model X.prog X.w) X.A (forIn ifs true fun c r => if r = true then do let ok ← isTrue c X.env (eval c X.env); pure (ForInStep.yield ok) else pure (ForInStep.yield r)) (TP X pins σ Q) X.xe s
  ) := ⟨fun h => h.run⟩
def tYes : TT := fun _ H Q => Q true H
def CompW (J : It) (D : Addr) (nt : Nat) (cap : List Nat) (g : TG) (ti : TT) (te : TE) (σ : St) (H1 : Hp) (Q : VK) : Prop := ∃ W : Nat → Nat → List V → Hp → Prop, (∃ m, W 0 m [] (upd H1 D (.lst []))) ∧
  ∀ i m ys H2, W i m ys H2 → H2 D = some (.lst ys) ∧ ((J.stop i H2 ∧ Q (.ref D) H2) ∨ (J.go i H2 ∧ ys.length < sizeLine ∧ ∀ x H3, J.yld i H2 x H3 → g x (List.replicate nt none ++ caps cap σ) H3 fun σ4 H4 => ti σ4 H4 fun b H5 =>
    if b = true then te σ4 H5 fun y H6 => H6 D = some (.lst ys) ∧ ∃ m', m' < m ∧ W (i + 1) m' (ys ++ [y]) (upd H6 D (.lst (ys ++ [y]))) else ∃ m', m' < m ∧ W (i + 1) m' ys H5))
def tComp (wi : TI) (nt : Nat) (cap : List Nat) (g : TG) (ti : TT) (te : TE) : TE := fun σ H Q => wi σ H fun J H1 => ∀ D, H1 D = none → CompW J D nt cap g ti te σ H1 Q
/-- the targets' slots stand first, and are the only ones stored -/
def GKeeps (nt : Nat) (g : TG) : Prop := ∀ (x : V) (c : St) (H : Hp) (Q : St → Hp → Prop), g x (List.replicate nt none ++ c) H Q →
  g x (List.replicate nt none ++ c) H fun σ' H' => Q σ' H' ∧ ∀ (j : Nat) v, (List.replicate nt none ++ c)[j]? = some (some v) → σ'[j]? = some (some v)
theorem gk1 : GKeeps 1 (gName 0) := fun x c H Q h => ⟨h, fun j v e => by
  cases j with
  | zero => simp at e
  | succ j => simpa using e⟩
section
variable {X : Cx}
theorem pif_nil : PIf X [] tYes := .mk <| fun _ _ _ H _ I h => wpAny_tests_nil ⟨H, I, h⟩
theorem comp_back {pins pins' : List (Addr × Obj)} {σ σ' : St} {H H' : Hp} {s3 s' : Shared} {scope : Scope} {fp : List Addr} {N' : List Str} {E' : Value → Shared → Prop}
    (I3 : Inv X pins σ H s3) (hf : ∀ b ∈ fp, FpOk X pins H b) (I' : Inv (X.comp scope s3.heap.objs.size s3 H fp N' E') pins' σ' H' s') : Inv X pins σ H' s' := by
  refine I3.call' (ch := fp) I'.os I'.base I'.hok I'.bare fun b hb => ?_
  obtain ⟨f0, f1, f2, f3, f4, f5⟩ := hf b hb
  exact ⟨f3, f1, f4, f5⟩

theorem comp_core {elt tg iter : Expr} {ifs : List Expr} {scope : Scope} {pos : Pos} {N' : List Str} {nt : Nat} {cap : List Nat} {wi : TI} {g : TG} {ti : TT} {te : TE}
    (EK : Addr → Shared → Hp → List Addr → (Value → Shared → Prop) → Prop)
    (hE : ∀ (pins : List (Addr × Obj)) (σ : St) (s3 : Shared) (H3 : Hp) (fp : List Addr) (Q : VK) (D : Addr), Inv X pins σ H3 s3 → (∀ b ∈ fp, FpOk X pins H3 b) →
      EK s3.heap.objs.size s3 H3 fp (notedBy (model X.prog X.w) X.A (compEnvC scope (clOf scope X.env) s3.heap.objs.size X.env) fun e s' => compPost (model X.prog X.w) X.A X.xe none (EP X pins σ Q) (.ref D) s3.heap.objs.size (.error e) s'))
    (hc : X.calm = true) (hi : PI X tg iter wi)
    (hg : ∀ C s₀ H₀ fp E', EK C s₀ H₀ fp E' → PG (X.comp scope C s₀ H₀ fp N' E') tg g)
    (hif : ∀ C s₀ H₀ fp E', EK C s₀ H₀ fp E' → PIf (X.comp scope C s₀ H₀ fp N' E') ifs ti)
    (he : ∀ C s₀ H₀ fp E', EK C s₀ H₀ fp E' → PE (X.comp scope C s₀ H₀ fp N' E') elt te)
    (hk : scope.kind = .function) (hb : compOk scope X.env = true) (hcap : capOk X scope N' nt cap = true)
    (hgk : GKeeps nt g) (hs : ∀ x, foldedSetIterable iter X.env x = pure x) : PE X (.ListComp elt [⟨tg, iter, ifs, 0⟩] scope pos) (tComp wi nt cap g ti te) := .mk <| by
  intro pins s σ H Q I h
  rw [eval_ListComp]
  have hclos : closureFor scope X.env = pure (clOf scope X.env) := closure_is fun p hp e => I.ok.has p.1 (compOk_free hb p hp e)
  refine wpAny_comprehension_free (use := none) rfl hs hclos hk (compOk_local hb) (thn (hi pins s σ H _ I h) fun v s1 h1 => thn h1 fun itv s2 h2 => ?_)
  obtain ⟨it, fp, tn, J, H2, e, I2, T, st2, f2, q2⟩ := h2
  subst e
  refine wpAny_newObj_type (wpAny_newFunctionEnv (compOk_cell hb) (by intro y hy; simp at hy) (fun h₁ hns₁ hsb₁ => ?_) hk)
  have I3 := I2.lnew (ys := []) (its := []) (t' := s2.toks) .nil (Nat.zero_le _)
  have hfl : ∀ b ∈ fp, b < s2.heap.objs.size := fun b hb' => let ⟨o, e, _⟩ := T.obj 0 _ st2 b hb'; Heap.lt_size e
  obtain ⟨W, ⟨m0, w0⟩, turn⟩ := q2 s2.heap.objs.size (I2.hok.fresh (Nat.le_refl _))
  have nD : ∀ b ∈ fp, b ≠ s2.heap.objs.size := fun b hb' => Nat.ne_of_lt (hfl b hb')
  have f3 : ∀ b ∈ fp, FpOk X pins (upd H2 s2.heap.objs.size (.lst [])) b := fun b hb' => ⟨by rw [upd_ne (nD b hb')]; exact (f2 b hb').1, (f2 b hb').2⟩
  obtain ⟨s3, hs3⟩ : ∃ s3 : Shared, s3 = { s2 with heap := s2.heap.push { cls := .type "list", data := .seq ([] : List Value).toArray }, toks := s2.toks } := ⟨_, rfl⟩
  have hs3' : s3.heap = s2.heap.push { cls := .type "list", data := .seq ([] : List Value).toArray } := by rw [hs3]
  rw [← hs3] at I3
  have hsz : s3.heap.objs.size = s2.heap.objs.size + 1 := by rw [hs3', Heap.size_push]
  have hfl3 : ∀ b ∈ fp, b < s3.heap.objs.size := fun b hb' => by rw [hsz]; exact Nat.lt_succ_of_lt (hfl b hb')
  have hC : (s2.heap.push { cls := Value.type "list", dict := none, data := Data.seq ([] : List Value).toArray }).objs.size = s3.heap.objs.size := by rw [hs3']
  dsimp only at hns₁ hsb₁ ⊢
  rw [hC] at hns₁ hsb₁ ⊢
  rw [← hs3'] at hsb₁
  have kp : ∀ b o, s3.heap.get? b = some o → h₁.get? b = some o := fun b o e => hsb₁.extBut b o (Nat.ne_of_lt (Heap.lt_size e)) (Heap.get?_push_of_some _ e)
  have hEE := hE pins σ s3 _ fp Q s2.heap.objs.size I3 f3
  generalize hE' : (notedBy (model X.prog X.w) X.A (compEnvC scope (clOf scope X.env) s3.heap.objs.size X.env) fun e s' => compPost (model X.prog X.w) X.A X.xe none (EP X pins σ Q) (.ref s2.heap.objs.size) s3.heap.objs.size (.error e) s') = E' at hEE
  have I4 := comp_start (t4 := s2.toks + ([] : List (Str × Value)).length) (E' := E') I3 hk hb hcap f3 hfl3 hns₁ kp
  have st4 : tn 0 h₁ := T.keep 0 _ _ st2 fun b hb' o e => kp b o (by rw [hs3']; exact Heap.get?_push_of_some _ e)
  obtain ⟨s4, hs4⟩ : ∃ s4 : Shared, s4 = { s3 with heap := h₁, toks := s2.toks + ([] : List (Str × Value)).length } := ⟨_, rfl⟩
  rw [← hs4] at I4
  have st4' : tn 0 s4.heap := by rw [hs4]; exact st4
  have cin : ∀ x c, (clOf scope X.env).lookup x = some c → X.env.cells.lookup x = some c := fun x c e => cl_in scope.names [] (fun y d q => by simp at q) e
  have stat : ∀ {H' : Hp}, (∀ b ∈ fp, H' b = none) → ∀ b ∈ fp, FpOk (X.comp scope s3.heap.objs.size s3 (upd H2 s2.heap.objs.size (.lst [])) fp N' E') [] H' b := fun hn b hb' => by
    refine ⟨hn b hb', Nat.ne_of_lt (hfl3 b hb'), fun z => ?_, .inl hb', fun x c e => (f3 b hb').2.2.2.2.1 x c (cin x c e), fun p hp => absurd hp (by simp [Cx.comp])⟩
    rcases List.mem_cons.mp (I3.stkSub b z) with z | z
    · exact (f3 b hb').2.1 z
    · exact (f3 b hb').2.2.1 z
  have loop : codeAny (model X.prog X.w) X.A (.compLoop (.ListComp elt [⟨tg, iter, ifs, 0⟩] scope pos) 0 (.ref it) (.ref s2.heap.objs.size) (compEnvC scope (clOf scope X.env) s3.heap.objs.size X.env))
      (compPost (model X.prog X.w) X.A X.xe none (EP X pins σ Q) (.ref s2.heap.objs.size) s3.heap.objs.size) s4 := by
    refine compLoop_gen (fun n s' => ∃ i ys H', Inv (X.comp scope s3.heap.objs.size s3 (upd H2 s2.heap.objs.size (.lst [])) fp N' E') [] (List.replicate nt none ++ caps cap σ) H' s' ∧ tn i s'.heap ∧ (∀ b ∈ fp, H' b = none) ∧ W i n ys H') ?_ m0
      ⟨0, [], _, I4, st4', fun b hb' => (f3 b hb').1, w0⟩
    rintro n s5 ⟨i, ys, H5, I5, st5, fr5, w5⟩
    rw [hE']
    obtain ⟨hD5, alt⟩ := turn i n ys H5 w5
    rcases alt with ⟨stop, qn⟩ | ⟨go, hyl, step⟩
    · refine thn (T.done (X.comp scope s3.heap.objs.size s3 (upd H2 s2.heap.objs.size (.lst [])) fp N' E') rfl rfl rfl hc i [] s5 _ H5 E' I5 (stat fr5) st5 stop) fun r s6 ⟨hr, I6⟩ => ?_
      subst hr
      obtain ⟨m6, hn6, _⟩ := I6.loc
      refine ⟨m6, hn6, fun h' hsb' => ?_⟩
      have I7 := comp_back I3 f3 I6
      refine ⟨.ref s2.heap.objs.size, H5, ?_, rfl, qn⟩
      refine I7.turnedL (ch := [s3.heap.objs.size]) (t' := s6.toks) (fun b hb' => ?_) fun b u hb' e => (hsb'.2 b fun z => hb' (by simp [z])).trans e
      have eb : b = s3.heap.objs.size := by simpa using hb'
      subst eb
      exact I3.fpOk (Nat.le_refl _) I6.free
    · refine thn (T.item (X.comp scope s3.heap.objs.size s3 (upd H2 s2.heap.objs.size (.lst [])) fp N' E') rfl rfl rfl hc i [] s5 _ H5 E' I5 (stat fr5) st5 go) fun r s6 ⟨u, hr, h6⟩ => ?_
      subst hr
      refine thn h6 fun _ s7 ⟨x, H7, I7, r7, y7, st7, fr7⟩ => ?_
      have I7' := I7.pinned (stat fr7) (T.obj _ _ st7)
      have again : ∀ {σ8 : St} {H8 : Hp} {ys' : List V} {s8 : Shared}, Inv (X.comp scope s3.heap.objs.size s3 (upd H2 s2.heap.objs.size (.lst [])) fp N' E') ([] ++ pinsAt fp s7.heap) σ8 H8 s8 → (∃ m', m' < n ∧ W (i + 1) m' ys' H8) → (∀ (j : Nat) v, (List.replicate nt none ++ caps cap σ)[j]? = some (some v) → σ8[j]? = some (some v)) →
          ∃ m, m < n ∧ ∃ i ys H', Inv (X.comp scope s3.heap.objs.size s3 (upd H2 s2.heap.objs.size (.lst [])) fp N' E') [] (List.replicate nt none ++ caps cap σ) H' s8 ∧ tn i s8.heap ∧ (∀ b ∈ fp, H' b = none) ∧ W i m ys H' := fun {σ8 H8 ys' s8} I8 ⟨m', hm, w8⟩ hσ => by
        refine ⟨m', hm, i + 1, ys', H8, I8.unpinned.weak (by rw [I8.len, I5.len]) hσ, T.keep _ _ _ st7 fun b hb o e => (I8.pin (b, o) (List.mem_append_right _ (List.mem_append_right _ (mem_pinsAt hb e)))).1, fun b hb => ?_, w8⟩
        obtain ⟨o, e, d⟩ := T.obj _ _ st7 b hb
        exact (I8.pin (b, o) (List.mem_append_right _ (List.mem_append_right _ (mem_pinsAt hb e)))).2.1
      refine thn (hg _ _ _ _ _ hEE _ s7 _ H7 x u _ I7' r7 (hgk x _ H7 _ (step x H7 y7))) fun _ s8 ⟨σ8, H8, I8, q8, hσ⟩ => ?_
      refine thn (hif _ _ _ _ _ hEE _ s8 σ8 H8 _ I8 q8) fun ok s9 ⟨H9, I9, q9⟩ => ?_
      cases ok with
      | false =>
        rw [if_neg Bool.false_ne_true] at q9 ⊢
        exact again I9 q9 hσ
      | true =>
        rw [if_pos rfl] at q9 ⊢
        refine thn (he _ _ _ _ _ hEE _ s9 σ8 H9 _ I9 q9) fun y s10 ⟨vy, H10, I10, r10, hD10, hm10⟩ => ?_
        exact thn (mt_append (X := X.comp scope s3.heap.objs.size s3 (upd H2 s2.heap.objs.size (.lst [])) fp N' E') _ s10 σ8 H10 (.ref s2.heap.objs.size) [vy] (.ref s2.heap.objs.size) [y] (fun _ H' => H' = upd H10 s2.heap.objs.size (.lst (ys ++ [vy]))) I10 rfl (.cons r10 .nil) ⟨_, _, _, rfl, rfl, hD10, hyl, rfl⟩) fun _ s11 ⟨_, H11, I11, _, e11⟩ => by
          subst e11
          exact again I11 hm10 hσ
  have e4 : ({ s2 with heap := h₁, toks := s2.toks + ([] : List (Str × Value)).length } : Shared) = s4 := by rw [hs4, hs3]
  show codeAny _ _ _ _ { s2 with heap := h₁, toks := s2.toks + ([] : List (Str × Value)).length }
  rw [e4]
  exact codeAny_compStart_list loop (T.self X.A 0 s4 _ _ st4' loop)
/-- a comprehension of one clause, nothing raised in it -/
theorem pe_comp {elt tg iter : Expr} {ifs : List Expr} {scope : Scope} {pos : Pos} {wi : TI} {g : TG} {ti : TT} {te : TE} (N' : List Str) (nt : Nat) (cap : List Nat)
    (hc : X.calm = true) (hi : PI X tg iter wi) (hgk : GKeeps nt g)
    (hg : ∀ C s₀ H₀ fp E', PG (X.comp scope C s₀ H₀ fp N' E') tg g)
    (hif : ∀ C s₀ H₀ fp E', PIf (X.comp scope C s₀ H₀ fp N' E') ifs ti)
    (he : ∀ C s₀ H₀ fp E', PE (X.comp scope C s₀ H₀ fp N' E') elt te)
    (hk : scope.kind = .function := by rfl) (hb : compOk scope X.env = true := by rfl) (hcap : capOk X scope N' nt cap = true := by rfl)
    (hs : ∀ x, foldedSetIterable iter X.env x = pure x := by intro _; rfl) : PE X (.ListComp elt [⟨tg, iter, ifs, 0⟩] scope pos) (tComp wi nt cap g ti te) :=
  comp_core (fun _ _ _ _ _ => True) (fun _ _ _ _ _ _ _ _ _ => trivial) hc hi (fun C s₀ H₀ fp E' _ => hg C s₀ H₀ fp E') (fun C s₀ H₀ fp E' _ => hif C s₀ H₀ fp E') (fun C s₀ H₀ fp E' _ => he C s₀ H₀ fp E') hk hb hcap hgk hs
end
/-! ### the forms one uses: what a comprehension makes, item by item -/
/-- over a text: y = f of each sign, the heap is left as it is but for new things -/
theorem comp_str {x : Str} {nt : Nat} {cap : List Nat} {g : TG} {te : TE} {σ : St} {H1 : Hp} {Q : VK} {D : Addr} (f : Nat → V) (hx : x.cps.size ≤ sizeLine)
    (step : ∀ i c H2 (R : VK), x.cps[i]? = some c → (∀ y, y = f i → R y H2) → g (.str ⟨#[c]⟩) (List.replicate nt none ++ caps cap σ) H2 fun σ4 H4 => te σ4 H4 R)
    (fin : Q (.ref D) (upd H1 D (.lst ((List.range x.cps.size).map f)))) :
    CompW (Its x) D nt cap g tYes te σ H1 Q := by
  refine ⟨fun i m ys H2 => m = x.cps.size - i ∧ i ≤ x.cps.size ∧ ys = (List.range i).map f ∧ H2 = upd H1 D (.lst ys), ⟨_, rfl, Nat.zero_le _, rfl, rfl⟩, ?_⟩
  rintro i m ys H2 ⟨rfl, hi, rfl, rfl⟩
  refine ⟨upd_same, ?_⟩
  by_cases hlt : i < x.cps.size
  · refine .inr ⟨hlt, by simp; omega, fun v H3 ⟨e, c, hc, ev⟩ => ?_⟩
    subst e ev
    have hst := step i c _ (fun y H6 => H6 D = some (.lst ((List.range i).map f)) ∧ ∃ m', m' < x.cps.size - i ∧ (m' = x.cps.size - (i + 1) ∧ i + 1 ≤ x.cps.size ∧ (List.range i).map f ++ [y] = (List.range (i + 1)).map f ∧ upd H6 D (.lst ((List.range i).map f ++ [y])) = upd H1 D (.lst ((List.range i).map f ++ [y])))) hc
      (fun y ey => ⟨upd_same, _, by omega, rfl, hlt, by rw [List.range_succ, List.map_append, ey]; rfl, upd_upd⟩)
    simp only [tYes, if_true]
    exact hst
  · have e : i = x.cps.size := by omega
    subst e
    exact .inl ⟨rfl, fin⟩
theorem comp_range {lo : Int} {n : Nat} {nt : Nat} {cap : List Nat} {g : TG} {te : TE} {σ : St} {H1 : Hp} {Q : VK} {D : Addr} (f : Nat → V) (hx : n ≤ sizeLine)
    (step : ∀ (i : Nat) H2 (R : VK), i < n → (∀ y, y = f i → R y H2) → g (.int (lo + i)) (List.replicate nt none ++ caps cap σ) H2 fun σ4 H4 => te σ4 H4 R)
    (fin : Q (.ref D) (upd H1 D (.lst ((List.range n).map f)))) :
    CompW (Itr lo n) D nt cap g tYes te σ H1 Q := by
  refine ⟨fun i m ys H2 => m = n - i ∧ i ≤ n ∧ ys = (List.range i).map f ∧ H2 = upd H1 D (.lst ys), ⟨_, rfl, Nat.zero_le _, rfl, rfl⟩, ?_⟩
  rintro i m ys H2 ⟨rfl, hi, rfl, rfl⟩
  refine ⟨upd_same, ?_⟩
  by_cases hlt : i < n
  · refine .inr ⟨hlt, by simp; omega, fun v H3 ⟨e, ev⟩ => ?_⟩
    subst e ev
    have hst := step i _ (fun y H6 => H6 D = some (.lst ((List.range i).map f)) ∧ ∃ m', m' < n - i ∧ (m' = n - (i + 1) ∧ i + 1 ≤ n ∧ (List.range i).map f ++ [y] = (List.range (i + 1)).map f ∧ upd H6 D (.lst ((List.range i).map f ++ [y])) = upd H1 D (.lst ((List.range i).map f ++ [y])))) hlt
      (fun y ey => ⟨upd_same, _, by omega, rfl, hlt, by rw [List.range_succ, List.map_append, ey]; rfl, upd_upd⟩)
    simp only [tYes, if_true]
    exact hst
  · have e : i = n := by omega
    subst e
    exact .inl ⟨Nat.le_refl _, fin⟩
end L2

namespace L2
open PySem PySem.Spec PyProof.Rows
section
variable {X : Cx}
/-! ### texts: a slice, join, upper -/
def rSlS : V → Option Int → Option Int → Hp → VK → Prop := fun x lo hi H Q => ∃ z, x = .str z ∧ z.length ≤ sizeLine ∧ Q (.str (Txt.slice z lo hi)) H
theorem sl_str : SlR X rSlS := by
  intro pins s σ H x v vl vu lo hi sl Q I rx hs pl pu h
  obtain ⟨z, rfl, hz, q⟩ := h
  obtain ⟨t, rfl⟩ := rx
  refine ⟨"str", _, F.slot_str_getitem.lookup, typeIs_str _ _ _, ?_⟩
  cases pl with
  | none =>
    cases pu with
    | none => exact wpAny_getItem_str_slice (l := none) (u := none) (st := none) hs rfl (post_val_or_str ⟨Nat.le_trans (Txt.slice_le z _ _) hz, fun t' k => ⟨.str (Txt.slice z _ _), H, I.tok k, ⟨t', rfl⟩, q⟩⟩)
    | int j u => exact wpAny_getItem_str_slice (l := none) (u := some (j, u)) (st := none) hs rfl (post_val_or_str ⟨Nat.le_trans (Txt.slice_le z _ _) hz, fun t' k => ⟨.str (Txt.slice z _ _), H, I.tok k, ⟨t', rfl⟩, q⟩⟩)
  | int i u' =>
    cases pu with
    | none => exact wpAny_getItem_str_slice (l := some (i, u')) (u := none) (st := none) hs rfl (post_val_or_str ⟨Nat.le_trans (Txt.slice_le z _ _) hz, fun t' k => ⟨.str (Txt.slice z _ _), H, I.tok k, ⟨t', rfl⟩, q⟩⟩)
    | int j u => exact wpAny_getItem_str_slice (l := some (i, u')) (u := some (j, u)) (st := none) hs rfl (post_val_or_str ⟨Nat.le_trans (Txt.slice_le z _ _) hz, fun t' k => ⟨.str (Txt.slice z _ _), H, I.tok k, ⟨t', rfl⟩, q⟩⟩)
theorem strsAre_of : ∀ {ys : List Str} {us : List Value}, Vals (ys.map V.str) us → StrsAre us ys := by
  intro ys
  induction ys with
  | nil => intro us r; cases r; exact .nil
  | cons y ys ih =>
    intro us r
    cases r with
    | cons h t =>
      obtain ⟨k, rfl⟩ := h
      exact .cons y k (ih t)
def rJoin (K : PySem.W.Frag) : V → List V → Hp → VK → Prop := fun x xs H Q => ∃ z p ys, x = .str z ∧ xs = [.ref p] ∧ SqL K H p (ys.map V.str) ∧ (ys.map (·.length)).sum + ys.length * z.length ≤ 16777216 ∧ Q (.str (Txt.join z ys)) H
theorem mt_join : MtR X "str.join" (rJoin X.K) := by
  intro pins s σ H x xs v us Q I rx rv h
  obtain ⟨z, p, ys, rfl, rfl, hq, hl, q⟩ := h
  obtain ⟨t, rfl⟩ := rx
  obtain ⟨u, rfl, ru⟩ := rv.one
  cases ru
  obtain ⟨its, r, pl, _⟩ := I.list hq
  exact join_list pl.isList (strsAre_of r) hl fun t' k => ⟨.str (Txt.join z ys), H, I.tok k, ⟨t', rfl⟩, q⟩
def rUpper : V → List V → Hp → VK → Prop := fun x xs H Q => ∃ z, x = .str z ∧ xs = [] ∧ Builtin.Str.tooLong (Txt.upper z).length = false ∧ Q (.str (Txt.upper z)) H
theorem mt_upper : MtR X "str.upper" rUpper := by
  intro pins s σ H x xs v us Q I rx rv h
  obtain ⟨z, rfl, rfl, hl, q⟩ := h
  obtain ⟨t, rfl⟩ := rx
  cases rv.zero
  exact SC.upper hl ⟨.str (Txt.upper z), H, I.tok _, ⟨_, rfl⟩, q⟩
/-! ### all of a list of bools -/
theorem boolsAre_of : ∀ {bs : List Bool} {us : List Value}, Vals (bs.map V.bl) us → LSm.BoolsAre us bs := by
  intro bs
  induction bs with
  | nil => intro us r; cases r; exact .nil
  | cons b bs ih =>
    intro us r
    cases r with
    | cons h t =>
      cases h
      exact .cons b (ih t)
theorem call_all (hc : X.calm = true) : CallR X (.builtin "all") (fun xs H Q => ∃ (p : Addr) (bs : List Bool), xs = [.ref p] ∧ SqL X.K H p (bs.map V.bl) ∧ Q (.bl (bs.all id)) H) := by
  intro pins s σ H xs us Q I rv h
  obtain ⟨p, bs, rfl, hq, q⟩ := h
  obtain ⟨u, rfl, ru⟩ := rv.one
  cases ru
  obtain ⟨its, r, pl, _⟩ := I.list hq
  have hl := pl.isList
  have hb := boolsAre_of r
  have hlt : p < s.heap.objs.size := by obtain ⟨_, e, _⟩ := hl; exact Heap.lt_size e
  refine call_all_walk (wpAny_pyIter_list hl ?_)
  refine ⟨s.heap.objs.size, [s.heap.objs.size, p], [s.heap.objs.size], its.toArray.size, _, _, fun i => (bs[i]?).getD true, rfl, Walks.list (A := X.A.in1) (I.ok.hd hc) _ p (Nat.ne_of_lt hlt) its.toArray,
    ⟨⟨_, Heap.get?_push_size _ rfl, rfl, rfl⟩, hl.push _⟩, fun i v s' Q' E' hP hQ => ?_, fun h' tk hk => ?_⟩
  · obtain ⟨b, e, rfl⟩ := hb.get i v (by simpa using hP)
    simp only [e, Option.getD_some] at hQ
    exact wpAny_truthy_bool hQ
  · have e : ((List.range its.toArray.size).all fun i => (bs[i]?).getD true) = bs.all id := by
      rw [List.size_toArray, hb.length]; exact LSm.range_all bs
    rw [e]
    exact ⟨.bl (bs.all id), H, I.kept (LSm.kept_iter hk), rfl, q⟩
/-! ### isinstance of plain values -/
end
end L2

namespace L2
open PySem PySem.Spec PyProof.Rows
/-! ### heaps without what leans on other things -/
def okHO : HO → Prop
  | .dT _ => False
  | .frz _ (.lst _) => True
  | .frz _ _ => False
  | _ => True
def Plain (H : Hp) : Prop := ∀ a o, H a = some o → okHO o
theorem Plain.upd {H : Hp} {l : Addr} {o : HO} (p : Plain H) (h : okHO o) : Plain (upd H l o) := fun a u e => by
  by_cases ha : a = l
  · subst ha; rw [upd_same] at e; cases e; exact h
  · rw [upd_ne ha] at e; exact p a u e
theorem Plain.lst {H : Hp} {l : Addr} {xs : List V} (p : Plain H) : Plain (L2.upd H l (.lst xs)) := p.upd trivial
theorem Plain.tup {H : Hp} {l : Addr} {xs : List V} (p : Plain H) : Plain (L2.upd H l (.tup xs)) := p.upd trivial
theorem Only.plain {H : Hp} (h : Only H) : Plain H := fun a o e => by
  rcases h a with z | ⟨o', xs, z⟩
  · rw [z] at e; cases e
  · rw [z] at e; cases e; exact trivial
/-- H'' is H' with some of the newer things forgotten -/
structure Cut (H H' H'' : Hp) : Prop where
  sub : ∀ b o, H'' b = some o → H' b = some o
  old : ∀ b o, H b = some o → H'' b = H' b
  ins : ∀ a C dx fs, H'' a = some (.ins C dx fs) → H'' dx = some (.own a)
  plain : Plain H''
theorem Cut.un {fs : List Addr} {H H' H'' : Hp} {h h' : Heap} (c : Cut H H' H'') (u : Un fs [] H H' h h') : Un fs [] H H'' h h' where
  keep := u.keep
  slot := u.slot
  free := fun b o e n hx => by
    have := u.free b o e n hx
    cases q : H'' b with
    | none => rfl
    | some z => rw [c.sub b z q] at this; cases this
  there := u.there
  tups := fun b xs e => by rw [c.old b _ e]; exact u.tups b xs e
  frzs := fun b o z e => by rw [c.old b _ e]; exact u.frzs b o z e
  tbls := fun b ps e => by rw [c.old b _ e]; exact u.tbls b ps e
theorem Cut.hok {P : Program} {w : World} {H H' H'' : Hp} {h : Heap} (c : Cut H H' H'') (k : HOk P w H' h) : HOk P w H'' h := fun a o e => by
  have q := k a o (c.sub a o e)
  cases o with
  | ins C dx fs =>
    obtain ⟨d, r⟩ := q
    exact ⟨c.ins a C dx fs e, r⟩
  | dT kvs => exact (c.plain a _ e).elim
  | frz ob u =>
    have z := c.plain a _ e
    cases u with
    | lst xs => exact q
    | _ => exact z.elim
  | lst xs => exact q
  | tup xs => exact q
  | dK kvs => exact q
  | set S n => exact q
  | own x => exact q
  | xd fs => exact q
  | met f x => exact q
  | rng lo hi => exact q
  | tbl ps => exact q
  | ext φ => exact q
section
variable {P : Program} {w : World} {K : PySem.W.Frag} {mg : Str → Option Value} {base : Heap} {CX : CXT} {k : Nat} {f : Addr} {fd : FuncData} {ps : List Str}
/-- a promise whose end may be cut -/
theorem FnOk.cut {sp : Sp} (F : FnOk P w K mg base CX k f fd ps sp) :
    FnOk P w K mg base CX k f fd ps (fun vs H Q E => sp vs H (fun v H' => ∃ H'', ((∀ a C dx fs, H a = some (.ins C dx fs) → H dx = some (.own a)) → Cut H H' H'') ∧ Q v H'') E) :=
  ⟨fun vs H Q E h => F.len vs H _ E h, fun A outer s H args us vs Q E hr he hb hv h => by
    refine codeAny_mono (F.run A outer s H args us vs _ E hr he hb hv h) fun r s' q => ?_
    cases r with
    | error e => exact q
    | ok fl =>
      cases fl with
      | ret u =>
        obtain ⟨v, H', os, bare, un, hok, rv, H'', hc, q⟩ := q
        have c := hc fun a C dx fs e => (he.hok a _ e).1
        exact ⟨v, H'', os, bare, c.un un, c.hok hok, rv, q⟩
      | _ => exact q⟩
/-- a promise that speaks of values alone -/
def pureSp {α : Type} (Pre : α → List V → Prop) (Post : α → V → Prop) : Sp := fun vs H Q _ => Plain H ∧ ∃ a, Pre a vs ∧ ∀ v, Post a v → Q v H
def rawSp {α : Type} (Pre : α → List V → Prop) (Post : α → V → Prop) : Sp := fun vs H Q _ => Plain H ∧ ∃ a, Pre a vs ∧ ∀ v H', Post a v → Same H H' → Q v H'
theorem FnOk.pure {α : Type} {Pre : α → List V → Prop} {Post : α → V → Prop} (F : FnOk P w K mg base CX k f fd ps (rawSp Pre Post)) : FnOk P w K mg base CX k f fd ps (pureSp Pre Post) :=
  F.cut.imp fun vs H Q E ⟨hp, a, ha, q⟩ => ⟨hp, a, ha, fun v H' hv hs => ⟨H, fun hi => ⟨hs, fun b o e => by rw [e, hs b o e], hi, hp⟩, q v hv⟩⟩
/-- a promise that hands back one new list or tuple of values -/
def newSp {α : Type} (Pre : α → List V → Prop) (Post : α → HO → Prop) : Sp := fun vs H Q _ => Plain H ∧ ∃ a, Pre a vs ∧ ∀ l o, H l = none → Post a o → Q (.ref l) (upd H l o)
def newRaw {α : Type} (Pre : α → List V → Prop) (Post : α → HO → Prop) : Sp := fun vs H Q _ => Plain H ∧ ∃ a, Pre a vs ∧ ∀ l o H', H l = none → H' l = some o → Post a o → Same H H' → Q (.ref l) H'
theorem FnOk.new {α : Type} {Pre : α → List V → Prop} {Post : α → HO → Prop} (hP : ∀ a o, Post a o → (∃ xs, o = .lst xs) ∨ ∃ xs, o = .tup xs) (F : FnOk P w K mg base CX k f fd ps (newRaw Pre Post)) : FnOk P w K mg base CX k f fd ps (newSp Pre Post) :=
  F.cut.imp fun vs H Q E ⟨hp, a, ha, q⟩ => ⟨hp, a, ha, fun l o H' hl hl' ho hs => ⟨upd H l o, fun hi => by
    have ne : ∀ b z, H b = some z → b ≠ l := fun b z e => ne_of_none e hl
    refine ⟨fun b z e => ?_, fun b z e => by rw [upd_ne (ne b z e), e, hs b z e], fun b C dx fs e => ?_, hp.upd ?_⟩
    · by_cases hb : b = l
      · subst hb; rw [upd_same] at e; rw [← e]; exact hl'
      · rw [upd_ne hb] at e; exact hs b z e
    · by_cases hb : b = l
      · subst hb; rw [upd_same] at e
        have e := Option.some.inj e
        rcases hP a o ho with ⟨xs, z⟩ | ⟨xs, z⟩ <;> (rw [z] at e; cases e)
      · rw [upd_ne hb] at e
        have d := hi b C dx fs e
        rw [upd_ne (ne dx _ d)]; exact d
    · rcases hP a o ho with ⟨xs, z⟩ | ⟨xs, z⟩ <;> (rw [z]; exact trivial), q l o hl ho⟩⟩
end
theorem Same.upd {H H' : Hp} {l : Addr} {o : HO} (s : Same H H') (hl : H l = none) : Same H (L2.upd H' l o) := fun b z e => by
  rw [upd_ne (ne_of_none e hl)]; exact s b z e
theorem same_upd {H : Hp} {l : Addr} {o : HO} (hl : H l = none) : Same H (upd H l o) := (Same.refl H).upd hl
theorem ite2d {p : Prop} [Decidable p] {A B : Prop} (h1 : p → A) (h2 : ¬ p → B) : if decide p = true then A else B := by
  by_cases h : p
  · rw [if_pos (decide_eq_true h)]; exact h1 h
  · rw [if_neg (by simpa using h)]; exact h2 h
theorem ite2n {p : Prop} [Decidable p] {A B : Prop} (h1 : ¬ p → A) (h2 : p → B) : if (!decide p) = true then A else B := by
  by_cases h : p
  · rw [if_neg (by simpa using h)]; exact h2 h
  · rw [if_pos (by simpa using h)]; exact h1 h
theorem ite2b {b : Bool} {A B : Prop} (h1 : b = true → A) (h2 : b = false → B) : if b = true then A else B := by
  cases b
  · rw [if_neg Bool.false_ne_true]; exact h2 rfl
  · rw [if_pos rfl]; exact h1 rfl
theorem join {α : Type} {ok G : α → Prop} {C : Prop} (h1 : (∀ z, ok z → G z) → C) (h2 : ∀ z, ok z → G z) : C := h1 h2
theorem joinP {G C : Prop} (h1 : G → C) (h2 : G) : C := h1 h2
theorem atI_in {xs : List Nat} {i : Int} (h0 : 0 ≤ i) (h1 : i < xs.length) : atI xs i = some (xs.getD i.toNat 0) := by
  obtain ⟨j, rfl⟩ : ∃ j : Nat, i = j := ⟨i.toNat, by omega⟩
  have hj : j < xs.length := by omega
  exact atI_nat (by simp [List.getElem?_eq_getElem hj])
theorem len_join0 (ys : List Str) : (Txt.join (⟨#[]⟩ : Str) ys).length ≤ (ys.map (·.length)).sum := by
  have e : Txt.join (⟨#[]⟩ : Str) ys = Str.join ⟨#[]⟩ ys := by simpa using join_plain_closes (⟨#[]⟩ : Str) ys
  rw [e]
  have := StrLaws.join_length_le (⟨#[]⟩ : Str) ys
  simpa [Str.length] using this
theorem sum_ones {n : Nat} {f : Nat → Str} (h : ∀ i, (f i).length = 1) : (((List.range n).map f).map (·.length)).sum = n := by
  induction n with
  | zero => rfl
  | succ n ih => rw [List.range_succ, List.map_append, List.map_append, List.sum_append, ih]; simp [h]
theorem len_add (x y : Str) : (x ++ y).length = x.length + y.length := Array.size_append
theorem cut_int {ns : List Int} {lo hi : Option Int} {i : Nat} {x : V} (h : (cutV (ns.map V.int) lo hi)[i]? = some x) : ∃ n, x = V.int n := by
  have hm := List.mem_of_getElem? h
  unfold cutV at hm
  have hm := List.mem_of_mem_drop (List.mem_of_mem_take hm)
  obtain ⟨n, _, e⟩ := List.mem_map.mp hm
  exact ⟨n, e.symm⟩
def Dig (d : Int) : Prop := 0 ≤ d ∧ d < 10000
theorem dig_mod (x : Int) : Dig (x % 10000) := ⟨Int.emod_nonneg _ (by decide), Int.emod_lt_of_pos _ (by decide)⟩
end L2

namespace L2
open PySem PySem.Spec PyProof.Rows
/-! ### an exception of an own class, in flight -/
/-- new: what the exception's own records may be -/
structure Fly (new : Addr → Prop) (H : Hp) (x C : Addr) (h : Heap) : Prop where
  ob : ∃ oe vs, h.get? x = some oe ∧ oe.cls = .ref C ∧ oe.dict = none ∧ oe.data = .fields vs ∧ 1 < vs.size ∧
    (vs[1]? = some .none ∨ ∃ T oT ts, vs[1]? = some (.ref T) ∧ T ≠ x ∧ h.get? T = some oT ∧ oT.data = .fields ts ∧ 3 < ts.size ∧ new T ∧ H T = none)
  new : new x
  free : H x = none
theorem Fly.imp {n n' : Addr → Prop} {H : Hp} {x C : Addr} {h : Heap} (f : Fly n H x C h) (k : ∀ b, n b → n' b) : Fly n' H x C h := by
  obtain ⟨⟨oe, vs, a, b, c, d, e, g⟩, hn, hf⟩ := f
  refine ⟨⟨oe, vs, a, b, c, d, e, g.imp id ?_⟩, k _ hn, hf⟩
  rintro ⟨T, oT, ts, a, b, c, d, e, f, g⟩
  exact ⟨T, oT, ts, a, b, c, d, e, k _ f, g⟩
theorem mapF_dict (o : Obj) (f : Array Value → Array Value) : (o.mapFields f).dict = o.dict := by
  obtain ⟨c, d, dt, sl⟩ := o
  cases dt <;> rfl
section
variable {M : Model} {A : Around} {E : Value → Shared → Prop} {s : Shared}
theorem frameOf_same {env env' : Env} (h : env.frame = env'.frame) : PySem.frameOf env = PySem.frameOf env' := by
  unfold PySem.frameOf
  rw [h]
theorem noteFrame_same {env env' : Env} {e : Value} (h : env.frame = env'.frame) : noteFrame e env = noteFrame e env' := by
  unfold noteFrame
  rw [frameOf_same h, h]
/-- what noting a frame, or setting the flight, leaves of the heap -/
structure Kept (x T : Addr) (frames : List Addr) (h h' : Heap) : Prop where
  keep : ∀ b o, b ≠ x → b ≠ T → b ∉ frames → h.get? b = some o → h'.get? b = some o
  slot : ∀ b o, b ≠ x → b ≠ T → h.get? b = some o → ∃ sl, h'.get? b = some { o with slots := sl }
/-- the entry of the frame at hand, made and hung on -/
theorem entry_fly {base : Heap} {env : Env} {outer : List Env} {L x : Addr} {oe : Obj} {vs : Array Value} {head : Value} {hadNext : Bool} {Q : Unit → Shared → Prop}
    (hfr : A.frames = some (env :: outer)) (hl : s.heap.FunFrames base (env :: outer)) (hf : env.frame = some L)
    (he : s.heap.get? x = some oe) (hd : oe.data = .fields vs) (hz : 1 < vs.size)
    (h : ∀ h' T, (∃ oe' vs', h'.get? x = some oe' ∧ oe'.cls = oe.cls ∧ oe'.dict = oe.dict ∧ oe'.data = .fields vs' ∧ 1 < vs'.size ∧ vs'[1]? = some (.ref T)) → (∃ oT ts, h'.get? T = some oT ∧ oT.data = .fields ts ∧ 3 < ts.size) → s.heap.objs.size ≤ T →
      Kept x x (frs (env :: outer)) s.heap h' → Q () { s with heap := h' }) :
    wpAny M A (do let a ← PySem.frameOf env; let pl ← entryPlaceOf L hadNext; let b ← EntryCells.newEntry head a .none (rawInt L) .none pl; setField (.ref x) 1 b) Q E s := by
  have xnf : x ∉ (env :: outer).filterMap (·.frame) := fun hm => by
    obtain ⟨_, o, ho, hnf⟩ := hl.mem hm
    rw [he] at ho
    cases ho
    exact hnf vs hd
  refine wpAny_bind (wpAny_frameOf_fun hfr hl hf fun h1 g1 => ?_)
  refine wpAny_bind (wpAny_entryPlaceOf fun pl hpl => ?_)
  unfold EntryCells.newEntry newFields
  refine wpAny_bind (wpAny_newObj_type ?_ (hpl.sizeOk5 _ _ _ _ _))
  have e1 : h1.get? x = some oe := (g1.2.1 x xnf).trans he
  have lt1 : x < h1.objs.size := Heap.lt_size e1
  have e2 := Heap.get?_push_of_some (h := h1) { cls := .type "traceback", dict := none, data := .fields ([head, .ref L, .none, rawInt L, .none] ++ (if pl.isEmpty then List.replicate 6 Value.none else pl)).toArray } e1
  have dm := Obj.data_mapFields hd (·.setIfInBounds 1 (Value.ref h1.objs.size))
  refine wpAny_setField e2 hd hz (h _ h1.objs.size ⟨_, _, Heap.get?_update_self _ e2 (Obj.isFreed_of_fields dm), Obj.cls_mapFields _ _, mapF_dict _ _, dm, by simpa using hz, by simp [hz]⟩
    ⟨_, _, (Heap.get?_update_other _ _ (Nat.ne_of_lt lt1)).trans (Heap.get?_push_size _ rfl), rfl, by simp only [List.size_toArray, List.length_append, List.length_cons]; omega⟩ (by rw [g1.1]; exact Nat.le_refl _) ⟨fun b o bx _ bf eb => ?_, fun b o bx _ eb => ?_⟩)
  · rw [Heap.get?_update_other _ _ (Ne.symm bx)]
    exact Heap.get?_push_of_some _ ((g1.2.1 b bf).trans eb)
  · obtain ⟨sl, q⟩ := g1.2.2 b o eb
    exact ⟨sl, by rw [Heap.get?_update_other _ _ (Ne.symm bx)]; exact Heap.get?_push_of_some _ q⟩
end
section
variable {X : Cx} {σ : St} {H : Hp} {s : Shared} {x C : Addr}
/-- what is new to a context -/
def Cx.new (X : Cx) (b : Addr) : Prop := (∀ o, X.s₀.heap.get? b = some o → b ∈ X.ex) ∧ ∀ p ∈ X.pn, p.1 ≠ b
theorem Inv.stepN {h' : Heap} {t' : Nat} {ch : List Addr} (I : Inv X [] σ H s) (hch : ∀ b ∈ ch, X.new b ∧ H b = none ∧ b ≠ X.env.locals ∧ ∀ y c, X.env.cells.lookup y = some c → c ≠ b)
    (keep : ∀ b o, b ∉ ch → b ∉ frs X.stack → s.heap.get? b = some o → h'.get? b = some o) (slot : ∀ b o, b ∉ ch → s.heap.get? b = some o → ∃ sl, h'.get? b = some { o with slots := sl }) :
    Inv X [] σ H { s with heap := h', toks := t' } := by
  have old : ∀ b o, X.s₀.heap.get? b = some o → b ∉ X.ex → b ∉ ch := fun b o e hx hb => hx ((hch b hb).1.1 o e)
  have neL : ∀ b o, X.s₀.heap.get? b = some o → b ≠ X.env.locals := fun b o e => Nat.ne_of_lt (Nat.lt_of_lt_of_le (Heap.lt_size e) I.ok.above)
  have trk : ∀ b u, H b = some u → b ∉ ch := fun b u e hb => by have := (hch b hb).2.1; rw [e] at this; cases this
  have trs : ∀ b u, H b = some u → b ∉ frs X.stack := fun b u e hb => by have := I.stkFree b hb; rw [e] at this; cases this
  have nfs : ∀ b, b ≠ X.env.locals → b ∉ X.fs → b ∉ frs X.stack := fun b h1 h2 z => (List.mem_cons.mp (I.stkSub b z)).elim h1 h2
  have cellK : ∀ y c, X.env.cells.lookup y = some c → ∀ v, s.heap.IsCell c v → h'.IsCell c v := fun y c e v ⟨o, ho, hd⟩ => by
    obtain ⟨sl, q⟩ := slot c o (fun z => (hch c z).2.2.2 y c e rfl) ho
    exact ⟨_, q, hd⟩
  refine ⟨I.ok, I.os, I.bare, ⟨fun b o e n hb hx => ?_, fun b o e n hb hx => ?_, I.base.free, fun b o e hx => ?_, I.base.tups, I.base.frzs, I.base.tbls⟩, ?_, fun y c e => ?_, I.free, I.freeC, fun p hp => ?_, fun b u e => ?_, I.len⟩
  · exact keep b o (old b o e hx) (nfs b (neL b o e) hb) (I.base.keep b o e n hb hx)
  · obtain ⟨sl, q⟩ := I.base.slot b o e n hb hx
    obtain ⟨sl', q'⟩ := slot b _ (old b o e hx) q
    exact ⟨sl', q'⟩
  · obtain ⟨o', q⟩ := I.base.there b o e hx
    obtain ⟨sl, q'⟩ := slot b o' (old b o e hx) q
    exact ⟨_, q'⟩
  · obtain ⟨m, ⟨o, es, ep, ho, r⟩, hl⟩ := I.loc
    obtain ⟨sl, q⟩ := slot _ o (fun z => (hch _ z).2.2.1 rfl) ho
    refine ⟨m, ⟨_, es, ep, q, r⟩, fun i y v e1 e2 e3 => ?_⟩
    obtain ⟨u, ru, lk⟩ := hl i y v e1 e2 e3
    exact ⟨u, ru, lk.imp id fun ⟨k, c, e, z⟩ => ⟨k, c, e, cellK y c e _ z⟩⟩
  · obtain ⟨v, z⟩ := I.cell y c e
    exact ⟨v, cellK y c e v z⟩
  · obtain ⟨e, n, ne, nf, d⟩ := I.pin p hp
    have hp' : p ∈ X.pn := by simpa using hp
    exact ⟨keep p.1 p.2 (fun z => (hch p.1 z).1.2 p hp' rfl) (nfs p.1 ne nf) e, n, ne, nf, d⟩
  · refine (I.hok b u e).stay (fun c v hc q => ?_) (fun _ q => q) fun _ _ q => q
    rcases hc with rfl | hc
    · exact keep c v (trk c u e) (trs c u e) q
    · exact keep c v (trk c _ hc) (trs c _ hc) q
/-- records (fields) are no frame, no cell, not the frame's own -/
theorem Inv.fieldsNe (I : Inv X [] σ H s) {b : Addr} {o : Obj} {vs : Array Value} (e : s.heap.get? b = some o) (d : o.data = .fields vs) : b ≠ X.env.locals ∧ (∀ y c, X.env.cells.lookup y = some c → c ≠ b) ∧ b ∉ frs X.stack := by
  refine ⟨fun z => ?_, fun y c ec z => ?_, fun z => ?_⟩
  · obtain ⟨m, ⟨o', es, ep, ho, r, _⟩, _⟩ := I.loc
    rw [← z, e] at ho
    cases ho
    rw [d] at r
    cases r
  · obtain ⟨v, o', ho, hd⟩ := I.cell y c ec
    rw [z, e] at ho
    cases ho
    rw [d] at hd
    cases hd
  · obtain ⟨_, o', ho, hnf⟩ := I.stack.mem z
    rw [e] at ho
    cases ho
    exact hnf vs d
theorem Inv.kept2 {h' : Heap} {T : Addr} (I : Inv X [] σ H s) (F : Fly X.new H x C s.heap) (hT : T = x ∨ ∃ oe vs oT ts, s.heap.get? x = some oe ∧ oe.data = .fields vs ∧ vs[1]? = some (.ref T) ∧ s.heap.get? T = some oT ∧ oT.data = .fields ts)
    (k : Kept x T (frs X.stack) s.heap h') : Inv X [] σ H { s with heap := h' } := by
  obtain ⟨oe, vs, e, _, _, d, _, tb⟩ := F.ob
  have one : X.new x ∧ H x = none ∧ x ≠ X.env.locals ∧ ∀ y c, X.env.cells.lookup y = some c → c ≠ x := ⟨F.new, F.free, (I.fieldsNe e d).1, (I.fieldsNe e d).2.1⟩
  have two : X.new T ∧ H T = none ∧ T ≠ X.env.locals ∧ ∀ y c, X.env.cells.lookup y = some c → c ≠ T := by
    rcases hT with rfl | ⟨oe', vs', oT, ts, e', d', v', eT, dT⟩
    · exact one
    · rw [e] at e'
      cases e'
      rw [d] at d'
      cases d'
      rcases tb with z | ⟨T', oT', ts', v, _, _, _, _, hn, hf⟩
      · rw [z] at v'; cases v'
      · rw [v] at v'
        cases v'
        exact ⟨hn, hf, (I.fieldsNe eT dT).1, (I.fieldsNe eT dT).2.1⟩
  refine I.stepN (ch := [x, T]) (fun b hb => ?_) (fun b o hb hs q => k.keep b o (fun z => hb (by simp [z])) (fun z => hb (by simp [z])) hs q) fun b o hb q => k.slot b o (fun z => hb (by simp [z])) (fun z => hb (by simp [z])) q
  have : b = x ∨ b = T := by simpa using hb
  rcases this with rfl | rfl
  · exact one
  · exact two
/-- the context's own frame heads the frames -/
structure Cx.Top (X : Cx) : Prop where
  top : ∃ env outer L, X.stack = env :: outer ∧ env.frame = some L ∧ X.env.frame = some L
theorem Cx.newAt {X : Cx} {σ : St} {H : Hp} {s : Shared} (I : Inv X [] σ H s) {T : Addr} (h : s.heap.objs.size ≤ T) : X.new T := by
  refine ⟨fun o q => ?_, fun p hp z => ?_⟩
  · exact absurd (Nat.lt_of_lt_of_le (Heap.lt_size q) (Nat.le_trans I.sz h)) (Nat.lt_irrefl _)
  · have := Heap.lt_size (I.pin p (List.mem_append_left _ hp)).1
    rw [z] at this
    exact absurd (Nat.lt_of_lt_of_le this h) (Nat.lt_irrefl _)
/-- noteFrame: the exception stays in flight -/
theorem note_fly {E : Value → Shared → Prop} {Q : Unit → Shared → Prop} (I : Inv X [] σ H s) (tp : X.Top) (F : Fly X.new H x C s.heap)
    (h : ∀ h', Inv X [] σ H { s with heap := h' } → Fly X.new H x C h' → (∃ oe vs T, h'.get? x = some oe ∧ oe.data = .fields vs ∧ vs[1]? = some (.ref T)) → Q () { s with heap := h' }) :
    wpAny (model X.prog X.w) X.A (noteFrame (.ref x) X.env) Q E s := by
  obtain ⟨env, outer, L, hst, hf, hfe⟩ := tp.top
  have hfr : X.A.frames = some (env :: outer) := by rw [I.ok.frames, hst]
  have hl : s.heap.FunFrames X.base (env :: outer) := by rw [← hst]; exact I.stack
  obtain ⟨oe, vs, e, ec, ed, d, z, tb⟩ := id F.ob
  rw [noteFrame_same (show X.env.frame = env.frame by rw [hfe, hf])]
  unfold noteFrame
  simp only [hf]
  rcases tb with v | ⟨T, oT, ts, v, nx, eT, dT, zT, hn, hfT⟩
  · refine wpAny_bind (wpAny_field e d v ?_)
    rw [if_neg (by decide)]
    refine entry_fly hfr hl hf e d z fun h' T ⟨oe', vs', a1, a2, a3, a4, a5, a6⟩ ⟨oT, ts, b1, b2, b3⟩ hz k => ?_
    rw [← hst] at k
    refine h h' (I.kept2 F (.inl rfl) k) ⟨⟨oe', vs', a1, a2.trans ec, a3.trans ed, a4, a5, .inr ⟨T, oT, ts, a6, ?_, b1, b2, b3, Cx.newAt I hz, I.hok.fresh hz⟩⟩, F.new, F.free⟩ ⟨_, _, _, a1, a4, a6⟩
    exact Nat.ne_of_gt (Nat.lt_of_lt_of_le (Heap.lt_size e) hz)
  · refine wpAny_bind (wpAny_field e d v ?_)
    rw [if_pos (show (Value.ref T != Value.none) = true from by simp)]
    have v3 : ts[3]? = some ts[3] := by simp [zT]
    refine wpAny_bind (wpAny_field eT dT v3 ?_)
    by_cases hq : (ts[3] == rawInt L) = true
    · rw [if_pos hq]
      exact wpAny_pure (h s.heap I F ⟨_, _, _, e, d, v⟩)
    · rw [if_neg hq]
      refine wpAny_bind (wpAny_setField eT dT zT ?_)
      have oth : ∀ b, b ≠ T → (s.heap.update T (Obj.mapFields (·.setIfInBounds 3 Value.none))).get? b = s.heap.get? b := fun b hb => Heap.get?_update_other _ _ (Ne.symm hb)
      have e2 : (s.heap.update T (Obj.mapFields (·.setIfInBounds 3 Value.none))).get? x = some oe := (oth x (Ne.symm nx)).trans e
      have hl2 : (s.heap.update T (Obj.mapFields (·.setIfInBounds 3 Value.none))).FunFrames X.base (env :: outer) := hl.of_keeps fun b o ho hnf => ⟨o, (oth b fun q => by rw [q, eT] at ho; cases ho; exact hnf ts dT).trans ho, rfl⟩
      refine entry_fly (s := { s with heap := s.heap.update T (Obj.mapFields (·.setIfInBounds 3 Value.none)) }) hfr hl2 hf e2 d z fun h' T' ⟨oe', vs', a1, a2, a3, a4, a5, a6⟩ ⟨oT', ts', b1, b2, b3⟩ hz k => ?_
      rw [← hst] at k
      have hz' : s.heap.objs.size ≤ T' := by
        have e3 : (s.heap.update T (Obj.mapFields (·.setIfInBounds 3 Value.none))).objs.size = s.heap.objs.size := Heap.size_after_update ..
        have hz2 : (s.heap.update T (Obj.mapFields (·.setIfInBounds 3 Value.none))).objs.size ≤ T' := hz
        omega
      have k' : Kept x T (frs X.stack) s.heap h' := ⟨fun b o b1 b2 b3 q => k.keep b o b1 b1 b3 ((oth b b2).trans q), fun b o b1 b2 q => k.slot b o b1 b1 ((oth b b2).trans q)⟩
      refine h h' (I.kept2 F (.inr ⟨_, _, _, _, e, d, v, eT, dT⟩) k') ⟨⟨oe', vs', a1, a2.trans ec, a3.trans ed, a4, a5, .inr ⟨T', oT', ts', a6, ?_, b1, b2, b3, Cx.newAt I hz', I.hok.fresh hz'⟩⟩, F.new, F.free⟩ ⟨_, _, _, a1, a4, a6⟩
      exact Nat.ne_of_gt (Nat.lt_of_lt_of_le (Heap.lt_size e) hz')
/-- setFlight, where there is a traceback -/
theorem flight_fly {A : Around} {E : Value → Shared → Prop} {Q : Unit → Shared → Prop} {f : Option Addr} (I : Inv X [] σ H s) (F : Fly X.new H x C s.heap) (ht : ∃ oe vs T, s.heap.get? x = some oe ∧ oe.data = .fields vs ∧ vs[1]? = some (.ref T))
    (h : ∀ h', Inv X [] σ H { s with heap := h' } → Fly X.new H x C h' → (∃ oe vs T, h'.get? x = some oe ∧ oe.data = .fields vs ∧ vs[1]? = some (.ref T)) → Q () { s with heap := h' }) :
    wpAny (model X.prog X.w) A (setFlight (.ref x) f) Q E s := by
  obtain ⟨oe, vs, e, ec, ed, d, z, tb⟩ := id F.ob
  obtain ⟨oe', vs', T, e', d', v⟩ := ht
  rw [e] at e'
  cases e'
  rw [d] at d'
  cases d'
  rcases tb with v' | ⟨T', oT, ts, v', nx, eT, dT, zT, hn, hfT⟩
  · rw [v'] at v; cases v
  rw [v'] at v
  cases v
  unfold setFlight
  refine wpAny_bind (wpAny_field e d v' ?_)
  rw [if_pos (show (Value.ref T != Value.none) = true from by simp)]
  refine wpAny_setField eT dT zT ?_
  have oth : ∀ b, b ≠ T → (s.heap.update T (Obj.mapFields (·.setIfInBounds 3 (f.elim Value.none fun f => rawInt f)))).get? b = s.heap.get? b := fun b hb => Heap.get?_update_other _ _ (Ne.symm hb)
  have dm := Obj.data_mapFields dT (·.setIfInBounds 3 (f.elim Value.none fun f => rawInt f))
  have e2 := (oth x (Ne.symm nx)).trans e
  refine h _ (I.kept2 F (.inr ⟨_, _, _, _, e, d, v', eT, dT⟩) ⟨fun b o _ b2 _ q => (oth b b2).trans q, fun b o _ b2 q => ⟨o.slots, (oth b b2).trans q⟩⟩)
    ⟨⟨oe, vs, e2, ec, ed, d, z, .inr ⟨T, _, _, v', nx, Heap.get?_update_self _ eT (Obj.isFreed_of_fields dm), dm, by simpa using zT, hn, hfT⟩⟩, F.new, F.free⟩ ⟨_, _, _, e2, d, v'⟩
end
end L2

namespace L2
open PySem PySem.Spec PyProof.Rows
/-! ### how an exception lies behind a call -/
def CX1 (P : Program) (w : World) (base : Heap) : CXT := fun outer H s E e s' => ∃ (x C : Addr) (H' : Hp), e = .ref x ∧ s'.os = s.os ∧ AllBare s'.gens ∧ Un (frs outer) [] H H' s.heap s'.heap ∧ HOk P w H' s'.heap ∧
  Fly (fun b => s.heap.get? b = none) H' x C s'.heap ∧ E (.ref C) none H'
/-- the context takes an exception that is as E says -/
def Wants (X : Cx) (E : XK) : Prop := ∀ (σ : St) (H' : Hp) (s' : Shared) (x C : Addr), Inv X [] σ H' s' → Fly X.new H' x C s'.heap → E (.ref C) none H' → X.xe (.ref x) s'
theorem newOf {X : Cx} {pins : List (Addr × Obj)} {σ : St} {H : Hp} {s : Shared} (I : Inv X pins σ H s) {b : Addr} (h : s.heap.get? b = none) : X.new b := by
  refine ⟨fun o e => ?_, fun p hp z => ?_⟩
  · by_cases hx : b ∈ X.ex
    · exact hx
    · obtain ⟨o', q⟩ := I.base.there b o e hx
      rw [h] at q
      cases q
  · have := (I.pin p (List.mem_append_left _ hp)).1
    rw [z, h] at this
    cases this
theorem Inv.nopins {X : Cx} {pins : List (Addr × Obj)} {σ : St} {H : Hp} {s : Shared} (I : Inv X pins σ H s) : Inv X [] σ H s := I.pins_of fun p hp => absurd hp (by simp)
theorem Wants.passes {X : Cx} {E : XK} (W : Wants X E) : Passes (CX1 X.prog X.w X.base) X E := fun pins σ H s e s' I ⟨x, C, H', ee, os, bare, un, hok, F, q⟩ => by
  subst ee
  have J : Inv X pins σ H' s' := I.call' (ch := []) os un hok bare fun b z => absurd z (by simp)
  exact W σ H' s' x C J.nopins (F.imp fun b hb => newOf I hb) q
theorem pass1 {P : Program} {w : World} {base : Heap} {X : Cx} : Passes (CX1 P w base) X E0 := fun _ _ _ _ _ _ _ ⟨_, _, _, _, _, _, _, _, _, q⟩ => q.elim
theorem wants_fn {P : Program} {w : World} {K : PySem.W.Frag} {mg : Str → Option Value} {base : Heap} {N : List Str} {qual : Str} {scope : Scope} {f : Addr} {cd : Value} {A : Around} {outer : List Env} {s : Shared} {H : Hp} {E : XK} :
    Wants (cxOf (CX1 P w base) P w K mg base N qual scope f cd A outer s H E) E := fun σ H' s' x C I F q => by
  refine wpAny_bind (note_fly I ⟨⟨_, _, _, rfl, rfl, rfl⟩⟩ F fun h1 I1 F1 t1 => ?_)
  refine flight_fly I1 F1 t1 fun h2 I2 F2 _ => ?_
  refine ⟨x, C, H', rfl, I2.os, I2.bare, I2.base, I2.hok, F2.imp fun b hb => ?_, q⟩
  cases e : s.heap.get? b with
  | none => rfl
  | some o => exact absurd (hb.1 o e) (by simp [cxOf])
section
variable {P : Program} {w : World} {K : PySem.W.Frag} {mg : Str → Option Value} {base : Heap}
theorem Fun.okX {x qual : Str} {st : Stmt} {f : Addr} {fd : FuncData} {N ps : List Str} {k : Nat} {sp : Sp} (F : Fun K x qual st f fd) (S : FnScope N ps (defScope st)) (len : ∀ vs H Q E, sp vs H Q E → vs.length = ps.length)
    (hbody : ∀ (cdv : Value) (A : Around) (outer : List Env) (s : Shared) (H : Hp) (vs : List V) (Q : VK) (E : XK), Room k (A.deeper (envOfC qual (defScope st) s.heap.objs.size f cdv)) → sp vs H Q E →
      ∃ t, PSs (cxOf (CX1 P w base) P w K mg base N qual (defScope st) f cdv A outer s H E) (defBody st) t ∧ t { nx := fun _ H' => Q .non H', rt := Q } (start N vs) H) : FnOk P w K mg base (CX1 P w base) (k + 1) f fd ps sp := by
  obtain ⟨oc, od, kV, doc, pm, an, cdv, ct, osl, rfl, lk, hcd⟩ := F.ex
  exact fn_of lk hcd S len fun A outer s H vs Q E hr hsp => hbody cdv A outer s H vs Q E hr hsp
/-- a def that raises nothing -/
theorem Fun.okN {x qual : Str} {st : Stmt} {f : Addr} {fd : FuncData} {N ps : List Str} {k : Nat} {sp : Sp} (F : Fun K x qual st f fd) (S : FnScope N ps (defScope st)) (len : ∀ vs H Q E, sp vs H Q E → vs.length = ps.length)
    (hbody : ∀ (cdv : Value) (A : Around) (outer : List Env) (s : Shared) (H : Hp) (vs : List V) (Q : VK) (E : XK), Room k (A.deeper (envOfC qual (defScope st) s.heap.objs.size f cdv)) → sp vs H Q E →
      ∃ t, PSs (cxOf (CX1 P w base) P w K mg base N qual (defScope st) f cdv A outer s H E).nox (defBody st) t ∧ t { nx := fun _ H' => Q .non H', rt := Q } (start N vs) H) : FnOk P w K mg base (CX1 P w base) (k + 1) f fd ps sp :=
  F.okX S len fun cdv A outer s H vs Q E hr hsp => let ⟨t, h, q⟩ := hbody cdv A outer s H vs Q E hr hsp; ⟨t, h.nox, q⟩
end
/-! ### classes of exceptions, as the top has made them -/
abbrev bmV : List Value := [.type "ValueError", .type "Exception", .type "BaseException", .type "object"]
structure XCls (K : PySem.W.Frag) (C : Addr) : Prop where
  ex : PySem.W.excIn K C bmV "ValueError.__new__" = true
  ga : PySem.W.findIn K (.ref C) "__getattribute__" = some (some (.builtin "BaseException.__getattribute__"))
  gn : PySem.W.findIn K (.ref C) "__getattr__" = some none
  be : PySem.W.subIn K (.ref C) (.type "BaseException") = some true
  hd : PySem.W.hasDictIn K C = true
  ca : PySem.W.findIn K (.ref C) "__class__" = some (some (.builtin "object.__class__"))
  mo : PySem.W.mroIn K C (.type "object") = some true
  gs : PySem.W.specialIn K (.builtin "object.__class__") "__get__" = some (some (.builtin "getset_descriptor.__get__"))
  tk : PySem.W.takesIn K (.builtin "object.__class__") = some true
theorem XCls.obj {K : PySem.W.Frag} {C : Addr} {h : Heap} (c : XCls K C) (X : K.In h) : ∃ bm N nm q bs hdct sn sub ab col dd k0 k1 k2 k3 k5 mN,
    h.get? C = some (excClassObj nm q C N bs bm hdct sn sub ab col dd k0 k1 k2 k3 k5 "ValueError.__new__") ∧ h.Ns N mN ∧ mN "__init__" = none ∧ OwnTail h bmV bm ∧
    ∀ b r, PySem.W.mroIn K C b = some r → (Value.ref C :: bm).contains b = r := by
  have q := c.ex
  unfold PySem.W.excIn at q
  split at q
  · rename_i dd cd sl ho
    split at q
    · rename_i C' bm k0 k1 k2 k3 n k5 hm hs
      simp only [Bool.and_eq_true, beq_iff_eq, Bool.not_eq_true'] at q
      obtain ⟨⟨⟨⟨⟨rfl, rfl⟩, hdel⟩, ht⟩, hok⟩, hni⟩ := q
      have hmro : ∀ b r, PySem.W.mroIn K C' b = some r → (Value.ref C' :: bm).contains b = r := fun b r e => by
        unfold PySem.W.mroIn PySem.W.clsIn at e
        rw [ho] at e
        simp only [Option.bind_some, hm] at e
        simpa using e
      obtain ⟨nm, bs, mro, ns, qn, hd, sn, sub, ab, col, del⟩ := cd
      dsimp only at hm hdel hok hni
      subst hm hdel
      have hsl : sl = #[k0, k1, k2, k3, some (.builtin "ValueError.__new__"), k5] := by
        obtain ⟨l⟩ := sl
        simp only at hs
        rw [hs]
      subst hsl
      exact ⟨bm, ns, nm, qn, bs, hd, sn, sub, ab, col, dd, k0, k1, k2, k3, k5, _, X _ _ ho, .of_isNs (PySem.W.isNs_of_in X hok), PySem.W.nsMap_none_of_in X hok hni, PySem.W.tail_of_in X ht, hmro⟩
    · cases q
  · cases q
/-! ### raise -/
section
variable {X : Cx}
def tRaise (C : Addr) (E : XK) (ta : TA) : TS := fun _ σ H => ta σ H fun vs H1 => vs.length ≤ sizeLine ∧ E (.ref C) none H1
theorem ps_raise {C : Addr} {E : XK} {n : Str} {e : Expr} {es : List Expr} {ta : TA} {np cpos pos : Pos} (xc : XCls X.K C) (W : Wants X E) (hc : X.calm = true) (hg : Gl X n) (hm : X.mg n = some (.ref C)) (ha : PA X (e :: es) ta)
    (hs : starEach (e :: es) X.env = (false, eval e X.env) :: starEach es X.env := by rfl) (hp : (backTo cpos (starEach es X.env)).any (·.1) = false := by rfl) (hdb : (n == ("__debug__" : Str)) = false := by decide) :
    PS X (.Raise (some (.Call (.Name n np) (e :: es) [] cpos)) none pos) (tRaise C E ta) := .mk <| by
  intro pins s σ H D I h
  obtain ⟨bm, N, nm, q, bs, hdct, sn, sub, ab, col, dd, k0, k1, k2, k3, k5, mN, hC, hN, hni, T, _⟩ := xc.obj I.mod.kin
  refine wpAny_Raise_call_subT (C := C) (nm := nm) (q := q) (N := N) (bs := bs) (bm := bm) (hdct := hdct) (sn := sn) (sub := sub) (ab := ab) (col := col) (dd := dd) (k0 := k0) (k1 := k1) (k2 := k2) (k3 := k3) (k5 := k5)
    PySem.F.excBase_ValueError (mN := mN) (T.hasType (by decide)) (I.ok.hd hc) (by rw [hs]; show (false || (backTo cpos (starEach es X.env)).any (·.1)) = false; rw [hp]; rfl) hni (ld_glob I hg hm ⟨rfl, ?_⟩ hdb)
  have hA := ha cpos pins s σ H _ I h
  rw [hs] at hA ⊢
  refine Calls.evalArgs_plain (thn hA fun us s1 ⟨vs, H1, I1, r1, hl, hE⟩ => ⟨rfl, by rw [← r1.length]; exact hl, I1.bk _ _ hC, hN.keeps I1.bk, T.keeps I1.bk, fun h' x mk => ?_⟩)
  obtain ⟨t, e1, _, _⟩ := mk.there
  have J : Inv X [] σ H1 { s1 with heap := h' } := (I1.kept (t' := s1.toks) mk.keeps).nopins
  refine W σ H1 _ x C J ⟨⟨_, _, e1, rfl, rfl, rfl, by simp, .inl rfl⟩, newOf I1 mk.new, ?_⟩ hE
  cases z : H1 x with
  | none => rfl
  | some o =>
    have := (I1.hok x o z)
    have lt : ∃ ob, s1.heap.get? x = some ob := by
      cases o with
      | lst xs => obtain ⟨_, _, _, _, e⟩ := this; exact ⟨_, e⟩
      | tup xs => obtain ⟨_, _, _, p⟩ := this; obtain ⟨ob, e, _⟩ := p; exact ⟨_, e⟩
      | dK kvs => obtain ⟨_, _, _, _, o, _, _, e, _⟩ := this; exact ⟨_, e⟩
      | dT kvs => obtain ⟨_, _, _, _, o, _, _, e, _⟩ := this; exact ⟨_, e⟩
      | set S n => obtain ⟨o, _, _, _, e, _⟩ := this; exact ⟨_, e⟩
      | ins C dx fs => obtain ⟨_, _, _, e, _⟩ := this; exact ⟨_, e⟩
      | own y => exact this
      | xd fs => obtain ⟨_, ⟨_, _, _, e, _⟩, _⟩ := this; exact ⟨_, e⟩
      | rng lo hi => obtain ⟨_, _, _, e⟩ := this; exact ⟨_, e⟩
      | frz ob u => obtain ⟨e, _⟩ := this; exact ⟨_, e⟩
      | tbl ps => exact ⟨_, (show s1.heap.get? x = some _ from this)⟩
      | met f y => exact ⟨_, (show s1.heap.get? x = some _ from this)⟩
      | ext φ => obtain ⟨_, e, _⟩ := this; exact e
    obtain ⟨ob, e⟩ := lt
    rw [mk.new] at e
    cases e
end
end L2

namespace L2
open PySem PySem.Spec PyProof.Rows
/-- an exception that is held by a name -/
def excO (x C : Addr) : HO := .ext fun h => ∃ o, h.get? x = some o ∧ o.cls = .ref C ∧ o.dict = none ∧ PySem.W.notCls o = true
def Cx.tryC (X : Cx) (E' : Value → Shared → Prop) (pn' : List (Addr × Obj)) : Cx := { X with xe := E', pn := X.pn ++ pn' }
def Cx.hand (X : Cx) (x : Addr) : Cx := { X with A := X.A.mark (some (.ref x)), calm := false, xe := fun _ _ => False }
section
variable {X : Cx} {pins : List (Addr × Obj)} {σ : St} {H : Hp} {s : Shared} {x C D : Addr}
theorem Inv.toTry (I : Inv X pins σ H s) (E' : Value → Shared → Prop) : Inv (X.tryC E' pins) [] σ H s :=
  ⟨⟨I.ok.mod, I.ok.kind, I.ok.glob, I.ok.blt, I.ok.above, I.ok.inj, I.ok.has, I.ok.cab, I.ok.hd, I.ok.frames, I.ok.stk, I.ok.exf, I.ok.bs, I.ok.bsz, I.ok.noex, I.ok.exfs, I.ok.funs, I.ok.frf⟩, I.os, I.bare, I.base, I.loc, I.cell, I.free, I.freeC, fun p hp => I.pin p (by simpa [Cx.tryC] using hp), I.hok, I.len⟩
theorem Inv.ofTry {E' : Value → Shared → Prop} (I : Inv (X.tryC E' pins) [] σ H s) : Inv X pins σ H s :=
  ⟨⟨I.ok.mod, I.ok.kind, I.ok.glob, I.ok.blt, I.ok.above, I.ok.inj, I.ok.has, I.ok.cab, I.ok.hd, I.ok.frames, I.ok.stk, I.ok.exf, I.ok.bs, I.ok.bsz, I.ok.noex, I.ok.exfs, I.ok.funs, I.ok.frf⟩, I.os, I.bare, I.base, I.loc, I.cell, I.free, I.freeC, fun p hp => I.pin p (by simpa [Cx.tryC] using hp), I.hok, I.len⟩
theorem Inv.toHand (I : Inv X pins σ H s) (x : Addr) : Inv (X.hand x) pins σ H s :=
  ⟨⟨I.ok.mod, I.ok.kind, I.ok.glob, I.ok.blt, I.ok.above, I.ok.inj, I.ok.has, I.ok.cab, fun z => absurd z Bool.false_ne_true, I.ok.frames, I.ok.stk, I.ok.exf, I.ok.bs, I.ok.bsz, I.ok.noex, I.ok.exfs, I.ok.funs, I.ok.frf⟩, I.os, I.bare, I.base, I.loc, I.cell, I.free, I.freeC, I.pin, I.hok, I.len⟩
theorem Inv.ofHand {y : Addr} (I : Inv (X.hand y) pins σ H s) (hd : X.calm = true → X.A.handled = none) : Inv X pins σ H s :=
  ⟨⟨I.ok.mod, I.ok.kind, I.ok.glob, I.ok.blt, I.ok.above, I.ok.inj, I.ok.has, I.ok.cab, hd, I.ok.frames, I.ok.stk, I.ok.exf, I.ok.bs, I.ok.bsz, I.ok.noex, I.ok.exfs, I.ok.funs, I.ok.frf⟩, I.os, I.bare, I.base, I.loc, I.cell, I.free, I.freeC, I.pin, I.hok, I.len⟩
/-- the exception is tracked from here on -/
theorem Inv.track (I : Inv X pins σ H s) (hn : ∀ o, X.s₀.heap.get? x = some o → x ∈ X.ex) (hp : ∀ p ∈ X.pn ++ pins, p.1 ≠ x) (hf : H x = none)
    (ob : ∃ oe vs, s.heap.get? x = some oe ∧ oe.cls = .ref C ∧ oe.dict = none ∧ oe.data = .fields vs) : Inv X pins σ (upd H x (excO x C)) s := by
  obtain ⟨oe, vs, e, ec, ed, d⟩ := ob
  obtain ⟨n1, n2, n3⟩ := I.nopins.fieldsNe e d
  have ne : ∀ b u, H b = some u → b ≠ x := fun b u q => ne_of_none q hf
  refine ⟨I.ok, I.os, I.bare, ⟨I.base.keep, I.base.slot, fun b o q n hx => ?_, I.base.there, fun b xs q => ?_, fun b o u q => ?_, fun b ps q => ?_⟩, I.loc, I.cell, ?_, fun y c q => ?_, fun p hp' => ?_, fun b u q => ?_, I.len⟩
  · rw [upd_ne (fun z => hx (by subst z; exact hn o q))]; exact I.base.free b o q n hx
  · have := I.base.tups b xs q; rw [upd_ne (ne b _ this)]; exact this
  · have := I.base.frzs b o u q; rw [upd_ne (ne b _ this)]; exact this
  · obtain ⟨m, q'⟩ := I.base.tbls b ps q; exact ⟨m, by rw [upd_ne (ne b _ q')]; exact q'⟩
  · rw [upd_ne (Ne.symm n1)]; exact I.free
  · rw [upd_ne (n2 y c q)]; exact I.freeC y c q
  · obtain ⟨a, b, c⟩ := I.pin p hp'
    exact ⟨a, by rw [upd_ne (hp p hp')]; exact b, c⟩
  · by_cases hb : b = x
    · subst hb
      rw [upd_same] at q
      cases q
      refine ⟨⟨oe, e, ec, ed, ?_⟩, ⟨oe, e⟩, fun h1 h2 ⟨o, a1, a2⟩ k => ⟨o, k o a1, a2⟩⟩
      unfold PySem.W.notCls
      rw [d]
    · rw [upd_ne hb] at q
      exact (I.hok b u q).stay (fun _ _ _ z => z) (fun c z => by rw [upd_ne (ne c _ z)]; exact z) fun c xs z => by rw [upd_ne (ne c _ z)]; exact z
/-- a local name goes -/
theorem Inv.goes {i : Nat} {n : Str} {h' : Heap} {t' : Nat} {v : Option Value} {m : Str → Option Value} (I : Inv X pins σ H s) (hN : X.N.Nodup) (hi : X.N[i]? = some n) (hm : s.heap.Ns X.env.locals m)
    (hl : ∀ (j : Nat) (y : Str) (u : V), X.N[j]? = some y → σ[j]? = some (some u) → Vis X.env.scope y → ∃ w, RelV u w ∧ Look X.env s.heap m y w)
    (hn : h'.Ns X.env.locals (fun y => if y = n then v else m y)) (hs : Heap.SameBut X.env.locals s.heap h') : Inv X pins (σ.set i none) H { s with heap := h', toks := t' } := by
  have neL : ∀ b o, X.s₀.heap.get? b = some o → b ≠ X.env.locals := fun b o e => Nat.ne_of_lt (Nat.lt_of_lt_of_le (Heap.lt_size e) I.ok.above)
  have cl : ∀ y c, X.env.cells.lookup y = some c → ∀ w, s.heap.IsCell c w → h'.IsCell c w := fun y c e w z => z.sameBut hs (I.cne y c e)
  refine ⟨I.ok, I.os, I.bare, ⟨fun b o e k hb hx => (hs.2 b (neL b o e)).trans (I.base.keep b o e k hb hx), fun b o e k hb hx => ?_, I.base.free, fun b o e hx => ?_, I.base.tups, I.base.frzs, I.base.tbls⟩, ⟨_, hn, fun j y u e1 e2 e3 => ?_⟩, fun y c e => ?_, I.free, I.freeC, fun p hp => ?_, fun b u e => ?_, by rw [List.length_set]; exact I.len⟩
  · obtain ⟨sl, q⟩ := I.base.slot b o e k hb hx; exact ⟨sl, (hs.2 b (neL b o e)).trans q⟩
  · obtain ⟨o', q⟩ := I.base.there b o e hx; exact ⟨o', (hs.2 b (neL b o e)).trans q⟩
  · by_cases hj : j = i
    · subst hj
      rw [List.getElem?_set] at e2
      simp at e2
    · rw [List.getElem?_set_ne (Ne.symm hj)] at e2
      obtain ⟨w, r, q⟩ := hl j y u e1 e2 e3
      refine ⟨w, r, ?_⟩
      rcases q with ⟨k, e⟩ | ⟨k, c, e, z⟩
      · have ny : y ≠ n := fun z => hj (nodup_ix hN e1 (by rw [z]; exact hi))
        exact .inl ⟨k, by simp only [if_neg ny]; exact e⟩
      · exact .inr ⟨k, c, e, cl y c e _ z⟩
  · obtain ⟨w, z⟩ := I.cell y c e; exact ⟨w, cl y c e w z⟩
  · obtain ⟨e, k, ne, nf, d⟩ := I.pin p hp
    exact ⟨(hs.2 p.1 ne).trans e, k, ne, nf, d⟩
  · refine (I.hok b u e).stay (fun c w hc q => (hs.2 c ?_).trans q) (fun _ q => q) fun _ _ q => q
    rintro rfl
    rcases hc with rfl | hc
    · rw [I.free] at e; cases e
    · rw [I.free] at hc; cases hc
/-- except D: an exception of class C -/
theorem match_own {M : Model} {A : Around} {E : Value → Shared → Prop} {K : PySem.W.Frag} {oe : Obj} {b : Bool} {Q : Bool → Shared → Prop} (X : K.In s.heap) (xd : XCls K D) (xc : XCls K C) (hs : PySem.W.mroIn K C (.ref D) = some b)
    (he : s.heap.get? x = some oe) (hcls : oe.cls = .ref C) (hq : Q b s) : wpAny M A (excMatches (.ref x) (.ref D)) Q E s := by
  obtain ⟨bm, N, nm, q, bs, hdct, sn, sub, ab, col, dd, k0, k1, k2, k3, k5, mN, hD, _, _, T, _⟩ := xd.obj X
  obtain ⟨bm', N', nm', q', bs', hdct', sn', sub', ab', col', dd', l0, l1, l2, l3, l5, mN', hC, _, _, T', hmC⟩ := xc.obj X
  have hcB : (Value.ref D :: bm).contains (.type "BaseException") = true := by rw [List.contains_cons, T.hasType (b := true) (by decide), Bool.or_true]
  have hcC := hmC _ _ hs
  have f := tc_notTuple
  obtain ⟨h, g, d, t, os⟩ := s
  unfold excMatches
  repeat (first | (with_reducible refine wpAny_loadPart_at he ?_; rw [hcls]) | with_reducible refine wpAny_loadPart_at hD ?_ | (with_reducible refine wpAny_isSubtype_exc hD ?_; rw [hcB]) | (with_reducible refine wpAny_isSubtype_exc hC ?_; rw [hcC]) | wp_step)
  cases b <;> (wp_walk; exact hq)
/-! ### a call whose exception is caught here: the frame's slots are as they were -/
def PassesS (CX : CXT) (X : Cx) (σ : St) (E : XK) : Prop := ∀ (pins : List (Addr × Obj)) (H : Hp) (s : Shared) (e : Value) (s' : Shared), Inv X pins σ H s → CX X.stack H s E e s' → X.xe e s'
theorem pe_callS {CX : CXT} {k : Nat} {f : Addr} {fd : FuncData} {ps : List Str} {sp : Sp} {dvs : List V} {ds : List Value} {E : XK} {y : Str} {p pos : Pos} {e : Expr} {es : List Expr} {t : TA} {σ₀ : St}
    (F : FnOk X.prog X.w X.K X.mg X.base CX k f fd ps sp) (hr : Room k X.A) (hg : Gl X y) (hm : X.mg y = some (.ref f)) (hk : PySem.W.keepIn X.K (.ref f) = true) (hb : Binds X.K fd ps ds) (hd : Vals dvs ds) (hx : PassesS CX X σ₀ E)
    (ha : PA X (e :: es) t) (hdb : (y == ("__debug__" : Str)) = false := by decide) (he : starEach (e :: es) X.env = (false, eval e X.env) :: starEach es X.env := by rfl) (hpl : (backTo pos (starEach es X.env)).any (·.1) = false := by rfl) :
    PE X (.Call (.Name y p) (e :: es) [] pos) (fun σ H Q => σ = σ₀ ∧ tCall sp dvs E t σ H Q) := .mk <| by
  rintro pins s σ H Q I ⟨rfl, h⟩
  refine wpAny_Call_Name_kw (ld_glob I hg hm ?_ hdb)
  refine PySem.W.callWith_K (h₀ := X.base) I.ok.mod.kin hk (thn (ha pos pins s σ H _ I h) fun us s1 ⟨vs, H1, I1, r, q⟩ => ⟨I1.kIn, ?_⟩) he hpl
  have r2 : Vals (vs ++ dvs) (us ++ ds) := r.append hd
  have hl : (us ++ ds).length = ps.length := by rw [← r2.length]; exact F.len _ _ _ _ q
  refine wpAny_call (codeAny_mono (F.run X.A X.stack s1 H1 ⟨us, []⟩ (us ++ ds) (vs ++ dvs) Q E hr I1.env0 (hb s1 us I1.kIn hl) r2 q) fun r s' hq => ?_)
  cases r with
  | error e => exact hx pins H1 s1 e s' I1 hq
  | ok fl =>
    cases fl with
    | ret u => exact I1.after hq
    | next => exact False.elim hq
    | brk => exact False.elim hq
    | cont => exact False.elim hq
/-! ### try: y = e, except D as n: .. -/
def tTry (K : PySem.W.Frag) (j i : Nat) (D : Addr) (te : XK → TE) (th : TS) : TS := fun Dn σ H => ∃ EX : XK, te EX σ H (fun v H1 => Dn.nx (σ.set j (some v)) H1) ∧
  ∀ (C y : Addr) (H1 : Hp), EX (.ref C) none H1 → H1 y = none → XCls K C ∧ PySem.W.mroIn K C (.ref D) = some true ∧
    th { nx := fun σ2 H2 => Dn.nx (σ2.set i none) H2, rt := fun v H2 => Dn.rt v H2, bk := fun σ2 H2 => Dn.bk (σ2.set i none) H2, ct := fun σ2 H2 => Dn.ct (σ2.set i none) H2 } (σ.set i (some (.ref y))) (upd H1 y (excO y C))
theorem ps_try {i j : Nat} {n y dn : Str} {e : Expr} {te : XK → TE} {b₀ : Stmt} {suite : List Stmt} {th : TS} {p1 p2 p3 p4 pos : Pos} (hN : X.N.Nodup) (xd : XCls X.K D) (hg : Gl X dn) (hm : X.mg dn = some (.ref D)) (tp : X.Top) (hc : X.calm = true)
    (he : ∀ σ₀ E' pn' EX, PassesS (CX1 X.prog X.w X.base) (X.tryC E' pn') σ₀ EX → PE (X.tryC E' pn') e (fun σ H Q => σ = σ₀ ∧ te EX σ H Q))
    (hh : ∀ x, PSs (X.hand x) (b₀ :: suite) th) (hj : X.N[j]? = some y := by rfl) (hi : X.N[i]? = some n := by rfl) (hy : X.env.scope.names.lookup y = some .local := by rfl) (hn : X.env.scope.names.lookup n = some .local := by rfl)
    (hs : swapsWith e (some (.Name y p1)) p2.line X.env = pure false := by rfl) (hdb : (dn == ("__debug__" : Str)) = false := by decide) :
    PS X (.Try [.Assign [.Name y p1] e p2] [.ExceptHandler (some (.Name dn p3)) (some n) (b₀ :: suite) p4] [] [] pos) (tTry X.K j i D te th) := .mk <| by
  intro pins s σ H Dn I h
  obtain ⟨EX, hte, hth⟩ := h
  show wpAny (model X.prog X.w) X.A (do standAt pos; tryStmt false (execs [.Assign [.Name y p1] e p2] X.env) [.ExceptHandler (some (.Name dn p3)) (some n) (b₀ :: suite) p4] (execs [] X.env) [] X.env) (SP X pins Dn) X.xe s
  refine wpAny_bind (wpAny_standAt (wpAny_tryStmt_except ?_))
  generalize hE : (fun (e : Value) (s₁ : Shared) => wpAny (model X.prog X.w) X.A (noteFrame e X.env) (fun _ s₂ => wpAny (model X.prog X.w) X.A (setFlight e none) (fun _ s₃ =>
    wpAny (model X.prog X.w) X.A (handleBy e X.env [.ExceptHandler (some (.Name dn p3)) (some n) (b₀ :: suite) p4]) (SP X pins Dn) X.xe s₃) X.xe s₂) X.xe s₁) = E'
  have hx : PassesS (CX1 X.prog X.w X.base) (X.tryC E' pins) σ EX := by
    rintro pins' H1 s1 _ s' J1 ⟨x, C, H', rfl, os, bare, un, hok, F, q⟩
    have J : Inv (X.tryC E' pins) [] σ H' s' := (J1.call' (ch := []) os un hok bare fun b z => absurd z (by simp)).nopins
    have F' : Fly (X.tryC E' pins).new H' x C s'.heap := F.imp fun b hb => newOf J1 hb
    have tp' : (X.tryC E' pins).Top := ⟨tp.top⟩
    show E' (.ref x) s'
    rw [← hE]
    refine note_fly (X := X.tryC E' pins) J tp' F' fun h1 I1 F1 t1 => ?_
    refine flight_fly (X := X.tryC E' pins) (A := X.A) I1 F1 t1 fun h2 I2 F2 t2 => ?_
    obtain ⟨xc, hmro, hsuite⟩ := hth C x H' q F2.free
    obtain ⟨oe, vs, a1, a2, a3, a4, _, _⟩ := id F2.ob
    refine wpAny_handleBy_cons (codeAny_handlers_test ?_) (by intro q; cases q)
    refine ld_glob (X := X.hand x) (I2.ofTry.toHand x) hg hm ?_ hdb
    refine match_own (I2.kIn) xd xc hmro a1 a2 ?_
    refine codeAny_handlers_suite_as ?_
    refine flight_fly (X := X.tryC E' pins) (A := X.A.mark (some (.ref x))) I2 F2 t2 fun h3 I3 F3 _ => ?_
    obtain ⟨oe3, vs3, c1, c2, c3, c4, _, _⟩ := id F3.ob
    have I4 : Inv (X.hand x) pins σ (upd H' x (excO x C)) { s' with heap := h3 } := (I3.ofTry.toHand x).track (fun o e => F3.new.1 o e) (fun p hp => F3.new.2 p hp) F3.free ⟨_, _, c1, c2, c3, c4⟩
    refine store_ok (X := X.hand x) (v := .ref x) I4 hN hi (.inl hn) rfl (fun s5 I5 => ?_) (.inr hn)
    refine wpAny_mono (hh x pins s5 _ _ _ I5 hsuite) (fun fl s6 q6 => ?_) fun _ _ z => z.elim
    show wpAny (model X.prog X.w) X.A (do bindName X.env n .none; unbindBehindTheSuite X.env n p4) (fun _ s₃ => SP X pins Dn fl s₃) X.xe s6
    have hcls : (X.env.scope.kind == .class || (X.env.scope.kind == .module && X.env.locals != X.env.globals)) = false := by rw [I.ok.kind]; rfl
    have go : ∀ {σ6 : St} {H6 : Hp} {R : Unit → Shared → Prop}, Inv (X.hand x) pins σ6 H6 s6 → (∀ s7, Inv X pins (σ6.set i none) H6 s7 → R () s7) → wpAny (model X.prog X.w) X.A (do bindName X.env n .none; unbindBehindTheSuite X.env n p4) R X.xe s6 := fun {σ6 H6 R} I6 k => by
      have I6' : Inv X pins σ6 H6 s6 := I6.ofHand I.ok.hd
      obtain ⟨m, hm6, hl6⟩ := I6'.loc
      exact wpAny_nameGoes_keeps hn hm6 hcls fun h' v a b => k _ (I6'.goes hN hi hm6 hl6 a b)
    cases fl with
    | next => obtain ⟨σ6, H6, I6, r6⟩ := q6; exact go I6 fun s7 I7 => ⟨_, H6, I7, r6⟩
    | brk => obtain ⟨σ6, H6, I6, r6⟩ := q6; exact go I6 fun s7 I7 => ⟨_, H6, I7, r6⟩
    | cont => obtain ⟨σ6, H6, I6, r6⟩ := q6; exact go I6 fun s7 I7 => ⟨_, H6, I7, r6⟩
    | ret u => obtain ⟨v, σ6, H6, I6, rv, r6⟩ := q6; exact go I6 fun s7 I7 => ⟨v, _, H6, I7, rv, r6⟩
  have B := pss_one (ps_set (X := X.tryC E' pins) (i := j) (pos := p2) (pos' := p1) hN hj (.inl hy) (he σ E' pins EX hx) hs (.inr hy))
  refine thn (B [] s σ H { nx := Dn.nx, rt := fun _ _ => False } (I.toTry E') ⟨rfl, hte⟩) fun fl s1 q1 => ?_
  cases fl with
  | next => obtain ⟨σ1, H1, I1, r1⟩ := q1; exact wpAny_execs_nil ⟨σ1, H1, I1.ofTry, r1⟩
  | brk => obtain ⟨_, _, _, r1⟩ := q1; exact r1.elim
  | cont => obtain ⟨_, _, _, r1⟩ := q1; exact r1.elim
  | ret u => obtain ⟨_, _, _, _, _, r1⟩ := q1; exact r1.elim
end
end L2

namespace L2
open PySem PySem.Spec PyProof.Rows
/-! ### isinstance of an exception that is held -/
def ExcAt (x C : Addr) (h : Heap) : Prop := ∃ o, h.get? x = some o ∧ o.cls = .ref C ∧ o.dict = none ∧ PySem.W.notCls o = true
theorem ExcAt.inst {x C : Addr} {h : Heap} (p : ExcAt x C h) : ∃ ox, PySem.W.InstAt h x ox C none := by
  obtain ⟨o, a, b, c, d⟩ := p
  refine ⟨o, a, b, d, ?_⟩
  rw [c]
  trivial
theorem exc_check {M : Model} {A : Around} {E : Value → Shared → Prop} {s : Shared} {K : PySem.W.Frag} {x C : Addr} {ox : Obj} {nameV : Value} {Q : Unit → Shared → Prop} (X : K.In s.heap) (I : PySem.W.InstAt s.heap x ox C none)
    (be : PySem.W.subIn K (.ref C) (.type "BaseException") = some true) (h : Q () s) : wpAny M A (checkBuiltinCall "BaseException.__getattribute__" ⟨[.ref x, nameV], []⟩) Q E s := by
  have hk : builtinKind "BaseException.__getattribute__" = some .slot := by decide +kernel
  have hsplit : splitId "BaseException.__getattribute__" = some ("BaseException", "__getattribute__") := by decide +kernel
  have ha := F.args_bexc_ga (.ref x) nameV
  have L0 := I.type (M := M)
  have L1 := PySem.W.looks_subIn (M := M) X be
  simp only [checkBuiltinCall, hk, hsplit]
  refine wpAny_bind ?_
  unfold isInstance
  refine wpAny_bind (L0.at (L1.at ?_))
  repeat wp_step
  exact h
theorem exc_entry {prog : Program} {w : World} {A : Around} {E : Value → Shared → Prop} {s : Shared} {K : PySem.W.Frag} {x C : Addr} {ox : Obj} {tk : Tok} {P : Fin → Shared → Prop} (X : K.In s.heap) (I : PySem.W.InstAt s.heap x ox C none)
    (hf : PySem.W.findObj K C none "__class__" = some (.bind (.builtin "getset_descriptor.__get__") (.builtin "object.__class__"))) (mo : PySem.W.mroIn K C (.type "object") = some true) (h : P (.done (.ret (.ref C))) s) :
    wpAny (model prog w) A (Builtin.«object.__getattribute__» ⟨[.ref x, .str "__class__" tk], []⟩) P E s := by
  have L0 := I.type (M := model prog w)
  have L1 := PySem.W.looks_find (M := model prog w) X I hf
  refine wpAny_bind (wpAny_pure (wpAny_bind (wpAny_pure (wpAny_bind (L0.at (wpAny_bind (L1.at ?_)))))))
  show wpAny _ _ (holding [Value.builtin "object.__class__"] (call (.builtin "getset_descriptor.__get__") [.builtin "object.__class__", .ref x, .ref C]) >>= ret) _ _ _
  exact wpAny_bind (wpAny_holding (wpAny_call (PySem.W.class_get (ox := ox) (od := none) X I mo (wpAny_pure h))))
theorem exc_class {prog : Program} {w : World} {A : Around} {E : Value → Shared → Prop} {s : Shared} {K : PySem.W.Frag} {x C : Addr} {ox : Obj} {Q : Option Value → Shared → Prop} (xc : XCls K C) (X : K.In s.heap) (I : PySem.W.InstAt s.heap x ox C none)
    (h : Q (some (.ref C)) { s with toks := s.toks + 1 }) : wpAny (model prog w) A (getAttr? (.ref x) "__class__") Q E s := by
  have hf : PySem.W.findObj K C none "__class__" = some (.bind (.builtin "getset_descriptor.__get__") (.builtin "object.__class__")) := by
    obtain ⟨cd, hc, _⟩ := PySem.W.any_some xc.hd
    unfold PySem.W.findObj
    rw [hc, Option.bind_some, xc.ca, Option.bind_some]
    simp only [xc.gs, xc.tk, Option.bind_some]
  obtain ⟨hh, g, d, t, os⟩ := s
  have L0 := I.type (M := model prog w)
  have L1 := PySem.W.looks_findIn (M := model prog w) X xc.ga
  have L2 := PySem.W.looks_findIn (M := model prog w) X xc.gn
  have f3 := F.attr_ValueError.ga.bind (.ref x)
  unfold getAttr? getAttrBy? getAttrBy
  refine wpAny_bind (wpAny_mkText (wpAny_bind (wpAny_attempt (wpAny_holding (wpAny_bind (L0.at (wpAny_bind (L1.at ?_))))))))
  show wpAny _ _ (getAttrByItsOwn _ _ _ _ _ _) _ _ _
  unfold getAttrByItsOwn
  refine wpAny_bind ?_
  show wpAny _ _ (typeLookup (.ref C) "__getattr__") _ _ _
  refine L2.at (wpAny_bind (wpAny_attempt (wpAny_holding ?_)))
  show wpAny _ _ (boundAndCalled _ _ _) _ _ _
  unfold boundAndCalled
  rw [f3]
  refine wpAny_bind (wpAny_pure ?_)
  exact wpAny_call (codeAny_call_builtin F.attr_ValueError.ga.plain F.entry_bexc_ga (exc_check (s := ⟨hh, g, d, t + 1, os⟩) X I xc.be (exc_entry (s := ⟨hh, g, d, t + 1, os⟩) X I hf xc.mo (PySem.W.handed_on rfl (wpAny_pure h)))))
theorem kitx_exc {K : PySem.W.Frag} {x C : Addr} (xc : XCls K C) : PySem.W.KitX K (.ref x) (.ref C) (ExcAt x C) where
  ty := fun _ _ _ p => let ⟨_, I⟩ := p.inst; I.type
  it := fun M h X _ => by
    obtain ⟨cdD, hcD, _⟩ := PySem.W.any_some xc.hd
    unfold PySem.W.clsIn at hcD
    split at hcD
    · rename_i c' d' cd' sl' ho
      intro A' Q' E' s' k q
      unfold isType loadHead
      exact wpAny_bind (wpAny_loadPart (k _ _ (X _ _ ho)) (wpAny_pure q))
    · cases hcD
  ne := fun h tp dd its n sl X htp => by
    obtain ⟨cdD, hcD, _⟩ := PySem.W.any_some xc.hd
    refine Bool.eq_false_iff.mpr fun q => ?_
    have e : C = tp := Value.ref.inj (beq_iff_eq.mp q)
    subst e
    unfold PySem.W.clsIn at hcD
    split at hcD
    · rename_i c' d' cd' sl' ho
      cases (X _ _ ho).symm.trans htp
    · cases hcD
  ca := fun {prog w A E Q s} X p h => by
    obtain ⟨ox, I⟩ := p.inst
    exact exc_class xc X I h
/-- a class as an argument -/
def clsV : V → Option Value
  | .ref a => some (.ref a)
  | .ty n => some (.type n)
  | _ => none
theorem clsV_rel {v : V} {u c : Value} (r : RelV v u) (e : clsV v = some c) : u = c := by
  cases v with
  | ref a => cases e; exact r
  | ty n => cases e; exact r
  | _ => cases e
section
variable {X : Cx}
theorem call_isExc : CallR X (.builtin "isinstance") (fun xs H Q => ∃ x C v c b, xs = [.ref x, v] ∧ H x = some (excO x C) ∧ XCls X.K C ∧ clsV v = some c ∧ PySem.W.kitOne X.K (.ref C) c = some b ∧ Q (.bl b) H) := by
  intro pins s σ H xs us Q I rv h
  obtain ⟨x, C, v, c, b, rfl, hx, xc, hv, hk, q⟩ := h
  obtain ⟨u, u', rfl, ru, rv'⟩ := rv.two
  cases (show u = Value.ref x from ru)
  have e := clsV_rel rv' hv
  subst e
  have p : ExcAt x C s.heap := (show ObjOk X.prog X.w H s.heap x (excO x C) from I.hok x _ hx).1
  exact PySem.W.kia_one (kitx_exc xc) I.kIn p hk (fun z => nomatch z) fun tk => ⟨.bl b, H, I.tok tk, rfl, q⟩
theorem vals_cls : ∀ {vs : List V} {cs us : List Value}, vs.map clsV = cs.map some → Vals vs us → us = cs
  | [], cs, us, e, r => by
    cases r
    cases cs with
    | nil => rfl
    | cons c cs => cases e
  | v :: vs, cs, us, e, r => by
    cases r with
    | cons h t =>
      cases cs with
      | nil => cases e
      | cons c cs =>
        simp only [List.map_cons, List.cons.injEq] at e
        rw [clsV_rel h e.1, vals_cls e.2 t]
theorem call_isExcT : CallR X (.builtin "isinstance") (fun xs H Q => ∃ x C tp vs cs b, xs = [.ref x, .ref tp] ∧ H x = some (excO x C) ∧ XCls X.K C ∧ H tp = some (.tup vs) ∧ vs.map clsV = cs.map some ∧ PySem.W.kitAny X.K (.ref C) cs = some b ∧ Q (.bl b) H) := by
  intro pins s σ H xs us Q I rv h
  obtain ⟨x, C, tp, vs, cs, b, rfl, hx, xc, ht, hv, hk, q⟩ := h
  obtain ⟨u, u', rfl, ru, rv'⟩ := rv.two
  cases (show u = Value.ref x from ru)
  cases (show u' = Value.ref tp from rv')
  have p : ExcAt x C s.heap := (show ObjOk X.prog X.w H s.heap x (excO x C) from I.hok x _ hx).1
  obtain ⟨_, its, r, o, e, ec, n, ed⟩ := (show ObjOk X.prog X.w H s.heap tp (.tup vs) from I.hok tp _ ht)
  have ei := vals_cls hv r
  subst ei
  obtain ⟨c, d, dt, sl⟩ := o
  dsimp only at ec ed
  subst ec ed
  exact PySem.W.kia_tup (kitx_exc xc) I.kIn p e hk (fun z => nomatch z) fun tk => ⟨.bl b, H, I.tok tk, rfl, q⟩
end
/-! ### a comprehension in which a call may raise -/
section
variable {X : Cx}
theorem comp_wants {pins : List (Addr × Obj)} {σ : St} {s3 : Shared} {H3 : Hp} {fp : List Addr} {scope : Scope} {N' : List Str} {E : XK} {Q : VK} {D : Addr} (I3 : Inv X pins σ H3 s3) (hf : ∀ b ∈ fp, FpOk X pins H3 b) (tp : X.Top) (W : Wants X E) :
    Wants (X.comp scope s3.heap.objs.size s3 H3 fp N' (notedBy (model X.prog X.w) X.A (compEnvC scope (clOf scope X.env) s3.heap.objs.size X.env) fun e s' => compPost (model X.prog X.w) X.A X.xe none (EP X pins σ Q) (.ref D) s3.heap.objs.size (.error e) s')) E := by
  intro σ' H' s' x C I F q
  obtain ⟨E', hE⟩ : ∃ E', E' = (notedBy (model X.prog X.w) X.A (compEnvC scope (clOf scope X.env) s3.heap.objs.size X.env) fun e s' => compPost (model X.prog X.w) X.A X.xe none (EP X pins σ Q) (.ref D) s3.heap.objs.size (.error e) s') := ⟨_, rfl⟩
  rw [← hE] at I F
  have tp' : (X.comp scope s3.heap.objs.size s3 H3 fp N' E').Top := by
    obtain ⟨env, outer, L, a, b, c⟩ := tp.top
    exact ⟨env, outer, L, a, b, c⟩
  show (notedBy (model X.prog X.w) X.A (compEnvC scope (clOf scope X.env) s3.heap.objs.size X.env) fun e s' => compPost (model X.prog X.w) X.A X.xe none (EP X pins σ Q) (.ref D) s3.heap.objs.size (.error e) s') (.ref x) s'
  refine note_fly (X := X.comp scope s3.heap.objs.size s3 H3 fp N' E') I tp' F fun h1 I1 F1 t1 => ?_
  obtain ⟨m, hn, _⟩ := I1.loc
  refine ⟨m, hn, fun h2 hs cenv hc => ?_⟩
  have new : ∀ b, (X.comp scope s3.heap.objs.size s3 H3 fp N' E').new b → X.new b := fun b hb => by
    refine ⟨fun o e => ?_, fun p hp z => ?_⟩
    · by_cases hx : b ∈ X.ex
      · exact hx
      · obtain ⟨o', q'⟩ := I3.base.there b o e hx
        rcases (hf b (hb.1 o' q')).2.2.2.1 with z | z
        · exact z
        · exact absurd (Nat.lt_of_lt_of_le (Heap.lt_size e) z) (Nat.lt_irrefl _)
    · have e := (I3.pin p (List.mem_append_left _ hp)).1
      rw [z] at e
      exact (hf b (hb.1 _ e)).2.2.2.2.2 p (List.mem_append_left _ hp) z
  have J1 : Inv X pins σ H' { s' with heap := h1 } := comp_back I3 hf I1
  have xC : ∀ (b : Addr) (o : Obj) (vs : Array Value), h1.get? b = some o → o.data = .fields vs → b ≠ s3.heap.objs.size := fun b o vs e d => (I1.fieldsNe (show ({ s' with heap := h1 } : Shared).heap.get? b = some o from e) d).1
  have J2 : Inv X [] σ H' { s' with heap := h2 } := by
    refine (J1.turnedL (ch := [s3.heap.objs.size]) (t' := s'.toks) (fun b hb' => ?_) fun b u hb' e => (hs.2 b fun z => hb' (by simp [z])).trans e).nopins
    have eb : b = s3.heap.objs.size := by simpa using hb'
    subst eb
    exact I3.fpOk (Nat.le_refl _) I1.free
  have F2 : Fly X.new H' x C h2 := by
    obtain ⟨⟨oe, vs, a1, a2, a3, a4, a5, a6⟩, b, c⟩ := F1.imp new
    refine ⟨⟨oe, vs, (hs.2 x (xC x oe vs a1 a4)).trans a1, a2, a3, a4, a5, a6.imp id ?_⟩, b, c⟩
    rintro ⟨T, oT, ts, t1, t2, t3, t4, t5⟩
    exact ⟨T, oT, ts, t1, t2, (hs.2 T (xC T oT ts t3 t4)).trans t3, t4, t5⟩
  obtain ⟨oe, vs, T, e1, d1, v1⟩ := t1
  have e2 : h2.get? x = some oe := (hs.2 x (xC x oe vs e1 d1)).trans e1
  unfold PySem.passOn
  refine wpAny_bind (wpAny_field e2 d1 v1 ?_)
  rw [if_neg (by simp)]
  refine wpAny_bind (flight_fly (X := X) (s := { s' with heap := h2 }) J2 F2 ⟨_, _, _, e2, d1, v1⟩ fun h3 J3 F3 _ => ?_)
  exact wpAny_throw (W σ H' _ x C J3 F3 q)
theorem pe_compX {elt tg iter : Expr} {ifs : List Expr} {scope : Scope} {pos : Pos} {wi : TI} {g : TG} {ti : TT} {te : TE} (E : XK) (N' : List Str) (nt : Nat) (cap : List Nat) (W : Wants X E) (tp : X.Top)
    (hc : X.calm = true) (hi : PI X tg iter wi) (hgk : GKeeps nt g)
    (hg : ∀ C s₀ H₀ fp E', PG (X.comp scope C s₀ H₀ fp N' E') tg g)
    (hif : ∀ C s₀ H₀ fp E', PIf (X.comp scope C s₀ H₀ fp N' E') ifs ti)
    (he : ∀ C s₀ H₀ fp E', Wants (X.comp scope C s₀ H₀ fp N' E') E → PE (X.comp scope C s₀ H₀ fp N' E') elt te)
    (hk : scope.kind = .function := by rfl) (hb : compOk scope X.env = true := by rfl) (hcap : capOk X scope N' nt cap = true := by rfl)
    (hs : ∀ x, foldedSetIterable iter X.env x = pure x := by intro _; rfl) : PE X (.ListComp elt [⟨tg, iter, ifs, 0⟩] scope pos) (tComp wi nt cap g ti te) :=
  comp_core (fun C s₀ H₀ fp E' => Wants (X.comp scope C s₀ H₀ fp N' E') E) (fun pins σ s3 H3 fp Q D I hf => comp_wants I hf tp W) hc hi (fun C s₀ H₀ fp E' _ => hg C s₀ H₀ fp E') (fun C s₀ H₀ fp E' _ => hif C s₀ H₀ fp E') (fun C s₀ H₀ fp E' w => he C s₀ H₀ fp E' w) hk hb hcap hgk hs
end
/-! ### the law's own head, where exceptions are caught within -/
theorem walk_ofX {l : PySem.W.OpenLaw} {n k : Nat} {q : Program} {loose : List Str} {XP : (Str → Option Value) → Heap → Prop} {YP : World → Heap → Prop} {d : DefRec} {K : Params → PySem.W.Frag} {sp : World → Sp} {x : Str}
    (hn : l.most = some n) (hn2 : n ≤ sizeLine) (hdf : d.params.defaults = []) (hr : Room k callerA) (hY : ∀ (w : World) (h : Heap), YP w h → (K w.params).In h)
    (F : ∀ (w : World) (mg : Str → Option Value) (fa : Addr) (h : Heap), (K w.params).In h → h.Ns mainGlobals mg → mg d.name = some (.ref fa) →
      ∃ fd : FuncData, (∀ (s : Shared) (u : Value), BindsTo s fd ⟨[u], []⟩ [(x, u)]) ∧ ∀ base : Heap, (K w.params).In base → base.Ns mainGlobals mg → FnOk l.prog w (K w.params) mg base (CX1 l.prog w base) k fa fd [x] (sp w))
    (hsp : ∀ (w : World) (H : Hp) (a : Addr) (ns : List Int), ns.length ≤ n → Only H → SqL (K w.params) H a (ns.map V.int) → sp w [.ref a] H (fun v _ => v = .bl true) fun _ _ _ => False) :
    PySem.W.WalkO q loose XP YP l.row.toRowW d [] (fun f vs => PySem.call f vs) := by
  refine walk_of (x := x) (K := K) (CX := fun _ _ _ _ _ _ _ => False) (sp := fun w vs H Q E => sp w vs H Q fun _ _ _ => False) hn hn2 hdf hr hY (fun w mg fa h a b c => ?_) (fun w H a ns h1 h2 h3 => hsp w H a ns h1 h2 h3) fun _ _ _ _ _ z => z
  obtain ⟨fd, hb, hF⟩ := F w mg fa h a b c
  refine ⟨fd, hb, fun base h1 h2 => ?_⟩
  have G := hF base h1 h2
  refine ⟨fun vs H Q E h => G.len vs H Q _ h, fun A outer s H args us vs Q E hr he hbi hv h => codeAny_mono (G.run A outer s H args us vs Q _ hr he hbi hv h) fun r s' z => ?_⟩
  cases r with
  | error e => obtain ⟨_, _, _, _, _, _, _, _, _, z⟩ := z; exact z
  | ok fl => cases fl <;> exact z
end L2

namespace L2
open PySem PySem.Spec PyProof.Rows PySem.NumText
/-! ### promises whose premise speaks of the heap -/
section
variable {P : Program} {w : World} {K : PySem.W.Frag} {mg : Str → Option Value} {base : Heap} {CX : CXT} {k : Nat} {f : Addr} {fd : FuncData} {ps : List Str}
def pureSpH {α : Type} (Pre : α → List V → Hp → Prop) (Post : α → V → Prop) : Sp := fun vs H Q _ => Plain H ∧ ∃ a, Pre a vs H ∧ ∀ v, Post a v → Q v H
def rawSpH {α : Type} (Pre : α → List V → Hp → Prop) (Post : α → V → Prop) : Sp := fun vs H Q _ => Plain H ∧ ∃ a, Pre a vs H ∧ ∀ v H', Post a v → Same H H' → Q v H'
theorem FnOk.pureH {α : Type} {Pre : α → List V → Hp → Prop} {Post : α → V → Prop} (F : FnOk P w K mg base CX k f fd ps (rawSpH Pre Post)) : FnOk P w K mg base CX k f fd ps (pureSpH Pre Post) :=
  F.cut.imp fun vs H Q E ⟨hp, a, ha, q⟩ => ⟨hp, a, ha, fun v H' hv hs => ⟨H, fun hi => ⟨hs, fun b o e => by rw [e, hs b o e], hi, hp⟩, q v hv⟩⟩
end
/-! ### texts by their codes -/
theorem slice_ixs (lo hi : Option Int) (n : Nat) : Builtin.Str.strSliceIndices lo hi 1 n = sliceRange ((HT.sIx n 0 lo : Nat) : Int) ((HT.sIx n n hi : Nat) : Int) 1 := by
  unfold Builtin.Str.strSliceIndices
  simp only [show (1 : Int) > 0 by decide, if_true]
  congr 1
  · cases lo with
    | none => rfl
    | some i => simp only [HT.sIx]; by_cases h : i < 0 <;> simp only [h, if_true, if_false] <;> omega
  · cases hi with
    | none => rfl
    | some i => simp only [HT.sIx]; by_cases h : i < 0 <;> simp only [h, if_true, if_false] <;> omega
theorem slice_list (x : Str) (lo hi : Option Int) : (Txt.slice x lo hi).cps.toList = (x.cps.toList.drop (HT.sIx x.length 0 lo)).take (HT.sIx x.length x.length hi - HT.sIx x.length 0 lo) := by
  have hl : x.cps.toList.length = x.length := Array.length_toList
  unfold Txt.slice
  rw [slice_ixs, sliceRange_one, pick_run]
  split
  · rename_i h
    simp only [List.length_map, List.length_range, Bool.and_eq_true, beq_iff_eq] at h
    have h1 := HT.sIx_le x.length x.length (Nat.le_refl _) hi
    have h2 : HT.sIx x.length x.length hi - HT.sIx x.length 0 lo = x.length := h.2
    rw [h2]
    rcases Nat.eq_zero_or_pos x.length with e | e
    · have : x.cps.toList = [] := by rw [← List.length_eq_zero_iff, hl]; exact e
      rw [this]
      simp
    · have h3 : HT.sIx x.length 0 lo = 0 := by omega
      rw [h3, List.drop_zero, List.take_of_length_le (by omega)]
  · rfl
theorem str_eq_iff (a b : Str) : V.str a = V.str b ↔ a.cps.toList = b.cps.toList := ⟨fun h => by cases h; rfl, fun h => by rw [ext_toList h]⟩
theorem slice_tail (x : Str) : (Txt.slice x (some 1) none).cps.toList = x.cps.toList.tail := by
  rw [slice_list]
  have hl : x.cps.toList.length = x.length := Array.length_toList
  simp only [HT.sIx]
  cases e : x.cps.toList with
  | nil => simp
  | cons c cs =>
    rw [e] at hl
    simp only [List.length_cons] at hl
    have : min (Int.toNat 1) x.length = 1 := by simp; omega
    simp only [show ¬ ((1 : Int) < 0) by decide, if_false, this, List.drop_succ_cons, List.drop_zero, List.tail_cons]
    rw [List.take_of_length_le (by omega)]
theorem slice_head (x : Str) : (Txt.slice x none (some 1)).cps.toList = x.cps.toList.take 1 := by
  rw [slice_list]
  have hl : x.cps.toList.length = x.length := Array.length_toList
  simp only [HT.sIx, List.drop_zero, Nat.sub_zero, show ¬ ((1 : Int) < 0) by decide, if_false]
  cases e : x.cps.toList with
  | nil => simp
  | cons c cs =>
    rw [e] at hl
    simp only [List.length_cons] at hl
    have : min (Int.toNat 1) x.length = 1 := by simp; omega
    rw [this]
theorem starts_dash (x : Str) : Txt.startswith x "-" = decide (x.cps.toList.head? = some 45) := by
  unfold Txt.startswith Builtin.Str.subAt
  have e1 : ("-" : Str).cps = #[45] := rfl
  have e2 : ("-" : Str).length = 1 := rfl
  rw [e1, e2]
  cases x with
  | mk a =>
    cases a with
    | mk l =>
      cases l with
      | nil => rfl
      | cons c cs =>
        have h : ((List.toArray (c :: cs)).extract 0 (0 + 1) == #[45]) = decide (c = 45) := by
          have : (List.toArray (c :: cs)).extract 0 (0 + 1) = #[c] := by simp
          rw [this]
          by_cases hc : c = 45
          · subst hc; rfl
          · rw [decide_eq_false hc]
            simp [hc]
        rw [h]
        simp [Str.length]
theorem take_dash (x : Str) : (decide (V.str (Txt.slice x none (some 1)) = V.str "-")) = decide (x.cps.toList.head? = some 45) := by
  have e1 : ("-" : Str).cps.toList = [45] := rfl
  rw [decide_eq_decide, str_eq_iff, slice_head, e1]
  cases x.cps.toList with
  | nil => simp
  | cons c cs => simp
theorem head_item {x : Str} {c : Nat} {cs : List Nat} (h : x.cps.toList = c :: cs) : atI x.cps.toList 0 = some c := by
  have := atI_nat (xs := x.cps.toList) (j := 0) (v := c) (by rw [h]; rfl)
  simpa using this
/-! ### figures -/
abbrev DIG : Str := "0123456789"
def isDig (c : Nat) : Bool := decide (48 ≤ c) && decide (c ≤ 57)
theorem mem_dig (c : Nat) : decide (c ∈ DIG.cps.toList) = isDig c := by
  have e : DIG.cps.toList = [48, 49, 50, 51, 52, 53, 54, 55, 56, 57] := by decide +kernel
  rw [e]
  unfold isDig
  rw [← Bool.decide_and, decide_eq_decide]
  simp only [List.mem_cons, List.not_mem_nil, or_false]
  omega
theorem in_dig (c : Nat) : (!(Builtin.Str.occurrences DIG ⟨#[c]⟩ 0 DIG.length 1).isEmpty) = isDig c := by rw [PySem.StrLaws.found_one, mem_dig]
theorem ix_dig : ∀ d : Nat, d < 10 → Builtin.Str.occurrences DIG ⟨#[48 + d]⟩ 0 DIG.length 1 = [d] := by decide +kernel
theorem allDig_iff (cs : List Nat) : cs.all isDig = true ↔ AllDigits cs := by
  rw [List.all_eq_true]
  refine forall_congr' fun c => imp_congr Iff.rfl ?_
  unfold isDig
  simp
/-- the number that a text writes, by its codes -/
def readL (cs : List Nat) : Option Int :=
  if cs.head? = some 45 then
    (if cs.tail.length < 1 ∨ 30 < cs.tail.length ∨ cs.tail.all isDig = false ∨ cs.tail.head? = some 48 then none else some (-((digitsVal cs.tail : Nat) : Int)))
  else (if cs.length < 1 ∨ 30 < cs.length ∨ cs.all isDig = false ∨ (cs.head? = some 48 ∧ 1 < cs.length) then none else some ((digitsVal cs : Nat) : Int))
section
variable {X : Cx}
def rStarts : V → List V → Hp → VK → Prop := fun x xs H Q => ∃ z y, x = .str z ∧ xs = [.str y] ∧ Q (.bl (Txt.startswith z y)) H
theorem mt_startswith : MtR X "str.startswith" rStarts := by
  intro pins s σ H x xs v us Q I rx rv h
  obtain ⟨z, y, rfl, rfl, q⟩ := h
  obtain ⟨t, rfl⟩ := rx
  obtain ⟨u, rfl, ru⟩ := rv.one
  obtain ⟨t', rfl⟩ := ru
  exact SC.startswith ⟨.bl _, H, I, rfl, q⟩
def rIndex : V → List V → Hp → VK → Prop := fun x xs H Q => ∃ z y i rest, x = .str z ∧ xs = [.str y] ∧ Builtin.Str.occurrences z y 0 z.length 1 = i :: rest ∧ Q (.int (i : Nat)) H
theorem mt_index : MtR X "str.index" rIndex := by
  intro pins s σ H x xs v us Q I rx rv h
  obtain ⟨z, y, i, rest, rfl, rfl, ho, q⟩ := h
  obtain ⟨t, rfl⟩ := rx
  obtain ⟨u, rfl, ru⟩ := rv.one
  obtain ⟨t', rfl⟩ := ru
  exact SC.index ho ⟨.int _, H, I.tok _, ⟨_, rfl⟩, q⟩
theorem call_int_str : CallR X (.type "int") (fun xs H Q => ∃ z n, xs = [.str z] ∧ z.length ≤ 640 ∧ PySem.intText? z = some n ∧ Q (.int n) H) := by
  intro pins s σ H xs us Q I rv h
  obtain ⟨z, n, rfl, hl, hn, q⟩ := h
  obtain ⟨u, rfl, ru⟩ := rv.one
  obtain ⟨t, rfl⟩ := ru
  exact PySem.W.KIN.call_text hn hl ⟨.int _, H, I.tok _, ⟨_, rfl⟩, q⟩
end
theorem log2_lt {i : Int} {k : Nat} (h : i.natAbs < 2 ^ k) (hk : 0 < k) : i.natAbs.log2 < k := by
  rcases Nat.eq_zero_or_pos i.natAbs with e | e
  · rw [e]; simpa using hk
  · exact (Nat.log2_lt (by omega)).mpr h
theorem num_len {i : Int} {k : Nat} (hk : 0 < k) (h : i.natAbs < 10 ^ k) : (Str.ofString (toString i)).length ≤ k + 1 := by
  have := int_text_length_le10 hk h
  have e : (Str.ofString (toString i)).length = (toString i).length := PySem.ofString_length _
  omega
theorem big40 {i : Int} (h1 : -(10 ^ 40) < i) (h2 : i < 10 ^ 40) : i.natAbs < 10 ^ 40 := by omega
theorem str40 {i : Int} (h1 : -(10 ^ 40) < i) (h2 : i < 10 ^ 40) : i.natAbs.log2 < 1920 := log2_lt (Nat.lt_trans (big40 h1 h2) (Nat.lt_of_lt_of_le (show (10 : Nat) ^ 40 < 2 ^ 200 by decide) (Nat.pow_le_pow_right (by decide) (by decide)))) (by decide)
theorem len40 {i : Int} (h1 : -(10 ^ 40) < i) (h2 : i < 10 ^ 40) : (Str.ofString (toString i)).length ≤ 41 := num_len (by decide) (big40 h1 h2)
theorem atI_mem {α : Type} {xs : List α} {i : Int} (h0 : 0 ≤ i) (h1 : i < xs.length) : ∃ v, atI xs i = some v ∧ v ∈ xs := by
  obtain ⟨j, rfl⟩ : ∃ j : Nat, i = j := ⟨i.toNat, by omega⟩
  have hj : j < xs.length := by omega
  exact ⟨xs[j], atI_nat (by simp [List.getElem?_eq_getElem hj]), List.getElem_mem hj⟩
end L2

namespace L2
open PySem PySem.Spec PyProof.Rows PySem.NumText
/-! ### a text cut at a sign -/
theorem vals_strs : ∀ {l : List (Str × Tok)} {ys : List Str}, l.map (·.1) = ys → Vals (ys.map V.str) (strValues l) := by
  intro l
  induction l with
  | nil => intro ys e; cases e; exact .nil
  | cons p l ih => intro ys e; cases e; exact .cons ⟨p.2, rfl⟩ (ih rfl)
open Builtin.Str in
theorem split_new {prog : Program} {w : World} {A : Around} {E : Value → Shared → Prop} {s : Shared} {x y : Str} {t u : Tok} {Q : Value → Shared → Prop} (hy : (y.length == 0) = false)
    (hq : ∀ l tk, l.map (·.1) = Txt.split x y → Q (.ref s.heap.objs.size) { s with heap := s.heap.push { cls := .type "list", data := .seq (strValues l).toArray }, toks := tk })
    (hsz : x.length ≤ sizeLine) (hsz2 : (partsBetween x (occurrences x y 0 x.length (x.length + 1)) y.length).length ≤ sizeLine) :
    wpAny (model prog w) A (call (.builtin "str.split") [.str x t, .str y u]) Q E s := by
  cases h1 : (decide (x.length < y.length) || decide (strKind x < strKind y))
  · cases hf : (occurrences x y 0 x.length (x.length + 1)).isEmpty
    · refine call_meets F.slot_str_split (typeIs_str _ _ _) F.entry_str_split (F.args_str_split_2 _ _) (meets_str_split_sep x y t u h1 hy hf hsz hsz2) ?_
      show wants Q E _ { s with toks := _, heap := s.heap.push { cls := .type "list", data := .seq (strsFrom s.toks (partsBetween x (occurrences x y 0 x.length (x.length + 1)) y.length)).toArray } }
      rw [strsFrom_eq]
      exact hq (numbered s.toks _) _ ((numbered_texts _ _).trans ((if_neg (ne_true_of_eq_false h1)).trans (if_neg (ne_true_of_eq_false hf))).symm)
    · exact call_meets F.slot_str_split (typeIs_str _ _ _) F.entry_str_split (F.args_str_split_2 _ _) (meets_str_split_not_found x y t u h1 hy hf)
        (hq [(x, t)] _ ((if_neg (ne_true_of_eq_false h1)).trans (if_pos hf)).symm)
  · exact call_meets F.slot_str_split (typeIs_str _ _ _) F.entry_str_split (F.args_str_split_2 _ _) (meets_str_split_cannot_occur x y t u h1)
      (hq [(x, t)] _ (if_pos h1).symm)

section
variable {X : Cx}
def rSplit : V → List V → Hp → VK → Prop := fun x xs H Q => ∃ z y, x = .str z ∧ xs = [.str y] ∧ (y.length == 0) = false ∧ z.length ≤ 10000 ∧ ∀ l, H l = none → Q (.ref l) (upd H l (.lst ((Txt.split z y).map V.str)))
theorem mt_split : MtR X "str.split" rSplit := by
  intro pins s σ H x xs v us Q I rx rv h
  obtain ⟨z, y, rfl, rfl, hy, hz, q⟩ := h
  obtain ⟨t, rfl⟩ := rx
  obtain ⟨u, rfl, ru⟩ := rv.one
  obtain ⟨t', rfl⟩ := ru
  have hl : (10000 : Nat) + 2 ≤ sizeLine := by rw [sizeLine_eq]; decide
  refine split_new hy (fun l tk e => ?_) (by omega) ?_
  · refine ⟨.ref s.heap.objs.size, _, I.laid (t' := tk) (o := .lst ((Txt.split z y).map V.str)) (fun b ob q => Heap.get?_push_of_some _ q) (Nat.le_refl _) ?_, rfl, q _ (I.hok.fresh (Nat.le_refl _))⟩
    refine ⟨?_, _, 0, vals_strs e, Heap.get?_push_size _ rfl⟩
    have := split_le z y
    rw [List.length_map]
    omega
  · rw [len_partsBetween]
    have := StrLaws.occ_length_le z y 0 z.length (z.length + 1)
    omega
/-- (a, b, ..) = a list of that length -/
def gLst (K : PySem.W.Frag) (n : Nat) (t : TGs) : TG := fun v σ H Q => ∃ a xs, v = .ref a ∧ SqL K H a xs ∧ xs.length = n ∧ t xs σ H Q
theorem pg_lst {pos : Pos} {es : List Expr} {k : Nat} {t : TGs} {n : Nat} (hc : X.calm = true) (h : PGs X es t)
    (hn : (assignEach es X.env).length = n := by rfl) (hst : (assignEach es X.env).findIdx? (·.1) = none := by rfl) : PG X (.Tuple es k pos) (gLst X.K n t) := .mk <| by
  intro pins s σ H v u Q I r hw
  obtain ⟨a, xs, e1, hq, hl, hw⟩ := hw
  subst e1
  cases r
  obtain ⟨its, rv, ht, hz⟩ := I.list hq
  rw [assign_Tuple]
  refine wpAny_bind (wpAny_standAt ?_)
  unfold unpack
  have hn' : (assignEach es X.env).length = its.toArray.size := by simp [hn, ← hl, rv.length]
  rw [hn', hst]
  refine wpAny_bind (wpAny_holding (PySem.W.kun_itemsOf (I.ok.hd hc) ht.isList fun h' hx => ?_))
  have I1 : Inv X pins σ H { s with heap := h' } := I.kept (t' := s.toks) fun b o e => hx b o (Nat.ne_of_lt (Heap.lt_size e)) e
  exact h pins _ σ H xs _ Q I1 (by simpa using rv) hw
/-! ### the greatest of a tuple of ints -/
end

/-! ### comprehensions over a list, a tuple -/
theorem Same.seqT {K : PySem.W.Frag} {H H' : Hp} {a : Addr} {xs : List V} (e : Same H H') (h : SqT K H a xs) : SqT K H' a xs := by
  rcases h with h | h
  · rcases h with h | ⟨o, h⟩
    · exact .inl (.inl (e _ _ h))
    · exact .inl (.inr ⟨o, e _ _ h⟩)
  · exact .inr h
/-- a comprehension whose items may lay new things: R holds of each item made, and goes on holding -/
theorem comp_gen {J : It} {n : Nat} {nt : Nat} {cap : List Nat} {g : TG} {te : TE} {σ : St} {H1 : Hp} {Q : VK} {D : Addr} (val : Nat → V) (R : Nat → V → Hp → Prop) (hD : H1 D = none) (hP : Plain H1) (hx : n ≤ sizeLine)
    (hJ : ∀ i H2, Same H1 H2 → (i < n → J.go i H2) ∧ (J.stop n H2) ∧ ∀ x H3, i < n → J.yld i H2 x H3 → H3 = H2 ∧ x = val i)
    (mono : ∀ i y H H', R i y H → (∀ b o, b ≠ D → H b = some o → H' b = some o) → (∃ zs, H D = some (.lst zs)) → R i y H')
    (step : ∀ (i : Nat) H2 (T : VK), i < n → Plain H2 → Same H1 H2 → (∀ y H6, R i y H6 → Same H2 H6 → Plain H6 → T y H6) → g (val i) (List.replicate nt none ++ caps cap σ) H2 fun σ4 H4 => te σ4 H4 T)
    (fin : ∀ ys H2, ys.length = n → (∀ (i : Nat) y, ys[i]? = some y → R i y H2) → H2 D = some (.lst ys) → Same H1 H2 → Plain H2 → Q (.ref D) H2) :
    CompW J D nt cap g tYes te σ H1 Q := by
  refine ⟨fun i m ys H2 => m = n - i ∧ i ≤ n ∧ ys.length = i ∧ H2 D = some (.lst ys) ∧ Same H1 H2 ∧ Plain H2 ∧ ∀ (j : Nat) y, ys[j]? = some y → R j y H2, ⟨_, rfl, Nat.zero_le _, rfl, upd_same, same_upd hD, hP.lst, fun j y e => by simp at e⟩, ?_⟩
  rintro i m ys H2 ⟨rfl, hi, hl, hd, hs, hp, hr⟩
  refine ⟨hd, ?_⟩
  obtain ⟨j1, j2, j3⟩ := hJ i H2 hs
  by_cases hlt : i < n
  · refine .inr ⟨j1 hlt, by omega, fun v H3 hy => ?_⟩
    obtain ⟨rfl, rfl⟩ := j3 v H3 hlt hy
    simp only [tYes, if_true]
    refine step i _ _ hlt hp hs fun y H6 hR hs6 hp6 => ⟨hs6 _ _ hd, _, by omega, rfl, hlt, by simp [hl], upd_same, ?_, hp6.lst, ?_⟩
    · exact (hs.trans hs6).upd hD
    · intro j z e
      have up : ∀ b o, b ≠ D → H6 b = some o → (upd H6 D (.lst (ys ++ [y]))) b = some o := fun b o hb e => by rw [upd_ne hb]; exact e
      rcases Nat.lt_or_ge j ys.length with hj | hj
      · rw [List.getElem?_append_left hj] at e
        refine mono j z H6 _ (mono j z _ H6 (hr j z e) (fun b o _ e => hs6 b o e) ⟨_, hd⟩) up ⟨_, hs6 _ _ hd⟩
      · rw [List.getElem?_append_right hj] at e
        have hj0 : j - ys.length = 0 := by
          rcases Nat.eq_zero_or_pos (j - ys.length) with h0 | h0
          · exact h0
          · rw [List.getElem?_eq_none (by simp; omega)] at e; cases e
        rw [hj0] at e
        simp at e
        subst e
        have : j = i := by omega
        subst this
        exact mono j y H6 _ hR up ⟨_, hs6 _ _ hd⟩
  · have e : i = n := by omega
    subst e
    exact .inl ⟨j2, fin ys H2 hl hr hd hs hp⟩
theorem itl_ok {K : PySem.W.Frag} {a : Addr} {xs : List V} {H1 : Hp} (h : SqL K H1 a xs) : ∀ i H2, Same H1 H2 → (i < xs.length → (Itl K a).go i H2) ∧ ((Itl K a).stop xs.length H2) ∧ ∀ x H3, i < xs.length → (Itl K a).yld i H2 x H3 → H3 = H2 ∧ x = xs.getD i .non := fun i H2 e => by
  refine ⟨fun hi => ⟨xs, xs[i], e.seq h, by simp [hi]⟩, ⟨xs, e.seq h, Nat.le_refl _⟩, fun x H3 hi y => ⟨y.1, ?_⟩⟩
  have := y.2 xs (e.seq h)
  rw [List.getD_eq_getElem?_getD, this]; rfl
theorem itt_ok {K : PySem.W.Frag} {a : Addr} {xs : List V} {H1 : Hp} (h : SqT K H1 a xs) : ∀ i H2, Same H1 H2 → (i < xs.length → (Itt K a).go i H2) ∧ ((Itt K a).stop xs.length H2) ∧ ∀ x H3, i < xs.length → (Itt K a).yld i H2 x H3 → H3 = H2 ∧ x = xs.getD i .non := fun i H2 e => by
  refine ⟨fun hi => ⟨xs, xs[i], e.seqT h, by simp [hi]⟩, ⟨xs, e.seqT h, Nat.le_refl _⟩, fun x H3 hi y => ⟨y.1, ?_⟩⟩
  have := y.2 xs (e.seqT h)
  rw [List.getD_eq_getElem?_getD, this]; rfl
/-! ### == of plain data, however deep -/
mutual
def DV (K : PySem.W.Frag) (H : Hp) : PyData → V → Prop
  | .none, v => v = .non
  | .bool b, v => v = .bl b
  | .int i, v => v = .int i
  | .str x, v => v = .str x
  | .list xs, v => ∃ a vs, v = .ref a ∧ SqL K H a vs ∧ DVs K H xs vs
  | .tuple xs, v => ∃ a vs, v = .ref a ∧ SqT K H a vs ∧ DVs K H xs vs
  | .dict _, _ => False
def DVs (K : PySem.W.Frag) (H : Hp) : List PyData → List V → Prop
  | [], vs => vs = []
  | d :: ds, vs => ∃ v r, vs = v :: r ∧ DV K H d v ∧ DVs K H ds r
end
mutual
theorem DV.same {K : PySem.W.Frag} {H H' : Hp} (e : Same H H') : ∀ (d : PyData) (v : V), DV K H d v → DV K H' d v
  | .none, v, h => h
  | .bool b, v, h => h
  | .int i, v, h => h
  | .str x, v, h => h
  | .list xs, v, ⟨a, vs, h1, h2, h3⟩ => ⟨a, vs, h1, e.seq h2, DVs.same e xs vs h3⟩
  | .tuple xs, v, ⟨a, vs, h1, h2, h3⟩ => ⟨a, vs, h1, e.seqT h2, DVs.same e xs vs h3⟩
  | .dict _, v, h => h.elim
theorem DVs.same {K : PySem.W.Frag} {H H' : Hp} (e : Same H H') : ∀ (ds : List PyData) (vs : List V), DVs K H ds vs → DVs K H' ds vs
  | [], vs, h => h
  | d :: ds, vs, ⟨v, r, h1, h2, h3⟩ => ⟨v, r, h1, DV.same e d v h2, DVs.same e ds r h3⟩
end
section
variable {X : Cx} {pins : List (Addr × Obj)} {σ : St} {H : Hp} {s : Shared}
mutual
theorem DV.reads (I : Inv X pins σ H s) : ∀ (d : PyData) (v : V) (u : Value), DV X.K H d v → RelV v u → ∃ as, Reads s.heap u d as
  | .none, v, u, h, r => by cases (show v = V.non from h); cases r; exact ⟨_, .none⟩
  | .bool b, v, u, h, r => by cases (show v = V.bl b from h); cases r; exact ⟨_, .bool b⟩
  | .int i, v, u, h, r => by cases (show v = V.int i from h); obtain ⟨t, rfl⟩ := r; exact ⟨_, .int i t⟩
  | .str x, v, u, h, r => by cases (show v = V.str x from h); obtain ⟨t, rfl⟩ := r; exact ⟨_, .str x t⟩
  | .list xs, v, u, h, r => by
    obtain ⟨a, vs, rfl, h2, h3⟩ := h
    cases r
    obtain ⟨its, rv, pl, _⟩ := I.list h2
    obtain ⟨o, ho, hc, n, hd⟩ := pl.isList
    obtain ⟨as, ra⟩ := DVs.reads I xs vs its h3 rv
    exact ⟨_, .list ho hc hd (by simpa using ra)⟩
  | .tuple xs, v, u, h, r => by
    obtain ⟨a, vs, rfl, h2, h3⟩ := h
    cases r
    obtain ⟨its, rv, pl, _⟩ := I.tuple h2
    obtain ⟨o, ho, hc, n, hd⟩ := pl
    obtain ⟨as, ra⟩ := DVs.reads I xs vs its h3 rv
    exact ⟨_, .tuple ho hc hd (by simpa using ra)⟩
  | .dict _, v, u, h, r => h.elim
theorem DVs.reads (I : Inv X pins σ H s) : ∀ (ds : List PyData) (vs : List V) (us : List Value), DVs X.K H ds vs → Vals vs us → ∃ as, ReadsAll s.heap us ds as
  | [], vs, us, h, r => by cases (show vs = [] from h); cases r; exact ⟨_, .nil⟩
  | d :: ds, vs, us, h, r => by
    obtain ⟨v, rest, rfl, h2, h3⟩ := h
    cases r with
    | cons r rr =>
      obtain ⟨as, ra⟩ := DV.reads I d _ _ h2 r
      obtain ⟨bs, rb⟩ := DVs.reads I ds _ _ h3 rr
      exact ⟨_, .cons ra rb⟩
end
end
section
variable {X : Cx}
def rEqD (K : PySem.W.Frag) : R2 := fun x y H Q => ∃ d e, DV K H d x ∧ DV K H e y ∧ SeqAt.shaped d = true ∧ SeqAt.shaped e = true ∧ Q (.bl (PyData.eqv d e)) H
def rNeD (K : PySem.W.Frag) : R2 := fun x y H Q => ∃ d e, DV K H d x ∧ DV K H e y ∧ SeqAt.shaped d = true ∧ SeqAt.shaped e = true ∧ Q (.bl (!PyData.eqv d e)) H
theorem op_eqD (hu : X.A.units + 64 < cLine) : OpR X (compareOp .Eq) (rEqD X.K) := by
  intro pins s σ H x y v u Q I rx ry h
  obtain ⟨d, e, hd, he, sd, se, q⟩ := h
  obtain ⟨as, ra⟩ := DV.reads I d x v hd rx
  obtain ⟨bs, rb⟩ := DV.reads I e y u he ry
  exact SeqAt.compareEq_shaped ra rb sd se hu ⟨.bl _, H, I, rfl, q⟩
theorem op_neD (hu : X.A.units + 64 < cLine) : OpR X (compareOp .NotEq) (rNeD X.K) := by
  intro pins s σ H x y v u Q I rx ry h
  obtain ⟨d, e, hd, he, sd, se, q⟩ := h
  obtain ⟨as, ra⟩ := DV.reads I d x v hd rx
  obtain ⟨bs, rb⟩ := DV.reads I e y u he ry
  exact SeqAt.compareNe_shaped ra rb sd se hu ⟨.bl _, H, I, rfl, q⟩
end
/-! ### a promise of any kind -/
def genSp {α : Type} (Pre : α → List V → Hp → Prop) (Post : α → V → Hp → Prop) (Exc : α → Addr → Prop) : Sp := fun vs H Q E => Plain H ∧ ∃ a, Pre a vs H ∧ (∀ v H', Post a v H' → Same H H' → Plain H' → Q v H') ∧ (∀ C H', Exc a C → Same H H' → Plain H' → E (.ref C) none H')

def optMap {α β : Type} (f : α → Option β) : List α → Option (List β)
  | [] => some []
  | x :: xs => match f x with
    | none => none
    | some y => match optMap f xs with
      | none => none
      | some ys => some (y :: ys)
theorem optMap_none {α β : Type} {f : α → Option β} : ∀ {xs : List α} {x : α}, x ∈ xs → f x = none → optMap f xs = none := by
  intro xs
  induction xs with
  | nil => intro x h; cases h
  | cons a xs ih =>
    intro x h e
    unfold optMap
    rcases List.mem_cons.mp h with rfl | h
    · rw [e]
    · rw [ih h e]
      cases f a <;> rfl
theorem optMap_some {α β : Type} {f : α → Option β} : ∀ {xs : List α} {ys : List β}, xs.length = ys.length → (∀ (i : Nat) x, xs[i]? = some x → ∃ y, ys[i]? = some y ∧ f x = some y) → optMap f xs = some ys := by
  intro xs
  induction xs with
  | nil =>
    intro ys hl h
    cases ys with
    | nil => rfl
    | cons _ _ => simp at hl
  | cons a xs ih =>
    intro ys hl h
    cases ys with
    | nil => simp at hl
    | cons b ys =>
      obtain ⟨y, e1, e2⟩ := h 0 a rfl
      have e1 : b = y := by simpa using e1
      subst e1
      have := ih (ys := ys) (by simpa using hl) fun i x e => h (i + 1) x (by simpa using e)
      unfold optMap
      rw [e2, this]
/-- a list of values, each known by its place -/
theorem ys_map {α : Type} {xs : List α} {f : α → V} {ys : List V} (hl : ys.length = xs.length) (h : ∀ (i : Nat) y, ys[i]? = some y → ∃ x, xs[i]? = some x ∧ y = f x) : ys = xs.map f := by
  apply List.ext_getElem?
  intro i
  rw [List.getElem?_map]
  cases e : ys[i]? with
  | none =>
    have : xs[i]? = none := by rw [List.getElem?_eq_none_iff] at e ⊢; omega
    rw [this]; rfl
  | some y =>
    obtain ⟨x, e1, e2⟩ := h i y e
    rw [e1, e2]; rfl
/-- the items found, one for each place -/
theorem ys_choose {α : Type} {R : Nat → α → Prop} {f : α → V} : ∀ {ys : List V} , (∀ (i : Nat) y, ys[i]? = some y → ∃ x, y = f x ∧ R i x) → ∃ xs : List α, ys = xs.map f ∧ ∀ (i : Nat) x, xs[i]? = some x → R i x := by
  intro ys
  induction ys generalizing R with
  | nil => intro _; exact ⟨[], rfl, fun i x e => by simp at e⟩
  | cons y ys ih =>
    intro h
    obtain ⟨x, e, r⟩ := h 0 y rfl
    obtain ⟨xs, e2, r2⟩ := ih (R := fun i x => R (i + 1) x) fun i z e => h (i + 1) z (by simpa using e)
    refine ⟨x :: xs, by rw [e, e2]; rfl, fun i z ez => ?_⟩
    cases i with
    | zero => simp at ez; subst ez; exact r
    | succ i => exact r2 i z (by simpa using ez)
end L2

namespace L2
open PySem PySem.Spec PyProof.Rows PySem.NumText
/-! ### a comprehension that is given to a name: the name is stored ahead of the variables' end -/
section
variable {X : Cx}
theorem comp_coreU {use : Option (Value → Sem Unit)} {QQ : Value → Shared → Prop} {p0 : Pos} {pins : List (Addr × Obj)} {s : Shared} {σ : St} {H : Hp} {Q : VK} {elt tg iter : Expr} {ifs : List Expr} {scope : Scope} {pos : Pos} {N' : List Str} {nt : Nat} {cap : List Nat} {wi : TI} {g : TG} {ti : TT} {te : TE}
    (EK : Addr → Shared → Hp → List Addr → (Value → Shared → Prop) → Prop)
    (hE : ∀ (pins : List (Addr × Obj)) (σ : St) (s3 : Shared) (H3 : Hp) (fp : List Addr) (Q : VK) (D : Addr), Inv X pins σ H3 s3 → (∀ b ∈ fp, FpOk X pins H3 b) →
      EK s3.heap.objs.size s3 H3 fp (notedBy (model X.prog X.w) X.A (compEnvC scope (clOf scope X.env) s3.heap.objs.size X.env) fun e s' => compPost (model X.prog X.w) X.A X.xe none (EP X pins σ Q) (.ref D) s3.heap.objs.size (.error e) s'))
    (hc : X.calm = true) (hi : PI X tg iter wi)
    (hg : ∀ C s₀ H₀ fp E', EK C s₀ H₀ fp E' → PG (X.comp scope C s₀ H₀ fp N' E') tg g)
    (hif : ∀ C s₀ H₀ fp E', EK C s₀ H₀ fp E' → PIf (X.comp scope C s₀ H₀ fp N' E') ifs ti)
    (he : ∀ C s₀ H₀ fp E', EK C s₀ H₀ fp E' → PE (X.comp scope C s₀ H₀ fp N' E') elt te)
    (hk : scope.kind = .function) (hb : compOk scope X.env = true) (hcap : capOk X scope N' nt cap = true)
    (hgk : GKeeps nt g) (hs : ∀ x, foldedSetIterable iter X.env x = pure x) (I : Inv X pins σ H s) (h : tComp wi nt cap g ti te σ H Q)
    (fin : ∀ (D C : Addr) (m : Str → Option Value) (H5 : Hp) (s6 : Shared), Inv X pins σ H5 s6 → Q (.ref D) H5 → s6.heap.Ns C m → C ≠ X.env.locals → (∀ x c, X.env.cells.lookup x = some c → c ≠ C) → (∀ H', H' C = none → FpOk X pins H' C) → H5 C = none →
      compPost (model X.prog X.w) X.A X.xe use QQ (.ref D) C (.ok .next) s6) :
    wpAny (model X.prog X.w) X.A (comprehension (.ListComp elt [⟨tg, iter, ifs, 0⟩] scope pos) scope X.env p0 (newList []) false (eval iter X.env) use) QQ X.xe s := by
  have hclos : closureFor scope X.env = pure (clOf scope X.env) := closure_is fun p hp e => I.ok.has p.1 (compOk_free hb p hp e)
  refine wpAny_comprehension_free (use := use) rfl hs hclos hk (compOk_local hb) (thn (hi pins s σ H _ I h) fun v s1 h1 => thn h1 fun itv s2 h2 => ?_)
  obtain ⟨it, fp, tn, J, H2, e, I2, T, st2, f2, q2⟩ := h2
  subst e
  refine wpAny_newObj_type (wpAny_newFunctionEnv (compOk_cell hb) (by intro y hy; simp at hy) (fun h₁ hns₁ hsb₁ => ?_) hk)
  have I3 := I2.lnew (ys := []) (its := []) (t' := s2.toks) .nil (Nat.zero_le _)
  have hfl : ∀ b ∈ fp, b < s2.heap.objs.size := fun b hb' => let ⟨o, e, _⟩ := T.obj 0 _ st2 b hb'; Heap.lt_size e
  obtain ⟨W, ⟨m0, w0⟩, turn⟩ := q2 s2.heap.objs.size (I2.hok.fresh (Nat.le_refl _))
  have nD : ∀ b ∈ fp, b ≠ s2.heap.objs.size := fun b hb' => Nat.ne_of_lt (hfl b hb')
  have f3 : ∀ b ∈ fp, FpOk X pins (upd H2 s2.heap.objs.size (.lst [])) b := fun b hb' => ⟨by rw [upd_ne (nD b hb')]; exact (f2 b hb').1, (f2 b hb').2⟩
  obtain ⟨s3, hs3⟩ : ∃ s3 : Shared, s3 = { s2 with heap := s2.heap.push { cls := .type "list", data := .seq ([] : List Value).toArray }, toks := s2.toks } := ⟨_, rfl⟩
  have hs3' : s3.heap = s2.heap.push { cls := .type "list", data := .seq ([] : List Value).toArray } := by rw [hs3]
  rw [← hs3] at I3
  have hsz : s3.heap.objs.size = s2.heap.objs.size + 1 := by rw [hs3', Heap.size_push]
  have hfl3 : ∀ b ∈ fp, b < s3.heap.objs.size := fun b hb' => by rw [hsz]; exact Nat.lt_succ_of_lt (hfl b hb')
  have hC : (s2.heap.push { cls := Value.type "list", dict := none, data := Data.seq ([] : List Value).toArray }).objs.size = s3.heap.objs.size := by rw [hs3']
  dsimp only at hns₁ hsb₁ ⊢
  rw [hC] at hns₁ hsb₁ ⊢
  rw [← hs3'] at hsb₁
  have kp : ∀ b o, s3.heap.get? b = some o → h₁.get? b = some o := fun b o e => hsb₁.extBut b o (Nat.ne_of_lt (Heap.lt_size e)) (Heap.get?_push_of_some _ e)
  have hEE := hE pins σ s3 _ fp Q s2.heap.objs.size I3 f3
  generalize hE' : (notedBy (model X.prog X.w) X.A (compEnvC scope (clOf scope X.env) s3.heap.objs.size X.env) fun e s' => compPost (model X.prog X.w) X.A X.xe none (EP X pins σ Q) (.ref s2.heap.objs.size) s3.heap.objs.size (.error e) s') = E' at hEE
  have hE2 : (notedBy (model X.prog X.w) X.A (compEnvC scope (clOf scope X.env) s3.heap.objs.size X.env) fun e s' => compPost (model X.prog X.w) X.A X.xe use QQ (.ref s2.heap.objs.size) s3.heap.objs.size (.error e) s') = E' := hE'
  have I4 := comp_start (t4 := s2.toks + ([] : List (Str × Value)).length) (E' := E') I3 hk hb hcap f3 hfl3 hns₁ kp
  have st4 : tn 0 h₁ := T.keep 0 _ _ st2 fun b hb' o e => kp b o (by rw [hs3']; exact Heap.get?_push_of_some _ e)
  obtain ⟨s4, hs4⟩ : ∃ s4 : Shared, s4 = { s3 with heap := h₁, toks := s2.toks + ([] : List (Str × Value)).length } := ⟨_, rfl⟩
  rw [← hs4] at I4
  have st4' : tn 0 s4.heap := by rw [hs4]; exact st4
  have cin : ∀ x c, (clOf scope X.env).lookup x = some c → X.env.cells.lookup x = some c := fun x c e => cl_in scope.names [] (fun y d q => by simp at q) e
  have stat : ∀ {H' : Hp}, (∀ b ∈ fp, H' b = none) → ∀ b ∈ fp, FpOk (X.comp scope s3.heap.objs.size s3 (upd H2 s2.heap.objs.size (.lst [])) fp N' E') [] H' b := fun hn b hb' => by
    refine ⟨hn b hb', Nat.ne_of_lt (hfl3 b hb'), fun z => ?_, .inl hb', fun x c e => (f3 b hb').2.2.2.2.1 x c (cin x c e), fun p hp => absurd hp (by simp [Cx.comp])⟩
    rcases List.mem_cons.mp (I3.stkSub b z) with z | z
    · exact (f3 b hb').2.1 z
    · exact (f3 b hb').2.2.1 z
  have loop : codeAny (model X.prog X.w) X.A (.compLoop (.ListComp elt [⟨tg, iter, ifs, 0⟩] scope pos) 0 (.ref it) (.ref s2.heap.objs.size) (compEnvC scope (clOf scope X.env) s3.heap.objs.size X.env))
      (compPost (model X.prog X.w) X.A X.xe use QQ (.ref s2.heap.objs.size) s3.heap.objs.size) s4 := by
    refine compLoop_gen (fun n s' => ∃ i ys H', Inv (X.comp scope s3.heap.objs.size s3 (upd H2 s2.heap.objs.size (.lst [])) fp N' E') [] (List.replicate nt none ++ caps cap σ) H' s' ∧ tn i s'.heap ∧ (∀ b ∈ fp, H' b = none) ∧ W i n ys H') ?_ m0
      ⟨0, [], _, I4, st4', fun b hb' => (f3 b hb').1, w0⟩
    rintro n s5 ⟨i, ys, H5, I5, st5, fr5, w5⟩
    rw [hE2]
    obtain ⟨hD5, alt⟩ := turn i n ys H5 w5
    rcases alt with ⟨stop, qn⟩ | ⟨go, hyl, step⟩
    · refine thn (T.done (X.comp scope s3.heap.objs.size s3 (upd H2 s2.heap.objs.size (.lst [])) fp N' E') rfl rfl rfl hc i [] s5 _ H5 E' I5 (stat fr5) st5 stop) fun r s6 ⟨hr, I6⟩ => ?_
      subst hr
      obtain ⟨m6, hn6, _⟩ := I6.loc
      have I7 := comp_back I3 f3 I6
      refine fin _ _ m6 H5 s6 I7 qn hn6 ?_ ?_ (fun H' hn => I3.fpOk (Nat.le_refl _) hn) I6.free
      · intro z
        exact absurd (Nat.lt_of_lt_of_le I3.lt (Nat.le_of_eq z)) (Nat.lt_irrefl _)
      · intro x c e z
        obtain ⟨v, q⟩ := I3.cell x c e
        exact absurd (Nat.lt_of_lt_of_le q.lt (by rw [z]; exact Nat.le_refl _)) (Nat.lt_irrefl _)
    · refine thn (T.item (X.comp scope s3.heap.objs.size s3 (upd H2 s2.heap.objs.size (.lst [])) fp N' E') rfl rfl rfl hc i [] s5 _ H5 E' I5 (stat fr5) st5 go) fun r s6 ⟨u, hr, h6⟩ => ?_
      subst hr
      refine thn h6 fun _ s7 ⟨x, H7, I7, r7, y7, st7, fr7⟩ => ?_
      have I7' := I7.pinned (stat fr7) (T.obj _ _ st7)
      have again : ∀ {σ8 : St} {H8 : Hp} {ys' : List V} {s8 : Shared}, Inv (X.comp scope s3.heap.objs.size s3 (upd H2 s2.heap.objs.size (.lst [])) fp N' E') ([] ++ pinsAt fp s7.heap) σ8 H8 s8 → (∃ m', m' < n ∧ W (i + 1) m' ys' H8) → (∀ (j : Nat) v, (List.replicate nt none ++ caps cap σ)[j]? = some (some v) → σ8[j]? = some (some v)) →
          ∃ m, m < n ∧ ∃ i ys H', Inv (X.comp scope s3.heap.objs.size s3 (upd H2 s2.heap.objs.size (.lst [])) fp N' E') [] (List.replicate nt none ++ caps cap σ) H' s8 ∧ tn i s8.heap ∧ (∀ b ∈ fp, H' b = none) ∧ W i m ys H' := fun {σ8 H8 ys' s8} I8 ⟨m', hm, w8⟩ hσ => by
        refine ⟨m', hm, i + 1, ys', H8, I8.unpinned.weak (by rw [I8.len, I5.len]) hσ, T.keep _ _ _ st7 fun b hb o e => (I8.pin (b, o) (List.mem_append_right _ (List.mem_append_right _ (mem_pinsAt hb e)))).1, fun b hb => ?_, w8⟩
        obtain ⟨o, e, d⟩ := T.obj _ _ st7 b hb
        exact (I8.pin (b, o) (List.mem_append_right _ (List.mem_append_right _ (mem_pinsAt hb e)))).2.1
      refine thn (hg _ _ _ _ _ hEE _ s7 _ H7 x u _ I7' r7 (hgk x _ H7 _ (step x H7 y7))) fun _ s8 ⟨σ8, H8, I8, q8, hσ⟩ => ?_
      refine thn (hif _ _ _ _ _ hEE _ s8 σ8 H8 _ I8 q8) fun ok s9 ⟨H9, I9, q9⟩ => ?_
      cases ok with
      | false =>
        rw [if_neg Bool.false_ne_true] at q9 ⊢
        exact again I9 q9 hσ
      | true =>
        rw [if_pos rfl] at q9 ⊢
        refine thn (he _ _ _ _ _ hEE _ s9 σ8 H9 _ I9 q9) fun y s10 ⟨vy, H10, I10, r10, hD10, hm10⟩ => ?_
        exact thn (mt_append (X := X.comp scope s3.heap.objs.size s3 (upd H2 s2.heap.objs.size (.lst [])) fp N' E') _ s10 σ8 H10 (.ref s2.heap.objs.size) [vy] (.ref s2.heap.objs.size) [y] (fun _ H' => H' = upd H10 s2.heap.objs.size (.lst (ys ++ [vy]))) I10 rfl (.cons r10 .nil) ⟨_, _, _, rfl, rfl, hD10, hyl, rfl⟩) fun _ s11 ⟨_, H11, I11, _, e11⟩ => by
          subst e11
          exact again I11 hm10 hσ
  have e4 : ({ s2 with heap := h₁, toks := s2.toks + ([] : List (Str × Value)).length } : Shared) = s4 := by rw [hs4, hs3]
  show codeAny _ _ _ _ { s2 with heap := h₁, toks := s2.toks + ([] : List (Str × Value)).length }
  rw [e4]
  exact codeAny_compStart_list loop (T.self X.A 0 s4 _ _ st4' loop)

theorem set_core {elt tg iter : Expr} {ifs : List Expr} {scope : Scope} {cpos pos pos' : Pos} {N' : List Str} {nt : Nat} {cap : List Nat} {wi : TI} {g : TG} {ti : TT} {te : TE} {i : Nat} {x : Str}
    (EK : Addr → Shared → Hp → List Addr → (Value → Shared → Prop) → Prop)
    (hE : ∀ (pins : List (Addr × Obj)) (σ : St) (s3 : Shared) (H3 : Hp) (fp : List Addr) (Q : VK) (D : Addr), Inv X pins σ H3 s3 → (∀ b ∈ fp, FpOk X pins H3 b) →
      EK s3.heap.objs.size s3 H3 fp (notedBy (model X.prog X.w) X.A (compEnvC scope (clOf scope X.env) s3.heap.objs.size X.env) fun e s' => compPost (model X.prog X.w) X.A X.xe none (EP X pins σ Q) (.ref D) s3.heap.objs.size (.error e) s'))
    (hc : X.calm = true) (hi : PI X tg iter wi)
    (hg : ∀ C s₀ H₀ fp E', EK C s₀ H₀ fp E' → PG (X.comp scope C s₀ H₀ fp N' E') tg g)
    (hif : ∀ C s₀ H₀ fp E', EK C s₀ H₀ fp E' → PIf (X.comp scope C s₀ H₀ fp N' E') ifs ti)
    (he : ∀ C s₀ H₀ fp E', EK C s₀ H₀ fp E' → PE (X.comp scope C s₀ H₀ fp N' E') elt te)
    (hk : scope.kind = .function) (hb : compOk scope X.env = true) (hcap : capOk X scope N' nt cap = true)
    (hgk : GKeeps nt g) (hs : ∀ x, foldedSetIterable iter X.env x = pure x)
    (hN : X.N.Nodup) (hix : X.N[i]? = some x) (hx : Loc X.env.scope x) (hf : X.fn x = true ∨ X.env.scope.names.lookup x = some .local)
    (hsw : swapsWith (.ListComp elt [⟨tg, iter, ifs, 0⟩] scope cpos) (some (.Name x pos')) pos.line X.env = pure true) :
    PS X (.Assign [.Name x pos'] (.ListComp elt [⟨tg, iter, ifs, 0⟩] scope cpos) pos) (tAsg (tComp wi nt cap g ti te) (gName i)) := .mk <| by
  intro pins s σ H D I h
  rw [exec_Assign_Name_used _ _ _ _ hsw]
  refine wpAny_bind (wpAny_standAt (wpAny_bind ?_))
  show wpAny _ X.A (do let _ ← comprehension (.ListComp elt [⟨tg, iter, ifs, 0⟩] scope cpos) scope X.env _ (newList []) false (eval iter X.env) (some (assign (.Name x pos') X.env))) _ _ s
  refine wpAny_bind (thn (comp_coreU (use := some (assign (.Name x pos') X.env)) (QQ := fun _ s' => SP X pins D .next s') EK hE hc hi hg hif he hk hb hcap hgk hs I h ?_) fun _ s' hq => wpAny_pure (wpAny_pure hq))
  intro Da C m H5 s6 I6 q6 hn hC hcell hfp h5
  show wpAny _ _ (assign (.Name x pos') X.env (.ref Da)) _ _ s6
  refine wpAny_assign_Name (store_ok2 I6 hN hix hx (v := .ref Da) rfl (fun s7 I7 ⟨a, hsb, ha⟩ => ?_) hf)
  have hCa : C ≠ a := by
    rcases ha with rfl | ha
    · exact hC
    · exact fun z => hcell x a ha z.symm
  refine ⟨m, hn.sameBut hsb hCa, fun h' hsb' => ⟨_, H5, ?_, q6⟩⟩
  refine I7.turnedL (ch := [C]) (t' := s7.toks) (fun b hb' => ?_) fun b u hb' e => (hsb'.2 b fun z => hb' (by simp [z])).trans e
  have eb : b = C := by simpa using hb'
  subst eb
  exact hfp _ h5
theorem ps_setC {elt tg iter : Expr} {ifs : List Expr} {scope : Scope} {cpos pos pos' : Pos} {wi : TI} {g : TG} {ti : TT} {te : TE} {i : Nat} {x : Str} (N' : List Str) (nt : Nat) (cap : List Nat)
    (hN : X.N.Nodup) (hix : X.N[i]? = some x) (hx : Loc X.env.scope x)
    (hc : X.calm = true) (hi : PI X tg iter wi) (hgk : GKeeps nt g)
    (hg : ∀ C s₀ H₀ fp E', PG (X.comp scope C s₀ H₀ fp N' E') tg g)
    (hif : ∀ C s₀ H₀ fp E', PIf (X.comp scope C s₀ H₀ fp N' E') ifs ti)
    (he : ∀ C s₀ H₀ fp E', PE (X.comp scope C s₀ H₀ fp N' E') elt te)
    (hk : scope.kind = .function := by rfl) (hb : compOk scope X.env = true := by rfl) (hcap : capOk X scope N' nt cap = true := by rfl)
    (hs : ∀ x, foldedSetIterable iter X.env x = pure x := by intro _; rfl) (hf : X.fn x = true ∨ X.env.scope.names.lookup x = some .local := by first | exact .inl rfl | exact .inr rfl | assumption)
    (hsw : swapsWith (.ListComp elt [⟨tg, iter, ifs, 0⟩] scope cpos) (some (.Name x pos')) pos.line X.env = pure true := by rfl) :
    PS X (.Assign [.Name x pos'] (.ListComp elt [⟨tg, iter, ifs, 0⟩] scope cpos) pos) (tAsg (tComp wi nt cap g ti te) (gName i)) :=
  set_core (fun _ _ _ _ _ => True) (fun _ _ _ _ _ _ _ _ _ => trivial) hc hi (fun C s₀ H₀ fp E' _ => hg C s₀ H₀ fp E') (fun C s₀ H₀ fp E' _ => hif C s₀ H₀ fp E') (fun C s₀ H₀ fp E' _ => he C s₀ H₀ fp E') hk hb hcap hgk hs hN hix hx hf hsw
end
end L2

namespace HT
open PySem PySem.Spec PyProof.Rows
section
variable {prog : Program} {w : World} {A : Around} {E : Value → Shared → Prop} {s : Shared}
/-- t[lo:hi] that is the whole: t itself -/
theorem getItem_tuple_whole {t sl : Addr} {items : Array Value} {vl vu : Value} {lo hi : Option Int} {Q : Value → Shared → Prop} (ht : IsTup s.heap t items) (hs : s.heap.IsSliceOf sl vl vu .none) (pl : IsPart vl lo) (pu : IsPart vu hi)
    (hw : sIx items.size 0 lo = 0 ∧ sIx items.size items.size hi = items.size) (h : Q (.ref t) s) : wpAny (model prog w) A (getItem (.ref t) (.ref sl)) Q E s := by
  obtain ⟨os, hos, hcs, hds⟩ := id hs
  have hTs : s.TypeIs (.ref sl) "slice" := ⟨os, hos, hcs⟩
  unfold getItem
  try with_reducible refine wpAny_holding ?_
  first | refine wpAny_bind (wpAny_pure ?_) | skip
  refine wpAny_bind (wpAny_sequenceKey ht.typeIs (by decide) ?_)
  refine wpAny_bind (wpAny_callSpecial?_slot (name := Str.ofString "__getitem__") ht.typeIs PyProof.Rows.slot_tuple_getitem
    (wpAny_call_entry PyProof.Rows.slot_tuple_getitem ht.typeIs entry_tuple_getitem ?_ (args_tuple_getitem _ _)))
  show wpAny _ _ (Builtin.Tuple.tupleItemsOf (.ref t) >>= _) _ _ s
  refine wpAny_bind (tupleItemsOf_ ht ?_)
  refine wpAny_bind (wpAny_typeOf hTs ?_)
  rw [if_pos (by decide)]
  refine wpAny_bind (sliceApplied_gen hs pl pu ?_)
  have hyes : ((((sIx items.size 0 lo : Nat) : Int) == 0 && (1 : Int) == 1 && (sIx items.size items.size hi - sIx items.size 0 lo) == items.size) = true) := by
    rw [hw.1, hw.2]
    simp
  show wpAny _ _ (if (((sIx items.size 0 lo : Nat) : Int) == 0 && (1 : Int) == 1 && (sIx items.size items.size hi - sIx items.size 0 lo) == items.size) = true then _ else _) _ _ s
  rw [if_pos hyes]
  refine wpAny_bind ?_
  unfold Builtin.Tuple.tupleIsExact
  refine wpAny_bind (wpAny_typeOf ht.typeIs (wpAny_pure ?_))
  rw [if_pos (by decide)]
  refine wpAny_bind (wpAny_rule ?_)
  refine wpAny_pure ⟨_, rfl, ?_⟩
  exact wpAny_pure h
end
end HT
namespace L2
open PySem PySem.Spec PyProof.Rows PySem.NumText
section
variable {X : Cx}
/-- t[lo:hi], whatever the bounds: some tuple that holds just these -/
def rSlG (K : PySem.W.Frag) : V → Option Int → Option Int → Hp → VK → Prop := fun x lo hi H Q => ∃ a xs, x = .ref a ∧ SqT K H a xs ∧ ∀ p H', SqT K H' p (cutV xs lo hi) → Same H H' → (Plain H → Plain H') → Q (.ref p) H'
theorem sl_tupG : SlR X (rSlG X.K) := by
  intro pins s σ H x v vl vu lo hi sl Q I rx hs pl pu h
  obtain ⟨a, xs, rfl, hx, q⟩ := h
  by_cases hw : HT.sIx xs.length 0 lo = 0 ∧ HT.sIx xs.length xs.length hi = xs.length
  · cases rx
    obtain ⟨its, r, ht, hz⟩ := I.tuple hx
    have hlen : its.toArray.size = xs.length := by rw [List.size_toArray]; exact r.length.symm
    refine ⟨"tuple", _, PyProof.Rows.slot_tuple_getitem.lookup, ht.typeIs, ?_⟩
    refine HT.getItem_tuple_whole ht hs pl pu (by rw [hlen]; exact hw) ⟨.ref a, H, I, rfl, q _ _ ?_ (Same.refl _) id⟩
    unfold cutV
    rw [hw.1, hw.2]
    simpa using hx
  · exact sl_tup pins s σ H (.ref a) v vl vu lo hi sl Q I rx hs pl pu ⟨a, xs, rfl, hx, hw, fun p hp => q _ _ (SqT.of upd_same) (same_upd hp) fun z => z.tup⟩
/-- t + u, whatever they hold -/
def rCatG (K : PySem.W.Frag) : R2 := fun x y H Q => ∃ a b xs ys, x = .ref a ∧ y = .ref b ∧ SqT K H a xs ∧ SqT K H b ys ∧ xs.length + ys.length ≤ sizeLine ∧ ∀ p H', SqT K H' p (xs ++ ys) → Same H H' → (Plain H → Plain H') → Q (.ref p) H'
theorem op_catG : OpR X (binaryOp .Add) (rCatG X.K) := by
  intro pins s σ H x y v u Q I rx ry h
  obtain ⟨a, b, xs, ys, rfl, rfl, ha, hb, hz, q⟩ := h
  by_cases hx : xs = []
  · cases rx
    cases ry
    obtain ⟨its, r1, p1, _⟩ := I.tuple ha
    obtain ⟨its2, r2, p2, _⟩ := I.tuple hb
    have e : its = [] := by subst hx; cases r1; rfl
    subst e
    obtain ⟨⟨cls, dd, data, sl⟩, ho, hc, n, hd⟩ := id p1
    obtain ⟨⟨cls2, dd2, data2, sl2⟩, ho2, hc2, n2, hd2⟩ := id p2
    simp only at hc hd hc2 hd2
    subst hc hd hc2 hd2
    exact concat_meets ⟨_, ho, rfl⟩ ⟨_, ho2, rfl⟩ noFill_tuple_add seq_tuple_add PySem.F.slot_tuple_add PySem.F.entry_tuple_add (PySem.F.args_tuple_add_2 _ _)
      (tuple_addW0 a b #[] its2.toArray n n2 dd dd2 sl sl2 rfl) ⟨ho, ho2, ⟨.ref b, H, I, rfl, q _ _ (by subst hx; exact hb) (Same.refl _) id⟩⟩
  · refine op_catT pins s σ H _ _ v u Q I rx ry ⟨a, b, xs, ys, rfl, rfl, ha, hb, hx, hz, fun e => q _ _ (by subst e; rw [List.append_nil]; exact ha) (Same.refl _) id, fun _ p hp => q _ _ (SqT.of upd_same) (same_upd hp) fun z => z.tup⟩
end
/-! ### data without lists: what becomes of a list elsewhere is nothing to it -/
mutual
def noL : PyData → Bool
  | .list _ => false
  | .tuple xs => noLs xs
  | _ => true
def noLs : List PyData → Bool
  | [] => true
  | d :: ds => noL d && noLs ds
end
theorem SqT.mono {K : PySem.W.Frag} {H H' : Hp} {a D : Addr} {xs : List V} (k : ∀ b o, b ≠ D → H b = some o → H' b = some o) (hd : ∃ zs, H D = some (.lst zs)) (h : SqT K H a xs) : SqT K H' a xs := by
  obtain ⟨zs, hd⟩ := hd
  rcases h with h | h
  · rcases h with h | ⟨o, h⟩
    · exact .inl (.inl (k _ _ (ne_of h hd (fun e => nomatch e)) h))
    · exact .inl (.inr ⟨o, k _ _ (ne_of h hd (fun e => nomatch e)) h⟩)
  · exact .inr h
mutual
theorem DV.mono {K : PySem.W.Frag} {H H' : Hp} {D : Addr} (k : ∀ b o, b ≠ D → H b = some o → H' b = some o) (hd : ∃ zs, H D = some (.lst zs)) : ∀ (d : PyData) (v : V), noL d = true → DV K H d v → DV K H' d v
  | .none, v, _, h => h
  | .bool b, v, _, h => h
  | .int i, v, _, h => h
  | .str x, v, _, h => h
  | .list xs, v, n, _ => by cases n
  | .tuple xs, v, n, ⟨a, vs, h1, h2, h3⟩ => ⟨a, vs, h1, h2.mono k hd, DVs.mono k hd xs vs n h3⟩
  | .dict _, v, _, h => h.elim
theorem DVs.mono {K : PySem.W.Frag} {H H' : Hp} {D : Addr} (k : ∀ b o, b ≠ D → H b = some o → H' b = some o) (hd : ∃ zs, H D = some (.lst zs)) : ∀ (ds : List PyData) (vs : List V), noLs ds = true → DVs K H ds vs → DVs K H' ds vs
  | [], vs, _, h => h
  | d :: ds, vs, n, ⟨v, r, h1, h2, h3⟩ => by
    have n : noL d = true ∧ noLs ds = true := by rw [noLs, Bool.and_eq_true] at n; exact n
    exact ⟨v, r, h1, DV.mono k hd d v n.1 h2, DVs.mono k hd ds r n.2 h3⟩
end
theorem DVs.length {K : PySem.W.Frag} {H : Hp} : ∀ {ds : List PyData} {vs : List V}, DVs K H ds vs → vs.length = ds.length
  | [], vs, h => by cases (show vs = [] from h); rfl
  | d :: ds, vs, ⟨v, r, h1, h2, h3⟩ => by subst h1; simp [DVs.length h3]
theorem DVs.get {K : PySem.W.Frag} {H : Hp} : ∀ {ds : List PyData} {vs : List V} {i : Nat} {d : PyData}, DVs K H ds vs → ds[i]? = some d → ∃ v, vs[i]? = some v ∧ DV K H d v
  | [], vs, i, d, h, e => by simp at e
  | d :: ds, vs, 0, e', ⟨v, r, h1, h2, h3⟩, e => by subst h1; simp at e; subst e; exact ⟨v, rfl, h2⟩
  | d :: ds, vs, i + 1, e', ⟨v, r, h1, h2, h3⟩, e => by subst h1; simp at e; obtain ⟨u, hu, q⟩ := DVs.get h3 e; exact ⟨u, by simpa using hu, q⟩
theorem DVs.append {K : PySem.W.Frag} {H : Hp} : ∀ {ds es : List PyData} {vs us : List V}, DVs K H ds vs → DVs K H es us → DVs K H (ds ++ es) (vs ++ us)
  | [], es, vs, us, h, h' => by cases (show vs = [] from h); exact h'
  | d :: ds, es, vs, us, ⟨v, r, h1, h2, h3⟩, h' => by subst h1; exact ⟨v, r ++ us, rfl, h2, DVs.append h3 h'⟩
theorem DVs.take {K : PySem.W.Frag} {H : Hp} : ∀ {ds : List PyData} {vs : List V} (n : Nat), DVs K H ds vs → DVs K H (ds.take n) (vs.take n)
  | ds, vs, 0, h => by rw [List.take_zero, List.take_zero]; rfl
  | [], vs, n + 1, h => by cases (show vs = [] from h); rfl
  | d :: ds, vs, n + 1, ⟨v, r, h1, h2, h3⟩ => by subst h1; exact ⟨v, _, rfl, h2, DVs.take n h3⟩
theorem gk3 {K : PySem.W.Frag} : GKeeps 3 (gTup K 3 (gCons (gName 0) (gCons (gName 1) (gCons (gName 2) gNil)))) := fun x c H Q h => by
  obtain ⟨a, xs, e1, hq, hl, v, r, e2, v', r', e3, v2, r2, e4, e5, h⟩ := h
  refine ⟨a, xs, e1, hq, hl, v, r, e2, v', r', e3, v2, r2, e4, e5, h, fun j v e => ?_⟩
  match j, e with
  | 0, e => simp [List.replicate] at e
  | 1, e => simp [List.replicate] at e
  | 2, e => simp [List.replicate] at e
  | j + 3, e => simpa [List.replicate, List.set] using e
/-! ### the same rules, the module's objects named -/
section
variable {X : Cx} {K : PySem.W.Frag}
end
end L2

namespace L2
open PySem PySem.Spec PyProof.Rows PySem.NumText
/-! ### steps and places, as data -/
abbrev Stp := Int × Int × Int
def stp (s : Stp) : PyData := .tuple [.int s.1, .int s.2.1, .int s.2.2]
def plc (ss : List Stp) : PyData := .tuple (ss.map stp)
abbrev sV (s : Stp) : List V := [.int s.1, .int s.2.1, .int s.2.2]
theorem stp_of {K : PySem.W.Frag} {H : Hp} {s : Stp} {v : V} (h : DV K H (stp s) v) : ∃ t, v = .ref t ∧ SqT K H t (sV s) := by
  obtain ⟨t, vs, rfl, hq, x, r, rfl, hx, y, r2, rfl, hy, z, r3, rfl, hz, h4⟩ := h
  cases (show x = V.int s.1 from hx)
  cases (show y = V.int s.2.1 from hy)
  cases (show z = V.int s.2.2 from hz)
  cases (show r3 = [] from h4)
  exact ⟨t, rfl, hq⟩
theorem stp_mk {K : PySem.W.Frag} {H : Hp} {s : Stp} {t : Addr} (h : SqT K H t (sV s)) : DV K H (stp s) (.ref t) := ⟨t, _, rfl, h, _, _, rfl, rfl, _, _, rfl, rfl, _, _, rfl, rfl, rfl⟩
theorem noL_stp (s : Stp) : noL (stp s) = true := rfl
theorem noLs_stp : ∀ ss : List Stp, noLs (ss.map stp) = true
  | [] => rfl
  | s :: ss => by rw [List.map_cons, noLs, noL_stp, noLs_stp ss]; rfl
theorem canLay_stps : ∀ ss : List Stp, PyData.canLayAll0 (ss.map stp) = true
  | [] => rfl
  | s :: ss => by
    rw [List.map_cons, PyData.canLayAll0, canLay_stps ss]
    rfl
theorem depth_stps : ∀ ss : List Stp, PyData.depthAll (ss.map stp) ≤ 1
  | [] => Nat.zero_le _
  | s :: ss => by
    rw [List.map_cons, PyData.depthAll]
    have h1 : PyData.depth (stp s) = 1 := rfl
    have h2 := depth_stps ss
    rw [h1]
    omega
theorem plc_lay (ss : List Stp) : PyData.canLay0 (plc ss) = true := canLay_stps ss
theorem plc_shaped (ss : List Stp) : SeqAt.shaped (plc ss) = true := by
  unfold SeqAt.shaped
  rw [plc_lay, Bool.true_and]
  have h : PyData.depth (plc ss) = PyData.depthAll (ss.map stp) + 1 := rfl
  have := depth_stps ss
  exact decide_eq_true (by omega)
theorem stp_eqv (a b : Stp) : PyData.eqv (stp a) (stp b) = decide (a = b) := by
  obtain ⟨a1, a2, a3⟩ := a
  obtain ⟨b1, b2, b3⟩ := b
  have e : PyData.eqv (stp (a1, a2, a3)) (stp (b1, b2, b3)) = (a1 == b1 && (a2 == b2 && (a3 == b3 && true))) := rfl
  rw [e, Bool.eq_iff_iff]
  simp
theorem stps_eqv : ∀ a b : List Stp, PyData.eqvAll (a.map stp) (b.map stp) = decide (a = b)
  | [], [] => rfl
  | [], _ :: _ => rfl
  | _ :: _, [] => rfl
  | x :: a, y :: b => by
    rw [List.map_cons, List.map_cons, PyData.eqvAll, stp_eqv, stps_eqv a b, Bool.eq_iff_iff]
    simp
theorem plc_eqv (a b : List Stp) : PyData.eqv (plc a) (plc b) = decide (a = b) := stps_eqv a b
theorem plc_get {K : PySem.W.Frag} {H : Hp} {ss : List Stp} {vs : List V} {i : Nat} (h : DVs K H (ss.map stp) vs) (hi : i < ss.length) : ∃ t, vs[i]? = some (.ref t) ∧ SqT K H t (sV ss[i]) := by
  obtain ⟨v, hv, hd⟩ := h.get (i := i) (d := stp ss[i]) (by simp [hi])
  obtain ⟨t, rfl, hq⟩ := stp_of hd
  exact ⟨t, hv, hq⟩
/-- what the items of a comprehension are, found one by one -/
theorem dv_choose {α : Type} {K : PySem.W.Frag} {H : Hp} {f : α → PyData} : ∀ {ys : List V} {R : Nat → α → Prop}, (∀ (i : Nat) y, ys[i]? = some y → ∃ x, DV K H (f x) y ∧ R i x) → ∃ xs : List α, xs.length = ys.length ∧ DVs K H (xs.map f) ys ∧ ∀ (i : Nat) x, xs[i]? = some x → R i x := by
  intro ys
  induction ys with
  | nil => intro R _; exact ⟨[], rfl, rfl, fun i x e => by simp at e⟩
  | cons y ys ih =>
    intro R h
    obtain ⟨x, e, r⟩ := h 0 y rfl
    obtain ⟨xs, e1, e2, r2⟩ := ih (R := fun i x => R (i + 1) x) fun i z e => h (i + 1) z (by simpa using e)
    refine ⟨x :: xs, by simp [e1], ⟨y, ys, rfl, e, e2⟩, fun i z ez => ?_⟩
    cases i with
    | zero => simp at ez; subst ez; exact r
    | succ i => exact r2 i z (by simpa using ez)
theorem optMap_snoc {α β : Type} {f : α → Option β} {y : β} {x : α} : ∀ {xs : List α} {ys : List β}, optMap f xs = some ys → f x = some y → optMap f (xs ++ [x]) = some (ys ++ [y]) := by
  intro xs
  induction xs with
  | nil => intro ys e h; cases e; show optMap f [x] = some [y]; unfold optMap optMap; rw [h]
  | cons a xs ih =>
    intro ys e h
    rw [List.cons_append]
    unfold optMap at e ⊢
    cases h1 : f a with
    | none => rw [h1] at e; cases e
    | some b =>
      rw [h1] at e
      cases h2 : optMap f xs with
      | none => rw [h2] at e; cases e
      | some zs =>
        rw [h2] at e
        cases e
        rw [ih h2 h]
        rfl

/-! ### readings in short -/
theorem ix_any {K : PySem.W.Frag} {H : Hp} {p : Addr} {xs : List V} {i : Int} {Q : VK} (hq : H p = some (.lst xs)) (h0 : 0 ≤ i) (h1 : i < xs.length) (h : ∀ v, v ∈ xs → Q v H) : rIxL K (.ref p) (.int i) H Q := by
  obtain ⟨v, hv, hm⟩ := atI_mem h0 h1
  exact ⟨p, xs, i, v, rfl, rfl, SqL.of hq, hv, h v hm⟩
theorem cut_drop {xs : List V} {i : Int} (h0 : 0 ≤ i) : cutV xs (some i) none = xs.drop i.toNat := by
  obtain ⟨j, rfl⟩ : ∃ j : Nat, i = j := ⟨i.toNat, by omega⟩
  unfold cutV
  rw [HT.sIx_none, HT.sIx_nat, Int.toNat_natCast]
  rcases Nat.le_total j xs.length with h | h
  · rw [Nat.min_eq_left h, List.take_of_length_le (by rw [List.length_drop]; exact Nat.le_refl _)]
  · rw [Nat.min_eq_right h, List.drop_of_length_le h, List.drop_of_length_le (Nat.le_refl _), List.take_nil]
theorem slice_len (x : Str) (lo hi : Option Int) : (Txt.slice x lo hi).length = min (HT.sIx x.length x.length hi - HT.sIx x.length 0 lo) (x.length - HT.sIx x.length 0 lo) := by
  have h := congrArg List.length (slice_list x lo hi)
  rw [List.length_take, List.length_drop, Array.length_toList, Array.length_toList] at h
  exact h
theorem slice_to (x : Str) {i : Int} (h0 : 0 ≤ i) : (Txt.slice x none (some i)).length = min i.toNat x.length := by
  obtain ⟨j, rfl⟩ : ∃ j : Nat, i = j := ⟨i.toNat, by omega⟩
  rw [slice_len, HT.sIx_none, HT.sIx_nat, Int.toNat_natCast]
  omega
theorem slice_from (x : Str) {i : Int} (h0 : 0 ≤ i) : (Txt.slice x (some i) none).length = x.length - i.toNat := by
  obtain ⟨j, rfl⟩ : ∃ j : Nat, i = j := ⟨i.toNat, by omega⟩
  rw [slice_len, HT.sIx_none, HT.sIx_nat, Int.toNat_natCast]
  omega
theorem len30 {i : Int} (h1 : -(10 ^ 30) < i) (h2 : i < 10 ^ 30) : (Str.ofString (toString i)).length ≤ 31 := num_len (by decide) (by omega)
end L2

namespace L2
open PySem PySem.Spec PyProof.Rows PySem.NumText
/-! ### tuples compared: the first two items that are not alike tell it -/
section
open PySem.SeqAt
open PySem.AutoSeq1 (wpAny_loadPart')
open PySem.MeetsSeq PySem.MeetsSeq2 PySem.MeetsSeq3

end

section
variable {X : Cx} {pins : List (Addr × Obj)} {σ : St} {H : Hp} {s : Shared} {A : Around}
end
section
variable {X : Cx} {K : PySem.W.Frag}
end
end L2

namespace L2
open PySem PySem.Spec PyProof.Rows PySem.NumText
section
open PySem.SeqAt
open PySem.AutoSeq1 (wpAny_loadPart')
open PySem.MeetsSeq PySem.MeetsSeq2 PySem.MeetsSeq3
end
/-! ### < of plain data: ints, texts, tuples of these, however deep -/
section
variable {X : Cx}
end
end L2

namespace L2
open PySem PySem.Spec PyProof.Rows PySem.NumText
/-! ### > of plain data -/
section
variable {X : Cx}
end
/-! ### the best of some values: comparisons that read the heap -/
section
variable {prog : Program} {w : World} {A : Around} {R : Result → Shared → Prop} {I : Addr} {fp wr : List Addr} {n : Nat} {P : Nat → Value → Prop} {St : Nat → Heap → Prop} {h0 : Heap} {kw : List (Str × Value)}

end
section
variable {X : Cx}
end
end L2

namespace L2
open PySem PySem.Spec PyProof.Rows
/-! ### calls whose exception is caught here, the frame's slots as they were: methods, makers -/
section
variable {X : Cx} {CX : CXT} {k : Nat} {f C D : Addr} {fd : FuncData} {ps : List Str} {sp : Sp} {dvs : List V} {ds : List Value} {EX : XK} {x m : Str} {p pos apos : Pos} {e o : Expr} {es : List Expr} {ta : TE} {t : TA} {σ₀ : St}
/-! ### try: any suite -/
end
end L2

namespace L2
open PySem PySem.Spec PyProof.Rows PySem.NumText
/-! ### a text cut at the first of a sign; how that meets split -/
theorem part_spec (x : Str) (c : Nat) : (Txt.partition x ⟨#[c]⟩ = (x, Str.empty, Str.empty) ∧ c ∉ x.cps.toList) ∨ ((Txt.partition x ⟨#[c]⟩).2.1 = ⟨#[c]⟩ ∧ c ∉ (Txt.partition x ⟨#[c]⟩).1.cps.toList) := by
  unfold Txt.partition
  rcases StrLaws.occ_head x ⟨#[c]⟩ 1 (Nat.le_refl _) with ⟨e, hn⟩ | ⟨i, r, e, ha, hn⟩
  · rw [e]
    refine .inl ⟨rfl, ?_⟩
    have := StrLaws.part_free x c 0 x.length (Nat.le_refl _) fun k _ _ => hn k
    rwa [StrLaws.sub_whole] at this
  · rw [e]
    refine .inr ⟨rfl, ?_⟩
    exact StrLaws.part_free x c 0 i (by have := ha.1; omega) fun k _ hk => hn k hk
theorem cut_same {c : Nat} : ∀ {a b r s : List Nat}, c ∉ a → c ∉ b → a ++ c :: r = b ++ c :: s → a = b ∧ r = s
  | [], [], _, _, _, _, h => ⟨rfl, (List.cons.inj h).2⟩
  | [], y :: b, _, _, _, hb, h => absurd (List.mem_cons.mpr (.inl (List.cons.inj h).1)) hb
  | x :: a, [], _, _, ha, _, h => absurd (List.mem_cons.mpr (.inl (List.cons.inj h).1.symm)) ha
  | x :: a, y :: b, r, s, ha, hb, h => by
    have h := List.cons.inj h
    obtain ⟨e1, e2⟩ := cut_same (fun z => ha (List.mem_cons_of_mem _ z)) (fun z => hb (List.mem_cons_of_mem _ z)) h.2
    exact ⟨by rw [h.1, e1], e2⟩
theorem join_codes (c : Nat) (p q : Str) (r : List Str) : (Str.join ⟨#[c]⟩ (p :: q :: r)).cps.toList = p.cps.toList ++ c :: (Str.join ⟨#[c]⟩ (q :: r)).cps.toList := by
  show ((p ++ (⟨#[c]⟩ : Str)) ++ Str.join ⟨#[c]⟩ (q :: r)).cps.toList = _
  show ((p.cps ++ #[c]) ++ (Str.join ⟨#[c]⟩ (q :: r)).cps).toList = _
  simp
theorem join_unique {c : Nat} : ∀ (ps qs : List Str), ps ≠ [] → qs ≠ [] → (∀ p ∈ ps, c ∉ p.cps.toList) → (∀ p ∈ qs, c ∉ p.cps.toList) → Str.join ⟨#[c]⟩ ps = Str.join ⟨#[c]⟩ qs → ps = qs
  | [], _, h, _, _, _, _ => absurd rfl h
  | _ :: _, [], _, h, _, _, _ => absurd rfl h
  | [p], [q], _, _, _, _, h => by
    have h : p = q := h
    rw [h]
  | [p], q :: q2 :: r, _, _, hp, _, h => by
    have h : p = Str.join ⟨#[c]⟩ (q :: q2 :: r) := h
    refine absurd ?_ (hp p List.mem_cons_self)
    rw [h, join_codes]
    simp
  | p :: p2 :: r, [q], _, _, _, hq, h => by
    have h : Str.join ⟨#[c]⟩ (p :: p2 :: r) = q := h
    refine absurd ?_ (hq q List.mem_cons_self)
    rw [← h, join_codes]
    simp
  | p :: p2 :: r, q :: q2 :: t, _, _, hp, hq, h => by
    have h : (Str.join ⟨#[c]⟩ (p :: p2 :: r)).cps.toList = (Str.join ⟨#[c]⟩ (q :: q2 :: t)).cps.toList := by rw [h]
    rw [join_codes, join_codes] at h
    obtain ⟨e1, e2⟩ := cut_same (hp p List.mem_cons_self) (hq q List.mem_cons_self) h
    have e3 := join_unique (p2 :: r) (q2 :: t) (by simp) (by simp) (fun z hz => hp z (List.mem_cons_of_mem _ hz)) (fun z hz => hq z (List.mem_cons_of_mem _ hz)) (ext_toList e2)
    rw [ext_toList e1, e3]
theorem split_ne (x : Str) (c : Nat) : Txt.split x ⟨#[c]⟩ ≠ [] := by
  intro h
  unfold Txt.split at h
  split at h
  · cases h
  · split at h
    · cases h
    · rw [StrLaws.partsBetween_eq] at h
      obtain ⟨p, q, e⟩ := StrLaws.partsFrom_ne x (⟨#[c]⟩ : Str).length 0 (Builtin.Str.occurrences x ⟨#[c]⟩ 0 x.length (x.length + 1))
      rw [e] at h
      cases h
theorem split_none {x : Str} {c : Nat} (h : c ∉ x.cps.toList) : Txt.split x ⟨#[c]⟩ = [x] :=
  join_unique _ _ (split_ne x c) (by simp) (StrLaws.split_free x c) (fun p hp => by rw [List.mem_singleton.mp hp]; exact h) (by rw [StrLaws.join_split]; rfl)
theorem split_cut {a r : Str} {c : Nat} (h : c ∉ a.cps.toList) : Txt.split (a ++ (⟨#[c]⟩ : Str) ++ r) ⟨#[c]⟩ = a :: Txt.split r ⟨#[c]⟩ := by
  have hne := split_ne r c
  refine join_unique _ _ (split_ne _ c) (by simp) (StrLaws.split_free _ c) (fun p hp => ?_) ?_
  · rcases List.mem_cons.mp hp with rfl | hp
    · exact h
    · exact StrLaws.split_free r c p hp
  · rw [StrLaws.join_split]
    have e : Str.join ⟨#[c]⟩ (Txt.split r ⟨#[c]⟩) = r := StrLaws.join_split r _
    cases hs : Txt.split r ⟨#[c]⟩ with
    | nil => exact absurd hs hne
    | cons q t =>
      rw [hs] at e
      show _ = (a ++ (⟨#[c]⟩ : Str)) ++ Str.join ⟨#[c]⟩ (q :: t)
      rw [e]
/-- x cut at the first sign c, and split -/
theorem part_split (x : Str) (c : Nat) : (Txt.partition x ⟨#[c]⟩ = (x, Str.empty, Str.empty) ∧ Txt.split x ⟨#[c]⟩ = [x]) ∨
    ∃ a r, Txt.partition x ⟨#[c]⟩ = (a, ⟨#[c]⟩, r) ∧ Txt.split x ⟨#[c]⟩ = a :: Txt.split r ⟨#[c]⟩ ∧ x = a ++ (⟨#[c]⟩ : Str) ++ r ∧ c ∉ a.cps.toList := by
  rcases part_spec x c with ⟨e, h⟩ | ⟨e, h⟩
  · exact .inl ⟨e, split_none h⟩
  · have hs := StrLaws.partition_sum x ⟨#[c]⟩
    rw [e] at hs
    refine .inr ⟨(Txt.partition x ⟨#[c]⟩).1, (Txt.partition x ⟨#[c]⟩).2.2, Prod.ext rfl (Prod.ext e rfl), ?_, hs.symm, h⟩
    have := split_cut (r := (Txt.partition x ⟨#[c]⟩).2.2) h
    rwa [hs] at this
theorem join_split_back (x : Str) (c : Nat) : Txt.join ⟨#[c]⟩ (Txt.split x ⟨#[c]⟩) = x := by
  show Builtin.Str.glued _ _ = _
  rw [StrLaws.glued_eq_join, StrLaws.join_split]
theorem mem_join (sep : Str) : ∀ (ps : List Str) (p : Str) (n : Nat), p ∈ ps → n ∈ p.cps.toList → n ∈ (Str.join sep ps).cps.toList
  | [], _, _, h, _ => by cases h
  | [q], p, n, h, hn => by rw [List.mem_singleton.mp h] at hn; exact hn
  | q :: q2 :: r, p, n, h, hn => by
    show n ∈ ((q ++ sep) ++ Str.join sep (q2 :: r)).cps.toList
    show n ∈ ((q.cps ++ sep.cps) ++ (Str.join sep (q2 :: r)).cps).toList
    simp only [Array.toList_append, List.mem_append]
    rcases List.mem_cons.mp h with rfl | h
    · exact .inl (.inl hn)
    · exact .inr (mem_join sep (q2 :: r) p n h hn)
theorem mem_split {x p : Str} {c n : Nat} (h : p ∈ Txt.split x ⟨#[c]⟩) (hn : n ∈ p.cps.toList) : n ∈ x.cps.toList := by
  have := mem_join ⟨#[c]⟩ _ p n h hn
  rwa [StrLaws.join_split] at this
section
variable {X : Cx}
/-! ### str.partition -/
def rPartition : V → List V → Hp → VK → Prop := fun x xs H Q => ∃ z y, x = .str z ∧ xs = [.str y] ∧ (y.length == 0) = false ∧ z.length ≤ 10000 ∧ ∀ l, H l = none → Q (.ref l) (upd H l (.tup [.str (Txt.partition z y).1, .str (Txt.partition z y).2.1, .str (Txt.partition z y).2.2]))
theorem mt_partition : MtR X "str.partition" rPartition := by
  intro pins s σ H x xs v us Q I rx rv h
  obtain ⟨z, y, rfl, rfl, hy, hz, q⟩ := h
  obtain ⟨t, rfl⟩ := rx
  obtain ⟨u, rfl, ru⟩ := rv.one
  obtain ⟨t', rfl⟩ := ru
  have hl : (10000 : Nat) + 2 ≤ sizeLine := by rw [sizeLine_eq]; decide
  have fin : ∀ (ta tb tc : Tok) (k : Nat), EP X pins σ Q (.ref s.heap.objs.size) { s with heap := s.heap.push { cls := .type "tuple", data := .seq [.str (Txt.partition z y).1 ta, .str (Txt.partition z y).2.1 tb, .str (Txt.partition z y).2.2 tc].toArray }, toks := k } := fun ta tb tc k =>
    ⟨.ref s.heap.objs.size, _, I.laid (t' := k) (o := .tup [.str (Txt.partition z y).1, .str (Txt.partition z y).2.1, .str (Txt.partition z y).2.2]) (fun b ob q => Heap.get?_push_of_some _ q) (Nat.le_refl _) ⟨by show 3 ≤ sizeLine; omega, _, .cons ⟨ta, rfl⟩ (.cons ⟨tb, rfl⟩ (.cons ⟨tc, rfl⟩ .nil)), ⟨_, Heap.get?_push_size _ rfl, rfl, 0, rfl⟩⟩, rfl, q _ (I.hok.fresh (Nat.le_refl _))⟩
  refine call_meets F.slot_str_partition (typeIs_str _ _ _) F.entry_str_partition (F.args_str_partition_2 _ _) (meets_str_partition z y t t' hy (by omega)) ?_
  unfold Txt.partition at fin
  revert fin
  cases Builtin.Str.occurrences z y 0 z.length 1 with
  | nil => intro fin; exact fin _ _ _ _
  | cons i r => intro fin; exact fin _ _ _ _
/-! ### f-texts -/
def PJ (X : Cx) (es : List Expr) (t : Str → TE) : Prop :=
  ∀ (out : Str) (pins : List (Addr × Obj)) (s : Shared) (σ : St) (H : Hp) (Q : VK), Inv X pins σ H s → t out σ H Q → wpAny (model X.prog X.w) X.A (joinParts out (evalEach es X.env)) (EP X pins σ Q) X.xe s
theorem pj_nil : PJ X [] (fun out _ H Q => out.length ≤ sizeLine ∧ Q (.str out) H) := fun out pins s σ H Q I h => joinParts_nil ⟨.str out, H, I.tok _, ⟨_, rfl⟩, h.2⟩ h.1
theorem pj_val {e : Expr} {es : List Expr} {te : TE} {t : Str → TE} {pos : Pos} (he : PE X e te) (hr : PJ X es t) :
    PJ X (.FormattedValue e (-1) none pos :: es) (fun out σ H Q => te σ H fun x H1 => ∃ y, x = .str y ∧ y.length ≤ sizeLine ∧ (out ++ y).length ≤ sizeLine ∧ t (out ++ y) σ H1 Q) := by
  intro out pins s σ H Q I h
  refine joinParts_cons (FormattedValue_plain (thn (he pins s σ H _ I h) fun v s1 ⟨x, H1, I1, r1, y, e1, l0, l1, q1⟩ => ?_))
  subst e1
  obtain ⟨tk, rfl⟩ := r1
  exact formatField_str (fun t' tk => ⟨l1, hr (out ++ y) pins _ σ H1 Q (I1.tok tk) q1⟩) l0
theorem pj_lit {y : Str} {k : Nat} {es : List Expr} {t : Str → TE} {pos : Pos} (hr : PJ X es t) :
    PJ X (.Constant (.str y) k pos :: es) (fun out σ H Q => (out ++ y).length ≤ sizeLine ∧ t (out ++ y) σ H Q) := by
  intro out pins s σ H Q I h
  exact joinParts_cons (Calls.Constant_str ⟨h.1, hr (out ++ y) pins _ σ H Q (I.tok _) h.2⟩)
theorem pe_fstr {v1 v2 : Expr} {rest : List Expr} {t : Str → TE} {pos : Pos} (h : PJ X (v1 :: v2 :: rest) t) : PE X (.JoinedStr (v1 :: v2 :: rest) pos) (t Str.empty) := .mk <| fun pins s σ H Q I q => JoinedStr_many (h Str.empty pins s σ H Q I q)
/-! ### if a == n: return o.replace(y, z), y and z texts as written: their tokens are new and differ -/
def tIfRep (to : TE) (y z : Str) : TS := fun D σ H => to σ H fun x H1 => ∃ w, x = .str w ∧ w.length ≤ 10000 ∧ D.rt (.str (Txt.replace w y z)) H1
theorem ps_ifRep {a o : Expr} {r : R2} {n : Int} {y z : Str} {ta to : TE} {j jy jz : Nat} {pn p1 pos apos cpos rpos py pz : Pos} {els : List Stmt} {u : TS} (hop : OpR X (compareOp .Eq) r) (ha : PE X a ta) (ho : PE X o to) (hu : PSs X els u)
    (hz : z.length ≤ 14) (hyz : (y == z) = false) (hm : behindInMarks .Eq (.Constant (.int n) j pn) = false)
    (hbase : attributeBase o "replace" X.env (eval o X.env) = eval o X.env := by rfl)
    (hfew : ((backTo cpos (starEach [Expr.Constant (.str y) jy py, Expr.Constant (.str z) jz pz] X.env)).all (fun x => !x.1) && (backToKw cpos (keywordEach [] X.env)).all (fun x => x.1.isSome)
      && decide ([Expr.Constant (.str y) jy py, Expr.Constant (.str z) jz pz].length + ([] : List Keyword).length + (if ([] : List Keyword).isEmpty then 0 else 1) < 30)) = true := by rfl)
    (hline : (apos.endLine == cpos.line) = true := by rfl) :
    PS X (.If (.Compare a [.Eq] [.Constant (.int n) j pn] p1) [.Return (some (.Call (.Attribute o "replace" apos) [.Constant (.str y) jy py, .Constant (.str z) jz pz] [] cpos)) rpos] els pos)
      (tIfS (tTest (tOp r ta (tC (.int n)))) (tIfRep to y z) u) := .mk <| by
  intro pins s σ H D I h
  refine wpAny_If (wpAny_isTrue_Compare1 (thn (ha pins s σ H _ I h) fun v s1 ⟨x, H1, I1, r1, q1⟩ => wpAny_Constant_int ?_) hm)
  refine wpAny_with_toks (n := 1) (by show 1 ≤ s1.toks + 1; omega) ?_
  refine wpAny_mono (hop pins { s1 with toks := s1.toks + 1 } σ H1 x (.int n) v (.int n s1.toks) _ (I1.tok _) r1 ⟨_, rfl⟩ q1) (fun c s3 ⟨zz, H3, I3, r3, k, e, q3⟩ ht => ?_) fun _ _ e _ => e
  subst e
  cases r3
  refine wpAny_truthy_bool ?_
  cases k with
  | false => exact hu pins s3 σ H3 D I3 q3
  | true =>
    have q3 : tIfRep to y z D σ H3 := q3
    show wpAny (model X.prog X.w) X.A (execs [_] X.env) (SP X pins D) X.xe s3
    refine wpAny_execs_cons (wpAny_Return_some (wpAny_Call_method_late hbase hfew hline rfl (wpAny_with_toks (n := 1) ht (wpAny_mono (ho pins s3 σ H3 _ I3 q3) (fun v s4 ⟨x, H4, I4, r4, w, e, hw, q4⟩ h4 => ?_) fun _ _ e _ => e))))
    subst e
    obtain ⟨t, rfl⟩ := r4
    refine ⟨"str", "str.replace", PySem.F.plainAttrs_str, PySem.F.slot_str_replace, PySem.F.type_str_replace, typeIs_str _ _ _, (fun a e => by cases e), ?_⟩
    refine Calls.callWith_builtin rfl (Calls.evalArgs_plain ?_)
    refine Calls.spliced_cons (Calls.Constant_str (k := jy) (pos := py) (Calls.spliced_cons (Calls.Constant_str (k := jz) (pos := pz) (Calls.spliced_nil ?_))))
    refine SC.replaceW ?_ ?_ ?_ hyz (by omega) hz fun t' k => ?_
    · show s4.toks ≠ 0
      omega
    · show s4.toks + 1 ≠ 0
      omega
    · show s4.toks ≠ s4.toks + 1
      omega
    · exact ⟨.str _, σ, H4, I4.tok k, ⟨_, rfl⟩, q4⟩
end
end L2

namespace L2
open PySem PySem.Spec PyProof.Rows PySem.NumText
/-! ### texts whose signs are signs -/
theorem ok_iff {z : Str} : PyData.strOk z = true ↔ ∀ n ∈ z.cps.toList, n < 0x110000 := by
  unfold PyData.strOk
  rw [← Array.all_toList, List.all_eq_true]
  constructor
  · intro h n hn; exact of_decide_eq_true (h n hn)
  · intro h n hn; exact decide_eq_true (h n hn)
theorem codes_add (a b : Str) : (a ++ b).cps.toList = a.cps.toList ++ b.cps.toList := by
  show (a.cps ++ b.cps).toList = _
  simp
theorem ok_add {a b : Str} (h1 : PyData.strOk a = true) (h2 : PyData.strOk b = true) : PyData.strOk (a ++ b) = true := by
  rw [ok_iff] at *
  intro n hn
  rw [codes_add, List.mem_append] at hn
  exact hn.elim (h1 n) (h2 n)
theorem ok_slice {z : Str} (h : PyData.strOk z = true) (lo hi : Option Int) : PyData.strOk (Txt.slice z lo hi) = true := by
  rw [ok_iff] at *
  intro n hn
  rw [slice_list] at hn
  exact h n (List.mem_of_mem_drop (List.mem_of_mem_take hn))
theorem ok_part {z p : Str} {c : Nat} (h : PyData.strOk z = true) (hp : p ∈ Txt.split z ⟨#[c]⟩) : PyData.strOk p = true := by
  rw [ok_iff] at *
  intro n hn
  exact h n (mem_split hp hn)
theorem mem_join_inv (sep : Str) : ∀ (ps : List Str) (n : Nat), n ∈ (Str.join sep ps).cps.toList → n ∈ sep.cps.toList ∨ ∃ p ∈ ps, n ∈ p.cps.toList
  | [], n, h => by simp [Str.join, Str.empty] at h
  | [q], n, h => .inr ⟨q, List.mem_cons_self, h⟩
  | q :: q2 :: r, n, h => by
    have h : n ∈ ((q ++ sep) ++ Str.join sep (q2 :: r)).cps.toList := h
    rw [codes_add, codes_add, List.mem_append, List.mem_append] at h
    rcases h with (h | h) | h
    · exact .inr ⟨q, List.mem_cons_self, h⟩
    · exact .inl h
    · rcases mem_join_inv sep (q2 :: r) n h with z | ⟨p, hp, z⟩
      · exact .inl z
      · exact .inr ⟨p, List.mem_cons_of_mem _ hp, z⟩
theorem codes_of_split (z : Str) (c : Nat) {n : Nat} (h : n ∈ z.cps.toList) : n = c ∨ ∃ p ∈ Txt.split z ⟨#[c]⟩, n ∈ p.cps.toList := by
  have e := StrLaws.join_split z ⟨#[c]⟩
  rw [← e] at h
  rcases mem_join_inv _ _ n h with z | z
  · exact .inl (by simpa using z)
  · exact .inr z
theorem ok_join {sep : Str} {ps : List Str} (h1 : PyData.strOk sep = true) (h2 : ∀ p ∈ ps, PyData.strOk p = true) : PyData.strOk (Txt.join sep ps) = true := by
  show PyData.strOk (Builtin.Str.glued sep ps) = true
  rw [StrLaws.glued_eq_join, ok_iff]
  intro n hn
  rcases mem_join_inv _ _ n hn with z | ⟨p, hp, z⟩
  · exact ok_iff.mp h1 n z
  · exact ok_iff.mp (h2 p hp) n z
theorem ok_lit (s : String) : PyData.strOk (Str.ofString s) = true := by
  rw [ok_iff]
  intro n hn
  rw [signs_ofString] at hn
  obtain ⟨c, _, rfl⟩ := List.mem_map.mp hn
  have := c.valid
  unfold UInt32.isValidChar Nat.isValidChar at this
  show c.val.toNat < 1114112
  omega
theorem ok_one {c : Nat} (h : c < 0x110000) : PyData.strOk ⟨#[c]⟩ = true := by
  rw [ok_iff]
  intro n hn
  have : n = c := by simpa using hn
  omega
theorem dbl_len (c : Nat) : ∀ l : List Nat, (StrLaws.dbl c l).length ≤ 2 * l.length
  | [] => by simp [StrLaws.dbl]
  | k :: r => by
    have := dbl_len c r
    unfold StrLaws.dbl
    split <;> simp only [List.length_cons] <;> omega
theorem dbl_mem (c : Nat) : ∀ (l : List Nat) (n : Nat), n ∈ StrLaws.dbl c l → n ∈ l
  | [], n, h => by simp [StrLaws.dbl] at h
  | k :: r, n, h => by
    unfold StrLaws.dbl at h
    split at h
    · rcases List.mem_cons.mp h with h | h
      · exact List.mem_cons.mpr (.inl h)
      · rcases List.mem_cons.mp h with h | h
        · exact List.mem_cons.mpr (.inl h)
        · exact List.mem_cons.mpr (.inr (dbl_mem c r n h))
    · rcases List.mem_cons.mp h with h | h
      · exact List.mem_cons.mpr (.inl h)
      · exact List.mem_cons.mpr (.inr (dbl_mem c r n h))
theorem double_len (x : Str) (c : Nat) : (Txt.replace x ⟨#[c]⟩ ⟨#[c, c]⟩).length ≤ 2 * x.length := by
  have e := StrLaws.replace_double x c
  have h1 := dbl_len c x.cps.toList
  rw [← e, Array.length_toList, Array.length_toList] at h1
  exact h1
theorem ok_double {x : Str} (c : Nat) (h : PyData.strOk x = true) : PyData.strOk (Txt.replace x ⟨#[c]⟩ ⟨#[c, c]⟩) = true := by
  rw [ok_iff] at *
  intro n hn
  rw [StrLaws.replace_double] at hn
  exact h n (dbl_mem c _ n hn)
theorem empty_add (x : Str) : Str.empty ++ x = x := ext_toList (by rw [codes_add]; rfl)
theorem add_assoc' (a b c : Str) : (a ++ b) ++ c = a ++ (b ++ c) := ext_toList (by rw [codes_add, codes_add, codes_add, codes_add, List.append_assoc])
/-- a sign in a text -/
theorem occ_mem (c : Nat) (t : Str) : (!(Builtin.Str.occurrences t ⟨#[c]⟩ 0 t.length 1).isEmpty) = decide (c ∈ t.cps.toList) := by
  have hs := StrLaws.partition_sum t ⟨#[c]⟩
  have h := part_spec t c
  unfold Txt.partition at h hs
  cases e : Builtin.Str.occurrences t ⟨#[c]⟩ 0 t.length 1 with
  | nil =>
    rw [e] at h
    rcases h with ⟨_, h⟩ | ⟨h, _⟩
    · rw [decide_eq_false h]; rfl
    · have : (0 : Nat) = 1 := congrArg Str.length h
      cases this
  | cons i r =>
    rw [e] at h hs
    rcases h with ⟨h, _⟩ | ⟨_, _⟩
    · have : (1 : Nat) = 0 := congrArg (fun q : Str × Str × Str => q.2.1.length) h
      cases this
    · dsimp only at hs
      have : c ∈ t.cps.toList := by rw [← hs, codes_add, codes_add]; simp
      rw [decide_eq_true this]; rfl
/-- numbers are written in figures -/
theorem read_codes {cs : List Nat} {n : Int} (h : readL cs = some n) : ∀ c ∈ cs, c = 45 ∨ isDig c = true := by
  intro c hc
  unfold readL at h
  split at h
  · rename_i hh
    split at h
    · cases h
    · rename_i hb
      cases cs with
      | nil => cases hc
      | cons x xs =>
        rcases List.mem_cons.mp hc with rfl | hc
        · exact .inl (by simpa using hh)
        · refine .inr ?_
          cases ha : (x :: xs).tail.all isDig with
          | false => exact absurd (.inr (.inr (.inl ha))) hb
          | true => exact List.all_eq_true.mp ha c hc
  · split at h
    · cases h
    · rename_i hb
      refine .inr ?_
      cases ha : cs.all isDig with
      | false => exact absurd (.inr (.inr (.inl ha))) hb
      | true => exact List.all_eq_true.mp ha c hc
theorem optMap_mem {α β : Type} {f : α → Option β} {xs : List α} {ys : List β} (h : optMap f xs = some ys) {x : α} (hx : x ∈ xs) : ∃ y, f x = some y := by
  cases e : f x with
  | none => rw [optMap_none hx e] at h; cases h
  | some y => exact ⟨y, rfl⟩
theorem eqv_strs : ∀ a b : List Str, PyData.eqvAll (a.map PyData.str) (b.map PyData.str) = decide (a = b)
  | [], [] => rfl
  | [], _ :: _ => rfl
  | _ :: _, [] => rfl
  | x :: a, y :: b => by
    rw [List.map_cons, List.map_cons, PyData.eqvAll, eqv_strs a b]
    have : PyData.eqv (.str x) (.str y) = (x == y) := rfl
    rw [this, Bool.eq_iff_iff]
    simp
theorem dvs_strs {K : PySem.W.Frag} {H : Hp} : ∀ ss : List Str, DVs K H (ss.map PyData.str) (ss.map V.str)
  | [] => rfl
  | s :: ss => ⟨_, _, rfl, rfl, dvs_strs ss⟩
theorem lay_strs : ∀ {ss : List Str}, (∀ s ∈ ss, PyData.strOk s = true) → PyData.canLayAll0 (ss.map PyData.str) = true
  | [], _ => rfl
  | s :: ss, h => by
    rw [List.map_cons, PyData.canLayAll0, lay_strs fun x hx => h x (List.mem_cons_of_mem _ hx), Bool.and_true]
    exact h s List.mem_cons_self
theorem depth_strs : ∀ ss : List Str, PyData.depthAll (ss.map PyData.str) = 0
  | [] => rfl
  | s :: ss => by
    rw [List.map_cons, PyData.depthAll, depth_strs ss]
    rfl
theorem strs_shaped {ss : List Str} (h : ∀ s ∈ ss, PyData.strOk s = true) : SeqAt.shaped (.list (ss.map PyData.str)) = true := by
  unfold SeqAt.shaped
  have h1 : PyData.canLay0 (.list (ss.map PyData.str)) = true := lay_strs h
  rw [h1, Bool.true_and]
  have h2 : PyData.depth (.list (ss.map PyData.str)) = PyData.depthAll (ss.map PyData.str) + 1 := rfl
  rw [h2, depth_strs]
  decide
end L2

namespace L2
open PySem PySem.Spec PyProof.Rows PySem.NumText
/-! ### strict orders in which any two are told apart -/
/-! ### versions -/
abbrev Ver := Int × List Stp × Str
def ver (v : Ver) : PyData := .tuple [.int v.1, plc v.2.1, .str v.2.2]
def okV (v : Ver) : Prop := PySem.PyData.strOk v.2.2 = true
theorem ver_of {K : PySem.W.Frag} {H : Hp} {v : Ver} {x : V} (h : DV K H (ver v) x) : ∃ t pv, x = .ref t ∧ SqT K H t [.int v.1, pv, .str v.2.2] ∧ DV K H (plc v.2.1) pv := by
  obtain ⟨t, vs, rfl, hq, a, r, rfl, ha, b, r2, rfl, hb, c, r3, rfl, hc, h4⟩ := h
  cases (show a = V.int v.1 from ha)
  cases (show c = V.str v.2.2 from hc)
  cases (show r3 = [] from h4)
  exact ⟨t, b, rfl, hq, hb⟩
theorem ver_mk {K : PySem.W.Frag} {H : Hp} {v : Ver} {t : Addr} {pv : V} (h : SqT K H t [.int v.1, pv, .str v.2.2]) (hp : DV K H (plc v.2.1) pv) : DV K H (ver v) (.ref t) := ⟨t, _, rfl, h, _, _, rfl, rfl, _, _, rfl, hp, _, _, rfl, rfl, rfl⟩
theorem ver_eqv (a b : Ver) : PyData.eqv (ver a) (ver b) = decide (a = b) := by
  obtain ⟨a1, a2, a3⟩ := a
  obtain ⟨b1, b2, b3⟩ := b
  have e : PyData.eqv (ver (a1, a2, a3)) (ver (b1, b2, b3)) = (a1 == b1 && (PyData.eqv (plc a2) (plc b2) && (a3 == b3 && true))) := rfl
  rw [e, plc_eqv, Bool.eq_iff_iff]
  simp
theorem ver_shaped {v : Ver} (h : okV v) : SeqAt.shaped (ver v) = true := by
  unfold SeqAt.shaped
  have h1 : PyData.canLay0 (ver v) = true := by
    show (true && (PyData.canLay0 (plc v.2.1) && (PySem.PyData.strOk v.2.2 && true))) = true
    rw [plc_lay, h]
    rfl
  rw [h1, Bool.true_and]
  have h2 : PyData.depth (ver v) = max 0 (max (PyData.depthAll (v.2.1.map stp) + 1) (max 0 0)) + 1 := rfl
  have := depth_stps v.2.1
  exact decide_eq_true (by omega)
/-! ### the later of two -/
end L2

local macro_rules | `(tactic| walk_at "rd") => `(tactic| repeat (first
  | refine ⟨_, rfl, ?_⟩
  | refine ⟨_, _, rfl, rfl, ?_⟩
  | refine ⟨(by show (0 : Int) < _; decide), ?_⟩
  | refine ⟨⟨by decide, by decide⟩, ?_⟩
  | refine ⟨Or.inr ⟨by decide, by decide⟩, ?_⟩
  | refine ⟨⟨by decide, by decide, by decide⟩, ?_⟩
  | refine ⟨_, _, _, _, rfl, rfl, L2.SqL.of L2.upd_same, rfl, ?_⟩
  | refine ⟨_, _, _, _, rfl, rfl, L2.SqL.of (by assumption), rfl, ?_⟩))
namespace My
open PySem L2 PySem.Spec PyProof.Rows PySem.NumText

def top (i : Nat) : Stmt := PySem.Challenge.pw_twotabs_k08_versions_written.main.body.getD i (.Pass ⟨0, 0, 0, 0⟩)
abbrev s_is_words : Stmt := top 11
abbrev s_made_of : Stmt := top 12
abbrev s_number_text : Stmt := top 13
abbrev s_read_number : Stmt := top 14
abbrev s_dotted_text : Stmt := top 16
abbrev s_read_dotted : Stmt := top 17
abbrev s_check_maker : Stmt := top 18
abbrev s_place_text : Stmt := top 20
abbrev s_read_step : Stmt := top 22
abbrev s_read_place : Stmt := top 21
abbrev s_out_version : Stmt := top 25
abbrev s_is_in : Stmt := top 26
abbrev s_version_text : Stmt := top 27
abbrev s_read_from : Stmt := top 15
abbrev s_read_version : Stmt := top 28
abbrev s__law_digits : Stmt := top 30
abbrev s__law_signs : Stmt := top 31
abbrev s__law_words : Stmt := top 32
abbrev s__law_version : Stmt := top 33
abbrev s__law_bent : Stmt := top 34
abbrev s__law_number : Stmt := top 35
abbrev s__law_place_of : Stmt := top 36
abbrev s__law_reads : Stmt := top 37
abbrev s__law_right : Stmt := top 38
abbrev s__law_written : Stmt := top 39
abbrev s__law_too_great : Stmt := top 40
abbrev s_law : Stmt := top 41
/-- the addresses -/
structure Adr where
  f_is_words : Addr
  d_is_words : FuncData
  f_made_of : Addr
  d_made_of : FuncData
  f_number_text : Addr
  d_number_text : FuncData
  f_read_number : Addr
  d_read_number : FuncData
  f_dotted_text : Addr
  d_dotted_text : FuncData
  f_read_dotted : Addr
  d_read_dotted : FuncData
  f_check_maker : Addr
  d_check_maker : FuncData
  f_place_text : Addr
  d_place_text : FuncData
  f_read_step : Addr
  d_read_step : FuncData
  f_read_place : Addr
  d_read_place : FuncData
  f_out_version : Addr
  d_out_version : FuncData
  f_is_in : Addr
  d_is_in : FuncData
  f_version_text : Addr
  d_version_text : FuncData
  f_read_from : Addr
  d_read_from : FuncData
  f_read_version : Addr
  d_read_version : FuncData
  f__law_digits : Addr
  d__law_digits : FuncData
  f__law_signs : Addr
  d__law_signs : FuncData
  f__law_words : Addr
  d__law_words : FuncData
  f__law_version : Addr
  d__law_version : FuncData
  f__law_bent : Addr
  d__law_bent : FuncData
  f__law_number : Addr
  d__law_number : FuncData
  f__law_place_of : Addr
  d__law_place_of : FuncData
  f__law_reads : Addr
  d__law_reads : FuncData
  f__law_right : Addr
  d__law_right : FuncData
  f__law_written : Addr
  d__law_written : FuncData
  f__law_too_great : Addr
  d__law_too_great : FuncData
  f_law : Addr
  d_law : FuncData
  DraftError : Addr
  NoDeed : Addr
  NoRow : Addr
  NoSave : Addr
  NoText : Addr
  NoWords : Addr

structure Txt (K : PySem.W.Frag) (mg : Str → Option Value) (A : Adr) : Prop where
  F_is_words : Fun K "is_words" "is_words" s_is_words A.f_is_words A.d_is_words
  g_is_words : mg "is_words" = some (.ref A.f_is_words)
  k_is_words : PySem.W.keepIn K (.ref A.f_is_words) = true
  b_is_words : Binds K A.d_is_words ["text"] []
  F_made_of : Fun K "made_of" "made_of" s_made_of A.f_made_of A.d_made_of
  g_made_of : mg "made_of" = some (.ref A.f_made_of)
  k_made_of : PySem.W.keepIn K (.ref A.f_made_of) = true
  b_made_of : Binds K A.d_made_of ["text", "signs"] []
  F_number_text : Fun K "number_text" "number_text" s_number_text A.f_number_text A.d_number_text
  g_number_text : mg "number_text" = some (.ref A.f_number_text)
  k_number_text : PySem.W.keepIn K (.ref A.f_number_text) = true
  b_number_text : Binds K A.d_number_text ["number"] []
  F_read_number : Fun K "read_number" "read_number" s_read_number A.f_read_number A.d_read_number
  g_read_number : mg "read_number" = some (.ref A.f_read_number)
  k_read_number : PySem.W.keepIn K (.ref A.f_read_number) = true
  b_read_number : Binds K A.d_read_number ["text"] []
  F_dotted_text : Fun K "dotted_text" "dotted_text" s_dotted_text A.f_dotted_text A.d_dotted_text
  g_dotted_text : mg "dotted_text" = some (.ref A.f_dotted_text)
  k_dotted_text : PySem.W.keepIn K (.ref A.f_dotted_text) = true
  b_dotted_text : Binds K A.d_dotted_text ["numbers"] []
  F_read_dotted : Fun K "read_dotted" "read_dotted" s_read_dotted A.f_read_dotted A.d_read_dotted
  g_read_dotted : mg "read_dotted" = some (.ref A.f_read_dotted)
  k_read_dotted : PySem.W.keepIn K (.ref A.f_read_dotted) = true
  b_read_dotted : Binds K A.d_read_dotted ["text", "many"] []
  F_check_maker : Fun K "check_maker" "check_maker" s_check_maker A.f_check_maker A.d_check_maker
  g_check_maker : mg "check_maker" = some (.ref A.f_check_maker)
  k_check_maker : PySem.W.keepIn K (.ref A.f_check_maker) = true
  b_check_maker : Binds K A.d_check_maker ["window", "count"] []
  F_place_text : Fun K "place_text" "place_text" s_place_text A.f_place_text A.d_place_text
  g_place_text : mg "place_text" = some (.ref A.f_place_text)
  k_place_text : PySem.W.keepIn K (.ref A.f_place_text) = true
  b_place_text : Binds K A.d_place_text ["place"] []
  F_read_step : Fun K "read_step" "read_step" s_read_step A.f_read_step A.d_read_step
  g_read_step : mg "read_step" = some (.ref A.f_read_step)
  k_read_step : PySem.W.keepIn K (.ref A.f_read_step) = true
  b_read_step : Binds K A.d_read_step ["text"] []
  F_read_place : Fun K "read_place" "read_place" s_read_place A.f_read_place A.d_read_place
  g_read_place : mg "read_place" = some (.ref A.f_read_place)
  k_read_place : PySem.W.keepIn K (.ref A.f_read_place) = true
  b_read_place : Binds K A.d_read_place ["text"] []
  F_out_version : Fun K "out_version" "out_version" s_out_version A.f_out_version A.d_out_version
  g_out_version : mg "out_version" = some (.ref A.f_out_version)
  k_out_version : PySem.W.keepIn K (.ref A.f_out_version) = true
  b_out_version : Binds K A.d_out_version ["beat"] []
  F_is_in : Fun K "is_in" "is_in" s_is_in A.f_is_in A.d_is_in
  g_is_in : mg "is_in" = some (.ref A.f_is_in)
  k_is_in : PySem.W.keepIn K (.ref A.f_is_in) = true
  b_is_in : Binds K A.d_is_in ["version"] []
  F_version_text : Fun K "version_text" "version_text" s_version_text A.f_version_text A.d_version_text
  g_version_text : mg "version_text" = some (.ref A.f_version_text)
  k_version_text : PySem.W.keepIn K (.ref A.f_version_text) = true
  b_version_text : Binds K A.d_version_text ["version"] []
  F_read_from : Fun K "read_from" "read_from" s_read_from A.f_read_from A.d_read_from
  g_read_from : mg "read_from" = some (.ref A.f_read_from)
  k_read_from : PySem.W.keepIn K (.ref A.f_read_from) = true
  b_read_from : Binds K A.d_read_from ["least", "text"] []
  F_read_version : Fun K "read_version" "read_version" s_read_version A.f_read_version A.d_read_version
  g_read_version : mg "read_version" = some (.ref A.f_read_version)
  k_read_version : PySem.W.keepIn K (.ref A.f_read_version) = true
  b_read_version : Binds K A.d_read_version ["text"] []
  F__law_digits : Fun K "_law_digits" "_law_digits" s__law_digits A.f__law_digits A.d__law_digits
  g__law_digits : mg "_law_digits" = some (.ref A.f__law_digits)
  k__law_digits : PySem.W.keepIn K (.ref A.f__law_digits) = true
  b__law_digits : Binds K A.d__law_digits ["_law_cell", "_law_place"] []
  F__law_signs : Fun K "_law_signs" "_law_signs" s__law_signs A.f__law_signs A.d__law_signs
  g__law_signs : mg "_law_signs" = some (.ref A.f__law_signs)
  k__law_signs : PySem.W.keepIn K (.ref A.f__law_signs) = true
  b__law_signs : Binds K A.d__law_signs [] []
  F__law_words : Fun K "_law_words" "_law_words" s__law_words A.f__law_words A.d__law_words
  g__law_words : mg "_law_words" = some (.ref A.f__law_words)
  k__law_words : PySem.W.keepIn K (.ref A.f__law_words) = true
  b__law_words : Binds K A.d__law_words ["_law_one", "_law_other"] []
  F__law_version : Fun K "_law_version" "_law_version" s__law_version A.f__law_version A.d__law_version
  g__law_version : mg "_law_version" = some (.ref A.f__law_version)
  k__law_version : PySem.W.keepIn K (.ref A.f__law_version) = true
  b__law_version : Binds K A.d__law_version ["_law_some"] []
  F__law_bent : Fun K "_law_bent" "_law_bent" s__law_bent A.f__law_bent A.d__law_bent
  g__law_bent : mg "_law_bent" = some (.ref A.f__law_bent)
  k__law_bent : PySem.W.keepIn K (.ref A.f__law_bent) = true
  b__law_bent : Binds K A.d__law_bent ["_law_text", "_law_some"] []
  F__law_number : Fun K "_law_number" "_law_number" s__law_number A.f__law_number A.d__law_number
  g__law_number : mg "_law_number" = some (.ref A.f__law_number)
  k__law_number : PySem.W.keepIn K (.ref A.f__law_number) = true
  b__law_number : Binds K A.d__law_number ["_law_text", "_law_least"] []
  F__law_place_of : Fun K "_law_place_of" "_law_place_of" s__law_place_of A.f__law_place_of A.d__law_place_of
  g__law_place_of : mg "_law_place_of" = some (.ref A.f__law_place_of)
  k__law_place_of : PySem.W.keepIn K (.ref A.f__law_place_of) = true
  b__law_place_of : Binds K A.d__law_place_of ["_law_text"] []
  F__law_reads : Fun K "_law_reads" "_law_reads" s__law_reads A.f__law_reads A.d__law_reads
  g__law_reads : mg "_law_reads" = some (.ref A.f__law_reads)
  k__law_reads : PySem.W.keepIn K (.ref A.f__law_reads) = true
  b__law_reads : Binds K A.d__law_reads ["_law_text"] []
  F__law_right : Fun K "_law_right" "_law_right" s__law_right A.f__law_right A.d__law_right
  g__law_right : mg "_law_right" = some (.ref A.f__law_right)
  k__law_right : PySem.W.keepIn K (.ref A.f__law_right) = true
  b__law_right : Binds K A.d__law_right ["_law_text"] []
  F__law_written : Fun K "_law_written" "_law_written" s__law_written A.f__law_written A.d__law_written
  g__law_written : mg "_law_written" = some (.ref A.f__law_written)
  k__law_written : PySem.W.keepIn K (.ref A.f__law_written) = true
  b__law_written : Binds K A.d__law_written ["_law_version_here"] []
  F__law_too_great : Fun K "_law_too_great" "_law_too_great" s__law_too_great A.f__law_too_great A.d__law_too_great
  g__law_too_great : mg "_law_too_great" = some (.ref A.f__law_too_great)
  k__law_too_great : PySem.W.keepIn K (.ref A.f__law_too_great) = true
  b__law_too_great : Binds K A.d__law_too_great ["_law_version_here", "_law_some"] []
  F_law : Fun K "law" "law" s_law A.f_law A.d_law
  g_law : mg "law" = some (.ref A.f_law)
  k_law : PySem.W.keepIn K (.ref A.f_law) = true
  b_law : Binds K A.d_law ["_law_script"] []
  u_FIGURES : ∃ t, mg "FIGURES" = some (.str "0123456789" t)
  u_MOST_FIGURES : ∃ t, mg "MOST_FIGURES" = some (.int (30) t)
  u_OUT : ∃ t, mg "OUT" = some (.str "-" t)
  u_TOO_GREAT : ∃ t, mg "TOO_GREAT" = some (.int (1000000000000000000000000000000) t)
  g_DraftError : mg "DraftError" = some (.ref A.DraftError)
  x_DraftError : XCls K A.DraftError
  g_NoDeed : mg "NoDeed" = some (.ref A.NoDeed)
  x_NoDeed : XCls K A.NoDeed
  g_NoRow : mg "NoRow" = some (.ref A.NoRow)
  x_NoRow : XCls K A.NoRow
  g_NoSave : mg "NoSave" = some (.ref A.NoSave)
  x_NoSave : XCls K A.NoSave
  g_NoText : mg "NoText" = some (.ref A.NoText)
  x_NoText : XCls K A.NoText
  g_NoWords : mg "NoWords" = some (.ref A.NoWords)
  x_NoWords : XCls K A.NoWords
  m_nd : PySem.W.mroIn K A.NoText (.ref A.DraftError) = some true
  kv : PySem.W.kitOne K (.ref A.NoText) (.type "ValueError") = some true
  kt : PySem.W.kitAny K (.ref A.NoText) [.ref A.NoDeed, .ref A.NoRow, .ref A.NoSave, .ref A.NoWords] = some false
  ku : PySem.W.kitAny K (.ref A.NoText) [.ref A.NoRow, .ref A.NoWords] = some false
  n_ValueError : mg "ValueError" = none
  n_abs : mg "abs" = none
  n_all : mg "all" = none
  n_enumerate : mg "enumerate" = none
  n_int : mg "int" = none
  n_isinstance : mg "isinstance" = none
  n_len : mg "len" = none
  n_range : mg "range" = none
  n_str : mg "str" = none
  n_tuple : mg "tuple" = none

def sp_digits : Sp := newSp (fun (a : Int × Int) vs => vs = [.int a.1, .int a.2]) (fun _ o => ∃ d0 d1 d2 d3 d4 d5 d6 d7 : Int, o = .lst [.int d0, .int d1, .int d2, .int d3, .int d4, .int d5, .int d6, .int d7] ∧ Dig d0 ∧ Dig d1 ∧ Dig d2 ∧ Dig d3 ∧ Dig d4 ∧ Dig d5 ∧ Dig d6 ∧ Dig d7)
theorem new_digits {P : Program} {w : World} {K : PySem.W.Frag} {mg : Str → Option Value} {base : Heap} {CX : CXT} {k : Nat} {f : Addr} {fd : FuncData} {ps : List Str}
    (F : FnOk P w K mg base CX k f fd ps (newRaw (fun (a : Int × Int) vs => vs = [.int a.1, .int a.2]) (fun _ o => ∃ d0 d1 d2 d3 d4 d5 d6 d7 : Int, o = .lst [.int d0, .int d1, .int d2, .int d3, .int d4, .int d5, .int d6, .int d7] ∧ Dig d0 ∧ Dig d1 ∧ Dig d2 ∧ Dig d3 ∧ Dig d4 ∧ Dig d5 ∧ Dig d6 ∧ Dig d7))) :
    FnOk P w K mg base CX k f fd ps sp_digits := F.new fun a o ⟨d0, d1, d2, d3, d4, d5, d6, d7, e, _⟩ => .inl ⟨_, e⟩
theorem eight {ds : List Int} (h : ds.length = 8) (hd : ∀ d ∈ ds, Dig d) : ∃ d0 d1 d2 d3 d4 d5 d6 d7 : Int, HO.lst (ds.map V.int) = .lst [.int d0, .int d1, .int d2, .int d3, .int d4, .int d5, .int d6, .int d7] ∧ Dig d0 ∧ Dig d1 ∧ Dig d2 ∧ Dig d3 ∧ Dig d4 ∧ Dig d5 ∧ Dig d6 ∧ Dig d7 := by
  match ds, h with
  | [a, b, c, d, e, f, g, i], _ => exact ⟨a, b, c, d, e, f, g, i, rfl, hd a (by simp), hd b (by simp), hd c (by simp), hd d (by simp), hd e (by simp), hd f (by simp), hd g (by simp), hd i (by simp)⟩

abbrev SMALL : Str := "abcdefghijklmnopqrstuvwxyz"
def SIGNS : Str := ((((" !\"#$&'()*+,-./0123456789:;<=>?@" : Str) ++ Txt.upper SMALL) ++ ("[\\]^_`" : Str)) ++ SMALL) ++ ("{|}~" : Str)
theorem signs_len : SIGNS.length = 94 := by decide +kernel
def sp_signs : Sp := pureSp (fun (_ : Unit) vs => vs = []) (fun _ v => v = .str SIGNS)
def hasS (z t : Str) : Bool := !(Builtin.Str.occurrences t z 0 t.length 1).isEmpty
def madeB (z t : Str) : Bool := ((List.range z.cps.size).map fun i => hasS ⟨#[z.cps.toList.getD i 0]⟩ t).all id
theorem made_dig (z : Str) : madeB z DIG = z.cps.toList.all isDig := by
  unfold madeB hasS
  rw [Bool.eq_iff_iff, List.all_eq_true, List.all_eq_true]
  constructor
  · intro h c hc
    obtain ⟨i, hi, e⟩ := List.getElem_of_mem hc
    have hs : i < z.cps.size := by simpa using hi
    have := h _ (List.mem_map.mpr ⟨i, List.mem_range.mpr hs, rfl⟩)
    simp only [id] at this
    rw [in_dig] at this
    have e2 : z.cps.toList.getD i 0 = c := by rw [List.getD_eq_getElem?_getD, List.getElem?_eq_getElem hi, e]; rfl
    rw [e2] at this
    exact this
  · intro h b hb
    obtain ⟨i, hi, e⟩ := List.mem_map.mp hb
    have hs : i < z.cps.toList.length := by simpa using List.mem_range.mp hi
    rw [← e]
    simp only [id]
    rw [in_dig]
    refine h _ ?_
    rw [List.getD_eq_getElem?_getD, List.getElem?_eq_getElem hs]
    exact List.getElem_mem hs
def sp_made : Sp := pureSp (fun (a : Str × Str) vs => vs = [.str a.1, .str a.2] ∧ a.1.length ≤ 1000) (fun a v => v = .bl (madeB a.1 a.2))
def sp_nt (A : Adr) : Sp := fun vs H Q E => Plain H ∧ ∃ n : Int, vs = [.int n] ∧ -(10 ^ 40) < n ∧ n < 10 ^ 40 ∧ (-(10 ^ 30) < n → n < 10 ^ 30 → Q (.str (toString n)) H) ∧ (¬ (-(10 ^ 30) < n ∧ n < 10 ^ 30) → E (.ref A.NoText) none H)
def sp_rn (A : Adr) : Sp := fun vs H Q E => Plain H ∧ ∃ z : Str, vs = [.str z] ∧ z.length ≤ 640 ∧ (∀ n, readL z.cps.toList = some n → Q (.int n) H) ∧ (readL z.cps.toList = none → E (.ref A.NoText) none H)
def vOpt : Option Int → V
  | none => .non
  | some n => .int n
def digL (l : Addr) (H : Hp) : Prop := ∃ d0 d1 d2 d3 d4 d5 d6 d7 : Int, H l = some (.lst [.int d0, .int d1, .int d2, .int d3, .int d4, .int d5, .int d6, .int d7]) ∧ Dig d0 ∧ Dig d1 ∧ Dig d2 ∧ Dig d3 ∧ Dig d4 ∧ Dig d5 ∧ Dig d6 ∧ Dig d7
def sp_law (K : PySem.W.Frag) : Sp := fun vs H Q _ => ∃ (a : Addr) (ns : List Int), vs = [.ref a] ∧ SqL K H a (ns.map V.int) ∧ ns.length ≤ 63 ∧ (∀ H', Q (.bl true) H') ∧ Plain H
theorem iteDF {p : Prop} [Decidable p] {A B : Prop} (h : ¬ p) (b : B) : if decide p = true then A else B := by rw [decide_eq_false h]; exact iteF b
theorem iteDT {p : Prop} [Decidable p] {A B : Prop} (h : p) (a : A) : if decide p = true then A else B := by rw [decide_eq_true h]; exact iteT a
def B40 (n : Int) : Prop := -(10 ^ 40) < n ∧ n < 10 ^ 40
def B30 (n : Int) : Prop := -(10 ^ 30) < n ∧ n < 10 ^ 30
instance (n : Int) : Decidable (B30 n) := inferInstanceAs (Decidable (_ ∧ _))
def dots (ns : List Int) : Str := Txt.join "." (ns.map fun n => Str.ofString (toString n))
def dotL (z : Str) (m : Int) : Option (List Int) := if ((Txt.split z ".").length : Int) = m then optMap (fun p : Str => readL p.cps.toList) (Txt.split z ".") else none
def leastL (z : Str) (k : Int) : Option Int := match readL z.cps.toList with
  | some n => if n < k then none else some n
  | none => none
def sp_dt (K : PySem.W.Frag) (A : Adr) : Sp := genSp (fun (a : Addr × List Int) vs H => vs = [.ref a.1] ∧ SqT K H a.1 (a.2.map V.int) ∧ a.2.length ≤ 10 ∧ ∀ n ∈ a.2, B40 n)
  (fun a v _ => (∀ n ∈ a.2, B30 n) ∧ v = .str (dots a.2)) (fun a C => C = A.NoText ∧ ∃ n ∈ a.2, ¬ B30 n)
def sp_rd (A : Adr) : Sp := genSp (fun (a : Str × Int) vs _ => vs = [.str a.1, .int a.2] ∧ a.1.length ≤ 640)
  (fun a v H => ∃ l ns, v = .ref l ∧ H l = some (.lst (ns.map V.int)) ∧ dotL a.1 a.2 = some ns) (fun a C => C = A.NoText ∧ dotL a.1 a.2 = none)
def sp_cm (A : Adr) : Sp := genSp (fun (a : Int × Int) vs _ => vs = [.int a.1, .int a.2]) (fun a v _ => ¬ (a.1 < 0 ∨ a.2 < 1) ∧ v = .non) (fun a C => C = A.NoText ∧ (a.1 < 0 ∨ a.2 < 1))
theorem sum_le {α : Type} {f : α → Str} {k : Nat} : ∀ {xs : List α}, (∀ x ∈ xs, (f x).length ≤ k) → ((xs.map f).map (·.length)).sum ≤ xs.length * k := by
  intro xs
  induction xs with
  | nil => intro _; exact Nat.zero_le _
  | cons x xs ih =>
    intro h
    have h1 := h x List.mem_cons_self
    have h2 := ih fun y hy => h y (List.mem_cons_of_mem _ hy)
    simp only [List.map_cons, List.sum_cons, List.length_cons, Nat.succ_mul]
    omega
theorem optMap_len {α β : Type} {f : α → Option β} : ∀ {xs : List α} {ys : List β}, optMap f xs = some ys → ys.length = xs.length := by
  intro xs
  induction xs with
  | nil => intro ys e; cases e; rfl
  | cons a xs ih =>
    intro ys e
    unfold optMap at e
    cases h1 : f a with
    | none => rw [h1] at e; cases e
    | some y =>
      rw [h1] at e
      cases h2 : optMap f xs with
      | none => rw [h2] at e; cases e
      | some zs => rw [h2] at e; cases e; simp [ih h2]
theorem least_bad {z : Str} {k : Int} (hk : 0 ≤ k) (h : z.cps.toList.length < 1 ∨ 30 < z.cps.toList.length ∨ z.cps.toList.all isDig = false ∨ (z.cps.toList.head? = some 48 ∧ 1 < z.cps.toList.length)) : leastL z k = none := by
  unfold leastL readL
  by_cases hh : z.cps.toList.head? = some 45
  · rw [if_pos hh]
    by_cases hb : z.cps.toList.tail.length < 1 ∨ 30 < z.cps.toList.tail.length ∨ z.cps.toList.tail.all isDig = false ∨ z.cps.toList.tail.head? = some 48
    · rw [if_pos hb]
    · rw [if_neg hb]
      have hpos : 0 < digitsVal z.cps.toList.tail := by
        generalize z.cps.toList.tail = cs at hb
        cases cs with
        | nil => exact absurd (.inl (by decide)) hb
        | cons c cs =>
          have hd : isDig c = true := by
            cases e : isDig c with
            | true => rfl
            | false => exact absurd (.inr (.inr (.inl (by rw [List.all_cons, e]; rfl)))) hb
          have h48 : c ≠ 48 := fun e => hb (.inr (.inr (.inr (by rw [e]; rfl))))
          unfold isDig at hd
          have : 48 ≤ c ∧ c ≤ 57 := by simpa using hd
          exact digitsVal_pos (by omega)
      dsimp only
      rw [if_pos (by omega)]
  · rw [if_neg hh, if_pos h]
theorem least_good {z : Str} {k : Int} (h : ¬ (z.cps.toList.length < 1 ∨ 30 < z.cps.toList.length ∨ z.cps.toList.all isDig = false ∨ (z.cps.toList.head? = some 48 ∧ 1 < z.cps.toList.length))) :
    leastL z k = if ((digitsVal z.cps.toList : Nat) : Int) < k then none else some ((digitsVal z.cps.toList : Nat) : Int) := by
  unfold leastL readL
  have hh : ¬ z.cps.toList.head? = some 45 := by
    intro e
    apply h
    refine .inr (.inr (.inl ?_))
    cases hc : z.cps.toList with
    | nil => rw [hc] at e; cases e
    | cons c cs =>
      rw [hc] at e
      have : c = 45 := by simpa using e
      subst this
      rfl
  rw [if_neg hh, if_neg h]

instance (n : Int) : Decidable (B30 n) := inferInstanceAs (Decidable (_ ∧ _))
def S40 (s : Stp) : Prop := B40 s.1 ∧ B40 s.2.1 ∧ B40 s.2.2
def S30 (s : Stp) : Prop := B30 s.1 ∧ B30 s.2.1 ∧ B30 s.2.2
def sL (s : Stp) : List Int := [s.1, s.2.1, s.2.2]
def slash (ss : List Stp) : Str := Txt.join "/" (ss.map fun s => dots (sL s))
def stepL (z : Str) : Option Stp := match dotL z 3 with
  | some [r, w, c] => if w < 0 ∨ c < 1 then none else some (r, w, c)
  | _ => none
def placeL (z : Str) : Option (List Stp) := optMap stepL (Txt.split z "/")
def leastO (z : Str) : Option Int → Option Int
  | none => readL z.cps.toList
  | some k => leastL z k
def sp_pt (K : PySem.W.Frag) (A : Adr) : Sp := genSp (fun (a : Addr × List Stp) vs H => vs = [.ref a.1] ∧ DV K H (plc a.2) (.ref a.1) ∧ a.2.length ≤ 10 ∧ ∀ s ∈ a.2, S40 s)
  (fun a v _ => (∀ s ∈ a.2, S30 s) ∧ v = .str (slash a.2)) (fun a C => C = A.NoText ∧ ∃ s ∈ a.2, ¬ S30 s)
def sp_rs (A : Adr) : Sp := genSp (fun (z : Str) vs _ => vs = [.str z] ∧ z.length ≤ 640) (fun z v H => ∃ t s, v = .ref t ∧ H t = some (.tup (sV s)) ∧ stepL z = some s) (fun z C => C = A.NoText ∧ stepL z = none)
def sp_rp (K : PySem.W.Frag) (A : Adr) : Sp := genSp (fun (z : Str) vs _ => vs = [.str z] ∧ z.length ≤ 640) (fun z v H => ∃ ss, DV K H (plc ss) v ∧ placeL z = some ss) (fun z C => C = A.NoText ∧ placeL z = none)
def sp_reads : Sp := pureSp (fun (a : Str × Option Int) vs => vs = [.str a.1, vOpt a.2] ∧ a.1.length ≤ 640 ∧ ∀ m, a.2 = some m → 0 ≤ m) (fun a v => v = vOpt (leastO a.1 a.2))
def sp_po (K : PySem.W.Frag) : Sp := genSp (fun (z : Str) vs _ => vs = [.str z] ∧ z.length ≤ 640) (fun z v H => (v = .non ∧ placeL z = none) ∨ ∃ t ss, v = .ref t ∧ DV K H (plc ss) v ∧ placeL z = some ss) (fun _ _ => False)
theorem s40 {s : Stp} (h : S30 s) : S40 s := by
  unfold S30 S40 B30 B40 at *
  omega
theorem sL_mem {P : Int → Prop} {s : Stp} (h : P s.1 ∧ P s.2.1 ∧ P s.2.2) : ∀ n ∈ sL s, P n := by
  intro n hn
  unfold sL at hn
  simp only [List.mem_cons, List.not_mem_nil, or_false] at hn
  rcases hn with rfl | rfl | rfl
  · exact h.1
  · exact h.2.1
  · exact h.2.2
theorem sL_all {P : Int → Prop} {s : Stp} (h : ∀ n ∈ sL s, P n) : P s.1 ∧ P s.2.1 ∧ P s.2.2 := ⟨h _ (by simp [sL]), h _ (by simp [sL]), h _ (by simp [sL])⟩
theorem dots_len {s : Stp} (h : S40 s) : (dots (sL s)).length ≤ 125 := by
  have e : dots (sL s) = (((Str.ofString (toString s.1) ++ ".") ++ Str.ofString (toString s.2.1)) ++ ".") ++ Str.ofString (toString s.2.2) := rfl
  have l1 : (Str.ofString ".").length = 1 := rfl
  have h1 := len40 h.1.1 h.1.2
  have h2 := len40 h.2.1.1 h.2.1.2
  have h3 := len40 h.2.2.1 h.2.2.2
  rw [e, len_add, len_add, len_add, len_add, l1]
  omega
theorem len3 {α : Type} {l : List α} (h : l.length = 3) : ∃ a b c, l = [a, b, c] := by
  match l, h with
  | [a, b, c], _ => exact ⟨a, b, c, rfl⟩
theorem three_of {z : Str} {ns : List Int} (h : dotL z 3 = some ns) : ∃ a b c, ns = [a, b, c] := by
  unfold dotL at h
  split at h
  · rename_i e
    have := optMap_len h
    exact len3 (by omega)
  · cases h
def Bad (b : Bool) (y : List Nat) : Prop := y.length < 1 ∨ 30 < y.length ∨ y.all isDig = false ∨ (y.head? = some 48 ∧ (b = true ∨ 1 < y.length))
theorem lo_bad {z y : Str} {b : Bool} {k : Option Int} (hb : b = true ↔ (z.cps.toList.head? = some 45 ∧ k = none)) (hy : y.cps.toList = if b = true then z.cps.toList.tail else z.cps.toList) (hk : ∀ m, k = some m → 0 ≤ m) (h : Bad b y.cps.toList) : leastO z k = none := by
  unfold Bad at h
  cases k with
  | some m =>
    have hf : b = false := by cases b with | false => rfl | true => exact absurd (hb.mp rfl).2 (by simp)
    subst hf
    rw [if_neg Bool.false_ne_true] at hy
    rw [hy] at h
    refine least_bad (hk m rfl) ?_
    rcases h with a | a | a | ⟨a, c⟩
    · exact .inl a
    · exact .inr (.inl a)
    · exact .inr (.inr (.inl a))
    · exact .inr (.inr (.inr ⟨a, by simpa using c⟩))
  | none =>
    show readL z.cps.toList = none
    unfold readL
    by_cases hh : z.cps.toList.head? = some 45
    · have ht : b = true := hb.mpr ⟨hh, rfl⟩
      subst ht
      rw [if_pos rfl] at hy
      rw [hy] at h
      rw [if_pos hh, if_pos]
      rcases h with a | a | a | ⟨a, _⟩
      · exact .inl a
      · exact .inr (.inl a)
      · exact .inr (.inr (.inl a))
      · exact .inr (.inr (.inr a))
    · have hf : b = false := by cases b with | false => rfl | true => exact absurd (hb.mp rfl).1 hh
      subst hf
      rw [if_neg Bool.false_ne_true] at hy
      rw [hy] at h
      rw [if_neg hh, if_pos]
      rcases h with a | a | a | ⟨a, c⟩
      · exact .inl a
      · exact .inr (.inl a)
      · exact .inr (.inr (.inl a))
      · exact .inr (.inr (.inr ⟨a, by simpa using c⟩))
theorem lo_good {z y : Str} {b : Bool} {k : Option Int} (hb : b = true ↔ (z.cps.toList.head? = some 45 ∧ k = none)) (hy : y.cps.toList = if b = true then z.cps.toList.tail else z.cps.toList) (h : ¬ Bad b y.cps.toList) :
    leastO z k = if (∃ m, k = some m ∧ ((digitsVal y.cps.toList : Nat) : Int) < m) then none else some (if b = true then -((digitsVal y.cps.toList : Nat) : Int) else ((digitsVal y.cps.toList : Nat) : Int)) := by
  cases k with
  | some m =>
    have hf : b = false := by cases b with | false => rfl | true => exact absurd (hb.mp rfl).2 (by simp)
    subst hf
    rw [if_neg Bool.false_ne_true] at hy
    rw [hy] at h ⊢
    show leastL z m = _
    rw [least_good (fun g => h (by
      rcases g with a | a | a | ⟨a, c⟩
      · exact .inl a
      · exact .inr (.inl a)
      · exact .inr (.inr (.inl a))
      · exact .inr (.inr (.inr ⟨a, .inr c⟩))))]
    by_cases hm : ((digitsVal z.cps.toList : Nat) : Int) < m
    · rw [if_pos hm, if_pos ⟨m, rfl, hm⟩]
    · rw [if_neg hm, if_neg (by rintro ⟨_, e, g⟩; cases e; exact hm g)]
      rfl
  | none =>
    show readL z.cps.toList = _
    rw [if_neg (by rintro ⟨_, e, _⟩; cases e)]
    unfold readL
    by_cases hh : z.cps.toList.head? = some 45
    · have ht : b = true := hb.mpr ⟨hh, rfl⟩
      subst ht
      rw [if_pos rfl] at hy
      rw [hy] at h ⊢
      rw [if_pos hh, if_neg, if_pos rfl]
      rintro (a | a | a | a)
      · exact h (.inl a)
      · exact h (.inr (.inl a))
      · exact h (.inr (.inr (.inl a)))
      · exact h (.inr (.inr (.inr ⟨a, .inl rfl⟩)))
    · have hf : b = false := by cases b with | false => rfl | true => exact absurd (hb.mp rfl).1 hh
      subst hf
      rw [if_neg Bool.false_ne_true] at hy
      rw [hy] at h ⊢
      rw [if_neg hh, if_neg, if_neg Bool.false_ne_true]
      rintro (a | a | a | ⟨a, c⟩)
      · exact h (.inl a)
      · exact h (.inr (.inl a))
      · exact h (.inr (.inr (.inl a)))
      · exact h (.inr (.inr (.inr ⟨a, .inr c⟩)))
theorem step_least {z p1 p2 p3 : Str} (hs : Txt.split z "." = [p1, p2, p3]) : stepL z = match leastO p1 none, leastO p2 (some 0), leastO p3 (some 1) with
    | some r, some a, some b => some (r, a, b)
    | _, _, _ => none := by
  unfold stepL dotL leastO leastL
  rw [if_pos (by rw [hs]; rfl), hs]
  unfold optMap optMap optMap optMap
  dsimp only
  cases readL p1.cps.toList with
  | none => rfl
  | some r =>
    cases readL p2.cps.toList with
    | none => rfl
    | some a =>
      cases readL p3.cps.toList with
      | none => by_cases h1 : a < 0 <;> simp [h1]
      | some b =>
        dsimp only
        by_cases h1 : a < 0
        · rw [if_pos (.inl h1), if_pos h1]
        · by_cases h2 : b < 1
          · rw [if_pos (.inr h2), if_pos h2, if_neg h1]
          · rw [if_neg (by omega), if_neg h1, if_neg h2]
theorem step_few {z : Str} (h : ¬ (Txt.split z ".").length = 3) : stepL z = none := by
  unfold stepL dotL
  rw [if_neg (fun e => h (by omega))]
theorem flat_opt (k : Option Int) : flatV (vOpt k) = true := by cases k <;> rfl
theorem glue_len (g : Array Nat) : ∀ (ps : List Str) (a : Array Nat), (ps.foldl (fun acc p => acc ++ g ++ p.cps) a).size = a.size + (ps.map (·.length)).sum + ps.length * g.size := by
  intro ps
  induction ps with
  | nil => intro a; simp
  | cons p ps ih =>
    intro a
    rw [List.foldl_cons, ih]
    simp only [Array.size_append, List.map_cons, List.sum_cons, List.length_cons, Nat.succ_mul]
    have : p.length = p.cps.size := rfl
    omega
theorem join_len (g : Str) (ps : List Str) : (Txt.join g ps).length ≤ (ps.map (·.length)).sum + ps.length * g.length := by
  show ((ps.drop 1).foldl (fun acc p => acc ++ g.cps ++ p.cps) (ps.headD Str.empty).cps).size ≤ _
  rw [glue_len]
  cases ps with
  | nil => simp [Str.empty]
  | cons p ps =>
    have e1 : ((p :: ps).drop 1) = ps := rfl
    have e2 : ((p :: ps).headD Str.empty) = p := rfl
    rw [e1, e2]
    simp only [List.map_cons, List.sum_cons, List.length_cons, Nat.succ_mul]
    have h1 : p.length = p.cps.size := rfl
    have h2 : ps.length * g.length = ps.length * g.cps.size := rfl
    have h3 : g.length = g.cps.size := rfl
    omega
theorem dots30 {s : Stp} (h : S30 s) : (dots (sL s)).length ≤ 95 := by
  have e : dots (sL s) = (((Str.ofString (toString s.1) ++ ".") ++ Str.ofString (toString s.2.1)) ++ ".") ++ Str.ofString (toString s.2.2) := rfl
  have l1 : (Str.ofString ".").length = 1 := rfl
  have h1 := L2.len30 h.1.1 h.1.2
  have h2 := L2.len30 h.2.1.1 h.2.1.2
  have h3 := L2.len30 h.2.2.1 h.2.2.2
  rw [e, len_add, len_add, len_add, len_add, l1]
  omega
theorem iteNT {p : Prop} [Decidable p] {A B : Prop} (h : ¬ p) (a : A) : if (!decide p) = true then A else B := by rw [decide_eq_false h]; exact iteT a
theorem empty_dv {K : PySem.W.Frag} {H : Hp} {t : Addr} (h : H t = some (.tup [])) : DV K H (plc []) (.ref t) := ⟨t, [], rfl, SqT.of h, rfl⟩
def sp_words : Sp := pureSp (fun (a : Int × Int) vs => vs = [.int a.1, .int a.2]) (fun _ v => ∃ z : Str, v = .str z ∧ z.length ≤ 6 ∧ PyData.strOk z = true)
def sp_in (K : PySem.W.Frag) : Sp := genSp (fun (v : Ver) vs H => ∃ x, vs = [x] ∧ DV K H (ver v) x) (fun v r _ => r = .bl (!decide (v.2.1 = []))) (fun _ _ => False)
theorem all_join {P : Nat → Bool} {g : Str} (hg : g.cps.all P = true) : ∀ {ps : List Str}, (∀ p ∈ ps, p.cps.all P = true) → (Txt.join g ps).cps.all P = true := by
  intro ps h
  show ((ps.drop 1).foldl (fun acc p => acc ++ g.cps ++ p.cps) (ps.headD Str.empty).cps).all P = true
  have go : ∀ (qs : List Str) (a : Array Nat), a.all P = true → (∀ p ∈ qs, p.cps.all P = true) → (qs.foldl (fun acc p => acc ++ g.cps ++ p.cps) a).all P = true := by
    intro qs
    induction qs with
    | nil => intro a ha _; exact ha
    | cons q qs ih =>
      intro a ha hq
      refine ih _ ?_ fun p hp => hq p (List.mem_cons_of_mem _ hp)
      rw [Array.all_append, Array.all_append, ha, hg, hq q List.mem_cons_self]
      rfl
  refine go _ _ ?_ fun p hp => h p (List.mem_of_mem_drop hp)
  cases ps with
  | nil => show (#[] : Array Nat).all P = true; simp
  | cons p ps => exact h p List.mem_cons_self
theorem signs_ok (i : Nat) : SIGNS.cps.toList.getD i 0 < 0x110000 := by
  have h : SIGNS.cps.toList.all (fun c => decide (c < 0x110000)) = true := by decide +kernel
  rw [List.getD_eq_getElem?_getD]
  cases e : SIGNS.cps.toList[i]? with
  | none => decide
  | some c => exact of_decide_eq_true (List.all_eq_true.mp h c (List.mem_of_getElem? e))
def wordsB (z : Str) : Bool := (!hasS "\n" z) && (!hasS "\t" z)

def sp_isw : Sp := pureSp (fun (z : Str) vs => vs = [.str z]) (fun z v => v = .bl (wordsB z))
theorem has_mem (c : Nat) (z : Str) : hasS ⟨#[c]⟩ z = decide (c ∈ z.cps.toList) := occ_mem c z
theorem words_mem (z : Str) : wordsB z = (!decide (10 ∈ z.cps.toList) && !decide (9 ∈ z.cps.toList)) := by
  unfold wordsB
  rw [show (Str.ofString "\n") = ⟨#[10]⟩ from rfl, show (Str.ofString "\t") = ⟨#[9]⟩ from rfl, has_mem, has_mem]
def verTxt (v : Ver) : Str := if v.2.1 = [] then Str.ofString (toString v.1) ++ " -" else (((Str.ofString (toString v.1) ++ " ") ++ slash v.2.1) ++ " ") ++ v.2.2
def G40 (v : Ver) : Prop := B40 v.1 ∧ v.2.1.length ≤ 6 ∧ (∀ s ∈ v.2.1, S40 s) ∧ v.2.2.length ≤ 6
def S25 (s : Stp) : Prop := (-(10 ^ 25) < s.1 ∧ s.1 < 10 ^ 25) ∧ (-(10 ^ 25) < s.2.1 ∧ s.2.1 < 10 ^ 25) ∧ (-(10 ^ 25) < s.2.2 ∧ s.2.2 < 10 ^ 25)
theorem s30 {s : Stp} (h : S25 s) : S30 s := by
  unfold S25 at h
  unfold S30 B30
  omega
def G30 (v : Ver) : Prop := B30 v.1 ∧ v.2.1.length ≤ 3 ∧ (∀ s ∈ v.2.1, S25 s) ∧ v.2.2.length ≤ 6 ∧ okV v
def tailL (b : Int) (r : Str) : Option Ver := match placeL (Txt.partition r " ").1 with
  | none => none
  | some ss => if (Txt.partition r " ").2.1 = "" ∨ wordsB (Txt.partition r " ").2.2 = false then none else some (b, ss, (Txt.partition r " ").2.2)
def verL (z : Str) : Option Ver := match leastL (Txt.partition z " ").1 1 with
  | none => none
  | some b => if (Txt.partition z " ").2.2 = "-" then some (b, [], "") else tailL b (Txt.partition z " ").2.2
def sp_out (K : PySem.W.Frag) : Sp := genSp (fun (b : Int) vs _ => vs = [.int b]) (fun b r H => DV K H (ver (b, [], "")) r) (fun _ _ => False)
def sp_vt (K : PySem.W.Frag) (A : Adr) : Sp := genSp (fun (v : Ver) vs H => ∃ x, vs = [x] ∧ DV K H (ver v) x ∧ G40 v) (fun v r _ => (B30 v.1 ∧ ∀ s ∈ v.2.1, S30 s) ∧ r = .str (verTxt v)) (fun v C => C = A.NoText ∧ ¬ (B30 v.1 ∧ ∀ s ∈ v.2.1, S30 s))
def sp_rb (A : Adr) : Sp := genSp (fun (z : Str) vs _ => vs = [.int 1, .str z] ∧ z.length ≤ 640) (fun z r _ => ∃ n, r = .int n ∧ leastL z 1 = some n) (fun z C => C = A.NoText ∧ leastL z 1 = none)
def sp_rv (K : PySem.W.Frag) (A : Adr) : Sp := genSp (fun (z : Str) vs _ => vs = [.str z] ∧ z.length ≤ 640) (fun z r H => ∃ v, DV K H (ver v) r ∧ verL z = some v) (fun z C => C = A.NoText ∧ verL z = none)
def sp_ver (K : PySem.W.Frag) : Sp := genSp (fun (a : Addr) vs H => vs = [.ref a] ∧ digL a H) (fun _ r H => ∃ v, DV K H (ver v) r ∧ G30 v) (fun _ _ => False)
def sp_bent : Sp := pureSpH (fun (a : Str × Addr) vs H => vs = [.str a.1, .ref a.2] ∧ a.1.length ≤ 300 ∧ PyData.strOk a.1 = true ∧ digL a.2 H) (fun _ v => ∃ z : Str, v = .str z ∧ z.length ≤ 640 ∧ PyData.strOk z = true)
def sp_lr (K : PySem.W.Frag) : Sp := genSp (fun (z : Str) vs _ => vs = [.str z] ∧ z.length ≤ 640 ∧ PyData.strOk z = true) (fun z r H => (r = .non ∧ verL z = none) ∨ ∃ v, DV K H (ver v) r ∧ verL z = some v ∧ okV v) (fun _ _ => False)
def sp_rr : Sp := pureSp (fun (z : Str) vs => vs = [.str z] ∧ z.length ≤ 640 ∧ PyData.strOk z = true) (fun _ v => v = .bl true)
def sp_wr (K : PySem.W.Frag) : Sp := pureSpH (fun (v : Ver) vs H => ∃ x, vs = [x] ∧ DV K H (ver v) x ∧ G30 v) (fun v r => r = .str (verTxt v))
def sp_tg (K : PySem.W.Frag) : Sp := pureSpH (fun (a : Ver × Addr) vs H => ∃ x, vs = [x, .ref a.2] ∧ DV K H (ver a.1) x ∧ G30 a.1 ∧ digL a.2 H) (fun _ v => v = .bl true)
theorem g40 {v : Ver} (h : G30 v) : G40 v := ⟨by have := h.1; unfold B30 B40 at *; omega, by have := h.2.1; omega, fun s hs => s40 (s30 (h.2.2.1 s hs)), h.2.2.2.1⟩
theorem stepL_codes {p : Str} {s : Stp} (h : stepL p = some s) {c : Nat} (hc : c ∈ p.cps.toList) : c = 46 ∨ c = 45 ∨ isDig c = true := by
  unfold stepL dotL at h
  split at h
  · rename_i e
    split at e
    · rcases codes_of_split p 46 hc with z | ⟨q, hq, z⟩
      · exact .inl z
      · obtain ⟨n, hn⟩ := optMap_mem e (x := q) hq
        exact .inr (read_codes hn c z)
    · cases e
  · cases h
theorem placeL_codes {z : Str} {ss : List Stp} (h : placeL z = some ss) {c : Nat} (hc : c ∈ z.cps.toList) : c = 47 ∨ c = 46 ∨ c = 45 ∨ isDig c = true := by
  rcases codes_of_split z 47 hc with e | ⟨p, hp, e⟩
  · exact .inl e
  · obtain ⟨s, hs⟩ := optMap_mem (f := stepL) h (x := p) hp
    exact .inr (stepL_codes hs e)
theorem leastL_codes {z : Str} {k n : Int} (h : leastL z k = some n) {c : Nat} (hc : c ∈ z.cps.toList) : c = 45 ∨ isDig c = true := by
  unfold leastL at h
  split at h
  · rename_i e
    exact read_codes e c hc
  · cases h
theorem not_dig {c : Nat} (h : c = 9 ∨ c = 10) : ¬ isDig c = true := by
  rcases h with rfl | rfl <;> decide
/-- row ends and tabs stand in the words alone -/
theorem sign_words {a p w : Str} {b : Int} {ss : List Stp} (ha : leastL a 1 = some b) (hp : placeL p = some ss) {c : Nat} (h9 : c = 9 ∨ c = 10) : c ∈ ((a ++ (⟨#[32]⟩ : Str)) ++ ((p ++ (⟨#[32]⟩ : Str)) ++ w)).cps.toList ↔ c ∈ w.cps.toList := by
  rw [codes_add, codes_add, codes_add, codes_add]
  simp only [List.mem_append]
  constructor
  · rintro ((h | h) | ((h | h) | h))
    · rcases leastL_codes ha h with e | e
      · omega
      · exact absurd e (not_dig h9)
    · have : c = 32 := by simpa using h
      omega
    · rcases placeL_codes hp h with e | e | e | e
      · omega
      · omega
      · omega
      · exact absurd e (not_dig h9)
    · have : c = 32 := by simpa using h
      omega
    · exact h
  · intro h; exact .inr (.inr h)

theorem verL_none {z : Str} (h : leastL (Txt.partition z " ").1 1 = none) : verL z = none := by
  unfold verL
  rw [h]
theorem verL_out {z : Str} {b : Int} (h : leastL (Txt.partition z " ").1 1 = some b) (e : (Txt.partition z " ").2.2 = "-") : verL z = some ((b, [], "") : Ver) := by
  unfold verL
  rw [h]
  exact if_pos e
theorem verL_in {z : Str} {b : Int} (h : leastL (Txt.partition z " ").1 1 = some b) (e : ¬ (Txt.partition z " ").2.2 = "-") : verL z = tailL b (Txt.partition z " ").2.2 := by
  unfold verL
  rw [h]
  exact if_neg e

abbrev ODDX : Str := (SIGNS ++ "\n\t") ++ "0123456789./- 0123456789./- "
theorem odd8_len : ODDX.cps.toList.length = 124 := by decide +kernel
theorem odd8_ok (i : Nat) : ODDX.cps.toList.getD i 0 < 0x110000 := by
  have h : ODDX.cps.toList.all (fun c => decide (c < 0x110000)) = true := by decide +kernel
  rw [List.getD_eq_getElem?_getD]
  cases e : ODDX.cps.toList[i]? with
  | none => decide
  | some c => exact of_decide_eq_true (List.all_eq_true.mp h c (List.mem_of_getElem? e))
theorem nt_ok (i : Nat) : (Str.ofString "\n\t").cps.toList.getD i 0 < 0x110000 := by
  have h : (Str.ofString "\n\t").cps.toList.all (fun c => decide (c < 0x110000)) = true := by decide +kernel
  rw [List.getD_eq_getElem?_getD]
  cases e : (Str.ofString "\n\t").cps.toList[i]? with
  | none => decide
  | some c => exact of_decide_eq_true (List.all_eq_true.mp h c (List.mem_of_getElem? e))
theorem sum_take : ∀ (l : List Nat) (n : Nat), (l.take n).sum ≤ l.sum
  | [], n => by simp
  | x :: l, 0 => by simp
  | x :: l, n + 1 => by
    have := sum_take l n
    simp only [List.take_succ_cons, List.sum_cons]
    omega
theorem sum_drop : ∀ (l : List Nat) (n : Nat), (l.drop n).sum ≤ l.sum
  | [], n => by simp
  | x :: l, 0 => by simp
  | x :: l, n + 1 => by
    have := sum_drop l n
    simp only [List.drop_succ_cons, List.sum_cons]
    omega
def cutS (ss : List Str) (lo hi : Option Int) : List Str := (ss.drop (HT.sIx ss.length 0 lo)).take (HT.sIx ss.length ss.length hi - HT.sIx ss.length 0 lo)
theorem cutS_map (ss : List Str) (lo hi : Option Int) : cutV (ss.map V.str) lo hi = (cutS ss lo hi).map V.str := by
  unfold cutV cutS
  rw [List.length_map, List.map_take, List.map_drop]
theorem cutS_mem {ss : List Str} {lo hi : Option Int} {p : Str} (h : p ∈ cutS ss lo hi) : p ∈ ss := List.mem_of_mem_drop (List.mem_of_mem_take h)
theorem cutS_sum (ss : List Str) (lo hi : Option Int) : ((cutS ss lo hi).map (·.length)).sum + (cutS ss lo hi).length ≤ (ss.map (·.length)).sum + ss.length := by
  unfold cutS
  rw [List.map_take, List.map_drop, List.length_take, List.length_drop]
  have h1 := sum_take ((ss.map (·.length)).drop (HT.sIx ss.length 0 lo)) (HT.sIx ss.length ss.length hi - HT.sIx ss.length 0 lo)
  have h2 := sum_drop (ss.map (·.length)) (HT.sIx ss.length 0 lo)
  omega
theorem join2 {α β : Type} {ok G : α → β → Prop} {C : Prop} (h1 : (∀ y z, ok y z → G y z) → C) (h2 : ∀ y z, ok y z → G y z) : C := h1 h2

theorem dash_free : 32 ∉ (Str.ofString "-").cps.toList := by decide
theorem at0 {x : V} {xs : List V} : atI (x :: xs) 0 = some x := atI_nat (j := 0) rfl
theorem at1 {x y : V} {xs : List V} : atI (x :: y :: xs) 1 = some y := atI_nat (j := 1) rfl
theorem part_empty : Txt.partition Str.empty " " = (Str.empty, Str.empty, Str.empty) := by
  rcases part_split Str.empty 32 with ⟨h, _⟩ | ⟨a, r, _, _, h, _⟩
  · exact h
  · have := congrArg Str.length h
    rw [len_add, len_add] at this
    have e0 : Str.empty.length = 0 := rfl
    have e1 : (⟨#[32]⟩ : Str).length = 1 := rfl
    omega
theorem empty_ne : ¬ (Str.empty = Str.ofString "-") := fun e => by
  have : (0 : Nat) = 1 := congrArg Str.length e
  cases this
theorem blank_ne : ¬ ((⟨#[32]⟩ : Str) = Str.ofString "") := fun e => by
  have : (1 : Nat) = 0 := congrArg Str.length e
  cases this
theorem split_dash (r : Str) : Txt.split r " " = ([Str.ofString "-"] : List Str) ↔ r = "-" := by
  constructor
  · intro h
    have e := StrLaws.join_split r " "
    rw [h] at e
    exact e.symm
  · rintro rfl
    exact split_none (c := 32) dash_free

theorem dots25 {s : Stp} (h : S25 s) : (dots (sL s)).length ≤ 80 := by
  have e : dots (sL s) = (((Str.ofString (toString s.1) ++ ".") ++ Str.ofString (toString s.2.1)) ++ ".") ++ Str.ofString (toString s.2.2) := rfl
  have l1 : (Str.ofString ".").length = 1 := rfl
  unfold S25 at h
  have h1 := L2.num_len (i := s.1) (k := 25) (by decide) (by omega)
  have h2 := L2.num_len (i := s.2.1) (k := 25) (by decide) (by omega)
  have h3 := L2.num_len (i := s.2.2) (k := 25) (by decide) (by omega)
  rw [e, len_add, len_add, len_add, len_add, l1]
  omega
theorem verTxt_len {v : Ver} (h : G30 v) : (verTxt v).length ≤ 300 := by
  obtain ⟨g1, g2, g3, g4, g5⟩ := h
  have l30 := L2.len30 g1.1 g1.2
  have n1 : (Str.ofString " ").length = 1 := rfl
  have n2 : (Str.ofString " -").length = 2 := rfl
  unfold verTxt
  split
  · rw [len_add]; omega
  · have h1 : ((v.2.1.map fun s => dots (sL s)).map (·.length)).sum ≤ v.2.1.length * 80 := sum_le fun s hs => dots25 (g3 s hs)
    have h3 : (Str.ofString "/").length = 1 := rfl
    have hj := join_len "/" (v.2.1.map fun s => dots (sL s))
    rw [h3, List.length_map] at hj
    have e : (slash v.2.1).length = (Txt.join "/" (v.2.1.map fun s => dots (sL s))).length := rfl
    rw [len_add, len_add, len_add, len_add, e]
    omega
theorem dots_ok (s : Stp) : PyData.strOk (dots (sL s)) = true := by
  have e : dots (sL s) = (((Str.ofString (toString s.1) ++ ".") ++ Str.ofString (toString s.2.1)) ++ ".") ++ Str.ofString (toString s.2.2) := rfl
  rw [e]
  exact ok_add (ok_add (ok_add (ok_add (ok_lit _) (ok_lit _)) (ok_lit _)) (ok_lit _)) (ok_lit _)
theorem verTxt_ok {v : Ver} (h : okV v) : PyData.strOk (verTxt v) = true := by
  unfold verTxt
  split
  · exact ok_add (ok_lit _) (ok_lit _)
  · refine ok_add (ok_add (ok_add (ok_add (ok_lit _) (ok_lit _)) (ok_join (ok_lit _) fun p hp => ?_)) (ok_lit _)) h
    obtain ⟨s, _, rfl⟩ := List.mem_map.mp hp
    exact dots_ok s
theorem atI_last {xs : List V} {n : Nat} {v : V} (h : xs.length = n + 1) (hv : xs[n]? = some v) : atI xs (-1) = some v := by
  have e : ixN xs.length (-1) = some n := by
    unfold ixN
    rw [h]
    simp
    omega
  rw [atI, e]
  exact hv

theorem cut_last (xs : List V) : cutV xs none (some (-1)) = xs.take (xs.length - 1) := by
  unfold cutV
  have h1 : HT.sIx xs.length 0 none = 0 := rfl
  have h2 : HT.sIx xs.length xs.length (some (-1)) = xs.length - 1 := by
    simp only [HT.sIx]
    rw [if_pos (by decide)]
    omega
  rw [h1, h2, List.drop_zero, Nat.sub_zero]

section
variable {P : Program} {w : World} {K : PySem.W.Frag} {mg : Str → Option Value} {base : Heap} {A : Adr}
theorem sc_is_words : FnScope ["text"] ["text"] (defScope s_is_words) := ⟨rfl, rfl, rfl, by decide +kernel, rfl, by decide +kernel, by decide +kernel⟩
abbrev Ok_is_words (P : Program) (w : World) (K : PySem.W.Frag) (mg : Str → Option Value) (base : Heap) (A : Adr) : Prop := FnOk P w K mg base (CX1 P w base) 1 A.f_is_words A.d_is_words ["text"] sp_isw
set_option maxHeartbeats 4000000 in
theorem ok_is_words (T : Txt K mg A)  : Ok_is_words P w K mg base A := by
  refine FnOk.pure (T.F_is_words.okN sc_is_words (fun vs H Q E h => ?_) (fun cdv Ar outer s H vs Q E hr h => ?_))
  · obtain ⟨_, a, rfl, _⟩ := h
    rfl
  · obtain ⟨hp, z, rfl, q⟩ := h
    refine ⟨_, (pss_one (ps_ret (pe_and (pe_cmpR op_notin_str pe_str (pv 0) (by rfl)) (pe_one (pe_cmpR op_notin_str pe_str (pv 0) (by rfl)))))), ?_⟩
    refine ⟨_, rfl, _, _, rfl, rfl, _, rfl, ?_⟩
    refine ite2b (fun h1 => ?_) (fun h1 => ?_)
    · refine ⟨_, rfl, _, _, rfl, rfl, ?_⟩
      exact q _ _ (congrArg V.bl (by unfold wordsB hasS; rw [h1, Bool.true_and])) (Same.refl _)
    · exact q _ _ (congrArg V.bl (by unfold wordsB hasS; rw [h1, Bool.false_and])) (Same.refl _)
theorem sc_made_of : FnScope ["text", "signs"] ["text", "signs"] (defScope s_made_of) := ⟨rfl, rfl, rfl, by decide +kernel, rfl, by decide +kernel, by decide +kernel⟩
abbrev Ok_made_of (P : Program) (w : World) (K : PySem.W.Frag) (mg : Str → Option Value) (base : Heap) (A : Adr) : Prop := FnOk P w K mg base (CX1 P w base) 1 A.f_made_of A.d_made_of ["text", "signs"] sp_made
set_option maxHeartbeats 4000000 in
theorem ok_made_of (T : Txt K mg A)  : Ok_made_of P w K mg base A := by
  refine FnOk.pure (T.F_made_of.okN sc_made_of (fun vs H Q E h => ?_) (fun cdv Ar outer s H vs Q E hr h => ?_))
  · obtain ⟨_, a, ⟨rfl, _⟩, _⟩ := h
    rfl
  · obtain ⟨hp, ⟨z, t⟩, ⟨rfl, hz⟩, q⟩ := h
    refine ⟨_, (pss_one (ps_ret (pe_callB (call_all rfl) rfl T.n_all (by decide +kernel) (pa_cons (pe_comp ["sign", "signs"] 1 [1] rfl (pi_str (pv 0)) gk1 (fun _ _ _ _ _ => pg_name (i := 0) (show List.Nodup (["sign", "signs"] : List Str) by decide +kernel) rfl (Or.inl rfl)) (fun _ _ _ _ _ => pif_nil) (fun _ _ _ _ _ => (pe_cmpR op_in_str (pv 0) (pv 1) (by rfl)))) pa_nil)))), ?_⟩
    refine ⟨_, rfl, _, rfl, fun D hD => comp_str (fun i => .bl (hasS ⟨#[z.cps.toList.getD i 0]⟩ t)) (Nat.le_of_lt (small1000 hz)) ?_ ?_⟩
    · intro i c H2 R hc hR
      refine ⟨_, rfl, _, rfl, _, _, rfl, rfl, hR _ ?_⟩
      have : z.cps.toList.getD i 0 = c := by rw [List.getD_eq_getElem?_getD]; simp [hc]
      rw [this]
      rfl
    · exact ⟨D, (List.range z.cps.size).map fun i => hasS ⟨#[z.cps.toList.getD i 0]⟩ t, rfl, SqL.of (by rw [upd_same, List.map_map]; rfl), q _ _ rfl (same_upd hD)⟩
theorem sc_number_text : FnScope ["number"] ["number"] (defScope s_number_text) := ⟨rfl, rfl, rfl, by decide +kernel, rfl, by decide +kernel, by decide +kernel⟩
abbrev Ok_number_text (P : Program) (w : World) (K : PySem.W.Frag) (mg : Str → Option Value) (base : Heap) (A : Adr) : Prop := FnOk P w K mg base (CX1 P w base) 1 A.f_number_text A.d_number_text ["number"] (sp_nt A)
set_option maxHeartbeats 4000000 in
theorem ok_number_text (T : Txt K mg A)  : Ok_number_text P w K mg base A := by
  obtain ⟨t_TOO_GREAT, g_TOO_GREAT⟩ := T.u_TOO_GREAT
  refine T.F_number_text.okX sc_number_text (fun vs H Q E h => ?_) (fun cdv Ar outer s H vs Q E hr h => ?_)
  · obtain ⟨_, n, rfl, _⟩ := h
    rfl
  · obtain ⟨hp, n, rfl, h1, h2, q1, q2⟩ := h
    refine ⟨_, (pss_cons (ps_if (pt_cmpR op_ge (pe_callB call_abs rfl T.n_abs (by decide +kernel) (pa_cons (pv 0) pa_nil)) (pe_glob (v := .int (1000000000000000000000000000000)) rfl g_TOO_GREAT ⟨t_TOO_GREAT, rfl⟩) (nomark _)) (pss_one (ps_raise T.x_NoText wants_fn rfl rfl T.g_NoText (pa_cons pe_str pa_nil))) pss_nil)
      (pss_one (ps_ret (pe_callTy call_str_int rfl T.n_str (by decide +kernel) (pa_cons (pv 0) pa_nil))))), ?_⟩
    refine ⟨_, rfl, _, rfl, _, _, rfl, rfl, _, rfl, ite2d (fun h => ?_) (fun h => ?_)⟩
    · exact ⟨by decide, q2 (by split at h <;> omega)⟩
    · refine ⟨_, rfl, _, rfl, str40 h1 h2, q1 (by split at h <;> omega) (by split at h <;> omega)⟩
theorem sc_read_number : FnScope ["text", "figures"] ["text"] (defScope s_read_number) := ⟨rfl, rfl, rfl, by decide +kernel, rfl, by decide +kernel, by decide +kernel⟩
abbrev Ok_read_number (P : Program) (w : World) (K : PySem.W.Frag) (mg : Str → Option Value) (base : Heap) (A : Adr) : Prop := FnOk P w K mg base (CX1 P w base) 2 A.f_read_number A.d_read_number ["text"] (sp_rn A)
set_option maxHeartbeats 4000000 in
theorem ok_read_number (T : Txt K mg A) (G_made_of : Ok_made_of P w K mg base A) : Ok_read_number P w K mg base A := by
  have B_made_of := T.b_made_of
  obtain ⟨t_FIGURES, g_FIGURES⟩ := T.u_FIGURES
  obtain ⟨t_MOST_FIGURES, g_MOST_FIGURES⟩ := T.u_MOST_FIGURES
  refine T.F_read_number.okX sc_read_number (fun vs H Q E h => ?_) (fun cdv Ar outer s H vs Q E hr h => ?_)
  · obtain ⟨_, z, rfl, _⟩ := h
    rfl
  · obtain ⟨hp, z, rfl, hz, q1, q2⟩ := h
    refine ⟨_, (pss_cons (ps_set (i := 1) sc_read_number.nd rfl (Or.inl rfl) (pe_ifExp (pt_val (pe_bm PySem.F.plainAttrs_str PySem.F.slot_str_startswith PySem.F.type_str_startswith mt_startswith (pv 0) (pa_cons pe_str pa_nil))) (pe_slice sl_str (pv 0) (po_some pe_int) po_none) (pv 0)))
      (pss_cons (ps_if (PW.pt (pw_or (pt_cmpR op_eq (pv 1) pe_str (nomark _)) (pw_or (pt_cmpR op_gt (pe_callB call_len_str rfl T.n_len (by decide +kernel) (pa_cons (pv 1) pa_nil)) (pe_glob (v := .int (30)) rfl g_MOST_FIGURES ⟨t_MOST_FIGURES, rfl⟩) (nomark _)) (pw_or1 (pt_not (pt_val (pe_call G_made_of (hr.mono (by decide)) rfl T.g_made_of T.k_made_of B_made_of .nil pass1 (pa_cons (pv 1) (pa_cons (pe_glob (v := .str "0123456789") rfl g_FIGURES ⟨t_FIGURES, rfl⟩) pa_nil))))))))) (pss_one (ps_raise T.x_NoText wants_fn rfl rfl T.g_NoText (pa_cons pe_str pa_nil))) pss_nil)
      (pss_cons (ps_if (PW.pt (pw_and (pt_cmpR op_eq (pe_ix ix_str (pv 1) pe_int (fun _ _ => rfl)) pe_str (nomark _)) (pw_and1 (pt_cmpR op_ne (pv 0) pe_str (nomark _))))) (pss_one (ps_raise T.x_NoText wants_fn rfl rfl T.g_NoText (pa_cons pe_str pa_nil))) pss_nil)
      (pss_one (ps_ret (pe_callTy call_int_str rfl T.n_int (by decide +kernel) (pa_cons (pv 0) pa_nil))))))), ?_⟩
    have sz : z.length ≤ sizeLine := Nat.le_of_lt (small1000 (by omega))
    have hlz : z.cps.toList.length = z.length := Array.length_toList
    apply join (α := Str) (ok := fun y => y.cps.toList = (if z.cps.toList.head? = some 45 then z.cps.toList.tail else z.cps.toList))
    · intro R
      refine ⟨_, rfl, rfl, ⟨_, _, rfl, rfl, _, rfl, ?_⟩⟩
      rw [starts_dash]
      refine ite2d (fun h => ?_) (fun h => ?_)
      · refine ⟨_, rfl, _, rfl, _, rfl, sz, ?_⟩
        have e := slice_tail z
        generalize Txt.slice z (some 1) none = y at e ⊢
        exact R y (by rw [if_pos h, e])
      · refine ⟨_, rfl, ?_⟩
        exact R z (by rw [if_neg h])
    intro y hy
    have hly : y.cps.toList.length = y.length := Array.length_toList
    have hle : y.length ≤ z.length := by
      rw [← hly, ← hlz, hy]
      split
      · simp
      · exact Nat.le_refl _
    refine ⟨_, rfl, rfl, _, rfl, ite2d (fun h1 => iteT ?_) (fun h1 => ⟨_, rfl, _, rfl, Nat.le_trans hle sz, _, _, rfl, rfl, _, rfl, ite2d (fun h2 => iteT ?_) (fun h2 => ?_)⟩)⟩
    · refine ⟨by decide, q2 ?_⟩
      have e : y.cps.toList = [] := (str_eq_iff _ _).mp h1
      rw [e] at hy
      unfold readL
      split
      · rename_i hh
        rw [if_pos hh] at hy
        rw [← hy, if_pos (.inl (by decide))]
      · rename_i hh
        rw [if_neg hh] at hy
        rw [← hy, if_pos (.inl (by decide))]
    · refine ⟨by decide, q2 ?_⟩
      have h2' : 30 < y.cps.toList.length := by rw [hly]; omega
      unfold readL
      split
      · rename_i hh
        rw [if_pos hh] at hy
        rw [← hy, if_pos (.inr (.inl h2'))]
      · rename_i hh
        rw [if_neg hh] at hy
        rw [← hy, if_pos (.inr (.inl h2'))]
    refine ⟨_, rfl, hp, (y, DIG), ⟨rfl, by show y.length ≤ 1000; omega⟩, fun v hv => ⟨_, hv, ?_⟩⟩
    rw [made_dig]
    cases hd : y.cps.toList.all isDig with
    | false =>
      refine iteT ⟨by decide, q2 ?_⟩
      unfold readL
      split
      · rename_i hh
        rw [if_pos hh] at hy
        rw [← hy, if_pos (.inr (.inr (.inl hd)))]
      · rename_i hh
        rw [if_neg hh] at hy
        rw [← hy, if_pos (.inr (.inr (.inl hd)))]
    | true =>
      refine iteF ?_
      obtain ⟨c, cs, hc⟩ : ∃ c cs, y.cps.toList = c :: cs := by
        cases e : y.cps.toList with
        | nil => exact absurd ((str_eq_iff _ _).mpr e) h1
        | cons c cs => exact ⟨c, cs, rfl⟩
      have AD : AllDigits y.cps.toList := (allDig_iff _).mp hd
      have len30 : ¬ 30 < y.cps.toList.length := by rw [hly]; omega
      have c48 : (V.str ⟨#[c]⟩ = V.str "0") ↔ c = 48 := by
        rw [str_eq_iff]
        have : ("0" : Str).cps.toList = [48] := rfl
        rw [this]
        simp
      refine ⟨_, rfl, _, _, _, rfl, rfl, Nat.le_trans hle sz, head_item hc, rfl, _, rfl, ite2d (fun h3 => ⟨_, rfl, rfl, _, rfl, ite2n (fun h4 => ?_) (fun h4 => ?_)⟩) (fun h3 => ?_)⟩
      · refine ⟨by decide, q2 ?_⟩
        have hc48 := c48.mp h3
        subst hc48
        unfold readL
        split
        · rename_i hh
          rw [if_pos hh] at hy
          rw [← hy, if_pos (.inr (.inr (.inr (by rw [hc]; rfl))))]
        · rename_i hh
          rw [if_neg hh] at hy
          have l1 : 1 < y.cps.toList.length := by
            rw [hc]
            cases cs with
            | nil =>
              exfalso
              apply h4
              rw [str_eq_iff, ← hy, hc]
              rfl
            | cons _ _ => simp
          rw [← hy, if_pos (.inr (.inr (.inr ⟨by rw [hc]; rfl, l1⟩)))]
      · -- text is "0"
        have e0 : z.cps.toList = [48] := (str_eq_iff _ _).mp h4
        have AZ : AllDigits z.cps.toList := by rw [e0]; intro d hd'; simp at hd'; omega
        refine ⟨_, rfl, _, _, rfl, by omega, PySem.intText_digits AZ (by rw [e0]; simp) (by omega), q1 _ ?_⟩
        rw [e0]
        rfl
      · have c48' : c ≠ 48 := fun e => h3 (c48.mpr e)
        by_cases hh : z.cps.toList.head? = some 45
        · rw [if_pos hh] at hy
          obtain ⟨ds, hz45⟩ : ∃ ds, z.cps.toList = 45 :: ds := by
            cases e : z.cps.toList with
            | nil => rw [e] at hh; cases hh
            | cons a b => rw [e] at hh; simp at hh; exact ⟨b, by rw [hh]⟩
          have hyd : y.cps.toList = ds := by rw [hy, hz45]; rfl
          refine ⟨_, rfl, _, _, rfl, by omega, PySem.intText_neg hz45 (by rw [← hyd]; exact AD) (by rw [← hyd, hc]; simp) (by omega), q1 _ ?_⟩
          unfold readL
          rw [if_pos hh, ← hy, if_neg, hyd]
          rintro (z1 | z1 | z1 | z1)
          · rw [hc] at z1; simp at z1
          · exact len30 z1
          · rw [hd] at z1; cases z1
          · rw [hc] at z1; simp at z1; exact c48' z1
        · rw [if_neg hh] at hy
          refine ⟨_, rfl, _, _, rfl, by omega, PySem.intText_digits (by rw [← hy]; exact AD) (by rw [← hy, hc]; simp) (by omega), q1 _ ?_⟩
          unfold readL
          rw [if_neg hh, ← hy, if_neg]
          rintro (z1 | z1 | z1 | z1)
          · rw [hc] at z1; simp at z1
          · exact len30 z1
          · rw [hd] at z1; cases z1
          · rw [hc] at z1; simp at z1; exact c48' z1.1
theorem sc_dotted_text : FnScope ["numbers"] ["numbers"] (defScope s_dotted_text) := ⟨rfl, rfl, rfl, by decide +kernel, rfl, by decide +kernel, by decide +kernel⟩
abbrev Ok_dotted_text (P : Program) (w : World) (K : PySem.W.Frag) (mg : Str → Option Value) (base : Heap) (A : Adr) : Prop := FnOk P w K mg base (CX1 P w base) 2 A.f_dotted_text A.d_dotted_text ["numbers"] (sp_dt K A)
set_option maxHeartbeats 4000000 in
theorem ok_dotted_text (T : Txt K mg A) (G_number_text : Ok_number_text P w K mg base A) : Ok_dotted_text P w K mg base A := by
  have B_number_text := T.b_number_text
  refine T.F_dotted_text.okX sc_dotted_text (fun vs H Q E h => ?_) (fun cdv Ar outer s H vs Q E hr h => ?_)
  · obtain ⟨_, a, ⟨rfl, _⟩, _⟩ := h
    rfl
  · obtain ⟨hp, ⟨p, ns⟩, ⟨hv, hq, hl, hb⟩, q, qe⟩ := h
    obtain rfl : vs = [.ref p] := hv
    dsimp only at hq hl hb
    refine ⟨_, (pss_one (ps_ret (pe_bm PySem.F.plainAttrs_str PySem.F.slot_str_join PySem.F.type_str_join mt_join pe_str (pa_cons (pe_compX _ ["number"] 1 [] wants_fn ⟨⟨_, _, _, rfl, rfl, rfl⟩⟩ rfl (pi_tup (pv 0)) gk1 (fun _ _ _ _ _ => pg_name (i := 0) (show List.Nodup (["number"] : List Str) by decide +kernel) rfl (Or.inl rfl)) (fun _ _ _ _ _ => pif_nil) (fun _ _ _ _ _ hW => (pe_call G_number_text (hr.mono (by decide)) rfl T.g_number_text T.k_number_text B_number_text .nil (Wants.passes hW) (pa_cons (pv 0) pa_nil)))) pa_nil)))), ?_⟩
    refine ⟨rfl, _, rfl, p, rfl, ⟨_, hq⟩, fun D hD => comp_gen (n := (ns.map V.int).length) (fun i => (ns.map V.int).getD i .non) (fun i y _ => ∃ n, ns[i]? = some n ∧ B30 n ∧ y = .str (toString n)) hD hp ?_ (itt_ok hq) (fun _ _ _ _ h _ _ => h) ?_ ?_⟩
    · rw [List.length_map]; exact Nat.le_of_lt (small1000 (by omega))
    · intro i H2 R hi hP2 hs2 hR
      rw [List.length_map] at hi
      have hn : ns[i]? = some ns[i] := List.getElem?_eq_getElem hi
      have hm : ns[i] ∈ ns := List.getElem_mem hi
      have b := hb _ hm
      generalize ns[i] = n at hn hm b
      have ev : (ns.map V.int).getD i .non = .int n := by rw [List.getD_eq_getElem?_getD, List.getElem?_map, hn]; rfl
      rw [ev]
      exact ⟨_, rfl, hP2, n, rfl, b.1, b.2, fun a1 a2 => hR _ _ ⟨n, hn, ⟨a1, a2⟩, rfl⟩ (Same.refl _) hP2, fun hnb => qe _ _ ⟨rfl, n, hm, hnb⟩ hs2 hP2⟩
    · intro ys H2 hl2 hr2 hd2 hs2 hP2
      rw [List.length_map] at hl2
      have ey : ys = (ns.map fun n => Str.ofString (toString n)).map V.str := by
        rw [List.map_map]
        refine ys_map hl2 fun i y e => ?_
        obtain ⟨n, e1, _, e2⟩ := hr2 i y e
        exact ⟨n, e1, e2⟩
      have hb30 : ∀ n ∈ ns, B30 n := by
        intro n hn
        obtain ⟨i, hi, e⟩ := List.getElem_of_mem hn
        have : i < ys.length := by omega
        obtain ⟨n', e1, b, _⟩ := hr2 i ys[i] (List.getElem?_eq_getElem this)
        rw [List.getElem?_eq_getElem hi, e] at e1
        cases e1
        exact b
      refine ⟨_, D, ns.map fun n => Str.ofString (toString n), rfl, rfl, SqL.of (by rw [hd2, ey]), ?_, q _ _ ⟨hb30, rfl⟩ hs2 hP2⟩
      have h1 : ((ns.map fun n => Str.ofString (toString n)).map (·.length)).sum ≤ ns.length * 41 := sum_le fun n hn => len40 (hb n hn).1 (hb n hn).2
      rw [List.length_map]
      have : (Str.ofString ".").length = 1 := rfl
      rw [this]
      omega
theorem sc_read_dotted : FnScope ["text", "many", "parts"] ["text", "many"] (defScope s_read_dotted) := ⟨rfl, rfl, rfl, by decide +kernel, rfl, by decide +kernel, by decide +kernel⟩
abbrev Ok_read_dotted (P : Program) (w : World) (K : PySem.W.Frag) (mg : Str → Option Value) (base : Heap) (A : Adr) : Prop := FnOk P w K mg base (CX1 P w base) 3 A.f_read_dotted A.d_read_dotted ["text", "many"] (sp_rd A)
set_option maxHeartbeats 4000000 in
theorem ok_read_dotted (T : Txt K mg A) (G_read_number : Ok_read_number P w K mg base A) : Ok_read_dotted P w K mg base A := by
  have B_read_number := T.b_read_number
  refine T.F_read_dotted.okX sc_read_dotted (fun vs H Q E h => ?_) (fun cdv Ar outer s H vs Q E hr h => ?_)
  · obtain ⟨_, a, ⟨rfl, _⟩, _⟩ := h
    rfl
  · obtain ⟨hp, ⟨z, m⟩, ⟨hv, hz⟩, q, qe⟩ := h
    obtain rfl : vs = [.str z, .int m] := hv
    dsimp only at hz
    refine ⟨_, (pss_cons (ps_set (i := 2) sc_read_dotted.nd rfl (Or.inl rfl) (pe_bm PySem.F.plainAttrs_str PySem.F.slot_str_split PySem.F.type_str_split mt_split (pv 0) (pa_cons pe_str pa_nil)))
      (pss_cons (ps_if (pt_cmpR op_ne (pe_callB call_len_seq rfl T.n_len (by decide +kernel) (pa_cons (pv 2) pa_nil)) (pv 1) (nomark _)) (pss_one (ps_raise T.x_NoText wants_fn rfl rfl T.g_NoText (pa_cons pe_str pa_nil))) pss_nil)
      (pss_one (ps_ret (pe_compX _ ["part"] 1 [] wants_fn ⟨⟨_, _, _, rfl, rfl, rfl⟩⟩ rfl (pi_list (pv 2)) gk1 (fun _ _ _ _ _ => pg_name (i := 0) (show List.Nodup (["part"] : List Str) by decide +kernel) rfl (Or.inl rfl)) (fun _ _ _ _ _ => pif_nil) (fun _ _ _ _ _ hW => (pe_call G_read_number (hr.mono (by decide)) rfl T.g_read_number T.k_read_number B_read_number .nil (Wants.passes hW) (pa_cons (pv 0) pa_nil)))))))), ?_⟩
    refine ⟨_, rfl, rfl, z, _, rfl, rfl, by decide, by omega, fun l hl => ?_⟩
    have hlen := split_le z "."
    refine ⟨_, rfl, l, _, rfl, .inl (SqL.of upd_same), _, rfl, rfl, _, rfl, ite2n (fun hne => ?_) (fun heq => ?_)⟩
    · rw [List.length_map] at hne
      refine ⟨by decide, qe _ _ ⟨rfl, ?_⟩ (same_upd hl) hp.lst⟩
      show dotL z m = none
      unfold dotL
      rw [if_neg (fun e => hne (by rw [e]))]
    · rw [List.length_map] at heq
      have heq := V.int.inj heq
      refine ⟨_, rfl, l, rfl, ⟨_, SqL.of upd_same⟩, fun D hD => comp_gen (n := ((Txt.split z ".").map V.str).length) (fun i => ((Txt.split z ".").map V.str).getD i .non) (fun i y _ => ∃ n, y = .int n ∧ ∃ p, (Txt.split z ".")[i]? = some p ∧ readL p.cps.toList = some n) hD hp.lst ?_ (itl_ok (SqL.of upd_same)) (fun _ _ _ _ h _ _ => h) ?_ ?_⟩
      · rw [List.length_map]; exact Nat.le_of_lt (small1000 (by omega))
      · intro i H2 R hi hP2 hs2 hR
        rw [List.length_map] at hi
        have hn : (Txt.split z ".")[i]? = some (Txt.split z ".")[i] := List.getElem?_eq_getElem hi
        have hm : (Txt.split z ".")[i] ∈ Txt.split z "." := List.getElem_mem hi
        generalize (Txt.split z ".")[i] = p at hn hm
        have hpz := part_short hm
        have ev : ((Txt.split z ".").map V.str).getD i .non = .str p := by rw [List.getD_eq_getElem?_getD, List.getElem?_map, hn]; rfl
        rw [ev]
        refine ⟨_, rfl, hP2, p, rfl, by omega, fun n hn' => hR _ _ ⟨n, rfl, p, hn, hn'⟩ (Same.refl _) hP2, fun hnb => qe _ _ ⟨rfl, ?_⟩ ((same_upd hl).trans hs2) hP2⟩
        show dotL z m = none
        unfold dotL
        rw [if_pos heq]
        exact optMap_none hm hnb
      · intro ys H2 hl2 hr2 hd2 hs2 hP2
        rw [List.length_map] at hl2
        obtain ⟨ns, rfl, hns⟩ := ys_choose (f := V.int) (R := fun i n => ∃ p, (Txt.split z ".")[i]? = some p ∧ readL p.cps.toList = some n) hr2
        rw [List.length_map] at hl2
        refine q _ _ ⟨D, ns, rfl, hd2, ?_⟩ ((same_upd hl).trans hs2) hP2
        show dotL z m = some ns
        unfold dotL
        rw [if_pos heq]
        refine optMap_some hl2.symm fun i p hp => ?_
        have hi : i < ns.length := by rw [hl2]; exact (List.getElem?_eq_some_iff.mp hp).1
        obtain ⟨p', e1, e2⟩ := hns i ns[i] (List.getElem?_eq_getElem hi)
        rw [hp] at e1
        cases e1
        exact ⟨ns[i], List.getElem?_eq_getElem hi, e2⟩
theorem sc_check_maker : FnScope ["window", "count"] ["window", "count"] (defScope s_check_maker) := ⟨rfl, rfl, rfl, by decide +kernel, rfl, by decide +kernel, by decide +kernel⟩
abbrev Ok_check_maker (P : Program) (w : World) (K : PySem.W.Frag) (mg : Str → Option Value) (base : Heap) (A : Adr) : Prop := FnOk P w K mg base (CX1 P w base) 1 A.f_check_maker A.d_check_maker ["window", "count"] (sp_cm A)
set_option maxHeartbeats 4000000 in
theorem ok_check_maker (T : Txt K mg A)  : Ok_check_maker P w K mg base A := by
  refine T.F_check_maker.okX sc_check_maker (fun vs H Q E h => ?_) (fun cdv Ar outer s H vs Q E hr h => ?_)
  · obtain ⟨_, a, rfl, _⟩ := h
    rfl
  · obtain ⟨hp, ⟨m, n⟩, hv, q, qe⟩ := h
    obtain rfl : vs = [.int m, .int n] := hv
    dsimp only at q qe
    refine ⟨_, (pss_one (ps_if (PW.pt (pw_or (pt_cmpR op_lt (pv 0) pe_int (nomark _)) (pw_or1 (pt_cmpR op_lt (pv 1) pe_int (nomark _))))) (pss_one (ps_raise T.x_NoText wants_fn rfl rfl T.g_NoText (pa_cons pe_str pa_nil))) pss_nil)), ?_⟩
    refine ⟨_, rfl, _, _, rfl, rfl, _, rfl, ite2d (fun h1 => iteT ?_) (fun h1 => ⟨_, rfl, _, _, rfl, rfl, _, rfl, ite2d (fun h2 => ?_) (fun h2 => ?_)⟩)⟩
    · exact ⟨by decide, qe _ _ ⟨rfl, .inl h1⟩ (Same.refl _) hp⟩
    · exact ⟨by decide, qe _ _ ⟨rfl, .inr h2⟩ (Same.refl _) hp⟩
    · exact q _ _ ⟨by rintro (z | z) <;> contradiction, rfl⟩ (Same.refl _) hp
theorem sc_place_text : FnScope ["place"] ["place"] (defScope s_place_text) := ⟨rfl, rfl, rfl, by decide +kernel, rfl, by decide +kernel, by decide +kernel⟩
abbrev Ok_place_text (P : Program) (w : World) (K : PySem.W.Frag) (mg : Str → Option Value) (base : Heap) (A : Adr) : Prop := FnOk P w K mg base (CX1 P w base) 3 A.f_place_text A.d_place_text ["place"] (sp_pt K A)
set_option maxHeartbeats 4000000 in
theorem ok_place_text (T : Txt K mg A) (G_dotted_text : Ok_dotted_text P w K mg base A) : Ok_place_text P w K mg base A := by
  have B_dotted_text := T.b_dotted_text
  refine T.F_place_text.okX sc_place_text (fun vs H Q E h => ?_) (fun cdv Ar outer s H vs Q E hr h => ?_)
  · obtain ⟨_, a, ⟨rfl, _⟩, _⟩ := h
    rfl
  · obtain ⟨hp, ⟨p, ss⟩, ⟨hv, hd, hl, hb⟩, q, qe⟩ := h
    obtain rfl : vs = [.ref p] := hv
    dsimp only at hd hl hb
    obtain ⟨p2, xs, hpe, hq, hds⟩ := hd
    cases hpe
    have hxl : xs.length = ss.length := by rw [hds.length, List.length_map]
    refine ⟨_, (pss_one (ps_ret (pe_bm PySem.F.plainAttrs_str PySem.F.slot_str_join PySem.F.type_str_join mt_join pe_str (pa_cons (pe_compX _ ["step"] 1 [] wants_fn ⟨⟨_, _, _, rfl, rfl, rfl⟩⟩ rfl (pi_tup (pv 0)) gk1 (fun _ _ _ _ _ => pg_name (i := 0) (show List.Nodup (["step"] : List Str) by decide +kernel) rfl (Or.inl rfl)) (fun _ _ _ _ _ => pif_nil) (fun _ _ _ _ _ hW => (pe_call G_dotted_text (hr.mono (by decide)) rfl T.g_dotted_text T.k_dotted_text B_dotted_text .nil (Wants.passes hW) (pa_cons (pv 0) pa_nil)))) pa_nil)))), ?_⟩
    refine ⟨rfl, _, rfl, p, rfl, ⟨_, hq⟩, fun D hD => comp_gen (n := xs.length) (fun i => xs.getD i .non) (fun i y _ => ∃ s, ss[i]? = some s ∧ S30 s ∧ y = .str (dots (sL s))) hD hp ?_ (itt_ok hq) (fun _ _ _ _ h _ _ => h) ?_ ?_⟩
    · exact Nat.le_of_lt (small1000 (by omega))
    · intro i H2 R hi hP2 hs2 hR
      have hi' : i < ss.length := by omega
      obtain ⟨t, ht, hq2⟩ := plc_get hds hi'
      have hn : ss[i]? = some ss[i] := List.getElem?_eq_getElem hi'
      have hm : ss[i] ∈ ss := List.getElem_mem hi'
      generalize ss[i] = s at hn hm hq2
      have ev : xs.getD i .non = .ref t := by rw [List.getD_eq_getElem?_getD, ht]; rfl
      rw [ev]
      refine ⟨_, rfl, hP2, (t, sL s), ⟨rfl, hs2.seqT hq2, by show 3 ≤ 10; decide, sL_mem (hb s hm)⟩, fun v H6 hv hs6 hp6 => hR _ _ ⟨s, hn, sL_all hv.1, hv.2⟩ hs6 hp6, fun C H6 hC hs6 hp6 => qe _ _ ⟨hC.1, s, hm, fun h30 => ?_⟩ (hs2.trans hs6) hp6⟩
      obtain ⟨n, hn1, hn2⟩ := hC.2
      exact hn2 (sL_mem h30 n hn1)
    · intro ys H2 hl2 hr2 hd2 hs2 hP2
      have ey : ys = (ss.map fun s => dots (sL s)).map V.str := by
        rw [List.map_map]
        refine ys_map (by omega) fun i y e => ?_
        obtain ⟨s, e1, _, e2⟩ := hr2 i y e
        exact ⟨s, e1, e2⟩
      have hb30 : ∀ s ∈ ss, S30 s := by
        intro s hs
        obtain ⟨i, hi, e⟩ := List.getElem_of_mem hs
        have : i < ys.length := by omega
        obtain ⟨s', e1, b, _⟩ := hr2 i ys[i] (List.getElem?_eq_getElem this)
        rw [List.getElem?_eq_getElem hi, e] at e1
        cases e1
        exact b
      refine ⟨_, D, ss.map fun s => dots (sL s), rfl, rfl, SqL.of (by rw [hd2, ey]), ?_, q _ _ ⟨hb30, rfl⟩ hs2 hP2⟩
      have h1 : ((ss.map fun s => dots (sL s)).map (·.length)).sum ≤ ss.length * 125 := sum_le fun s hs => dots_len (hb s hs)
      rw [List.length_map]
      have : (Str.ofString "/").length = 1 := rfl
      rw [this]
      omega
theorem sc_read_step : FnScope ["text", "rank", "window", "count"] ["text"] (defScope s_read_step) := ⟨rfl, rfl, rfl, by decide +kernel, rfl, by decide +kernel, by decide +kernel⟩
abbrev Ok_read_step (P : Program) (w : World) (K : PySem.W.Frag) (mg : Str → Option Value) (base : Heap) (A : Adr) : Prop := FnOk P w K mg base (CX1 P w base) 4 A.f_read_step A.d_read_step ["text"] (sp_rs A)
set_option maxHeartbeats 4000000 in
theorem ok_read_step (T : Txt K mg A) (G_read_dotted : Ok_read_dotted P w K mg base A) (G_check_maker : Ok_check_maker P w K mg base A) : Ok_read_step P w K mg base A := by
  have B_read_dotted := T.b_read_dotted
  have B_check_maker := T.b_check_maker
  refine T.F_read_step.okX sc_read_step (fun vs H Q E h => ?_) (fun cdv Ar outer s H vs Q E hr h => ?_)
  · obtain ⟨_, a, ⟨rfl, _⟩, _⟩ := h
    rfl
  · obtain ⟨hp, z, ⟨rfl, hz⟩, q, qe⟩ := h
    refine ⟨_, (pss_cons (ps_asg (pe_call G_read_dotted (hr.mono (by decide)) rfl T.g_read_dotted T.k_read_dotted B_read_dotted .nil (Wants.passes wants_fn) (pa_cons (pv 0) (pa_cons pe_int pa_nil))) (pg_lst rfl (pgs_cons (pg_name (i := 1) sc_read_step.nd rfl (Or.inl rfl)) (pgs_cons (pg_name (i := 2) sc_read_step.nd rfl (Or.inl rfl)) (pgs_cons (pg_name (i := 3) sc_read_step.nd rfl (Or.inl rfl)) pgs_nil)))))
      (pss_cons (ps_expr (pe_call G_check_maker (hr.mono (by decide)) rfl T.g_check_maker T.k_check_maker B_check_maker .nil (Wants.passes wants_fn) (pa_cons (pv 2) (pa_cons (pv 3) pa_nil))))
      (pss_one (ps_ret (pe_tup (pa_cons (pv 1) (pa_cons (pv 2) (pa_cons (pv 3) pa_nil)))))))), ?_⟩
    refine ⟨_, rfl, hp, (z, 3), ⟨rfl, hz⟩, fun v H1 hv hs1 hp1 => ?_, fun C H1 hC hs1 hp1 => qe _ _ ⟨hC.1, ?_⟩ hs1 hp1⟩
    · obtain ⟨l, ns, rfl, hl, hd⟩ := hv
      dsimp only at hd
      obtain ⟨r, a, b, rfl⟩ := three_of hd
      refine ⟨l, _, rfl, SqL.of hl, rfl, _, _, rfl, _, _, rfl, _, _, rfl, rfl, ?_⟩
      refine ⟨_, rfl, _, rfl, hp1, (a, b), rfl, fun v H2 hv hs2 hp2 => ?_, fun C H2 hC hs2 hp2 => qe _ _ ⟨hC.1, ?_⟩ (hs1.trans hs2) hp2⟩
      · obtain ⟨hno, rfl⟩ := hv
        dsimp only at hno
        refine ⟨_, rfl, _, rfl, _, rfl, by show 3 ≤ sizeLine; decide, fun t ht => q _ _ ⟨t, (r, a, b), rfl, upd_same, ?_⟩ ((hs1.trans hs2).upd ((hs1.trans hs2).free ht)) hp2.tup⟩
        unfold stepL
        rw [hd]
        exact if_neg hno
      · have h2 := hC.2
        dsimp only at h2
        unfold stepL
        rw [hd]
        exact if_pos h2
    · have hd : dotL z 3 = none := hC.2
      unfold stepL
      rw [hd]
theorem sc_read_place : FnScope ["text"] ["text"] (defScope s_read_place) := ⟨rfl, rfl, rfl, by decide +kernel, rfl, by decide +kernel, by decide +kernel⟩
abbrev Ok_read_place (P : Program) (w : World) (K : PySem.W.Frag) (mg : Str → Option Value) (base : Heap) (A : Adr) : Prop := FnOk P w K mg base (CX1 P w base) 5 A.f_read_place A.d_read_place ["text"] (sp_rp K A)
set_option maxHeartbeats 4000000 in
theorem ok_read_place (T : Txt K mg A) (G_read_step : Ok_read_step P w K mg base A) : Ok_read_place P w K mg base A := by
  have B_read_step := T.b_read_step
  refine T.F_read_place.okX sc_read_place (fun vs H Q E h => ?_) (fun cdv Ar outer s H vs Q E hr h => ?_)
  · obtain ⟨_, a, ⟨rfl, _⟩, _⟩ := h
    rfl
  · obtain ⟨hp, z, ⟨rfl, hz⟩, q, qe⟩ := h
    refine ⟨_, (pss_one (ps_ret (pe_callTy call_tuple_of rfl T.n_tuple (by decide +kernel) (pa_cons (pe_compX _ ["part"] 1 [] wants_fn ⟨⟨_, _, _, rfl, rfl, rfl⟩⟩ rfl (pi_list (pe_bm PySem.F.plainAttrs_str PySem.F.slot_str_split PySem.F.type_str_split mt_split (pv 0) (pa_cons pe_str pa_nil))) gk1 (fun _ _ _ _ _ => pg_name (i := 0) (show List.Nodup (["part"] : List Str) by decide +kernel) rfl (Or.inl rfl)) (fun _ _ _ _ _ => pif_nil) (fun _ _ _ _ _ hW => (pe_call G_read_step (hr.mono (by decide)) rfl T.g_read_step T.k_read_step B_read_step .nil (Wants.passes hW) (pa_cons (pv 0) pa_nil)))) pa_nil)))), ?_⟩
    refine ⟨_, rfl, rfl, z, _, rfl, rfl, by decide, by omega, fun l hl => ?_⟩
    have hlen := split_le z "/"
    refine ⟨l, rfl, ⟨_, SqL.of upd_same⟩, fun D hD => comp_gen (n := ((Txt.split z "/").map V.str).length) (fun i => ((Txt.split z "/").map V.str).getD i .non) (fun i y H => ∃ s, DV K H (stp s) y ∧ ∃ p, (Txt.split z "/")[i]? = some p ∧ stepL p = some s) hD hp.lst ?_ (itl_ok (SqL.of upd_same)) ?_ ?_ ?_⟩
    · rw [List.length_map]; exact Nat.le_of_lt (small1000 (by omega))
    · rintro i y H1 H2 ⟨s, hd, r⟩ k hz
      exact ⟨s, DV.mono k hz _ _ (noL_stp s) hd, r⟩
    · intro i H2 R hi hP2 hs2 hR
      rw [List.length_map] at hi
      have hn : (Txt.split z "/")[i]? = some (Txt.split z "/")[i] := List.getElem?_eq_getElem hi
      have hm : (Txt.split z "/")[i] ∈ Txt.split z "/" := List.getElem_mem hi
      generalize (Txt.split z "/")[i] = p at hn hm
      have hpz := part_short hm
      have ev : ((Txt.split z "/").map V.str).getD i .non = .str p := by rw [List.getD_eq_getElem?_getD, List.getElem?_map, hn]; rfl
      rw [ev]
      refine ⟨_, rfl, hP2, p, ⟨rfl, by omega⟩, fun v H6 hv hs6 hp6 => ?_, fun C H6 hC hs6 hp6 => qe _ _ ⟨hC.1, optMap_none hm hC.2⟩ (((same_upd hl).trans hs2).trans hs6) hp6⟩
      obtain ⟨t, s, rfl, ht, hs⟩ := hv
      exact hR _ _ ⟨s, stp_mk (SqT.of ht), p, hn, hs⟩ hs6 hp6
    · intro ys H2 hl2 hr2 hd2 hs2 hP2
      rw [List.length_map] at hl2
      obtain ⟨ss, hss, hdv, hr⟩ := dv_choose (R := fun i s => ∃ p, (Txt.split z "/")[i]? = some p ∧ stepL p = some s) hr2
      refine ⟨D, ys, rfl, .inl ⟨SqL.of hd2, fun t ht => q _ _ ⟨ss, ⟨t, ys, rfl, SqT.of upd_same, DVs.same (same_upd ht) _ _ hdv⟩, ?_⟩ (((same_upd hl).trans hs2).upd (((same_upd hl).trans hs2).free ht)) hP2.tup⟩⟩
      unfold placeL
      refine optMap_some (by omega) fun i p hp => ?_
      have hi : i < ss.length := by
        have := (List.getElem?_eq_some_iff.mp hp).1
        omega
      obtain ⟨p', e1, e2⟩ := hr i ss[i] (List.getElem?_eq_getElem hi)
      rw [hp] at e1
      cases e1
      exact ⟨ss[i], List.getElem?_eq_getElem hi, e2⟩
theorem sc_out_version : FnScope ["beat"] ["beat"] (defScope s_out_version) := ⟨rfl, rfl, rfl, by decide +kernel, rfl, by decide +kernel, by decide +kernel⟩
abbrev Ok_out_version (P : Program) (w : World) (K : PySem.W.Frag) (mg : Str → Option Value) (base : Heap) (A : Adr) : Prop := FnOk P w K mg base (CX1 P w base) 1 A.f_out_version A.d_out_version ["beat"] (sp_out K)
set_option maxHeartbeats 4000000 in
theorem ok_out_version (T : Txt K mg A)  : Ok_out_version P w K mg base A := by
  refine T.F_out_version.okN sc_out_version (fun vs H Q E h => ?_) (fun cdv Ar outer s H vs Q E hr h => ?_)
  · obtain ⟨_, a, rfl, _⟩ := h
    rfl
  · obtain ⟨hp, b, rfl, q, _⟩ := h
    refine ⟨_, (pss_one (ps_ret (pe_tup (pa_cons (pv 0) (pa_cons (pe_tup pa_nil) (pa_cons pe_str pa_nil)))))), ?_⟩
    refine ⟨_, rfl, by show 0 ≤ sizeLine; decide, fun te hp1 => ?_⟩
    generalize hH1 : upd H te (HO.tup _) = H1
    have s1 : Same H H1 := hH1 ▸ same_upd hp1
    have P1 : Plain H1 := hH1 ▸ hp.tup
    have h1 := (congrFun hH1 te).symm.trans upd_same
    refine ⟨by show 3 ≤ sizeLine; decide, fun t hp2 => ?_⟩
    generalize hH2 : upd H1 t (HO.tup _) = H2
    have s2 : Same H1 H2 := hH2 ▸ same_upd hp2
    have P2 : Plain H2 := hH2 ▸ P1.tup
    have h2 := (congrFun hH2 t).symm.trans upd_same
    exact q _ _ (ver_mk (v := (b, [], "")) (SqT.of h2) (DV.same s2 _ _ (empty_dv h1))) (s1.trans s2) P2
theorem sc_is_in : FnScope ["version"] ["version"] (defScope s_is_in) := ⟨rfl, rfl, rfl, by decide +kernel, rfl, by decide +kernel, by decide +kernel⟩
abbrev Ok_is_in (P : Program) (w : World) (K : PySem.W.Frag) (mg : Str → Option Value) (base : Heap) (A : Adr) : Prop := FnOk P w K mg base (CX1 P w base) 1 A.f_is_in A.d_is_in ["version"] (sp_in K)
set_option maxHeartbeats 4000000 in
theorem ok_is_in (T : Txt K mg A)  : Ok_is_in P w K mg base A := by
  refine T.F_is_in.okN sc_is_in (fun vs H Q E h => ?_) (fun cdv Ar outer s H vs Q E hr h => ?_)
  · obtain ⟨_, a, ⟨x, rfl, _⟩, _⟩ := h
    rfl
  · obtain ⟨hp, v, ⟨x, hv, hx⟩, q, _⟩ := h
    obtain rfl : vs = [x] := hv
    obtain ⟨t, pa, rfl, hq, hd⟩ := ver_of hx
    refine ⟨_, (pss_one (ps_ret (pe_cmpR (op_neD hr.units) (pe_ix ix_tup (pv 0) pe_int (fun _ _ => rfl)) (pe_tup pa_nil) (nomark _)))), ?_⟩
    refine ⟨_, rfl, _, _, _, _, rfl, rfl, hq, rfl, by show 0 ≤ sizeLine; decide, fun te hp1 => ?_⟩
    generalize hH1 : upd H te (HO.tup _) = H1
    have s1 : Same H H1 := hH1 ▸ same_upd hp1
    have P1 : Plain H1 := hH1 ▸ hp.tup
    have h1 := (congrFun hH1 te).symm.trans upd_same
    refine ⟨plc v.2.1, plc [], DV.same s1 _ _ hd, empty_dv h1, plc_shaped _, plc_shaped _, q _ _ ?_ s1 P1⟩
    rw [plc_eqv]
theorem sc_version_text : FnScope ["version", "beat", "place", "words"] ["version"] (defScope s_version_text) := ⟨rfl, rfl, rfl, by decide +kernel, rfl, by decide +kernel, by decide +kernel⟩
abbrev Ok_version_text (P : Program) (w : World) (K : PySem.W.Frag) (mg : Str → Option Value) (base : Heap) (A : Adr) : Prop := FnOk P w K mg base (CX1 P w base) 4 A.f_version_text A.d_version_text ["version"] (sp_vt K A)
set_option maxHeartbeats 4000000 in
theorem ok_version_text (T : Txt K mg A) (G_number_text : Ok_number_text P w K mg base A) (G_place_text : Ok_place_text P w K mg base A) (G_is_in : Ok_is_in P w K mg base A) : Ok_version_text P w K mg base A := by
  have B_number_text := T.b_number_text
  have B_place_text := T.b_place_text
  have B_is_in := T.b_is_in
  obtain ⟨t_OUT, g_OUT⟩ := T.u_OUT
  refine T.F_version_text.okX sc_version_text (fun vs H Q E h => ?_) (fun cdv Ar outer s H vs Q E hr h => ?_)
  · obtain ⟨_, a, ⟨x, rfl, _⟩, _⟩ := h
    rfl
  · obtain ⟨hp, v, ⟨x, hv, hx, hg⟩, q, qe⟩ := h
    obtain rfl : vs = [x] := hv
    obtain ⟨t, pa, rfl, hq, hd⟩ := ver_of hx
    obtain ⟨g1, g2, g3, g4⟩ := hg
    refine ⟨_, (pss_cons (ps_asg (pv 0) (pg_tup rfl (pgs_cons (pg_name (i := 1) sc_version_text.nd rfl (Or.inl rfl)) (pgs_cons (pg_name (i := 2) sc_version_text.nd rfl (Or.inl rfl)) (pgs_cons (pg_name (i := 3) sc_version_text.nd rfl (Or.inl rfl)) pgs_nil)))))
      (pss_cons (ps_if (pt_not (pt_val (pe_call G_is_in (hr.mono (by decide)) rfl T.g_is_in T.k_is_in B_is_in .nil pass1 (pa_cons (pv 0) pa_nil)))) (pss_one (ps_ret (pe_fstr (pj_val (pe_call G_number_text (hr.mono (by decide)) rfl T.g_number_text T.k_number_text B_number_text .nil (Wants.passes wants_fn) (pa_cons (pv 1) pa_nil)) (pj_lit (pj_val (pe_glob (v := .str "-") rfl g_OUT ⟨t_OUT, rfl⟩) pj_nil)))))) pss_nil)
      (pss_one (ps_ret (pe_fstr (pj_val (pe_call G_number_text (hr.mono (by decide)) rfl T.g_number_text T.k_number_text B_number_text .nil (Wants.passes wants_fn) (pa_cons (pv 1) pa_nil)) (pj_lit (pj_val (pe_call G_place_text (hr.mono (by decide)) rfl T.g_place_text T.k_place_text B_place_text .nil (Wants.passes wants_fn) (pa_cons (pv 2) pa_nil)) (pj_lit (pj_val (pv 3) pj_nil)))))))))), ?_⟩
    have l40 := len40 g1.1 g1.2
    have n1 : (Str.ofString " ").length = 1 := rfl
    have n2 : (Str.ofString "-").length = 1 := rfl
    have n0 : Str.empty.length = 0 := rfl
    refine ⟨_, rfl, t, _, rfl, hq, rfl, _, _, rfl, _, _, rfl, _, _, rfl, rfl, ?_⟩
    refine ⟨_, rfl, hp, v, ⟨_, rfl, hx⟩, fun r H1 hr s1 P1 => ⟨_, hr, ?_⟩, fun _ _ h => h.elim⟩
    have hd1 := DV.same s1 _ _ hd
    by_cases ho : v.2.1 = []
    · rw [decide_eq_true ho]
      refine iteT ⟨_, rfl, P1, v.1, rfl, g1.1, g1.2, fun a1 a2 => ?_, fun hn => qe _ _ ⟨rfl, fun h => hn ⟨h.1.1, h.1.2⟩⟩ s1 P1⟩
      refine ⟨_, rfl, Nat.le_of_lt (small1000 (by omega)), Nat.le_of_lt (small1000 (by rw [len_add]; omega)), Nat.le_of_lt (small1000 (by rw [len_add, len_add]; omega)), _, rfl, by decide, Nat.le_of_lt (small1000 (by rw [len_add, len_add, len_add]; omega)), Nat.le_of_lt (small1000 (by rw [len_add, len_add, len_add]; omega)), q _ _ ⟨⟨⟨a1, a2⟩, by rw [ho]; intro s hs; cases hs⟩, ?_⟩ s1 P1⟩
      unfold verTxt
      rw [if_pos ho, empty_add, add_assoc']
      rfl
    · rw [decide_eq_false ho]
      obtain ⟨p, xs, rfl, hpq, hds⟩ := id hd1
      refine iteF ⟨_, rfl, P1, v.1, rfl, g1.1, g1.2, fun a1 a2 => ?_, fun hn => qe _ _ ⟨rfl, fun h => hn ⟨h.1.1, h.1.2⟩⟩ s1 P1⟩
      refine ⟨_, rfl, Nat.le_of_lt (small1000 (by omega)), Nat.le_of_lt (small1000 (by rw [len_add]; omega)), Nat.le_of_lt (small1000 (by rw [len_add, len_add]; omega)), _, rfl, P1, (p, v.2.1), ⟨rfl, hd1, by show v.2.1.length ≤ 10; omega, g3⟩, fun r H2 hr s2 P2 => ?_, fun C H2 hC s2 P2 => qe _ _ ⟨hC.1, fun h => ?_⟩ (s1.trans s2) P2⟩
      · obtain ⟨b30, rfl⟩ := hr
        have sl : (slash v.2.1).length ≤ 800 := by
          have h1 := join_len "/" (v.2.1.map fun s => dots (sL s))
          have h2 : ((v.2.1.map fun s => dots (sL s)).map (·.length)).sum ≤ v.2.1.length * 125 := sum_le fun s hs => dots_len (g3 s hs)
          have h3 : (Str.ofString "/").length = 1 := rfl
          rw [h3, List.length_map] at h1
          unfold slash
          omega
        refine ⟨_, rfl, Nat.le_of_lt (small1000 (by show (slash v.2.1).length ≤ 1000; omega)), Nat.le_of_lt (small1000 (by rw [len_add, len_add, len_add]; show _ + (slash v.2.1).length ≤ 1000; omega)), Nat.le_of_lt (small1000 (by rw [len_add, len_add, len_add, len_add]; show _ + (slash v.2.1).length + _ ≤ 1000; omega)), _, rfl, _, rfl, Nat.le_of_lt (small1000 (by omega)), Nat.le_of_lt (small1000 (by rw [len_add, len_add, len_add, len_add, len_add]; show _ + (slash v.2.1).length + _ + _ ≤ 1000; omega)), Nat.le_of_lt (small1000 (by rw [len_add, len_add, len_add, len_add, len_add]; show _ + (slash v.2.1).length + _ + _ ≤ 1000; omega)), q _ _ ⟨⟨⟨a1, a2⟩, b30⟩, ?_⟩ (s1.trans s2) P2⟩
        unfold verTxt
        rw [if_neg ho, empty_add]
      · obtain ⟨s, hs, hn⟩ := hC.2
        exact hn (h.2 s hs)
theorem sc_read_from : FnScope ["least", "text", "number"] ["least", "text"] (defScope s_read_from) := ⟨rfl, rfl, rfl, by decide +kernel, rfl, by decide +kernel, by decide +kernel⟩
abbrev Ok_read_from (P : Program) (w : World) (K : PySem.W.Frag) (mg : Str → Option Value) (base : Heap) (A : Adr) : Prop := FnOk P w K mg base (CX1 P w base) 3 A.f_read_from A.d_read_from ["least", "text"] (sp_rb A)
set_option maxHeartbeats 4000000 in
theorem ok_read_from (T : Txt K mg A) (G_read_number : Ok_read_number P w K mg base A) : Ok_read_from P w K mg base A := by
  have B_read_number := T.b_read_number
  refine T.F_read_from.okX sc_read_from (fun vs H Q E h => ?_) (fun cdv Ar outer s H vs Q E hr h => ?_)
  · obtain ⟨_, a, ⟨rfl, _⟩, _⟩ := h
    rfl
  · obtain ⟨hp, z, ⟨rfl, hz⟩, q, qe⟩ := h
    refine ⟨_, (pss_cons (ps_set (i := 2) sc_read_from.nd rfl (Or.inl rfl) (pe_call G_read_number (hr.mono (by decide)) rfl T.g_read_number T.k_read_number B_read_number .nil (Wants.passes wants_fn) (pa_cons (pv 1) pa_nil)))
      (pss_cons (ps_if (pt_cmpR op_lt (pv 2) (pv 0) (nomark _)) (pss_one (ps_raise T.x_NoText wants_fn rfl rfl T.g_NoText (pa_cons pe_str pa_nil))) pss_nil)
      (pss_one (ps_ret (pv 2))))), ?_⟩
    refine ⟨_, rfl, hp, z, rfl, hz, fun n hn => ?_, fun hn => qe _ _ ⟨rfl, ?_⟩ (Same.refl _) hp⟩
    · refine ⟨_, rfl, _, rfl, _, _, rfl, rfl, _, rfl, ite2d (fun h1 => ?_) (fun h1 => ?_)⟩
      · refine ⟨by show 1 ≤ sizeLine; decide, qe _ _ ⟨rfl, ?_⟩ (Same.refl _) hp⟩
        unfold leastL
        rw [hn]
        exact if_pos h1
      · refine ⟨_, rfl, q _ _ ⟨n, rfl, ?_⟩ (Same.refl _) hp⟩
        unfold leastL
        rw [hn]
        exact if_neg h1
    · unfold leastL
      rw [hn]
theorem sc_read_version : FnScope ["text", "beat_text", "blank", "rest", "beat", "where", "words", "place"] ["text"] (defScope s_read_version) := ⟨rfl, rfl, rfl, by decide +kernel, rfl, by decide +kernel, by decide +kernel⟩
abbrev Ok_read_version (P : Program) (w : World) (K : PySem.W.Frag) (mg : Str → Option Value) (base : Heap) (A : Adr) : Prop := FnOk P w K mg base (CX1 P w base) 6 A.f_read_version A.d_read_version ["text"] (sp_rv K A)
set_option maxHeartbeats 4000000 in
theorem ok_read_version (T : Txt K mg A) (G_is_words : Ok_is_words P w K mg base A) (G_read_place : Ok_read_place P w K mg base A) (G_out_version : Ok_out_version P w K mg base A) (G_read_from : Ok_read_from P w K mg base A) : Ok_read_version P w K mg base A := by
  have B_is_words := T.b_is_words
  have B_read_place := T.b_read_place
  have B_out_version := T.b_out_version
  have B_read_from := T.b_read_from
  obtain ⟨t_OUT, g_OUT⟩ := T.u_OUT
  refine T.F_read_version.okX sc_read_version (fun vs H Q E h => ?_) (fun cdv Ar outer s H vs Q E hr h => ?_)
  · obtain ⟨_, a, ⟨rfl, _⟩, _⟩ := h
    rfl
  · obtain ⟨hp, z, ⟨rfl, hz⟩, q, qe⟩ := h
    refine ⟨_, (pss_cons (ps_asg (pe_bm PySem.F.plainAttrs_str PySem.F.slot_str_partition PySem.F.type_str_partition mt_partition (pv 0) (pa_cons pe_str pa_nil)) (pg_tup rfl (pgs_cons (pg_name (i := 1) sc_read_version.nd rfl (Or.inl rfl)) (pgs_cons (pg_name (i := 2) sc_read_version.nd rfl (Or.inl rfl)) (pgs_cons (pg_name (i := 3) sc_read_version.nd rfl (Or.inl rfl)) pgs_nil)))))
      (pss_cons (ps_set (i := 4) sc_read_version.nd rfl (Or.inl rfl) (pe_call G_read_from (hr.mono (by decide)) rfl T.g_read_from T.k_read_from B_read_from .nil (Wants.passes wants_fn) (pa_cons pe_int (pa_cons (pv 1) pa_nil))))
      (pss_cons (ps_if (pt_cmpR op_eq (pv 3) (pe_glob (v := .str "-") rfl g_OUT ⟨t_OUT, rfl⟩) (nomark _)) (pss_one (ps_ret (pe_call G_out_version (hr.mono (by decide)) rfl T.g_out_version T.k_out_version B_out_version .nil pass1 (pa_cons (pv 4) pa_nil)))) pss_nil)
      (pss_cons (ps_asg (pe_bm PySem.F.plainAttrs_str PySem.F.slot_str_partition PySem.F.type_str_partition mt_partition (pv 3) (pa_cons pe_str pa_nil)) (pg_tup rfl (pgs_cons (pg_name (i := 5) sc_read_version.nd rfl (Or.inl rfl)) (pgs_cons (pg_name (i := 2) sc_read_version.nd rfl (Or.inl rfl)) (pgs_cons (pg_name (i := 6) sc_read_version.nd rfl (Or.inl rfl)) pgs_nil)))))
      (pss_cons (ps_set (i := 7) sc_read_version.nd rfl (Or.inl rfl) (pe_call G_read_place (hr.mono (by decide)) rfl T.g_read_place T.k_read_place B_read_place .nil (Wants.passes wants_fn) (pa_cons (pv 5) pa_nil)))
      (pss_cons (ps_if (PW.pt (pw_or (pt_cmpR op_eq (pv 2) pe_str (nomark _)) (pw_or1 (pt_not (pt_val (pe_call G_is_words (hr.mono (by decide)) rfl T.g_is_words T.k_is_words B_is_words .nil pass1 (pa_cons (pv 6) pa_nil))))))) (pss_one (ps_raise T.x_NoText wants_fn rfl rfl T.g_NoText (pa_cons pe_str pa_nil))) pss_nil)
      (pss_one (ps_ret (pe_tup (pa_cons (pv 4) (pa_cons (pv 7) (pa_cons (pv 6) pa_nil)))))))))))), ?_⟩
    have f1 := fact_partition z " "
    have vn := verL_none (z := z)
    have vo := fun b => verL_out (z := z) (b := b)
    have vi := fun b => verL_in (z := z) (b := b)
    refine ⟨_, rfl, rfl, z, _, rfl, rfl, by decide, by omega, fun t1 hp1 => ?_⟩
    generalize Txt.partition z " " = pt at f1 vn vo vi ⊢
    obtain ⟨a, bl, r⟩ := pt
    dsimp only at f1 vn vo vi ⊢
    generalize hH1 : upd H t1 (HO.tup _) = H1
    have s1 : Same H H1 := hH1 ▸ same_upd hp1
    have P1 : Plain H1 := hH1 ▸ hp.tup
    have h1 := (congrFun hH1 t1).symm.trans upd_same
    refine ⟨t1, _, rfl, SqT.of h1, rfl, _, _, rfl, _, _, rfl, _, _, rfl, rfl, ?_⟩
    refine ⟨_, rfl, P1, a, ⟨rfl, by omega⟩, fun v H2 hv s2 P2 => ?_, fun C H2 hC s2 P2 => qe _ _ ⟨hC.1, vn hC.2⟩ (s1.trans s2) P2⟩
    obtain ⟨b, rfl, hb⟩ := hv
    have S2 := s1.trans s2
    refine ⟨_, rfl, rfl, _, rfl, ite2d (fun he => ?_) (fun he => ?_)⟩
    · refine ⟨_, rfl, P2, b, rfl, fun v H3 hv s3 P3 => q _ _ ⟨_, hv, vo b hb (V.str.inj he)⟩ (S2.trans s3) P3, fun _ _ h => h.elim⟩
    have vi := vi b hb (fun e => he (by rw [e]))
    have f2 := fact_partition r " "
    unfold tailL at vi
    refine ⟨_, rfl, rfl, r, _, rfl, rfl, by decide, by omega, fun t3 hp3 => ?_⟩
    generalize Txt.partition r " " = pt at f2 vi ⊢
    obtain ⟨p, bl2, w⟩ := pt
    dsimp only at f2 vi ⊢
    generalize hH3 : upd H2 t3 (HO.tup _) = H3
    have s3 : Same H2 H3 := hH3 ▸ same_upd hp3
    have P3 : Plain H3 := hH3 ▸ P2.tup
    have h3 := (congrFun hH3 t3).symm.trans upd_same
    have S3 := S2.trans s3
    refine ⟨t3, _, rfl, SqT.of h3, rfl, _, _, rfl, _, _, rfl, _, _, rfl, rfl, ?_⟩
    refine ⟨_, rfl, P3, p, ⟨rfl, by omega⟩, fun v H4 hv s4 P4 => ?_, fun C H4 hC s4 P4 => qe _ _ ⟨hC.1, by rw [vi, hC.2]⟩ (S3.trans s4) P4⟩
    obtain ⟨ss, hd, hpl⟩ := hv
    rw [hpl] at vi
    dsimp only at vi
    have S4 := S3.trans s4
    have no : (bl2 = "" ∨ wordsB w = false) → ∀ H5, Same H4 H5 → Plain H5 → E (.ref A.NoText) none H5 := fun h H5 s5 P5 => qe _ _ ⟨rfl, by rw [vi]; exact if_pos h⟩ (S4.trans s5) P5
    refine ⟨_, rfl, rfl, _, rfl, ite2d (fun h1 => iteT ?_) (fun h1 => ?_)⟩
    · exact ⟨by show 1 ≤ sizeLine; decide, no (.inl (V.str.inj h1)) _ (Same.refl _) P4⟩
    refine ⟨_, rfl, P4, w, rfl, fun v hv => ⟨_, hv, ?_⟩⟩
    cases hw : wordsB w with
    | false => exact iteT ⟨by show 1 ≤ sizeLine; decide, no (.inr hw) _ (Same.refl _) P4⟩
    | true =>
      refine iteF ⟨_, rfl, _, rfl, _, rfl, by show 3 ≤ sizeLine; decide, fun t5 hp5 => ?_⟩
      generalize hH5 : upd H4 t5 (HO.tup _) = H5
      have s5 : Same H4 H5 := hH5 ▸ same_upd hp5
      have P5 : Plain H5 := hH5 ▸ P4.tup
      have h5 := (congrFun hH5 t5).symm.trans upd_same
      refine q _ _ ⟨(b, ss, w), ver_mk (v := (b, ss, w)) (SqT.of h5) (DV.same s5 _ _ hd), ?_⟩ (S4.trans s5) P5
      rw [vi]
      exact if_neg fun h => h.elim (fun e => h1 (by rw [e])) fun e => by rw [hw] at e; cases e
theorem sc__law_digits : FnScope ["_law_cell", "_law_place", "_law_found", "_law_seed", "_law_k"] ["_law_cell", "_law_place"] (defScope s__law_digits) := ⟨rfl, rfl, rfl, by decide +kernel, rfl, by decide +kernel, by decide +kernel⟩
abbrev Ok__law_digits (P : Program) (w : World) (K : PySem.W.Frag) (mg : Str → Option Value) (base : Heap) (A : Adr) : Prop := FnOk P w K mg base (CX1 P w base) 1 A.f__law_digits A.d__law_digits ["_law_cell", "_law_place"] sp_digits
set_option maxHeartbeats 4000000 in
theorem ok__law_digits (T : Txt K mg A)  : Ok__law_digits P w K mg base A := by
  refine new_digits (T.F__law_digits.okN sc__law_digits (fun vs H Q E h => ?_) (fun cdv Ar outer s H vs Q E hr h => ?_))
  · obtain ⟨_, a, rfl, _⟩ := h
    rfl
  · obtain ⟨hp, ⟨c, p⟩, rfl, q⟩ := h
    refine ⟨_, (pss_cons (ps_set (i := 2) sc__law_digits.nd rfl (Or.inl rfl) (pe_lst pa_nil))
      (pss_cons (ps_if (pt_chain op_lt op_lt (pe_op op_sub pe_int pe_int) (pv 0) pe_int) (pss_cons (ps_set (i := 3) sc__law_digits.nd rfl (Or.inl rfl) (pe_op op_add (pe_op op_mul (pe_op op_add (pe_op op_mod (pv 0) pe_int) pe_int) pe_int) (pe_op op_mul (pe_op op_add (pe_op op_mod (pv 1) pe_int) pe_int) pe_int)))
      (pss_cons (ps_for PassesOwn.never rfl (pi_range1 rfl T.n_range (pa_cons pe_int pa_nil)) (pg_name (i := 4) sc__law_digits.nd rfl (Or.inl rfl)) (pss_cons (ps_set (i := 3) sc__law_digits.nd rfl (Or.inl rfl) (pe_op op_mod (pe_op op_mul (pv 3) pe_int) pe_int))
      (pss_one (ps_expr (pe_bm PySem.F.plainAttrs_list PySem.F.slot_list_append PySem.F.type_list_append mt_append (pv 2) (pa_cons (pe_op op_mod (pe_op op_fdiv (pv 3) pe_int) pe_int) pa_nil))))))
      (pss_one (ps_ret (pv 2))))) pss_nil)
      (pss_cons (ps_set (i := 3) sc__law_digits.nd rfl (Or.inl rfl) (pe_op op_mod (pv 0) (pe_op op_pow pe_int pe_int)))
      (pss_cons (ps_for PassesOwn.never rfl (pi_range1 rfl T.n_range (pa_cons pe_int pa_nil)) (pg_name (i := 4) sc__law_digits.nd rfl (Or.inl rfl)) (pss_cons (ps_expr (pe_bm PySem.F.plainAttrs_list PySem.F.slot_list_append PySem.F.type_list_append mt_append (pv 2) (pa_cons (pe_op op_mod (pv 3) pe_int) pa_nil)))
      (pss_one (ps_set (i := 3) sc__law_digits.nd rfl (Or.inl rfl) (pe_op op_fdiv (pv 3) pe_int)))))
      (pss_one (ps_ret (pv 2))))))), ?_⟩
    -- found = []
    refine ⟨Nat.zero_le _, fun l hl => ?_⟩
    -- 0 - 10000 < cell < 10000
    refine ⟨_, _, rfl, rfl, _, rfl, _, _, rfl, rfl, _, rfl, ?_⟩
    refine ite2d (fun h1 => ⟨_, _, rfl, rfl, _, rfl, ite2d (fun h2 => ?a) (fun h2 => ?b1)⟩) (fun h1 => ⟨_, rfl, iteF ?b2⟩)
    case a =>
      walk_at "rd"
      refine ⟨by decide, by decide, for_range (n := 8) (fun i σ H2 => ∃ (seed : Int) (ds : List Int) (k : Option V), σ = [some (.int c), some (.int p), some (.ref l), some (.int seed), k] ∧ H2 = upd H l (.lst (ds.map V.int)) ∧ ds.length = i ∧ ∀ d ∈ ds, Dig d)
        ⟨_, [], _, rfl, rfl, rfl, fun _ z => nomatch z⟩ ?_ ?_⟩
      · rintro i σ H2 hi ⟨seed, ds, k, rfl, rfl, hlen, hd⟩
        walk_at "rd"
        refine ⟨.inl ⟨rfl, _, SqL.of upd_same⟩, ?_⟩
        walk_at "rd"
        refine ⟨l, _, _, rfl, rfl, upd_same, small1000 (by rw [List.length_map]; omega), ?_⟩
        refine ⟨_, ds ++ [_], _, rfl, by rw [upd_upd, List.map_append]; rfl, by simp [hlen], fun d hd' => ?_⟩
        rcases List.mem_append.mp hd' with z | z
        · exact hd d z
        · rw [List.mem_singleton.mp z]; exact dig_mod _
      · rintro σ H2 ⟨seed, ds, k, rfl, rfl, hlen, hd⟩
        refine ⟨_, rfl, ?_⟩
        exact q l _ _ hl upd_same (eight hlen hd) (same_upd hl)
    case b1 | b2 =>
      walk_at "rd"
      refine ⟨by decide, by decide, for_range (n := 8) (fun i σ H2 => ∃ (seed : Int) (ds : List Int) (k : Option V), σ = [some (.int c), some (.int p), some (.ref l), some (.int seed), k] ∧ H2 = upd H l (.lst (ds.map V.int)) ∧ ds.length = i ∧ ∀ d ∈ ds, Dig d)
        ⟨_, [], _, rfl, rfl, rfl, fun _ z => nomatch z⟩ ?_ ?_⟩
      · rintro i σ H2 hi ⟨seed, ds, k, rfl, rfl, hlen, hd⟩
        walk_at "rd"
        refine ⟨.inl ⟨rfl, _, SqL.of upd_same⟩, ?_⟩
        walk_at "rd"
        refine ⟨l, _, _, rfl, rfl, upd_same, small1000 (by rw [List.length_map]; omega), ?_⟩
        walk_at "rd"
        refine ⟨_, ds ++ [_], _, rfl, by rw [upd_upd, List.map_append]; rfl, by simp [hlen], fun d hd' => ?_⟩
        rcases List.mem_append.mp hd' with z | z
        · exact hd d z
        · rw [List.mem_singleton.mp z]; exact dig_mod _
      · rintro σ H2 ⟨seed, ds, k, rfl, rfl, hlen, hd⟩
        refine ⟨_, rfl, ?_⟩
        exact q l _ _ hl upd_same (eight hlen hd) (same_upd hl)
theorem sc__law_signs : FnScope ["_law_small"] [] (defScope s__law_signs) := ⟨rfl, rfl, rfl, by decide +kernel, rfl, by decide +kernel, by decide +kernel⟩
abbrev Ok__law_signs (P : Program) (w : World) (K : PySem.W.Frag) (mg : Str → Option Value) (base : Heap) (A : Adr) : Prop := FnOk P w K mg base (CX1 P w base) 1 A.f__law_signs A.d__law_signs [] sp_signs
set_option maxHeartbeats 4000000 in
theorem ok__law_signs (T : Txt K mg A)  : Ok__law_signs P w K mg base A := by
  refine FnOk.pure (T.F__law_signs.okN sc__law_signs (fun vs H Q E h => ?_) (fun cdv Ar outer s H vs Q E hr h => ?_))
  · obtain ⟨_, a, rfl, _⟩ := h
    rfl
  · obtain ⟨hp, _, rfl, q⟩ := h
    refine ⟨_, (pss_cons (ps_set (i := 0) sc__law_signs.nd rfl (Or.inl rfl) pe_str)
      (pss_one (ps_ret (pe_op op_add_str (pe_op op_add_str (pe_op op_add_str (pe_op op_add_str pe_str (pe_bm0 PySem.F.plainAttrs_str PySem.F.slot_str_upper PySem.F.type_str_upper mt_upper (pv 0))) pe_str) (pv 0)) pe_str)))), ?_⟩
    refine ⟨_, rfl, rfl, ⟨_, rfl, rfl, by decide +kernel, ?_⟩⟩
    refine ⟨_, _, rfl, rfl, by decide +kernel, _, _, rfl, rfl, by decide +kernel, ?_⟩
    refine ⟨_, rfl, _, _, rfl, rfl, by decide +kernel, _, _, rfl, rfl, by decide +kernel, ?_⟩
    exact q _ _ rfl (Same.refl _)
theorem sc__law_words : FnScope ["_law_one", "_law_other", "_law_signs_here"] ["_law_one", "_law_other"] (defScope s__law_words) := ⟨rfl, rfl, rfl, by decide +kernel, rfl, by decide +kernel, by decide +kernel⟩
abbrev Ok__law_words (P : Program) (w : World) (K : PySem.W.Frag) (mg : Str → Option Value) (base : Heap) (A : Adr) : Prop := FnOk P w K mg base (CX1 P w base) 2 A.f__law_words A.d__law_words ["_law_one", "_law_other"] sp_words
set_option maxHeartbeats 4000000 in
theorem ok__law_words (T : Txt K mg A) (G__law_signs : Ok__law_signs P w K mg base A) : Ok__law_words P w K mg base A := by
  have B__law_signs := T.b__law_signs
  refine FnOk.pure (T.F__law_words.okN sc__law_words (fun vs H Q E h => ?_) (fun cdv Ar outer s H vs Q E hr h => ?_))
  · obtain ⟨_, a, rfl, _⟩ := h
    rfl
  · obtain ⟨hp, ⟨one, other⟩, rfl, q⟩ := h
    refine ⟨_, (pss_cons (ps_set (i := 2) sc__law_words.nd rfl (Or.inr rfl) (pe_call0 G__law_signs (hr.mono (by decide)) rfl T.g__law_signs T.k__law_signs B__law_signs .nil pass1))
      (pss_one (ps_ret (pe_bm PySem.F.plainAttrs_str PySem.F.slot_str_join PySem.F.type_str_join mt_join pe_str (pa_cons (pe_comp ["_law_k", "_law_one", "_law_other", "_law_signs_here"] 1 [0, 1, 2] rfl (pi_range1 rfl T.n_range (pa_cons (pe_op op_mod (pv 1) pe_int) pa_nil)) gk1 (fun _ _ _ _ _ => pg_name (i := 0) (show List.Nodup (["_law_k", "_law_one", "_law_other", "_law_signs_here"] : List Str) by decide +kernel) rfl (Or.inl rfl)) (fun _ _ _ _ _ => pif_nil) (fun _ _ _ _ _ => (pe_ix ix_str (pv 3) (pe_op op_mod (pe_op op_add (pv 1) (pe_op op_mul (pv 0) (pe_op op_add (pe_op op_fdiv (pv 2) pe_int) pe_int))) pe_int) (fun _ _ => rfl)))) pa_nil))))), ?_⟩
    refine ⟨hp, (), rfl, fun v hv => ?_⟩
    subst hv
    refine ⟨rfl, ?_⟩
    walk_at "rd"
    have h7 := Int.emod_nonneg other (show (7 : Int) ≠ 0 by decide)
    have h8 := Int.emod_lt_of_pos other (show (0 : Int) < 7 by decide)
    have hk : (other % 7).toNat ≤ 1000 := by omega
    refine ⟨by omega, by omega, fun D hD => comp_range (fun k => .str ⟨#[SIGNS.cps.toList.getD ((one + (0 + (k : Int)) * (other / 7 + 1)) % 94).toNat 0]⟩) (Nat.le_of_lt (small1000 hk)) ?_ ?_⟩
    · intro i H2 R hi hR
      walk_at "rd"
      refine ⟨Or.inl ⟨by omega, by omega⟩, ?_⟩
      walk_at "rd"
      refine ⟨_, _, _, rfl, rfl, by decide +kernel, atI_in (Int.emod_nonneg _ (by decide)) ?_, hR _ rfl⟩
      have e : SIGNS.cps.toList.length = 94 := by have := signs_len; simpa [Str.length] using this
      rw [e]
      exact Int.emod_lt_of_pos _ (by decide)
    · refine ⟨_, D, (List.range (other % 7).toNat).map fun (k : Nat) => ⟨#[SIGNS.cps.toList.getD ((one + (0 + (k : Int)) * (other / 7 + 1)) % 94).toNat 0]⟩, rfl, rfl, SqL.of (by rw [upd_same, List.map_map]; rfl), ?_, ?_⟩
      · rw [sum_ones fun _ => rfl]
        show (other % 7).toNat + _ * 0 ≤ 16777216
        omega
      · refine q _ _ ⟨_, rfl, ?_, ?_⟩ (same_upd hD)
        · have := len_join0 ((List.range (other % 7).toNat).map fun (k : Nat) => (⟨#[SIGNS.cps.toList.getD ((one + (0 + (k : Int)) * (other / 7 + 1)) % 94).toNat 0]⟩ : Str))
          rw [sum_ones fun _ => rfl] at this
          have e : (⟨#[]⟩ : Str) = "" := rfl
          rw [e] at this
          omega
        · refine all_join (by decide +kernel) fun p hp => ?_
          obtain ⟨k, _, rfl⟩ := List.mem_map.mp hp
          have := signs_ok ((one + (0 + (k : Int)) * (other / 7 + 1)) % 94).toNat
          simpa using this
theorem sc__law_version : FnScope ["_law_some", "_law_beat", "_law_steps", "_law_k", "_law_words_here"] ["_law_some"] (defScope s__law_version) := ⟨rfl, rfl, rfl, by decide +kernel, rfl, by decide +kernel, by decide +kernel⟩
abbrev Ok__law_version (P : Program) (w : World) (K : PySem.W.Frag) (mg : Str → Option Value) (base : Heap) (A : Adr) : Prop := FnOk P w K mg base (CX1 P w base) 3 A.f__law_version A.d__law_version ["_law_some"] (sp_ver K)
set_option maxHeartbeats 4000000 in
theorem ok__law_version (T : Txt K mg A) (G__law_words : Ok__law_words P w K mg base A) : Ok__law_version P w K mg base A := by
  have B__law_words := T.b__law_words
  refine T.F__law_version.okN sc__law_version (fun vs H Q E h => ?_) (fun cdv Ar outer s H vs Q E hr h => ?_)
  · obtain ⟨_, a, ⟨rfl, _⟩, _⟩ := h
    rfl
  · obtain ⟨hp, l, ⟨rfl, hd⟩, q, _⟩ := h
    obtain ⟨d0, d1, d2, d3, d4, d5, d6, d7, hl, e0, e1, e2, e3, e4, e5, e6, e7⟩ := hd
    refine ⟨_, (pss_cons (ps_set (i := 1) sc__law_version.nd rfl (Or.inl rfl) (pe_ix ix_list (pe_lst (pa_cons pe_int (pa_cons (pe_op op_add pe_int (pe_op op_mod (pe_ix ix_list (pv 0) pe_int (fun _ _ => rfl)) pe_int)) (pa_cons (pe_op op_add pe_int (pe_ix ix_list (pv 0) pe_int (fun _ _ => rfl))) (pa_cons (pe_op op_sub (pe_op op_pow pe_int pe_int) pe_int) (pa_cons (pe_op op_add (pe_op op_pow pe_int pe_int) (pe_ix ix_list (pv 0) pe_int (fun _ _ => rfl))) pa_nil)))))) (pe_op op_mod (pe_ix ix_list (pv 0) pe_int (fun _ _ => rfl)) pe_int) (fun _ _ => rfl)))
      (pss_cons (ps_if (pt_cmpR op_eq (pe_op op_mod (pe_ix ix_list (pv 0) pe_int (fun _ _ => rfl)) pe_int) pe_int (nomark _)) (pss_one (ps_ret (pe_tup (pa_cons (pv 1) (pa_cons (pe_tup pa_nil) (pa_cons pe_str pa_nil)))))) pss_nil)
      (pss_cons (ps_set (i := 2) sc__law_version.nd rfl (Or.inl rfl) (pe_lst pa_nil))
      (pss_cons (ps_for PassesOwn.never rfl (pi_range1 rfl T.n_range (pa_cons (pe_op op_add pe_int (pe_op op_mod (pe_ix ix_list (pv 0) pe_int (fun _ _ => rfl)) pe_int)) pa_nil)) (pg_name (i := 3) sc__law_version.nd rfl (Or.inl rfl)) (pss_one (ps_expr (pe_bm PySem.F.plainAttrs_list PySem.F.slot_list_append PySem.F.type_list_append mt_append (pv 2) (pa_cons (pe_tup (pa_cons (pe_op op_sub (pe_op op_sub (pe_op op_mod (pe_ix ix_list (pv 0) pe_int (fun _ _ => rfl)) pe_int) pe_int) (pe_op op_mul (pv 3) (pe_op op_pow pe_int pe_int))) (pa_cons (pe_op op_mod (pe_ix ix_list (pv 0) pe_int (fun _ _ => rfl)) pe_int) (pa_cons (pe_op op_add pe_int (pe_op op_mod (pe_op op_add (pe_ix ix_list (pv 0) pe_int (fun _ _ => rfl)) (pv 3)) pe_int)) pa_nil)))) pa_nil)))))
      (pss_cons (ps_set (i := 4) sc__law_version.nd rfl (Or.inl rfl) (pe_call G__law_words (hr.mono (by decide)) rfl T.g__law_words T.k__law_words B__law_words .nil pass1 (pa_cons (pe_ix ix_list (pv 0) pe_int (fun _ _ => rfl)) (pa_cons (pe_ix ix_list (pv 0) pe_int (fun _ _ => rfl)) pa_nil))))
      (pss_cons (ps_if (pt_cmpR op_eq (pe_op op_mod (pe_ix ix_list (pv 0) pe_int (fun _ _ => rfl)) pe_int) pe_int (nomark _)) (pss_one (ps_set (i := 4) sc__law_version.nd rfl (Or.inl rfl) (pe_ix ix_list (pe_lst (pa_cons pe_str (pa_cons pe_str (pa_cons pe_str (pa_cons pe_str (pa_cons pe_str (pa_cons pe_str pa_nil))))))) (pe_op op_mod (pe_ix ix_list (pv 0) pe_int (fun _ _ => rfl)) pe_int) (fun _ _ => rfl)))) pss_nil)
      (pss_one (ps_ret (pe_tup (pa_cons (pv 1) (pa_cons (pe_callTy call_tuple_of rfl T.n_tuple (by decide +kernel) (pa_cons (pv 2) pa_nil)) (pa_cons (pv 4) pa_nil)))))))))))), ?_⟩
    unfold Dig at *
    have e30 : (10 : Int) ^ Int.toNat 30 = 10 ^ 30 := rfl
    have e20 : (10 : Int) ^ Int.toNat 20 = 10 ^ 20 := rfl
    have x0 := Int.emod_nonneg (d1) (show (5 : Int) ≠ 0 by decide)
    have x1 := Int.emod_lt_of_pos (d1) (show (0 : Int) < 5 by decide)
    have y0 := Int.emod_nonneg (d0) (show (9 : Int) ≠ 0 by decide)
    have y1 := Int.emod_lt_of_pos (d0) (show (0 : Int) < 9 by decide)
    have u0 := Int.emod_nonneg (d3) (show (3 : Int) ≠ 0 by decide)
    have u1 := Int.emod_lt_of_pos (d3) (show (0 : Int) < 3 by decide)
    have w0 := Int.emod_nonneg (d6) (show (6 : Int) ≠ 0 by decide)
    have w1 := Int.emod_lt_of_pos (d6) (show (0 : Int) < 6 by decide)
    refine ⟨_, rfl, _, _, _, _, rfl, rfl, SqL.of hl, rfl, _, _, rfl, rfl, (by show (0 : Int) < 9; decide), _, _, rfl, rfl, _, rfl, _, _, _, _, rfl, rfl, SqL.of hl, rfl, _, _, rfl, rfl, _, _, rfl, rfl, ⟨by decide, by decide, by decide⟩, _, _, rfl, rfl, _, _, rfl, rfl, ⟨by decide, by decide, by decide⟩, _, rfl, _, _, _, _, rfl, rfl, SqL.of hl, rfl, _, _, rfl, rfl, by show 5 ≤ sizeLine; decide, fun p1 hp1 => ?_⟩
    generalize hH1 : upd H p1 (HO.lst _) = H1
    have s1 : Same H H1 := hH1 ▸ same_upd hp1
    have P1 : Plain H1 := hH1 ▸ hp.lst
    have h1 := (congrFun hH1 p1).symm.trans upd_same
    have hl1 := s1 _ _ hl
    refine ⟨_, rfl, _, _, _, _, rfl, rfl, SqL.of hl1, rfl, _, _, rfl, rfl, (by show (0 : Int) < 5; decide), ix_any h1 x0 x1 fun v hv => ?_⟩
    obtain ⟨b, rfl, bb⟩ : ∃ r : Int, v = .int r ∧ B30 r := by
      simp only [List.mem_cons, List.not_mem_nil, or_false] at hv
      rcases hv with e | e | e | e | e <;> refine ⟨_, e, ?_, ?_⟩ <;> (try rw [e20]) <;> (try rw [e30]) <;> omega
    refine ⟨_, rfl, _, _, _, _, rfl, rfl, SqL.of hl1, rfl, _, _, rfl, rfl, (by show (0 : Int) < 5; decide), rfl, _, rfl, ite2d (fun _ => ?_) (fun _ => ?_)⟩
    · refine ⟨_, rfl, by show 0 ≤ sizeLine; decide, fun te hp2 => ?_⟩
      generalize hH2 : upd H1 te (HO.tup _) = H2
      have s2 : Same H1 H2 := hH2 ▸ same_upd hp2
      have P2 : Plain H2 := hH2 ▸ P1.tup
      have h2 := (congrFun hH2 te).symm.trans upd_same
      refine ⟨by show 3 ≤ sizeLine; decide, fun t hp3 => ?_⟩
      generalize hH3 : upd H2 t (HO.tup _) = H3
      have s3 : Same H2 H3 := hH3 ▸ same_upd hp3
      have P3 : Plain H3 := hH3 ▸ P2.tup
      have h3 := (congrFun hH3 t).symm.trans upd_same
      exact q _ _ ⟨(b, [], ""), ver_mk (v := (b, [], "")) (SqT.of h3) (DV.same s3 _ _ (empty_dv h2)), bb, by show 0 ≤ 3; decide, (fun s hs => by cases hs), by show 0 ≤ 6; decide, ok_lit ""⟩ ((s1.trans s2).trans s3) P3
    refine ⟨Nat.zero_le _, fun st hp4 => ?_⟩
    have S4 : Same H1 (upd H1 st (.lst [])) := same_upd hp4
    refine ⟨_, rfl, _, _, _, _, rfl, rfl, SqL.of (S4 _ _ hl1), rfl, _, _, rfl, rfl, (by show (0 : Int) < 3; decide), _, _, rfl, rfl, _, rfl, by omega, by omega, for_range (lo := 0) (n := (1 + d3 % 3).toNat) (fun i σ H2 => ∃ (k o : Option V) (xs : List V) (ss : List Stp), σ = [some (.ref l), some (.int b), some (.ref st), k, o] ∧ Plain H2 ∧ Same H1 H2 ∧ H2 st = some (.lst xs) ∧ DVs K H2 (ss.map stp) xs ∧ ss.length = i ∧ ∀ s ∈ ss, S25 s)
      ⟨_, _, [], [], rfl, P1.lst, S4, upd_same, rfl, rfl, fun _ z => nomatch z⟩ ?_ ?_⟩
    · rintro i σ H2 hi ⟨k, o, xs, ss, rfl, hP2, hs2, hst, hds, hi2, h25⟩
      have hl2 := hs2 _ _ hl1
      have hxl : xs.length = i := by rw [hds.length, List.length_map]; exact hi2
      refine ⟨_, rfl, .inl ⟨rfl, _, SqL.of hst⟩, _, rfl, _, _, _, _, rfl, rfl, SqL.of hl2, rfl, _, _, rfl, rfl, (by show (0 : Int) < 5; decide), _, _, rfl, rfl, _, rfl, _, _, rfl, rfl, ⟨by decide, by decide, by decide⟩, _, _, rfl, rfl, Or.inl ⟨by omega, by omega⟩, _, _, rfl, rfl, _, rfl, _, _, _, _, rfl, rfl, SqL.of hl2, rfl, _, _, rfl, rfl, (by show (0 : Int) < 4; decide), _, rfl, _, _, _, _, rfl, rfl, SqL.of hl2, rfl, _, rfl, _, _, rfl, rfl, _, _, rfl, rfl, (by show (0 : Int) < 20; decide), _, _, rfl, rfl, by show 3 ≤ sizeLine; decide, fun t hp5 => ?_⟩
      have y1 := Int.emod_nonneg d4 (show (5 : Int) ≠ 0 by decide)
      have y2 := Int.emod_lt_of_pos d4 (show (0 : Int) < 5 by decide)
      have y3 := Int.emod_nonneg d5 (show (4 : Int) ≠ 0 by decide)
      have y4 := Int.emod_lt_of_pos d5 (show (0 : Int) < 4 by decide)
      have y5 := Int.emod_nonneg (d6 + (0 + ((i : Nat) : Int))) (show (20 : Int) ≠ 0 by decide)
      have y6 := Int.emod_lt_of_pos (d6 + (0 + ((i : Nat) : Int))) (show (0 : Int) < 20 by decide)
      dsimp only
      rw [e20]
      have hnew : S25 (d4 % 5 - 2 - (0 + ((i : Nat) : Int)) * 10 ^ 20, d5 % 4, 1 + (d6 + (0 + ((i : Nat) : Int))) % 20) := by
        unfold S25
        dsimp only
        have : i ≤ 2 := by omega
        refine ⟨?_, ?_, ?_⟩ <;> omega
      generalize d4 % 5 - 2 - (0 + ((i : Nat) : Int)) * 10 ^ 20 = r1 at hnew ⊢
      generalize d5 % 4 = r2 at hnew ⊢
      generalize 1 + (d6 + (0 + ((i : Nat) : Int))) % 20 = r3 at hnew ⊢
      generalize hH5 : upd H2 t (HO.tup _) = H5
      have s5 : Same H2 H5 := hH5 ▸ same_upd hp5
      have P5 : Plain H5 := hH5 ▸ hP2.tup
      have h5 := (congrFun hH5 t).symm.trans upd_same
      have hst5 := s5 _ _ hst
      refine ⟨st, _, _, rfl, rfl, hst5, small1000 (by omega), ?_⟩
      refine ⟨_, _, xs ++ [.ref t], ss ++ [(r1, r2, r3)], rfl, P5.lst, ?_, upd_same, ?_, by simp [hi2], ?_⟩
      · exact fun b' o' e => by rw [upd_ne (ne_of_none e hp4)]; exact s5 _ _ (hs2 b' o' e)
      · rw [List.map_append]
        refine DVs.mono (D := st) (fun b' o' hb' e => by rw [upd_ne hb']; exact e) ⟨_, hst5⟩ _ _ (by rw [← List.map_singleton, ← List.map_append]; exact noLs_stp _) ?_
        exact (DVs.same s5 _ _ hds).append ⟨_, _, rfl, stp_mk (SqT.of h5), rfl⟩
      · intro s hs
        rcases List.mem_append.mp hs with hs | hs
        · exact h25 s hs
        · rw [List.mem_singleton.mp hs]; exact hnew
    · rintro σ H2 ⟨k, o, xs, ss, rfl, hP2, hs2, hst, hds, hi2, h25⟩
      have hl2 := hs2 _ _ hl1
      refine ⟨_, rfl, _, _, _, _, rfl, rfl, SqL.of hl2, rfl, _, rfl, _, _, _, _, rfl, rfl, SqL.of hl2, rfl, hP2, (d6, d7), rfl, fun v hv => ?_⟩
      obtain ⟨z0, rfl, hz0, hok0⟩ := hv
      apply join2 (α := Str) (β := Hp) (ok := fun z Hz => Same H2 Hz ∧ Plain Hz ∧ z.length ≤ 6 ∧ PyData.strOk z = true)
      · intro R
        refine ⟨_, rfl, _, _, _, _, rfl, rfl, SqL.of hl2, rfl, _, _, rfl, rfl, (by show (0 : Int) < 6; decide), rfl, _, rfl, ite2d (fun _ => ?_) (fun _ => ?_)⟩
        · refine ⟨by show 6 ≤ sizeLine; decide, fun p6 hp6 => ?_⟩
          generalize hH6 : upd H2 p6 (HO.lst _) = H6
          have s6 : Same H2 H6 := hH6 ▸ same_upd hp6
          have P6 : Plain H6 := hH6 ▸ hP2.lst
          have h6 := (congrFun hH6 p6).symm.trans upd_same
          have hl6 := s6 _ _ hl2
          refine ⟨_, rfl, _, _, _, _, rfl, rfl, SqL.of hl6, rfl, _, _, rfl, rfl, (by show (0 : Int) < 6; decide), ix_any h6 w0 w1 fun v hv => ?_⟩
          obtain ⟨u, rfl, u1, u2⟩ : ∃ u : Str, v = .str u ∧ u.length ≤ 6 ∧ PyData.strOk u = true := by
            simp only [List.mem_cons, List.not_mem_nil, or_false] at hv
            rcases hv with e | e | e | e | e | e <;> exact ⟨_, e, by decide, ok_lit _⟩
          exact R u H6 ⟨s6, P6, u1, u2⟩
        · obtain ⟨zz, hzz⟩ : ∃ zz, zz = z0 := ⟨_, rfl⟩
          obtain ⟨Hz, hHz⟩ : ∃ Hz, Hz = H2 := ⟨_, rfl⟩
          rw [← hzz, ← hHz]
          exact R zz Hz ⟨by rw [hHz]; exact Same.refl _, by rw [hHz]; exact hP2, by rw [hzz]; exact hz0, by rw [hzz]; exact hok0⟩
      rintro z HZ ⟨sZ, PZ, hz6, hzo⟩
      refine ⟨_, rfl, _, rfl, st, xs, rfl, .inl ⟨SqL.of (sZ _ _ hst), fun t hp7 => ?_⟩⟩
      generalize hH7 : upd HZ t (HO.tup _) = H7
      have s7 : Same HZ H7 := hH7 ▸ same_upd hp7
      have P7 : Plain H7 := hH7 ▸ PZ.tup
      have h7 := (congrFun hH7 t).symm.trans upd_same
      have hpl : DV K H7 (plc ss) (.ref t) := ⟨t, xs, rfl, SqT.of h7, DVs.same (sZ.trans s7) _ _ hds⟩
      refine ⟨_, rfl, by show 3 ≤ sizeLine; decide, fun t2 hp8 => ?_⟩
      generalize hH8 : upd H7 t2 (HO.tup _) = H8
      have s8 : Same H7 H8 := hH8 ▸ same_upd hp8
      have P8 : Plain H8 := hH8 ▸ P7.tup
      have h8 := (congrFun hH8 t2).symm.trans upd_same
      exact q _ _ ⟨(b, ss, z), ver_mk (v := (b, ss, z)) (SqT.of h8) (DV.same s8 _ _ hpl), bb, by show ss.length ≤ 3; omega, h25, hz6, hzo⟩ ((((s1.trans hs2).trans sZ).trans s7).trans s8) P8
theorem sc__law_bent : FnScope ["_law_text", "_law_some", "_law_odd", "_law_sign", "_law_at", "_law_way"] ["_law_text", "_law_some"] (defScope s__law_bent) := ⟨rfl, rfl, rfl, by decide +kernel, rfl, by decide +kernel, by decide +kernel⟩
abbrev Ok__law_bent (P : Program) (w : World) (K : PySem.W.Frag) (mg : Str → Option Value) (base : Heap) (A : Adr) : Prop := FnOk P w K mg base (CX1 P w base) 2 A.f__law_bent A.d__law_bent ["_law_text", "_law_some"] sp_bent
set_option maxHeartbeats 4000000 in
theorem ok__law_bent (T : Txt K mg A) (G__law_signs : Ok__law_signs P w K mg base A) : Ok__law_bent P w K mg base A := by
  have B__law_signs := T.b__law_signs
  refine FnOk.pureH (T.F__law_bent.okN sc__law_bent (fun vs H Q E h => ?_) (fun cdv Ar outer s H vs Q E hr h => ?_))
  · obtain ⟨_, a, ⟨rfl, _⟩, _⟩ := h
    rfl
  · obtain ⟨hp, ⟨z, l⟩, ⟨hv, hz, hok, hd⟩, q⟩ := h
    obtain rfl : vs = [.str z, .ref l] := hv
    dsimp only at hz hok hd
    obtain ⟨d0, d1, d2, d3, d4, d5, d6, d7, hl, e0, e1, e2, e3, e4, e5, e6, e7⟩ := hd
    refine ⟨_, (pss_cons (ps_set (i := 2) sc__law_bent.nd rfl (Or.inl rfl) (pe_op op_add_str (pe_call0 G__law_signs (hr.mono (by decide)) rfl T.g__law_signs T.k__law_signs B__law_signs .nil pass1) pe_str))
      (pss_cons (ps_set (i := 3) sc__law_bent.nd rfl (Or.inl rfl) (pe_ix ix_str (pe_op op_add_str (pv 2) pe_str) (pe_op op_mod (pe_ix ix_list (pv 1) pe_int (fun _ _ => rfl)) pe_int) (fun _ _ => rfl)))
      (pss_cons (ps_set (i := 4) sc__law_bent.nd rfl (Or.inl rfl) (pe_op op_mod (pe_op op_add (pe_op op_mul (pe_ix ix_list (pv 1) pe_int (fun _ _ => rfl)) pe_int) (pe_ix ix_list (pv 1) pe_int (fun _ _ => rfl))) (pe_op op_add (pe_callB call_len_str rfl T.n_len (by decide +kernel) (pa_cons (pv 0) pa_nil)) pe_int)))
      (pss_cons (ps_set (i := 5) sc__law_bent.nd rfl (Or.inl rfl) (pe_op op_mod (pe_ix ix_list (pv 1) pe_int (fun _ _ => rfl)) pe_int))
      (pss_cons (ps_if (pt_cmpR op_eq (pv 5) pe_int (nomark _)) (pss_one (ps_ret (pe_op op_add_str (pe_op op_add_str (pe_slice sl_str (pv 0) po_none (po_some (pv 4))) (pv 3)) (pe_slice sl_str (pv 0) (po_some (pv 4)) po_none)))) pss_nil)
      (pss_cons (ps_if (pt_cmpR op_eq (pv 5) pe_int (nomark _)) (pss_one (ps_ret (pe_op op_add_str (pe_op op_add_str (pe_slice sl_str (pv 0) po_none (po_some (pv 4))) (pv 3)) (pe_slice sl_str (pv 0) (po_some (pe_op op_add (pv 4) pe_int)) po_none)))) pss_nil)
      (pss_cons (ps_if (pt_cmpR op_eq (pv 5) pe_int (nomark _)) (pss_one (ps_ret (pe_op op_add_str (pe_slice sl_str (pv 0) po_none (po_some (pv 4))) (pe_slice sl_str (pv 0) (po_some (pe_op op_add (pv 4) pe_int)) po_none)))) pss_nil)
      (pss_cons (ps_ifRep op_eq (pv 5) (pv 0) pss_nil (by decide) (by decide) (nomark _))
      (pss_cons (ps_if (pt_cmpR op_eq (pv 5) pe_int (nomark _)) (pss_one (ps_ret (pe_op op_add_str (pe_op op_add_str (pe_slice sl_str (pv 0) po_none (po_some (pv 4))) (pe_ix ix_str pe_str (pe_op op_mod (pe_ix ix_list (pv 1) pe_int (fun _ _ => rfl)) pe_int) (fun _ _ => rfl))) (pe_slice sl_str (pv 0) (po_some (pv 4)) po_none)))) pss_nil)
      (pss_one (ps_ret (pe_bm PySem.F.plainAttrs_str PySem.F.slot_str_join PySem.F.type_str_join mt_join pe_str (pa_cons (pe_slice sl_list (pe_bm PySem.F.plainAttrs_str PySem.F.slot_str_split PySem.F.type_str_split mt_split (pv 0) (pa_cons pe_str pa_nil)) po_none (po_some (pe_op op_add pe_int (pe_op op_mod (pe_ix ix_list (pv 1) pe_int (fun _ _ => rfl)) pe_int)))) pa_nil))))))))))))), ?_⟩
    unfold Dig at *
    have sz : z.length ≤ sizeLine := Nat.le_of_lt (small1000 (by omega))
    refine ⟨hp, (), rfl, fun v hv => ?_⟩
    subst hv
    refine ⟨_, _, rfl, rfl, by decide +kernel, ?_⟩
    refine ⟨_, rfl, _, _, rfl, rfl, by decide +kernel, _, rfl, _, _, _, _, rfl, rfl, SqL.of hl, rfl, _, _, rfl, rfl, (by show (0 : Int) < 124; decide), ?_⟩
    refine ⟨_, _, _, rfl, rfl, by decide +kernel, atI_in (Int.emod_nonneg _ (by decide)) (by rw [odd8_len]; exact Int.emod_lt_of_pos _ (by decide)), ?_⟩
    have ht2 : PyData.strOk ⟨#[ODDX.cps.toList.getD (d5 % 124).toNat 0]⟩ = true := ok_one (odd8_ok _)
    generalize hc : (⟨#[List.getD _ _ _]⟩ : Str) = t
    have ht : t.length = 1 := by rw [← hc]; rfl
    have ht2 : PyData.strOk t = true := by rw [← hc]; exact ht2
    refine ⟨_, rfl, _, _, _, _, rfl, rfl, SqL.of hl, rfl, _, _, rfl, rfl, Or.inl ⟨by omega, by omega⟩, _, rfl, _, _, _, _, rfl, rfl, SqL.of hl, rfl, _, _, rfl, rfl, _, rfl, _, rfl, sz, _, _, rfl, rfl, _, _, rfl, rfl, (by show (0 : Int) < (z.length : Int) + 1; omega), ?_⟩
    dsimp only
    have at0 := Int.emod_nonneg (d6 * 100 + d0) (show (z.length : Int) + 1 ≠ 0 by omega)
    have at1 := Int.emod_lt_of_pos (d6 * 100 + d0) (show (0 : Int) < (z.length : Int) + 1 by omega)
    generalize (d6 * 100 + d0) % ((z.length : Int) + 1) = at' at at0 at1 ⊢
    have e1 := slice_to z at0
    have e2 := slice_from z at0
    have e3 := slice_from z (i := at' + 1) (by omega)
    have o1 := ok_slice hok none (some at')
    have o2 := ok_slice hok (some at') none
    have o3 := ok_slice hok (some (at' + 1)) none
    refine ⟨_, rfl, _, _, _, _, rfl, rfl, SqL.of hl, rfl, _, _, rfl, rfl, (by show (0 : Int) < 6; decide), ?_⟩
    refine ⟨_, rfl, rfl, _, rfl, ite2d (fun h => ?_) (fun h => ?_)⟩
    · exact ⟨_, rfl, _, rfl, _, rfl, _, rfl, sz, _, rfl, _, _, rfl, rfl, Nat.le_of_lt (small1000 (by (try simp only [len_add]); omega)), _, rfl, _, rfl, _, rfl, _, rfl, sz, _, _, rfl, rfl, Nat.le_of_lt (small1000 (by (try simp only [len_add]); omega)), q _ _ ⟨_, rfl, by simp only [len_add]; omega, ok_add (ok_add o1 ht2) o2⟩ (Same.refl _)⟩
    refine ⟨_, rfl, rfl, _, rfl, ite2d (fun h => ?_) (fun h => ?_)⟩
    · exact ⟨_, rfl, _, rfl, _, rfl, _, rfl, sz, _, rfl, _, _, rfl, rfl, Nat.le_of_lt (small1000 (by (try simp only [len_add]); omega)), _, rfl, _, rfl, _, _, rfl, rfl, _, rfl, _, rfl, sz, _, _, rfl, rfl, Nat.le_of_lt (small1000 (by (try simp only [len_add]); omega)), q _ _ ⟨_, rfl, by simp only [len_add]; omega, ok_add (ok_add o1 ht2) o3⟩ (Same.refl _)⟩
    refine ⟨_, rfl, rfl, _, rfl, ite2d (fun h => ?_) (fun h => ?_)⟩
    · exact ⟨_, rfl, _, rfl, _, rfl, _, rfl, sz, _, rfl, _, rfl, _, _, rfl, rfl, _, rfl, _, rfl, sz, _, _, rfl, rfl, Nat.le_of_lt (small1000 (by (try simp only [len_add]); omega)), q _ _ ⟨_, rfl, by simp only [len_add]; omega, ok_add o1 o3⟩ (Same.refl _)⟩
    refine ⟨_, rfl, rfl, _, rfl, ite2d (fun h => ?_) (fun h => ?_)⟩
    · exact ⟨_, rfl, z, rfl, by omega, q _ _ ⟨_, rfl, Nat.le_trans (double_len z 32) (by omega), ok_double 32 hok⟩ (Same.refl _)⟩
    refine ⟨_, rfl, rfl, _, rfl, ite2d (fun h => ?_) (fun h => ?_)⟩
    · refine ⟨_, rfl, _, rfl, _, rfl, _, rfl, sz, _, rfl, _, _, _, _, rfl, rfl, SqL.of hl, rfl, _, _, rfl, rfl, (by show (0 : Int) < 2; decide), _, _, _, rfl, rfl, by decide +kernel, atI_in (Int.emod_nonneg _ (by decide)) (Int.emod_lt_of_pos _ (by decide)), ?_⟩
      have hk2 : PyData.strOk ⟨#[(Str.ofString "\n\t").cps.toList.getD (d5 % 2).toNat 0]⟩ = true := ok_one (nt_ok _)
      generalize hk : (⟨#[List.getD _ _ _]⟩ : Str) = u
      have hu : u.length = 1 := by rw [← hk]; rfl
      have hu2 : PyData.strOk u = true := by rw [← hk]; exact hk2
      exact ⟨_, _, rfl, rfl, Nat.le_of_lt (small1000 (by (try simp only [len_add]); omega)), _, rfl, _, rfl, _, rfl, _, rfl, sz, _, _, rfl, rfl, Nat.le_of_lt (small1000 (by (try simp only [len_add]); omega)), q _ _ ⟨_, rfl, by simp only [len_add]; omega, ok_add (ok_add o1 hu2) o2⟩ (Same.refl _)⟩
    · refine ⟨rfl, _, rfl, rfl, z, _, rfl, rfl, by decide, by omega, fun l2 hl2 => ?_⟩
      have hl3 : (upd H l2 (.lst ((Txt.split z " ").map V.str))) l = some (.lst [.int d0, .int d1, .int d2, .int d3, .int d4, .int d5, .int d6, .int d7]) := (same_upd hl2) _ _ hl
      have hw := split_weight z " " (by decide)
      refine ⟨_, rfl, _, _, _, _, rfl, rfl, SqL.of hl3, rfl, _, _, rfl, rfl, (by show (0 : Int) < 2; decide), _, _, rfl, rfl, _, rfl, l2, _, rfl, SqL.of upd_same, fun l4 hl4 => ?_⟩
      rw [cutS_map]
      have hcs := cutS_sum (Txt.split z " ") none (some (1 + d5 % 2))
      have hj := join_len " " (cutS (Txt.split z " ") none (some (1 + d5 % 2)))
      have n1 : (Str.ofString " ").length = 1 := rfl
      refine ⟨_, l4, _, rfl, rfl, SqL.of upd_same, ?_, q _ _ ⟨_, rfl, ?_, ?_⟩ ((same_upd hl2).trans (same_upd hl4))⟩
      · rw [n1]; omega
      · rw [n1] at hj; omega
      · exact ok_join (ok_lit " ") fun p hp => ok_part (c := 32) hok (cutS_mem hp)
theorem sc__law_number : FnScope ["_law_text", "_law_least", "_law_below", "_law_figures", "_law_number_here", "_law_sign"] ["_law_text", "_law_least"] (defScope s__law_number) := ⟨rfl, rfl, rfl, by decide +kernel, rfl, by decide +kernel, by decide +kernel⟩
abbrev Ok__law_number (P : Program) (w : World) (K : PySem.W.Frag) (mg : Str → Option Value) (base : Heap) (A : Adr) : Prop := FnOk P w K mg base (CX1 P w base) 1 A.f__law_number A.d__law_number ["_law_text", "_law_least"] sp_reads
set_option maxHeartbeats 4000000 in
theorem ok__law_number (T : Txt K mg A)  : Ok__law_number P w K mg base A := by
  refine FnOk.pure (T.F__law_number.okN sc__law_number (fun vs H Q E h => ?_) (fun cdv Ar outer s H vs Q E hr h => ?_))
  · obtain ⟨_, a, ⟨rfl, _⟩, _⟩ := h
    rfl
  · obtain ⟨hp, ⟨z, k⟩, ⟨hv, hz, hk⟩, q⟩ := h
    obtain rfl : vs = [.str z, vOpt k] := hv
    dsimp only at hz hk q
    refine ⟨_, (pss_cons (ps_set (i := 2) sc__law_number.nd rfl (Or.inl rfl) (pe_and (pe_cmpR op_eq (pe_slice sl_str (pv 0) po_none (po_some pe_int)) pe_str (nomark _)) (pe_one (pe_cmpR op_isN (pv 1) pe_non (nomark _)))))
      (pss_cons (ps_set (i := 3) sc__law_number.nd rfl (Or.inl rfl) (pe_ifExp (pt_val (pv 2)) (pe_slice sl_str (pv 0) (po_some pe_int) po_none) (pv 0)))
      (pss_cons (ps_if (PW.pt (pw_or (pt_cmpR op_lt (pe_callB call_len_str rfl T.n_len (by decide +kernel) (pa_cons (pv 3) pa_nil)) pe_int (nomark _)) (pw_or1 (pt_cmpR op_gt (pe_callB call_len_str rfl T.n_len (by decide +kernel) (pa_cons (pv 3) pa_nil)) pe_int (nomark _))))) (pss_one (ps_ret pe_non)) pss_nil)
      (pss_cons (ps_if (PW.pt (pw_and (pt_cmpR op_eq (pe_ix ix_str (pv 3) pe_int (fun _ _ => rfl)) pe_str (nomark _)) (pw_and1 (PW.pt (pw_or (pt_val (pv 2)) (pw_or1 (pt_cmpR op_gt (pe_callB call_len_str rfl T.n_len (by decide +kernel) (pa_cons (pv 3) pa_nil)) pe_int (nomark _)))))))) (pss_one (ps_ret pe_non)) pss_nil)
      (pss_cons (ps_set (i := 4) sc__law_number.nd rfl (Or.inl rfl) pe_int)
      (pss_cons (ps_for PassesOwn.never rfl (pi_str (pv 3)) (pg_name (i := 5) sc__law_number.nd rfl (Or.inl rfl)) (pss_cons (ps_if (pt_cmpR op_notin_str (pv 5) pe_str (by rfl)) (pss_one (ps_ret pe_non)) pss_nil)
      (pss_one (ps_set (i := 4) sc__law_number.nd rfl (Or.inl rfl) (pe_op op_add (pe_op op_mul (pv 4) pe_int) (pe_bm PySem.F.plainAttrs_str PySem.F.slot_str_index PySem.F.type_str_index mt_index pe_str (pa_cons (pv 5) pa_nil)))))))
      (pss_cons (ps_if (PW.pt (pw_and (pt_cmpR op_notN (pv 1) pe_non (nomark _)) (pw_and1 (pt_cmpR op_lt (pv 4) (pv 1) (nomark _))))) (pss_one (ps_ret pe_non)) pss_nil)
      (pss_one (ps_ret (pe_ifExp (pt_val (pv 2)) (pe_op op_sub pe_int (pv 4)) (pv 4))))))))))), ?_⟩
    have sz : z.length ≤ sizeLine := Nat.le_of_lt (small1000 (by omega))
    refine ⟨_, rfl, _, rfl, _, rfl, sz, rfl, ?_⟩
    rw [take_dash]
    by_cases hh : z.cps.toList.head? = some 45
    · rw [decide_eq_true hh]
      refine ⟨_, rfl, iteT ⟨_, rfl, rfl, ?_⟩⟩
      by_cases hkn : k = none
      · have e0 : decide (vOpt k = V.non) = true := by rw [hkn]; rfl
        rw [e0]
        refine ⟨_, rfl, _, rfl, iteT ⟨_, rfl, _, rfl, _, rfl, sz, ?_⟩⟩
        have hy := slice_tail z
        have hyl := Txt.slice_le z (some 1) none
        generalize Txt.slice z (some 1) none = y at hy hyl ⊢
        have hb : true = true ↔ (z.cps.toList.head? = some 45 ∧ k = none) := ⟨fun _ => ⟨hh, hkn⟩, fun _ => rfl⟩
        have hy : y.cps.toList = if true = true then z.cps.toList.tail else z.cps.toList := by rw [if_pos rfl]; exact hy
        have hlz : y.cps.toList.length = y.length := Array.length_toList
        have sy : y.length ≤ sizeLine := Nat.le_of_lt (small1000 (by omega))
        refine ⟨_, rfl, _, rfl, sy, _, _, rfl, rfl, _, rfl, ite2d (fun h1 => iteT ?_) (fun h1 => ⟨_, rfl, _, rfl, sy, _, _, rfl, rfl, _, rfl, ite2d (fun h2 => ?_) (fun h2 => ?_)⟩)⟩
        · exact q _ _ (by rw [lo_bad hb hy hk (.inl (by omega))]; rfl) (Same.refl _)
        · exact q _ _ (by rw [lo_bad hb hy hk (.inr (.inl (by omega)))]; rfl) (Same.refl _)
        obtain ⟨c0, cs, hc0⟩ : ∃ c cs, y.cps.toList = c :: cs := by
          cases e : y.cps.toList with
          | nil => rw [e] at hlz; simp at hlz; omega
          | cons c cs => exact ⟨c, cs, rfl⟩
        have c48 : (V.str ⟨#[c0]⟩ = V.str "0") ↔ c0 = 48 := by
          rw [str_eq_iff]
          have : ("0" : Str).cps.toList = [48] := rfl
          rw [this]
          simp
        apply joinP (G := ¬ (y.cps.toList.head? = some 48 ∧ (true = true ∨ 1 < y.cps.toList.length)) → _)
        · intro R
          refine ⟨_, rfl, _, _, _, rfl, rfl, sy, head_item hc0, rfl, _, rfl, ite2d (fun h3 => ⟨_, rfl, _, rfl, ite2b (fun h4 => iteT ?_) (fun h4 => ⟨_, rfl, _, rfl, sy, _, _, rfl, rfl, _, rfl, ite2d (fun h5 => ?_) (fun h5 => ?_)⟩)⟩) (fun h3 => iteF ?_)⟩
          · exact q _ _ (by rw [lo_bad hb hy hk (.inr (.inr (.inr ⟨by rw [hc0, c48.mp h3]; rfl, .inl h4⟩)))]; rfl) (Same.refl _)
          · exact q _ _ (by rw [lo_bad hb hy hk (.inr (.inr (.inr ⟨by rw [hc0, c48.mp h3]; rfl, .inr (by omega)⟩)))]; rfl) (Same.refl _)
          · refine R fun ⟨_, g⟩ => ?_
            rcases g with g | g
            · first | exact absurd g Bool.false_ne_true | exact absurd h4 (by decide)
            · omega
          · exact R fun ⟨a, _⟩ => h3 (c48.mpr (by rw [hc0] at a; simpa using a))
        intro h48
        refine ⟨_, rfl, _, rfl, for_str (x := y) (fun i σ H2 => ∃ o, σ = [some (.str z), some (vOpt k), some (.bl true), some (.str y), some (.int ((digitsVal (y.cps.toList.take i) : Nat) : Int)), o] ∧ H2 = H ∧ (y.cps.toList.take i).all isDig = true) ⟨none, rfl, rfl, rfl⟩ ?_ ?_⟩
        · rintro i c σ H2 hc ⟨o, rfl, rfl, hd⟩
          have hci : y.cps.toList[i]? = some c := by simpa using hc
          refine ⟨_, rfl, _, _, rfl, rfl, _, rfl, ite2b (fun h3 => ?_) (fun h3 => ?_)⟩
          · have w : y.cps.toList.all isDig = false := by
              rw [Bool.eq_false_iff]
              intro hall
              have hx := List.all_eq_true.mp hall c (List.mem_of_getElem? hci)
              rw [← in_dig] at hx
              rw [hx] at h3
              cases h3
            exact q _ _ (by rw [lo_bad hb hy hk (.inr (.inr (.inl w)))]; rfl) (Same.refl _)
          · have hdc : isDig c = true := by rw [← in_dig]; simpa using h3
            have hc' : 48 ≤ c ∧ c ≤ 57 := by unfold isDig at hdc; simpa using hdc
            have ho := ix_dig (c - 48) (by omega)
            rw [show 48 + (c - 48) = c by omega] at ho
            have etk : y.cps.toList.take (i + 1) = y.cps.toList.take i ++ [c] := by rw [List.take_add_one, hci]; rfl
            refine ⟨_, rfl, _, _, rfl, rfl, Or.inr ⟨by decide, by decide⟩, rfl, _, rfl, _, _, _, _, rfl, rfl, ho, _, _, rfl, rfl, ?_⟩
            refine ⟨some (.str ⟨#[c]⟩), ?_, rfl, by rw [etk, List.all_append, hd]; simp [hdc]⟩
            rw [etk, digitsVal_snoc]
            have e : (((digitsVal (y.cps.toList.take i) * 10 + (c - 48) : Nat)) : Int) = ((digitsVal (y.cps.toList.take i) : Nat) : Int) * 10 + ((c - 48 : Nat) : Int) := by omega
            rw [e]
            rfl
        · rintro σ H2 ⟨o, rfl, rfl, hd⟩
          rw [List.take_of_length_le (by rw [Array.length_toList]; exact Nat.le_refl _)] at hd
          have etk : y.cps.toList.take y.cps.size = y.cps.toList := List.take_of_length_le (by rw [Array.length_toList]; exact Nat.le_refl _)
          rw [etk]
          have good := lo_good hb hy (by
            rintro (a | a | a | a)
            · omega
            · omega
            · rw [hd] at a; cases a
            · exact h48 a)
          apply joinP (G := ¬ (∃ m, k = some m ∧ ((digitsVal y.cps.toList : Nat) : Int) < m) → _)
          · intro R
            cases k with
            | none =>
              refine ⟨_, rfl, rfl, _, rfl, iteNS rfl ?_⟩
              exact iteF (R (by rintro ⟨_, e, _⟩; cases e))
            | some m =>
              refine ⟨_, rfl, rfl, _, rfl, iteT ?_⟩
              refine ⟨_, rfl, _, rfl, _, _, rfl, rfl, _, rfl, ite2d (fun h5 => ?_) (fun h5 => ?_)⟩
              · exact q _ _ (by rw [good, if_pos ⟨m, rfl, h5⟩]; rfl) (Same.refl _)
              · exact R (by rintro ⟨_, e, g⟩; cases e; exact h5 g)
          intro hm
          rw [if_neg hm] at good
          refine ⟨_, rfl, _, rfl, iteT ⟨_, rfl, _, _, rfl, rfl, q _ _ ?_ (Same.refl _)⟩⟩
          rw [good, if_pos rfl]
          show V.int _ = V.int _
          rw [Int.zero_sub]
      · have e0 : decide (vOpt k = V.non) = false := by cases k with | none => exact absurd rfl hkn | some m => rfl
        rw [e0]
        refine ⟨_, rfl, _, rfl, iteF ⟨_, rfl, ?_⟩⟩
        have hb : false = true ↔ (z.cps.toList.head? = some 45 ∧ k = none) := ⟨fun e => (nomatch e), fun e => absurd e.2 hkn⟩
        have hy : z.cps.toList = if false = true then z.cps.toList.tail else z.cps.toList := by rw [if_neg Bool.false_ne_true]
        have hlz : z.cps.toList.length = z.length := Array.length_toList
        have sy : z.length ≤ sizeLine := Nat.le_of_lt (small1000 (by omega))
        refine ⟨_, rfl, _, rfl, sy, _, _, rfl, rfl, _, rfl, ite2d (fun h1 => iteT ?_) (fun h1 => ⟨_, rfl, _, rfl, sy, _, _, rfl, rfl, _, rfl, ite2d (fun h2 => ?_) (fun h2 => ?_)⟩)⟩
        · exact q _ _ (by rw [lo_bad hb hy hk (.inl (by omega))]; rfl) (Same.refl _)
        · exact q _ _ (by rw [lo_bad hb hy hk (.inr (.inl (by omega)))]; rfl) (Same.refl _)
        obtain ⟨c0, cs, hc0⟩ : ∃ c cs, z.cps.toList = c :: cs := by
          cases e : z.cps.toList with
          | nil => rw [e] at hlz; simp at hlz; omega
          | cons c cs => exact ⟨c, cs, rfl⟩
        have c48 : (V.str ⟨#[c0]⟩ = V.str "0") ↔ c0 = 48 := by
          rw [str_eq_iff]
          have : ("0" : Str).cps.toList = [48] := rfl
          rw [this]
          simp
        apply joinP (G := ¬ (z.cps.toList.head? = some 48 ∧ (false = true ∨ 1 < z.cps.toList.length)) → _)
        · intro R
          refine ⟨_, rfl, _, _, _, rfl, rfl, sy, head_item hc0, rfl, _, rfl, ite2d (fun h3 => ⟨_, rfl, _, rfl, ite2b (fun h4 => iteT ?_) (fun h4 => ⟨_, rfl, _, rfl, sy, _, _, rfl, rfl, _, rfl, ite2d (fun h5 => ?_) (fun h5 => ?_)⟩)⟩) (fun h3 => iteF ?_)⟩
          · exact q _ _ (by rw [lo_bad hb hy hk (.inr (.inr (.inr ⟨by rw [hc0, c48.mp h3]; rfl, .inl h4⟩)))]; rfl) (Same.refl _)
          · exact q _ _ (by rw [lo_bad hb hy hk (.inr (.inr (.inr ⟨by rw [hc0, c48.mp h3]; rfl, .inr (by omega)⟩)))]; rfl) (Same.refl _)
          · refine R fun ⟨_, g⟩ => ?_
            rcases g with g | g
            · first | exact absurd g Bool.false_ne_true | exact absurd h4 (by decide)
            · omega
          · exact R fun ⟨a, _⟩ => h3 (c48.mpr (by rw [hc0] at a; simpa using a))
        intro h48
        refine ⟨_, rfl, _, rfl, for_str (x := z) (fun i σ H2 => ∃ o, σ = [some (.str z), some (vOpt k), some (.bl false), some (.str z), some (.int ((digitsVal (z.cps.toList.take i) : Nat) : Int)), o] ∧ H2 = H ∧ (z.cps.toList.take i).all isDig = true) ⟨none, rfl, rfl, rfl⟩ ?_ ?_⟩
        · rintro i c σ H2 hc ⟨o, rfl, rfl, hd⟩
          have hci : z.cps.toList[i]? = some c := by simpa using hc
          refine ⟨_, rfl, _, _, rfl, rfl, _, rfl, ite2b (fun h3 => ?_) (fun h3 => ?_)⟩
          · have w : z.cps.toList.all isDig = false := by
              rw [Bool.eq_false_iff]
              intro hall
              have hx := List.all_eq_true.mp hall c (List.mem_of_getElem? hci)
              rw [← in_dig] at hx
              rw [hx] at h3
              cases h3
            exact q _ _ (by rw [lo_bad hb hy hk (.inr (.inr (.inl w)))]; rfl) (Same.refl _)
          · have hdc : isDig c = true := by rw [← in_dig]; simpa using h3
            have hc' : 48 ≤ c ∧ c ≤ 57 := by unfold isDig at hdc; simpa using hdc
            have ho := ix_dig (c - 48) (by omega)
            rw [show 48 + (c - 48) = c by omega] at ho
            have etk : z.cps.toList.take (i + 1) = z.cps.toList.take i ++ [c] := by rw [List.take_add_one, hci]; rfl
            refine ⟨_, rfl, _, _, rfl, rfl, Or.inr ⟨by decide, by decide⟩, rfl, _, rfl, _, _, _, _, rfl, rfl, ho, _, _, rfl, rfl, ?_⟩
            refine ⟨some (.str ⟨#[c]⟩), ?_, rfl, by rw [etk, List.all_append, hd]; simp [hdc]⟩
            rw [etk, digitsVal_snoc]
            have e : (((digitsVal (z.cps.toList.take i) * 10 + (c - 48) : Nat)) : Int) = ((digitsVal (z.cps.toList.take i) : Nat) : Int) * 10 + ((c - 48 : Nat) : Int) := by omega
            rw [e]
            rfl
        · rintro σ H2 ⟨o, rfl, rfl, hd⟩
          rw [List.take_of_length_le (by rw [Array.length_toList]; exact Nat.le_refl _)] at hd
          have etk : z.cps.toList.take z.cps.size = z.cps.toList := List.take_of_length_le (by rw [Array.length_toList]; exact Nat.le_refl _)
          rw [etk]
          have good := lo_good hb hy (by
            rintro (a | a | a | a)
            · omega
            · omega
            · rw [hd] at a; cases a
            · exact h48 a)
          apply joinP (G := ¬ (∃ m, k = some m ∧ ((digitsVal z.cps.toList : Nat) : Int) < m) → _)
          · intro R
            cases k with
            | none =>
              refine ⟨_, rfl, rfl, _, rfl, iteNS rfl ?_⟩
              exact iteF (R (by rintro ⟨_, e, _⟩; cases e))
            | some m =>
              refine ⟨_, rfl, rfl, _, rfl, iteT ?_⟩
              refine ⟨_, rfl, _, rfl, _, _, rfl, rfl, _, rfl, ite2d (fun h5 => ?_) (fun h5 => ?_)⟩
              · exact q _ _ (by rw [good, if_pos ⟨m, rfl, h5⟩]; rfl) (Same.refl _)
              · exact R (by rintro ⟨_, e, g⟩; cases e; exact h5 g)
          intro hm
          rw [if_neg hm] at good
          refine ⟨_, rfl, _, rfl, iteF ⟨_, rfl, q _ _ ?_ (Same.refl _)⟩⟩
          rw [good, if_neg Bool.false_ne_true]
          rfl
    · rw [decide_eq_false hh]
      refine ⟨_, rfl, iteF ?_⟩
      refine ⟨_, rfl, _, rfl, iteF ⟨_, rfl, ?_⟩⟩
      have hb : false = true ↔ (z.cps.toList.head? = some 45 ∧ k = none) := ⟨fun e => (nomatch e), fun e => absurd e.1 hh⟩
      have hy : z.cps.toList = if false = true then z.cps.toList.tail else z.cps.toList := by rw [if_neg Bool.false_ne_true]
      have hlz : z.cps.toList.length = z.length := Array.length_toList
      have sy : z.length ≤ sizeLine := Nat.le_of_lt (small1000 (by omega))
      refine ⟨_, rfl, _, rfl, sy, _, _, rfl, rfl, _, rfl, ite2d (fun h1 => iteT ?_) (fun h1 => ⟨_, rfl, _, rfl, sy, _, _, rfl, rfl, _, rfl, ite2d (fun h2 => ?_) (fun h2 => ?_)⟩)⟩
      · exact q _ _ (by rw [lo_bad hb hy hk (.inl (by omega))]; rfl) (Same.refl _)
      · exact q _ _ (by rw [lo_bad hb hy hk (.inr (.inl (by omega)))]; rfl) (Same.refl _)
      obtain ⟨c0, cs, hc0⟩ : ∃ c cs, z.cps.toList = c :: cs := by
        cases e : z.cps.toList with
        | nil => rw [e] at hlz; simp at hlz; omega
        | cons c cs => exact ⟨c, cs, rfl⟩
      have c48 : (V.str ⟨#[c0]⟩ = V.str "0") ↔ c0 = 48 := by
        rw [str_eq_iff]
        have : ("0" : Str).cps.toList = [48] := rfl
        rw [this]
        simp
      apply joinP (G := ¬ (z.cps.toList.head? = some 48 ∧ (false = true ∨ 1 < z.cps.toList.length)) → _)
      · intro R
        refine ⟨_, rfl, _, _, _, rfl, rfl, sy, head_item hc0, rfl, _, rfl, ite2d (fun h3 => ⟨_, rfl, _, rfl, ite2b (fun h4 => iteT ?_) (fun h4 => ⟨_, rfl, _, rfl, sy, _, _, rfl, rfl, _, rfl, ite2d (fun h5 => ?_) (fun h5 => ?_)⟩)⟩) (fun h3 => iteF ?_)⟩
        · exact q _ _ (by rw [lo_bad hb hy hk (.inr (.inr (.inr ⟨by rw [hc0, c48.mp h3]; rfl, .inl h4⟩)))]; rfl) (Same.refl _)
        · exact q _ _ (by rw [lo_bad hb hy hk (.inr (.inr (.inr ⟨by rw [hc0, c48.mp h3]; rfl, .inr (by omega)⟩)))]; rfl) (Same.refl _)
        · refine R fun ⟨_, g⟩ => ?_
          rcases g with g | g
          · first | exact absurd g Bool.false_ne_true | exact absurd h4 (by decide)
          · omega
        · exact R fun ⟨a, _⟩ => h3 (c48.mpr (by rw [hc0] at a; simpa using a))
      intro h48
      refine ⟨_, rfl, _, rfl, for_str (x := z) (fun i σ H2 => ∃ o, σ = [some (.str z), some (vOpt k), some (.bl false), some (.str z), some (.int ((digitsVal (z.cps.toList.take i) : Nat) : Int)), o] ∧ H2 = H ∧ (z.cps.toList.take i).all isDig = true) ⟨none, rfl, rfl, rfl⟩ ?_ ?_⟩
      · rintro i c σ H2 hc ⟨o, rfl, rfl, hd⟩
        have hci : z.cps.toList[i]? = some c := by simpa using hc
        refine ⟨_, rfl, _, _, rfl, rfl, _, rfl, ite2b (fun h3 => ?_) (fun h3 => ?_)⟩
        · have w : z.cps.toList.all isDig = false := by
            rw [Bool.eq_false_iff]
            intro hall
            have hx := List.all_eq_true.mp hall c (List.mem_of_getElem? hci)
            rw [← in_dig] at hx
            rw [hx] at h3
            cases h3
          exact q _ _ (by rw [lo_bad hb hy hk (.inr (.inr (.inl w)))]; rfl) (Same.refl _)
        · have hdc : isDig c = true := by rw [← in_dig]; simpa using h3
          have hc' : 48 ≤ c ∧ c ≤ 57 := by unfold isDig at hdc; simpa using hdc
          have ho := ix_dig (c - 48) (by omega)
          rw [show 48 + (c - 48) = c by omega] at ho
          have etk : z.cps.toList.take (i + 1) = z.cps.toList.take i ++ [c] := by rw [List.take_add_one, hci]; rfl
          refine ⟨_, rfl, _, _, rfl, rfl, Or.inr ⟨by decide, by decide⟩, rfl, _, rfl, _, _, _, _, rfl, rfl, ho, _, _, rfl, rfl, ?_⟩
          refine ⟨some (.str ⟨#[c]⟩), ?_, rfl, by rw [etk, List.all_append, hd]; simp [hdc]⟩
          rw [etk, digitsVal_snoc]
          have e : (((digitsVal (z.cps.toList.take i) * 10 + (c - 48) : Nat)) : Int) = ((digitsVal (z.cps.toList.take i) : Nat) : Int) * 10 + ((c - 48 : Nat) : Int) := by omega
          rw [e]
          rfl
      · rintro σ H2 ⟨o, rfl, rfl, hd⟩
        rw [List.take_of_length_le (by rw [Array.length_toList]; exact Nat.le_refl _)] at hd
        have etk : z.cps.toList.take z.cps.size = z.cps.toList := List.take_of_length_le (by rw [Array.length_toList]; exact Nat.le_refl _)
        rw [etk]
        have good := lo_good hb hy (by
          rintro (a | a | a | a)
          · omega
          · omega
          · rw [hd] at a; cases a
          · exact h48 a)
        apply joinP (G := ¬ (∃ m, k = some m ∧ ((digitsVal z.cps.toList : Nat) : Int) < m) → _)
        · intro R
          cases k with
          | none =>
            refine ⟨_, rfl, rfl, _, rfl, iteNS rfl ?_⟩
            exact iteF (R (by rintro ⟨_, e, _⟩; cases e))
          | some m =>
            refine ⟨_, rfl, rfl, _, rfl, iteT ?_⟩
            refine ⟨_, rfl, _, rfl, _, _, rfl, rfl, _, rfl, ite2d (fun h5 => ?_) (fun h5 => ?_)⟩
            · exact q _ _ (by rw [good, if_pos ⟨m, rfl, h5⟩]; rfl) (Same.refl _)
            · exact R (by rintro ⟨_, e, g⟩; cases e; exact h5 g)
        intro hm
        rw [if_neg hm] at good
        refine ⟨_, rfl, _, rfl, iteF ⟨_, rfl, q _ _ ?_ (Same.refl _)⟩⟩
        rw [good, if_neg Bool.false_ne_true]
        rfl
theorem sc__law_place_of : FnScope ["_law_text", "_law_found", "_law_part", "_law_parts", "_law_step"] ["_law_text"] (defScope s__law_place_of) := ⟨rfl, rfl, rfl, by decide +kernel, rfl, by decide +kernel, by decide +kernel⟩
abbrev Ok__law_place_of (P : Program) (w : World) (K : PySem.W.Frag) (mg : Str → Option Value) (base : Heap) (A : Adr) : Prop := FnOk P w K mg base (CX1 P w base) 2 A.f__law_place_of A.d__law_place_of ["_law_text"] (sp_po K)
set_option maxHeartbeats 4000000 in
theorem ok__law_place_of (T : Txt K mg A) (G__law_number : Ok__law_number P w K mg base A) : Ok__law_place_of P w K mg base A := by
  have B__law_number := T.b__law_number
  refine T.F__law_place_of.okN sc__law_place_of (fun vs H Q E h => ?_) (fun cdv Ar outer s H vs Q E hr h => ?_)
  · obtain ⟨_, a, ⟨rfl, _⟩, _⟩ := h
    rfl
  · obtain ⟨hp, z, ⟨rfl, hz⟩, q, _⟩ := h
    refine ⟨_, (pss_cons (ps_set (i := 1) sc__law_place_of.nd rfl (Or.inl rfl) (pe_lst pa_nil))
      (pss_cons (ps_for PassesOwn.never rfl (pi_list (pe_bm PySem.F.plainAttrs_str PySem.F.slot_str_split PySem.F.type_str_split mt_split (pv 0) (pa_cons pe_str pa_nil))) (pg_name (i := 2) sc__law_place_of.nd rfl (Or.inl rfl)) (pss_cons (ps_set (i := 3) sc__law_place_of.nd rfl (Or.inl rfl) (pe_bm PySem.F.plainAttrs_str PySem.F.slot_str_split PySem.F.type_str_split mt_split (pv 2) (pa_cons pe_str pa_nil)))
      (pss_cons (ps_if (pt_cmpR op_ne (pe_callB call_len_seq rfl T.n_len (by decide +kernel) (pa_cons (pv 3) pa_nil)) pe_int (nomark _)) (pss_one (ps_ret pe_non)) pss_nil)
      (pss_cons (ps_set (i := 4) sc__law_place_of.nd rfl (Or.inl rfl) (pe_tup (pa_cons (pe_call G__law_number (hr.mono (by decide)) rfl T.g__law_number T.k__law_number B__law_number .nil pass1 (pa_cons (pe_ix ix_list (pv 3) pe_int (fun _ _ => rfl)) (pa_cons pe_non pa_nil))) (pa_cons (pe_call G__law_number (hr.mono (by decide)) rfl T.g__law_number T.k__law_number B__law_number .nil pass1 (pa_cons (pe_ix ix_list (pv 3) pe_int (fun _ _ => rfl)) (pa_cons pe_int pa_nil))) (pa_cons (pe_call G__law_number (hr.mono (by decide)) rfl T.g__law_number T.k__law_number B__law_number .nil pass1 (pa_cons (pe_ix ix_list (pv 3) pe_int (fun _ _ => rfl)) (pa_cons pe_int pa_nil))) pa_nil)))))
      (pss_cons (ps_if (pt_cmpR op_in_seq pe_non (pv 4) (by rfl)) (pss_one (ps_ret pe_non)) pss_nil)
      (pss_one (ps_expr (pe_bm PySem.F.plainAttrs_list PySem.F.slot_list_append PySem.F.type_list_append mt_append (pv 1) (pa_cons (pv 4) pa_nil)))))))))
      (pss_one (ps_ret (pe_callTy call_tuple_of rfl T.n_tuple (by decide +kernel) (pa_cons (pv 1) pa_nil)))))), ?_⟩
    have hlen := split_le z "/"
    refine ⟨Nat.zero_le _, fun l hl => ?_⟩
    refine ⟨_, rfl, rfl, z, _, rfl, rfl, by decide, by omega, fun a ha => ⟨a, rfl, ⟨_, SqL.of upd_same⟩, ?_⟩⟩
    have hal : l ≠ a := ne_of_none upd_same ha
    have S0 : Same H (upd (upd H l (.lst [])) a (.lst ((Txt.split z "/").map V.str))) := (same_upd hl).upd ((same_upd hl).free ha)
    refine for_list (K := K) (a := a) (xs := (Txt.split z "/").map V.str) (fun i σ H2 => ∃ (o1 o2 o3 : Option V) (ss : List Stp) (xs : List V), σ = [some (.str z), some (.ref l), o1, o2, o3] ∧ Plain H2 ∧ Same H H2 ∧ H2 a = some (.lst ((Txt.split z "/").map V.str)) ∧ H2 l = some (.lst xs) ∧ DVs K H2 (ss.map stp) xs ∧ optMap stepL ((Txt.split z "/").take i) = some ss ∧ ss.length = i)
      ⟨_, _, _, [], [], rfl, hp.lst.lst, S0, upd_same, by rw [upd_ne hal]; exact upd_same, rfl, by rw [List.take_zero]; rfl, rfl⟩ (fun i σ H2 _ ⟨_, _, _, _, _, _, _, _, e, _⟩ => SqL.of e) ?_ ?_
    · rintro i x σ H2 hx ⟨o1, o2, o3, ss, xs, rfl, hP2, hs2, ha2, hl2, hd2, ho2, hi2⟩
      rw [List.getElem?_map] at hx
      obtain ⟨p, hpi, rfl⟩ : ∃ p, (Txt.split z "/")[i]? = some p ∧ x = V.str p := by
        cases e : (Txt.split z "/")[i]? with
        | none => rw [e] at hx; cases hx
        | some p => rw [e] at hx; exact ⟨p, rfl, (Option.some.inj hx).symm⟩
      have hm : p ∈ Txt.split z "/" := List.mem_of_getElem? hpi
      have hpz := part_short hm
      have hpl := split_le p "."
      refine ⟨_, rfl, rfl, p, _, rfl, rfl, by decide, by omega, fun b hb => ?_⟩
      refine ⟨_, rfl, b, _, rfl, .inl (SqL.of upd_same), rfl, _, rfl, ite2n (fun hne => ?_) (fun heq => ?_)⟩
      · rw [List.length_map] at hne
        refine q _ _ (.inl ⟨rfl, ?_⟩) (hs2.upd (hs2.free hb)) hP2.lst
        exact optMap_none hm (step_few fun e => hne (by rw [e]; rfl))
      · rw [List.length_map] at heq
        have heq := V.int.inj heq
        obtain ⟨p1, p2, p3, hsp⟩ := len3 (l := Txt.split p ".") (by omega)
        have m1 := part_short (a := p1) (x := p) (y := ".") (by rw [hsp]; simp)
        have m2 := part_short (a := p2) (x := p) (y := ".") (by rw [hsp]; simp)
        have m3 := part_short (a := p3) (x := p) (y := ".") (by rw [hsp]; simp)
        have hst := step_least hsp
        rw [hsp]
        refine ⟨_, rfl, _, _, _, _, rfl, rfl, SqL.of upd_same, rfl, hP2.lst, (p1, none), ⟨rfl, by show p1.length ≤ 640; omega, fun m e => by cases e⟩, fun v hv => ?_⟩
        subst hv
        refine ⟨_, rfl, _, _, _, _, rfl, rfl, SqL.of upd_same, rfl, hP2.lst, (p2, some 0), ⟨rfl, by show p2.length ≤ 640; omega, fun m e => by cases e; decide⟩, fun v hv => ?_⟩
        subst hv
        refine ⟨_, rfl, _, _, _, _, rfl, rfl, SqL.of upd_same, rfl, hP2.lst, (p3, some 1), ⟨rfl, by show p3.length ≤ 640; omega, fun m e => by cases e; decide⟩, fun v hv => ?_⟩
        subst hv
        dsimp only
        refine ⟨by show 3 ≤ sizeLine; decide, fun t ht => ?_⟩
        refine ⟨_, rfl, t, _, rfl, .inr (SqT.of upd_same), rfl, by simp [flat_opt], _, rfl, ?_⟩
        have S3 := (hs2.upd (hs2.free hb) (o := HO.lst (([p1, p2, p3] : List Str).map V.str)))
        have no : stepL p = none → _ := fun e => q V.non _ (.inl ⟨rfl, optMap_none hm e⟩) (S3.upd (S3.free ht) (o := HO.tup [vOpt (leastO p1 none), vOpt (leastO p2 (some 0)), vOpt (leastO p3 (some 1))])) hP2.lst.tup
        cases e1 : leastO p1 none with
        | none => rw [e1] at no hst; exact iteT (no (by rw [hst]))
        | some r =>
          rw [e1] at no hst
          cases e2 : leastO p2 (some 0) with
          | none => rw [e2] at no hst; exact iteT (no (by rw [hst]))
          | some w' =>
            rw [e2] at no hst
            cases e3 : leastO p3 (some 1) with
            | none => rw [e3] at no hst; exact iteT (no (by rw [hst]))
            | some c =>
              rw [e3] at hst
              refine iteF ?_
              dsimp only at hst
              have hl4 : (upd (upd H2 b (.lst (([p1, p2, p3] : List Str).map V.str))) t (.tup [vOpt (some r), vOpt (some w'), vOpt (some c)])) l = some (.lst xs) := by
                have h1 : (upd H2 b (.lst (([p1, p2, p3] : List Str).map V.str))) l = some (.lst xs) := by rw [upd_ne (ne_of_none hl2 hb)]; exact hl2
                rw [upd_ne (ne_of_none h1 ht)]; exact h1
              have ha4 : (upd (upd H2 b (.lst (([p1, p2, p3] : List Str).map V.str))) t (.tup [vOpt (some r), vOpt (some w'), vOpt (some c)])) a = some (.lst ((Txt.split z "/").map V.str)) := by
                have h1 : (upd H2 b (.lst (([p1, p2, p3] : List Str).map V.str))) a = some (.lst ((Txt.split z "/").map V.str)) := by rw [upd_ne (ne_of_none ha2 hb)]; exact ha2
                rw [upd_ne (ne_of_none h1 ht)]; exact h1
              have S2 : Same H2 (upd (upd H2 b (.lst (([p1, p2, p3] : List Str).map V.str))) t (.tup [vOpt (some r), vOpt (some w'), vOpt (some c)])) := (same_upd hb).upd ((same_upd hb).free ht)
              have hd4 := DVs.same S2 _ _ hd2
              have ht4 : (upd (upd H2 b (.lst (([p1, p2, p3] : List Str).map V.str))) t (.tup [vOpt (some r), vOpt (some w'), vOpt (some c)])) t = some (.tup (sV (r, w', c))) := upd_same
              have hP4 : Plain (upd (upd H2 b (.lst (([p1, p2, p3] : List Str).map V.str))) t (.tup [vOpt (some r), vOpt (some w'), vOpt (some c)])) := hP2.lst.tup
              have hs4 := hs2.trans S2
              generalize upd (upd H2 b (.lst (([p1, p2, p3] : List Str).map V.str))) t (.tup [vOpt (some r), vOpt (some w'), vOpt (some c)]) = H4 at hl4 ha4 hd4 ht4 hP4 hs4 ⊢
              have hxl : xs.length = i := by rw [hd4.length, List.length_map]; exact hi2
              have hil : i < (Txt.split z "/").length := (List.getElem?_eq_some_iff.mp hpi).1
              refine ⟨_, rfl, .inl ⟨rfl, _, SqL.of hl4⟩, _, rfl, l, _, _, rfl, rfl, hl4, small1000 (by omega), ?_⟩
              have hla : a ≠ l := fun e => hal e.symm
              refine ⟨_, _, _, ss ++ [(r, w', c)], xs ++ [.ref t], rfl, hP4.lst, ?_, by rw [upd_ne hla]; exact ha4, upd_same, ?_, ?_, by simp [hi2]⟩
              · exact fun b' o e => by rw [upd_ne (ne_of_none e hl)]; exact hs4 b' o e
              · rw [List.map_append]
                refine DVs.mono (D := l) (fun b' o hb' e => by rw [upd_ne hb']; exact e) ⟨_, hl4⟩ _ _ (by rw [← List.map_singleton, ← List.map_append]; exact noLs_stp _) ?_
                exact hd4.append ⟨_, _, rfl, stp_mk (SqT.of ht4), rfl⟩
              · rw [List.take_add_one, hpi]
                exact optMap_snoc ho2 hst
    · rintro σ H2 ⟨o1, o2, o3, ss, xs, rfl, hP2, hs2, ha2, hl2, hd2, ho2, hi2⟩
      rw [List.length_map, List.take_of_length_le (Nat.le_refl _)] at ho2
      refine ⟨_, rfl, l, xs, rfl, .inl ⟨SqL.of hl2, fun t ht => q _ _ (.inr ⟨t, ss, rfl, ⟨t, xs, rfl, SqT.of upd_same, DVs.same (same_upd ht) _ _ hd2⟩, ho2⟩) (hs2.upd (hs2.free ht)) hP2.tup⟩⟩
theorem sc__law_reads : FnScope ["_law_text", "_law_parts", "_law_beat", "_law_place"] ["_law_text"] (defScope s__law_reads) := ⟨rfl, rfl, rfl, by decide +kernel, rfl, by decide +kernel, by decide +kernel⟩
abbrev Ok__law_reads (P : Program) (w : World) (K : PySem.W.Frag) (mg : Str → Option Value) (base : Heap) (A : Adr) : Prop := FnOk P w K mg base (CX1 P w base) 3 A.f__law_reads A.d__law_reads ["_law_text"] (sp_lr K)
set_option maxHeartbeats 4000000 in
theorem ok__law_reads (T : Txt K mg A) (G__law_number : Ok__law_number P w K mg base A) (G__law_place_of : Ok__law_place_of P w K mg base A) : Ok__law_reads P w K mg base A := by
  have B__law_number := T.b__law_number
  have B__law_place_of := T.b__law_place_of
  refine T.F__law_reads.okN sc__law_reads (fun vs H Q E h => ?_) (fun cdv Ar outer s H vs Q E hr h => ?_)
  · obtain ⟨_, a, ⟨rfl, _⟩, _⟩ := h
    rfl
  · obtain ⟨hp, z, ⟨rfl, hz, hok⟩, q, _⟩ := h
    refine ⟨_, (pss_cons (ps_set (i := 1) sc__law_reads.nd rfl (Or.inl rfl) (pe_bm PySem.F.plainAttrs_str PySem.F.slot_str_split PySem.F.type_str_split mt_split (pv 0) (pa_cons pe_str pa_nil)))
      (pss_cons (ps_set (i := 2) sc__law_reads.nd rfl (Or.inl rfl) (pe_call G__law_number (hr.mono (by decide)) rfl T.g__law_number T.k__law_number B__law_number .nil pass1 (pa_cons (pe_ix ix_list (pv 1) pe_int (fun _ _ => rfl)) (pa_cons pe_int pa_nil))))
      (pss_cons (ps_if (PW.pt (pw_or (pt_cmpR op_isN (pv 2) pe_non (nomark _)) (pw_or1 (pt_cmpR op_lt (pe_callB call_len_seq rfl T.n_len (by decide +kernel) (pa_cons (pv 1) pa_nil)) pe_int (nomark _))))) (pss_one (ps_ret pe_non)) pss_nil)
      (pss_cons (ps_if (pt_cmpR (op_eqD hr.units) (pe_slice sl_list (pv 1) (po_some pe_int) po_none) (pe_lst (pa_cons pe_str pa_nil)) (nomark _)) (pss_one (ps_ret (pe_tup (pa_cons (pv 2) (pa_cons (pe_tup pa_nil) (pa_cons pe_str pa_nil)))))) pss_nil)
      (pss_cons (ps_set (i := 3) sc__law_reads.nd rfl (Or.inl rfl) (pe_call G__law_place_of (hr.mono (by decide)) rfl T.g__law_place_of T.k__law_place_of B__law_place_of .nil pass1 (pa_cons (pe_ix ix_list (pv 1) pe_int (fun _ _ => rfl)) pa_nil)))
      (pss_cons (ps_if (PW.pt (pw_or (pt_cmpR op_isN (pv 3) pe_non (nomark _)) (pw_or (pt_cmpR op_lt (pe_callB call_len_seq rfl T.n_len (by decide +kernel) (pa_cons (pv 1) pa_nil)) pe_int (nomark _)) (pw_or (pt_cmpR op_in_str pe_str (pv 0) (by rfl)) (pw_or1 (pt_cmpR op_in_str pe_str (pv 0) (by rfl))))))) (pss_one (ps_ret pe_non)) pss_nil)
      (pss_one (ps_ret (pe_tup (pa_cons (pv 2) (pa_cons (pv 3) (pa_cons (pe_bm PySem.F.plainAttrs_str PySem.F.slot_str_join PySem.F.type_str_join mt_join pe_str (pa_cons (pe_slice sl_list (pv 1) (po_some pe_int) po_none) pa_nil)) pa_nil)))))))))))), ?_⟩
    have sl := split_le z " "
    have okp : ∀ p ∈ Txt.split z " ", PyData.strOk p = true := fun p hp => ok_part (c := 32) hok hp
    refine ⟨_, rfl, rfl, z, _, rfl, rfl, by decide, by omega, fun l hp1 => ?_⟩
    rcases part_split z 32 with ⟨hpt, hs⟩ | ⟨a, r, hpt, hs, hze, hna⟩
    · have hpt : Txt.partition z " " = (z, Str.empty, Str.empty) := hpt
      have hs : Txt.split z " " = [z] := hs
      rw [hs]
      generalize hH1 : upd H l (HO.lst _) = H1
      have s1 : Same H H1 := hH1 ▸ same_upd hp1
      have P1 : Plain H1 := hH1 ▸ hp.lst
      have h1 := (congrFun hH1 l).symm.trans upd_same
      have vn : verL z = none := by
        cases e : leastL z 1 with
        | none => exact verL_none (by rw [hpt]; exact e)
        | some b =>
          rw [verL_in (z := z) (b := b) (by rw [hpt]; exact e) (by rw [hpt]; exact empty_ne), hpt]
          unfold tailL
          rw [part_empty]
          dsimp only
          split
          · rfl
          · exact if_pos (.inl rfl)
      refine ⟨_, rfl, _, _, _, _, rfl, rfl, SqL.of h1, rfl, P1, (z, some 1), ⟨rfl, hz, fun m e => by cases e; decide⟩, fun v hv => ?_⟩
      subst hv
      refine ⟨_, rfl, rfl, _, rfl, ite2d (fun _ => iteT ?_) (fun _ => ?_)⟩
      · exact q _ _ (.inl ⟨rfl, vn⟩) s1 P1
      · refine ⟨_, rfl, l, _, rfl, .inl (SqL.of h1), _, _, rfl, rfl, _, rfl, ite2d (fun _ => ?_) (fun h => absurd (by show ((1 : Nat) : Int) < 2; decide) h)⟩
        exact q _ _ (.inl ⟨rfl, vn⟩) s1 P1
    have hpt : Txt.partition z " " = (a, ⟨#[32]⟩, r) := hpt
    have hs : Txt.split z " " = a :: Txt.split r " " := hs
    have hzl : z.length = a.length + 1 + r.length := by rw [hze, len_add, len_add]; rfl
    rw [hs]
    generalize hH1 : upd H l (HO.lst _) = H1
    have s1 : Same H H1 := hH1 ▸ same_upd hp1
    have P1 : Plain H1 := hH1 ▸ hp.lst
    have h1 := (congrFun hH1 l).symm.trans upd_same
    have vn := fun h => verL_none (z := z) (by rw [hpt]; exact h)
    have vo := fun b h e => verL_out (z := z) (b := b) (by rw [hpt]; exact h) (by rw [hpt]; exact e)
    have vi := fun b h e => verL_in (z := z) (b := b) (by rw [hpt]; exact h) (by rw [hpt]; exact e)
    rw [hpt] at vi
    dsimp only at vi
    have oka : ∀ p ∈ Txt.split r " ", PyData.strOk p = true := fun p hp => okp p (by rw [hs]; exact List.mem_cons_of_mem _ hp)
    refine ⟨_, rfl, _, _, _, _, rfl, rfl, SqL.of h1, at0, P1, (a, some 1), ⟨rfl, by show a.length ≤ 640; omega, fun m e => by cases e; decide⟩, fun v hv => ?_⟩
    subst hv
    cases hb : leastL a 1 with
    | none =>
      have e : vOpt (leastO a (some 1)) = V.non := by show vOpt (leastL a 1) = _; rw [hb]; rfl
      rw [e]
      refine ⟨_, rfl, rfl, _, rfl, iteDT rfl (iteT ?_)⟩
      exact q _ _ (.inl ⟨rfl, vn hb⟩) s1 P1
    | some b =>
    have e : vOpt (leastO a (some 1)) = V.int b := by show vOpt (leastL a 1) = _; rw [hb]; rfl
    rw [e]
    have vo := vo b hb
    have vi := vi b hb
    have hne := split_ne r 32
    have hne : Txt.split r " " ≠ [] := hne
    have hlen : 1 ≤ (Txt.split r " ").length := by
      cases e : Txt.split r " " with
      | nil => exact absurd e hne
      | cons _ _ => simp
    refine ⟨_, rfl, rfl, _, rfl, iteDF (by intro z; cases z) ?_⟩
    refine ⟨_, rfl, l, _, rfl, .inl (SqL.of h1), _, _, rfl, rfl, _, rfl, ite2d (fun h => ?_) (fun _ => ?_)⟩
    · rw [List.length_map, List.length_cons] at h
      omega
    refine ⟨_, rfl, _, rfl, l, _, rfl, SqL.of h1, fun l2 hp2 => ?_⟩
    have ecut : cutV ((a :: Txt.split r " ").map V.str) (some 1) none = (Txt.split r " ").map V.str := by
      rw [cut_drop (by decide)]
      rfl
    rw [ecut]
    generalize hH2 : upd H1 l2 (HO.lst _) = H2
    have s2 : Same H1 H2 := hH2 ▸ same_upd hp2
    have P2 : Plain H2 := hH2 ▸ P1.lst
    have h2 := (congrFun hH2 l2).symm.trans upd_same
    refine ⟨by show 1 ≤ sizeLine; decide, fun l3 hp3 => ?_⟩
    generalize hH3 : upd H2 l3 (HO.lst _) = H3
    have s3 : Same H2 H3 := hH3 ▸ same_upd hp3
    have P3 : Plain H3 := hH3 ▸ P2.lst
    have h3 := (congrFun hH3 l3).symm.trans upd_same
    have S3 := (s1.trans s2).trans s3
    refine ⟨.list ((Txt.split r " ").map PyData.str), .list ((["-"] : List Str).map PyData.str), ⟨l2, _, rfl, SqL.of (s3 _ _ h2), dvs_strs _⟩, ⟨l3, _, rfl, SqL.of h3, dvs_strs ["-"]⟩, strs_shaped oka, strs_shaped (fun p hp => by rw [List.mem_singleton.mp hp]; exact ok_lit _), _, rfl, ?_⟩
    rw [show PyData.eqv (.list ((Txt.split r " ").map PyData.str)) (.list ((["-"] : List Str).map PyData.str)) = PyData.eqvAll ((Txt.split r " ").map PyData.str) ((["-"] : List Str).map PyData.str) from rfl, eqv_strs]
    refine ite2d (fun hd => ?_) (fun hd => ?_)
    · have hd := (split_dash r).mp hd
      refine ⟨_, rfl, by show 0 ≤ sizeLine; decide, fun te hp4 => ?_⟩
      generalize hH4 : upd H3 te (HO.tup _) = H4
      have s4 : Same H3 H4 := hH4 ▸ same_upd hp4
      have P4 : Plain H4 := hH4 ▸ P3.tup
      have h4 := (congrFun hH4 te).symm.trans upd_same
      refine ⟨by show 3 ≤ sizeLine; decide, fun t hp5 => ?_⟩
      generalize hH5 : upd H4 t (HO.tup _) = H5
      have s5 : Same H4 H5 := hH5 ▸ same_upd hp5
      have P5 : Plain H5 := hH5 ▸ P4.tup
      have h5 := (congrFun hH5 t).symm.trans upd_same
      exact q _ _ (.inr ⟨(b, [], ""), ver_mk (v := (b, [], "")) (SqT.of h5) (DV.same s5 _ _ (empty_dv h4)), vo hd, ok_lit ""⟩) ((S3.trans s4).trans s5) P5
    have hd : ¬ r = "-" := fun e => hd ((split_dash r).mpr e)
    have vi := vi hd
    unfold tailL at vi
    have h13 := (s2.trans s3) _ _ h1
    rcases part_split r 32 with ⟨hpt2, hs2⟩ | ⟨p, w, hpt2, hs2, hre, hnp⟩
    · have hpt2 : Txt.partition r " " = (r, Str.empty, Str.empty) := hpt2
      have hs2 : Txt.split r " " = [r] := hs2
      have vn2 : verL z = none := by
        rw [vi, hpt2]
        dsimp only
        split
        · rfl
        · exact if_pos (.inl rfl)
      rw [hs2] at h13
      refine ⟨_, rfl, _, _, _, _, rfl, rfl, SqL.of h13, rfl, P3, r, ⟨rfl, by omega⟩, fun v H4 hv s4 P4 => ?_, fun _ _ h => h.elim⟩
      dsimp only at hv
      rcases hv with ⟨rfl, _⟩ | ⟨t, ss, rfl, hdv, _⟩
      · refine ⟨_, rfl, rfl, _, rfl, iteDT rfl (iteT ?_)⟩
        exact q _ _ (.inl ⟨rfl, vn2⟩) (S3.trans s4) P4
      · refine ⟨_, rfl, rfl, _, rfl, iteDF (by intro z; cases z) ?_⟩
        refine ⟨_, rfl, l, _, rfl, .inl (SqL.of (s4 _ _ h13)), _, _, rfl, rfl, _, rfl, ite2d (fun _ => iteT ?_) (fun h => absurd (by show ((2 : Nat) : Int) < 3; decide) h)⟩
        exact q _ _ (.inl ⟨rfl, vn2⟩) (S3.trans s4) P4
    have hpt2 : Txt.partition r " " = (p, ⟨#[32]⟩, w) := hpt2
    have hs2 : Txt.split r " " = p :: Txt.split w " " := hs2
    have hrl : r.length = p.length + 1 + w.length := by rw [hre, len_add, len_add]; rfl
    rw [hpt2] at vi
    dsimp only at vi
    rw [hs2] at h13
    have hne2 : Txt.split w " " ≠ [] := split_ne w 32
    have hlen2 : 1 ≤ (Txt.split w " ").length := by
      cases e : Txt.split w " " with
      | nil => exact absurd e hne2
      | cons _ _ => simp
    refine ⟨_, rfl, _, _, _, _, rfl, rfl, SqL.of h13, at1, P3, p, ⟨rfl, by omega⟩, fun v H4 hv s4 P4 => ?_, fun _ _ h => h.elim⟩
    dsimp only at hv
    rcases hv with ⟨rfl, hno⟩ | ⟨t, ss, rfl, hdv, hpl⟩
    · refine ⟨_, rfl, rfl, _, rfl, iteDT rfl (iteT ?_)⟩
      exact q _ _ (.inl ⟨rfl, by rw [vi, hno]⟩) (S3.trans s4) P4
    rw [hpl] at vi
    dsimp only at vi
    have hzz : z = (a ++ (⟨#[32]⟩ : Str)) ++ ((p ++ (⟨#[32]⟩ : Str)) ++ w) := by rw [hze, hre]
    have m10 := sign_words (w := w) hb hpl (c := 10) (.inr rfl)
    have m9 := sign_words (w := w) hb hpl (c := 9) (.inl rfl)
    rw [← hzz] at m10 m9
    have no : (10 ∈ z.cps.toList ∨ 9 ∈ z.cps.toList) → verL z = none := fun h => by
      rw [vi]
      refine if_pos (.inr ?_)
      rw [words_mem]
      rcases h with h | h
      · rw [decide_eq_true (m10.mp h)]; rfl
      · rw [decide_eq_true (m9.mp h), Bool.not_true, Bool.and_false]
    refine ⟨_, rfl, rfl, _, rfl, iteDF (by intro z; cases z) ?_⟩
    refine ⟨_, rfl, l, _, rfl, .inl (SqL.of (s4 _ _ h13)), _, _, rfl, rfl, _, rfl, ite2d (fun h => ?_) (fun _ => ?_)⟩
    · rw [List.length_map, List.length_cons, List.length_cons] at h
      omega
    refine ⟨_, rfl, _, _, rfl, rfl, _, rfl, ?_⟩
    rw [show (Str.ofString "\n") = ⟨#[10]⟩ from rfl, occ_mem]
    refine ite2d (fun h10 => iteT ?_) (fun h10 => ?_)
    · exact q _ _ (.inl ⟨rfl, no (.inl h10)⟩) (S3.trans s4) P4
    refine ⟨_, rfl, _, _, rfl, rfl, _, rfl, ?_⟩
    rw [show (Str.ofString "\t") = ⟨#[9]⟩ from rfl, occ_mem]
    refine ite2d (fun h9 => ?_) (fun h9 => ?_)
    · exact q _ _ (.inl ⟨rfl, no (.inr h9)⟩) (S3.trans s4) P4
    have yes : verL z = some (b, ss, w) := by
      rw [vi]
      refine if_neg ?_
      rintro (e | e)
      · exact blank_ne e
      · rw [words_mem, decide_eq_false (fun h => h10 (m10.mpr h)), decide_eq_false (fun h => h9 (m9.mpr h))] at e
        cases e
    have okw : PyData.strOk w = true := by
      have e : Str.join ⟨#[32]⟩ (Txt.split w " ") = w := StrLaws.join_split w " "
      rw [ok_iff]
      intro n hn
      refine ok_iff.mp hok n ?_
      rw [hzz, codes_add, codes_add (p ++ _)]
      exact List.mem_append_right _ (List.mem_append_right _ hn)
    refine ⟨_, rfl, _, rfl, rfl, _, rfl, _, rfl, l, _, rfl, SqL.of (s4 _ _ h13), fun l6 hp6 => ?_⟩
    have ecut2 : cutV ((a :: p :: Txt.split w " ").map V.str) (some 2) none = (Txt.split w " ").map V.str := by
      rw [cut_drop (by decide)]
      rfl
    rw [ecut2]
    generalize hH6 : upd H4 l6 (HO.lst _) = H6
    have s6 : Same H4 H6 := hH6 ▸ same_upd hp6
    have P6 : Plain H6 := hH6 ▸ P4.lst
    have h6 := (congrFun hH6 l6).symm.trans upd_same
    have jw : Txt.join " " (Txt.split w " ") = w := join_split_back w 32
    have hw := split_weight w " " (by decide)
    have n1 : (Str.ofString " ").length = 1 := rfl
    refine ⟨_, l6, Txt.split w " ", rfl, rfl, SqL.of h6, by rw [n1]; omega, ?_⟩
    rw [jw]
    refine ⟨by show 3 ≤ sizeLine; decide, fun t7 hp7 => ?_⟩
    generalize hH7 : upd H6 t7 (HO.tup _) = H7
    have s7 : Same H6 H7 := hH7 ▸ same_upd hp7
    have P7 : Plain H7 := hH7 ▸ P6.tup
    have h7 := (congrFun hH7 t7).symm.trans upd_same
    exact q _ _ (.inr ⟨(b, ss, w), ver_mk (v := (b, ss, w)) (SqT.of h7) (DV.same (s6.trans s7) _ _ hdv), yes, okw⟩) (((S3.trans s4).trans s6).trans s7) P7
theorem sc__law_right : FnScope ["_law_text", "_law_due", "_law_found", "_law_refusal", "e"] ["_law_text"] (defScope s__law_right) := ⟨rfl, rfl, rfl, by decide +kernel, rfl, by decide +kernel, by decide +kernel⟩
abbrev Ok__law_right (P : Program) (w : World) (K : PySem.W.Frag) (mg : Str → Option Value) (base : Heap) (A : Adr) : Prop := FnOk P w K mg base (CX1 P w base) 7 A.f__law_right A.d__law_right ["_law_text"] sp_rr
set_option maxHeartbeats 4000000 in
theorem ok__law_right (T : Txt K mg A) (G_read_version : Ok_read_version P w K mg base A) (G__law_reads : Ok__law_reads P w K mg base A) : Ok__law_right P w K mg base A := by
  have B_read_version := T.b_read_version
  have B__law_reads := T.b__law_reads
  refine FnOk.pure (T.F__law_right.okN sc__law_right (fun vs H Q E h => ?_) (fun cdv Ar outer s H vs Q E hr h => ?_))
  · obtain ⟨_, a, ⟨rfl, _⟩, _⟩ := h
    rfl
  · obtain ⟨hp, z, ⟨rfl, hz, hok⟩, q⟩ := h
    refine ⟨_, (pss_cons (ps_set (i := 1) sc__law_right.nd rfl (Or.inl rfl) (pe_call G__law_reads (hr.mono (by decide)) rfl T.g__law_reads T.k__law_reads B__law_reads .nil pass1 (pa_cons (pv 0) pa_nil)))
      (pss_cons (ps_set (i := 2) sc__law_right.nd rfl (Or.inl rfl) pe_non)
      (pss_cons (ps_set (i := 3) sc__law_right.nd rfl (Or.inl rfl) pe_non)
      (pss_cons (ps_try (j := 2) (i := 4) sc__law_right.nd T.x_DraftError rfl T.g_DraftError ⟨⟨_, _, _, rfl, rfl, rfl⟩⟩ rfl (fun _ _ _ _ hx => (pe_callS G_read_version (hr.mono (by decide)) rfl T.g_read_version T.k_read_version B_read_version .nil hx (pa_cons (pv 0) pa_nil))) (fun _ => (pss_one (ps_set (i := 3) sc__law_right.nd rfl (Or.inl rfl) (pv 4)))))
      (pss_cons (ps_if (pt_cmpR op_notN (pv 1) pe_non (nomark _)) (pss_one (ps_ret (pe_and (pe_cmpR op_isN (pv 3) pe_non (nomark _)) (pe_one (pe_cmpR (op_eqD hr.units) (pv 2) (pv 1) (nomark _)))))) pss_nil)
      (pss_cons (ps_if (PW.pt (pw_or (pt_cmpR op_notN (pv 2) pe_non (nomark _)) (pw_or (pt_not (pt_val (pe_callB call_isExc rfl T.n_isinstance (by decide +kernel) (pa_cons (pv 3) (pa_cons (pe_glob (v := .ref A.NoText) rfl T.g_NoText rfl) pa_nil))))) (pw_or1 (pt_not (pt_val (pe_callB call_isExc rfl T.n_isinstance (by decide +kernel) (pa_cons (pv 3) (pa_cons (pe_bltn (v := .ty "ValueError") rfl T.n_ValueError (by decide +kernel) rfl) pa_nil))))))))) (pss_one (ps_ret pe_bl)) pss_nil)
      (pss_one (ps_ret (pe_not (pe_callB call_isExcT rfl T.n_isinstance (by decide +kernel) (pa_cons (pv 3) (pa_cons (pe_tup (pa_cons (pe_glob (v := .ref A.NoDeed) rfl T.g_NoDeed rfl) (pa_cons (pe_glob (v := .ref A.NoRow) rfl T.g_NoRow rfl) (pa_cons (pe_glob (v := .ref A.NoSave) rfl T.g_NoSave rfl) (pa_cons (pe_glob (v := .ref A.NoWords) rfl T.g_NoWords rfl) pa_nil))))) pa_nil)))))))))))), ?_⟩
    refine ⟨_, rfl, hp, z, ⟨rfl, hz, hok⟩, fun v H1 hv s1 P1 => ?_, fun _ _ h => h.elim⟩
    dsimp only at hv
    refine ⟨fun c _ H2 => c = .ref A.NoText ∧ Same H1 H2 ∧ Plain H2 ∧ verL z = none, ⟨_, rfl, P1, z, ⟨rfl, hz⟩, fun u H2 hu s2 P2 => ?_, fun C H2 hC s2 P2 => ⟨by rw [hC.1], s2, P2, hC.2⟩⟩, fun C y H2 hEX hy => ?_⟩
    · obtain ⟨w, hd, hm⟩ := hu
      rcases hv with ⟨_, hn⟩ | ⟨w', hd', hm', okw⟩
      · rw [hn] at hm; cases hm
      rw [hm] at hm'
      cases hm'
      obtain ⟨t, pv, rfl, _⟩ := ver_of hd'
      refine ⟨_, rfl, rfl, _, rfl, iteNT (by intro z; cases z) ?_⟩
      refine ⟨_, rfl, rfl, _, rfl, iteDT rfl ?_⟩
      refine ⟨_, rfl, _, rfl, ver w, ver w, hd, DV.same s2 _ _ hd', ver_shaped okw, ver_shaped okw, q _ _ ?_ (s1.trans s2)⟩
      rw [ver_eqv, decide_eq_true rfl]
    · obtain ⟨hC, s2, P2, hn⟩ := hEX
      obtain rfl : C = A.NoText := by cases hC; rfl
      refine ⟨T.x_NoText, T.m_nd, ?_⟩
      rcases hv with ⟨rfl, _⟩ | ⟨w', _, hm', _⟩
      · refine ⟨_, rfl, ?_⟩
        refine ⟨_, rfl, rfl, _, rfl, iteNS rfl ?_⟩
        refine ⟨_, rfl, rfl, _, rfl, iteNS rfl ?_⟩
        refine ⟨_, rfl, _, _, _, _, _, rfl, upd_same, T.x_NoText, rfl, (by show (if (Value.ref _ == Value.ref _) = true then _ else _) = _; rw [if_pos (beq_self_eq_true _)]), true, rfl, iteF ?_⟩
        refine ⟨_, rfl, _, _, _, _, _, rfl, upd_same, T.x_NoText, rfl, T.kv, true, rfl, iteF ?_⟩
        refine ⟨_, rfl, (by show 4 ≤ sizeLine; decide), fun tp htp => ?_⟩
        refine ⟨_, _, _, _, _, _, rfl, by rw [upd_ne (ne_of_none upd_same htp)]; exact upd_same, T.x_NoText, upd_same, rfl, T.kt, _, rfl, q _ _ rfl (((s1.trans s2).upd ((s1.trans s2).free hy)).trans (same_upd htp))⟩
      · rw [hn] at hm'; cases hm'
theorem sc__law_written : FnScope ["_law_version_here", "_law_steps"] ["_law_version_here"] (defScope s__law_written) := ⟨rfl, rfl, rfl, by decide +kernel, rfl, by decide +kernel, by decide +kernel⟩
abbrev Ok__law_written (P : Program) (w : World) (K : PySem.W.Frag) (mg : Str → Option Value) (base : Heap) (A : Adr) : Prop := FnOk P w K mg base (CX1 P w base) 1 A.f__law_written A.d__law_written ["_law_version_here"] (sp_wr K)
set_option maxHeartbeats 4000000 in
theorem ok__law_written (T : Txt K mg A)  : Ok__law_written P w K mg base A := by
  refine FnOk.pureH (T.F__law_written.okN sc__law_written (fun vs H Q E h => ?_) (fun cdv Ar outer s H vs Q E hr h => ?_))
  · obtain ⟨_, a, ⟨x, rfl, _⟩, _⟩ := h
    rfl
  · obtain ⟨hp, v, ⟨x, hv, hx, hg⟩, q⟩ := h
    obtain rfl : vs = [x] := hv
    obtain ⟨t, pa, rfl, hq, hd⟩ := ver_of hx
    obtain ⟨g1, g2, g3, g4, g5⟩ := hg
    refine ⟨_, (pss_cons (ps_if (pt_cmpR (op_eqD hr.units) (pe_ix ix_tup (pv 0) pe_int (fun _ _ => rfl)) (pe_tup pa_nil) (nomark _)) (pss_one (ps_ret (pe_op op_add_str (pe_callTy call_str_int rfl T.n_str (by decide +kernel) (pa_cons (pe_ix ix_tup (pv 0) pe_int (fun _ _ => rfl)) pa_nil)) pe_str))) pss_nil)
      (pss_cons (ps_setC ["_law_rank", "_law_window", "_law_count"] 3 [] (i := 1) sc__law_written.nd rfl (Or.inl rfl) rfl (pi_tup (pe_ix ix_tup (pv 0) pe_int (fun _ _ => rfl))) gk3 (fun _ _ _ _ _ => pg_tup rfl (pgs_cons (pg_name (i := 0) (show List.Nodup (["_law_rank", "_law_window", "_law_count"] : List Str) by decide +kernel) rfl (Or.inl rfl)) (pgs_cons (pg_name (i := 1) (show List.Nodup (["_law_rank", "_law_window", "_law_count"] : List Str) by decide +kernel) rfl (Or.inl rfl)) (pgs_cons (pg_name (i := 2) (show List.Nodup (["_law_rank", "_law_window", "_law_count"] : List Str) by decide +kernel) rfl (Or.inl rfl)) pgs_nil)))) (fun _ _ _ _ _ => pif_nil) (fun _ _ _ _ _ => (pe_op op_add_str (pe_op op_add_str (pe_op op_add_str (pe_op op_add_str (pe_callTy call_str_int rfl T.n_str (by decide +kernel) (pa_cons (pv 0) pa_nil)) pe_str) (pe_callTy call_str_int rfl T.n_str (by decide +kernel) (pa_cons (pv 1) pa_nil))) pe_str) (pe_callTy call_str_int rfl T.n_str (by decide +kernel) (pa_cons (pv 2) pa_nil)))))
      (pss_one (ps_ret (pe_op op_add_str (pe_op op_add_str (pe_op op_add_str (pe_op op_add_str (pe_callTy call_str_int rfl T.n_str (by decide +kernel) (pa_cons (pe_ix ix_tup (pv 0) pe_int (fun _ _ => rfl)) pa_nil)) pe_str) (pe_bm PySem.F.plainAttrs_str PySem.F.slot_str_join PySem.F.type_str_join mt_join pe_str (pa_cons (pv 1) pa_nil))) pe_str) (pe_ix ix_tup (pv 0) pe_int (fun _ _ => rfl))))))), ?_⟩
    have l30 := L2.len30 g1.1 g1.2
    have b40 : B40 v.1 := by unfold B30 at g1; unfold B40; omega
    have n1 : (Str.ofString " ").length = 1 := rfl
    have n2 : (Str.ofString " -").length = 2 := rfl
    refine ⟨_, rfl, _, _, _, _, rfl, rfl, hq, rfl, by show 0 ≤ sizeLine; decide, fun te hp1 => ?_⟩
    generalize hH1 : upd H te (HO.tup _) = H1
    have s1 : Same H H1 := hH1 ▸ same_upd hp1
    have P1 : Plain H1 := hH1 ▸ hp.tup
    have h1 := (congrFun hH1 te).symm.trans upd_same
    have hq1 := s1.seqT hq
    have hd1 := DV.same s1 _ _ hd
    refine ⟨plc v.2.1, plc [], hd1, empty_dv h1, plc_shaped _, plc_shaped _, _, rfl, ?_⟩
    rw [plc_eqv]
    refine ite2d (fun ho => ?_) (fun ho => ?_)
    · refine ⟨_, rfl, _, _, _, _, rfl, rfl, hq1, rfl, _, rfl, str40 b40.1 b40.2, _, _, rfl, rfl, Nat.le_of_lt (small1000 (by omega)), q _ _ ?_ s1⟩
      dsimp only
      unfold verTxt
      rw [if_pos ho]
    obtain ⟨p, xs, rfl, hpq, hds⟩ := id hd1
    have hxl : xs.length = v.2.1.length := by rw [hds.length, List.length_map]
    refine ⟨_, rfl, _, _, _, _, rfl, rfl, hq1, rfl, p, rfl, ⟨_, hpq⟩, fun D hD => comp_gen (n := xs.length) (fun i => xs.getD i .non) (fun i y _ => ∃ s, v.2.1[i]? = some s ∧ y = .str (dots (sL s))) hD P1 ?_ (itt_ok hpq) (fun _ _ _ _ h _ _ => h) ?_ ?_⟩
    · exact Nat.le_of_lt (small1000 (by omega))
    · intro i H2 R hi hP2 hs2 hR
      have hi' : i < v.2.1.length := by omega
      obtain ⟨t, ht, hq2⟩ := plc_get hds hi'
      have hn : v.2.1[i]? = some v.2.1[i] := List.getElem?_eq_getElem hi'
      have hm : v.2.1[i] ∈ v.2.1 := List.getElem_mem hi'
      generalize v.2.1[i] = s at hn hm hq2
      have ev : xs.getD i .non = .ref t := by rw [List.getD_eq_getElem?_getD, ht]; rfl
      rw [ev]
      have b := s40 (s30 (g3 s hm))
      have b1 := len40 b.1.1 b.1.2
      have b2 := len40 b.2.1.1 b.2.1.2
      have b3 := len40 b.2.2.1 b.2.2.2
      have l1 : (Str.ofString ".").length = 1 := rfl
      refine ⟨t, sV s, rfl, hs2.seqT hq2, rfl, _, _, rfl, _, _, rfl, _, _, rfl, rfl, ?_⟩
      exact ⟨_, rfl, _, rfl, str40 b.1.1 b.1.2, _, _, rfl, rfl, Nat.le_of_lt (small1000 (by (try simp only [len_add]); omega)), _, rfl, _, rfl, str40 b.2.1.1 b.2.1.2, _, _, rfl, rfl, Nat.le_of_lt (small1000 (by (try simp only [len_add]); omega)), _, _, rfl, rfl, Nat.le_of_lt (small1000 (by (try simp only [len_add]); omega)), _, rfl, _, rfl, str40 b.2.2.1 b.2.2.2, _, _, rfl, rfl, Nat.le_of_lt (small1000 (by (try simp only [len_add]); omega)), hR _ _ ⟨s, hn, rfl⟩ (Same.refl _) hP2⟩
    · intro ys H2 hl2 hr2 hd2 hs2 hP2
      have ey : ys = (v.2.1.map fun s => dots (sL s)).map V.str := by
        rw [List.map_map]
        exact ys_map (by omega) hr2
      have h1 : ((v.2.1.map fun s => dots (sL s)).map (·.length)).sum ≤ v.2.1.length * 95 := sum_le fun s hs => dots30 (s30 (g3 s hs))
      have h3 : (Str.ofString "/").length = 1 := rfl
      have hj := join_len "/" (v.2.1.map fun s => dots (sL s))
      rw [h3, List.length_map] at hj
      have hq2 := hs2.seqT hq1
      refine ⟨_, rfl, _, _, _, _, rfl, rfl, hq2, rfl, _, rfl, str40 b40.1 b40.2, _, _, rfl, rfl, Nat.le_of_lt (small1000 (by omega)), rfl, _, rfl, _, D, v.2.1.map fun s => dots (sL s), rfl, rfl, SqL.of (by rw [hd2, ey]), ?_, _, _, rfl, rfl, Nat.le_of_lt (small1000 (by rw [len_add]; omega)), _, _, rfl, rfl, Nat.le_of_lt (small1000 (by rw [len_add, len_add]; omega)), _, rfl, _, _, _, _, rfl, rfl, hq2, rfl, _, _, rfl, rfl, Nat.le_of_lt (small1000 (by rw [len_add, len_add, len_add]; omega)), q _ _ ?_ (s1.trans hs2)⟩
      · rw [h3, List.length_map]
        omega
      · dsimp only
        unfold verTxt
        rw [if_neg ho]
        rfl
theorem sc__law_too_great : FnScope ["_law_version_here", "_law_some", "_law_far", "_law_other", "_law_rank", "_law_window", "_law_count", "_law_refusal", "_law_found", "e"] ["_law_version_here", "_law_some"] (defScope s__law_too_great) := ⟨rfl, rfl, rfl, by decide +kernel, rfl, by decide +kernel, by decide +kernel⟩
abbrev Ok__law_too_great (P : Program) (w : World) (K : PySem.W.Frag) (mg : Str → Option Value) (base : Heap) (A : Adr) : Prop := FnOk P w K mg base (CX1 P w base) 5 A.f__law_too_great A.d__law_too_great ["_law_version_here", "_law_some"] (sp_tg K)
set_option maxHeartbeats 4000000 in
theorem ok__law_too_great (T : Txt K mg A) (G_version_text : Ok_version_text P w K mg base A) : Ok__law_too_great P w K mg base A := by
  have B_version_text := T.b_version_text
  refine FnOk.pureH (T.F__law_too_great.okN sc__law_too_great (fun vs H Q E h => ?_) (fun cdv Ar outer s H vs Q E hr h => ?_))
  · obtain ⟨_, a, ⟨x, rfl, _⟩, _⟩ := h
    rfl
  · obtain ⟨hp, ⟨v, l⟩, ⟨x, hv, hx, hg, hdig⟩, q⟩ := h
    obtain rfl : vs = [x, .ref l] := hv
    dsimp only at hx hg hdig
    have hd := hdig
    obtain ⟨d0, d1, d2, d3, d4, d5, d6, d7, hl, e0, e1, e2, e3, e4, e5, e6, e7⟩ := hd
    obtain ⟨t, pa, rfl, hq, hd⟩ := ver_of hx
    have G4 := g40 hg
    obtain ⟨g1, g2, g3, g4, g5⟩ := hg
    refine ⟨_, (pss_cons (ps_set (i := 2) sc__law_too_great.nd rfl (Or.inl rfl) (pe_op op_add (pe_op op_pow pe_int pe_int) (pe_op op_mul (pe_ix ix_list (pv 1) pe_int (fun _ _ => rfl)) (pe_op op_pow pe_int pe_int))))
      (pss_cons (ps_set (i := 3) sc__law_too_great.nd rfl (Or.inl rfl) (pe_tup (pa_cons (pv 2) (pa_cons (pe_ix ix_tup (pv 0) pe_int (fun _ _ => rfl)) (pa_cons (pe_ix ix_tup (pv 0) pe_int (fun _ _ => rfl)) pa_nil)))))
      (pss_cons (ps_if (PW.pt (pw_and (pt_cmpR (op_neD hr.units) (pe_ix ix_tup (pv 0) pe_int (fun _ _ => rfl)) (pe_tup pa_nil) (nomark _)) (pw_and1 (pt_cmpR op_eq (pe_op op_mod (pe_ix ix_list (pv 1) pe_int (fun _ _ => rfl)) pe_int) pe_int (nomark _))))) (pss_cons (ps_asg (pe_ix ix_tup (pe_ix ix_tup (pv 0) pe_int (fun _ _ => rfl)) (pe_un un_neg pe_int) (fun _ _ => rfl)) (pg_tup rfl (pgs_cons (pg_name (i := 4) sc__law_too_great.nd rfl (Or.inl rfl)) (pgs_cons (pg_name (i := 5) sc__law_too_great.nd rfl (Or.inl rfl)) (pgs_cons (pg_name (i := 6) sc__law_too_great.nd rfl (Or.inl rfl)) pgs_nil)))))
      (pss_one (ps_set (i := 3) sc__law_too_great.nd rfl (Or.inl rfl) (pe_tup (pa_cons (pe_ix ix_tup (pv 0) pe_int (fun _ _ => rfl)) (pa_cons (pe_op op_catG (pe_slice sl_tupG (pe_ix ix_tup (pv 0) pe_int (fun _ _ => rfl)) po_none (po_some (pe_un un_neg pe_int))) (pe_tup (pa_cons (pe_tup (pa_cons (pv 4) (pa_cons (pv 5) (pa_cons (pv 2) pa_nil)))) pa_nil))) (pa_cons (pe_ix ix_tup (pv 0) pe_int (fun _ _ => rfl)) pa_nil))))))) pss_nil)
      (pss_cons (ps_set (i := 7) sc__law_too_great.nd rfl (Or.inl rfl) pe_non)
      (pss_cons (ps_set (i := 8) sc__law_too_great.nd rfl (Or.inl rfl) pe_non)
      (pss_cons (ps_try (j := 8) (i := 9) sc__law_too_great.nd T.x_DraftError rfl T.g_DraftError ⟨⟨_, _, _, rfl, rfl, rfl⟩⟩ rfl (fun _ _ _ _ hx => (pe_callS G_version_text (hr.mono (by decide)) rfl T.g_version_text T.k_version_text B_version_text .nil hx (pa_cons (pv 3) pa_nil))) (fun _ => (pss_one (ps_set (i := 7) sc__law_too_great.nd rfl (Or.inl rfl) (pv 9)))))
      (pss_one (ps_ret (pe_and (pe_cmpR op_isN (pv 8) pe_non (nomark _)) (pe_and (pe_callB call_isExc rfl T.n_isinstance (by decide +kernel) (pa_cons (pv 7) (pa_cons (pe_glob (v := .ref A.NoText) rfl T.g_NoText rfl) pa_nil))) (pe_one (pe_not (pe_callB call_isExcT rfl T.n_isinstance (by decide +kernel) (pa_cons (pv 7) (pa_cons (pe_tup (pa_cons (pe_glob (v := .ref A.NoRow) rfl T.g_NoRow rfl) (pa_cons (pe_glob (v := .ref A.NoWords) rfl T.g_NoWords rfl) pa_nil))) pa_nil))))))))))))))), ?_⟩
    unfold Dig at *
    have e30 : (10 : Int) ^ Int.toNat 30 = 10 ^ 30 := rfl
    have e9 : (10 : Int) ^ Int.toNat 9 = 10 ^ 9 := rfl
    refine ⟨_, _, rfl, rfl, ⟨by decide, by decide, by decide⟩, _, rfl, _, _, _, _, rfl, rfl, SqL.of hl, rfl, _, _, rfl, rfl, ⟨by decide, by decide, by decide⟩, _, _, rfl, rfl, Or.inl ⟨by omega, by omega⟩, _, _, rfl, rfl, ?_⟩
    dsimp only
    generalize hfar : (10 : Int) ^ Int.toNat 30 + d3 * 10 ^ Int.toNat 9 = far
    rw [e30, e9] at hfar
    have f1 : 10 ^ 30 ≤ far := by omega
    have f2 : far < 10 ^ 40 := by omega
    refine ⟨_, rfl, _, rfl, _, _, _, _, rfl, rfl, hq, rfl, _, rfl, _, _, _, _, rfl, rfl, hq, rfl, by show 3 ≤ sizeLine; decide, fun t1 hp1 => ?_⟩
    generalize hH1 : upd H t1 (HO.tup _) = H1
    have s1 : Same H H1 := hH1 ▸ same_upd hp1
    have P1 : Plain H1 := hH1 ▸ hp.tup
    have h1 := (congrFun hH1 t1).symm.trans upd_same
    have hq1 := s1.seqT hq
    have hl1 := s1 _ _ hl
    have hd1 := DV.same s1 _ _ hd
    have D1 : DV K H1 (ver (far, v.2)) (.ref t1) := ver_mk (v := (far, v.2)) (SqT.of h1) hd1
    have G1 : G40 (far, v.2) := ⟨by unfold B40; dsimp only; omega, G4.2.1, G4.2.2.1, G4.2.2.2⟩
    have N1 : ¬ (B30 far ∧ ∀ s ∈ v.2.1, S30 s) := fun h => by have := h.1.2; omega
    refine ⟨_, rfl, _, _, _, _, rfl, rfl, hq1, rfl, by show 0 ≤ sizeLine; decide, fun te hp2 => ?_⟩
    generalize hH2 : upd H1 te (HO.tup _) = H2
    have s2 : Same H1 H2 := hH2 ▸ same_upd hp2
    have P2 : Plain H2 := hH2 ▸ P1.tup
    have h2 := (congrFun hH2 te).symm.trans upd_same
    have hq2 := s2.seqT hq1
    have hl2 := s2 _ _ hl1
    have hd2 := DV.same s2 _ _ hd1
    have S2 := s1.trans s2
    have D2 := DV.same s2 _ _ D1
    refine ⟨plc v.2.1, plc [], hd2, empty_dv h2, plc_shaped _, plc_shaped _, _, rfl, ?_⟩
    rw [plc_eqv]
    refine ite2n (fun ho => ?_) (fun ho => ?_)
    · refine ⟨_, rfl, _, _, _, _, rfl, rfl, SqL.of hl2, rfl, _, _, rfl, rfl, (by show (0 : Int) < 2; decide), rfl, _, rfl, ite2d (fun _ => ?_) (fun _ => ?_)⟩
      · obtain ⟨p, xs, rfl, hpq, hds⟩ := id hd2
        have hxl : xs.length = v.2.1.length := by rw [hds.length, List.length_map]
        have hpos : 0 < v.2.1.length := by
          cases e : v.2.1 with
          | nil => exact absurd e ho
          | cons _ _ => simp
        have hn : v.2.1.length - 1 < v.2.1.length := by omega
        obtain ⟨t0, ht0, hq0⟩ := plc_get hds hn
        have hs0 := g3 _ (List.getElem_mem hn)
        generalize v.2.1[v.2.1.length - 1] = s0 at hq0 hs0
        have hat : atI xs (-1) = some (V.ref t0) := atI_last (n := v.2.1.length - 1) (by omega) ht0
        refine ⟨_, rfl, _, _, _, _, rfl, rfl, hq2, rfl, _, rfl, p, _, _, _, rfl, rfl, hpq, hat, t0, _, rfl, hq0, rfl, _, _, rfl, _, _, rfl, _, _, rfl, rfl, ?_⟩
        refine ⟨_, rfl, _, _, _, _, rfl, rfl, hq2, rfl, _, rfl, _, _, _, _, rfl, rfl, hq2, rfl, _, rfl, _, rfl, p, xs, rfl, hpq, fun p3 H3 g3' s3 pg3 => ?_⟩
        have P3 := pg3 P2
        refine ⟨_, rfl, _, rfl, _, rfl, by show 3 ≤ sizeLine; decide, fun t4 hp4 => ?_⟩
        generalize hH4 : upd H3 t4 (HO.tup _) = H4
        have s4 : Same H3 H4 := hH4 ▸ same_upd hp4
        have P4 : Plain H4 := hH4 ▸ P3.tup
        have h4 := (congrFun hH4 t4).symm.trans upd_same
        refine ⟨by show 1 ≤ sizeLine; decide, fun t5 hp5 => ?_⟩
        generalize hH5 : upd H4 t5 (HO.tup _) = H5
        have s5 : Same H4 H5 := hH5 ▸ same_upd hp5
        have P5 : Plain H5 := hH5 ▸ P4.tup
        have h5 := (congrFun hH5 t5).symm.trans upd_same
        have ecut : cutV xs none (some (-1)) = xs.take (xs.length - 1) := cut_last xs
        rw [ecut] at g3'
        refine ⟨p3, t5, _, _, rfl, rfl, (s4.trans s5).seqT g3', SqT.of h5, ?_, fun p6 H6 g6 s6 pg6 => ?_⟩
        · rw [List.length_take]
          exact Nat.le_of_lt (small1000 (by show _ + 1 ≤ 1000; omega))
        have P6 := pg6 P5
        have S6 : Same H2 H6 := ((s3.trans s4).trans s5).trans s6
        refine ⟨_, rfl, _, _, _, _, rfl, rfl, S6.seqT hq2, rfl, by show 3 ≤ sizeLine; decide, fun t7 hp7 => ?_⟩
        generalize hH7 : upd H6 t7 (HO.tup _) = H7
        have s7 : Same H6 H7 := hH7 ▸ same_upd hp7
        have P7 : Plain H7 := hH7 ▸ P6.tup
        have h7 := (congrFun hH7 t7).symm.trans upd_same
        have S7 := S2.trans (S6.trans s7)
        have hpl : DV K H7 (plc (v.2.1.take (v.2.1.length - 1) ++ [(s0.1, s0.2.1, far)])) (.ref p6) := by
          refine ⟨p6, _, rfl, s7.seqT g6, ?_⟩
          rw [List.map_append, List.map_take, ← hxl]
          refine ((DVs.same (S6.trans s7) _ _ hds).take _).append ⟨_, _, rfl, stp_mk (s := (s0.1, s0.2.1, far)) (SqT.of (((s5.trans s6).trans s7) _ _ h4)), rfl⟩
        have D7 : DV K H7 (ver (v.1, v.2.1.take (v.2.1.length - 1) ++ [(s0.1, s0.2.1, far)], v.2.2)) (.ref t7) := ver_mk (v := (v.1, v.2.1.take (v.2.1.length - 1) ++ [(s0.1, s0.2.1, far)], v.2.2)) (SqT.of h7) hpl
        have G7 : G40 (v.1, v.2.1.take (v.2.1.length - 1) ++ [(s0.1, s0.2.1, far)], v.2.2) := by
          refine ⟨G4.1, ?_, ?_, G4.2.2.2⟩
          · show (v.2.1.take (v.2.1.length - 1) ++ [(s0.1, s0.2.1, far)]).length ≤ 6
            rw [List.length_append, List.length_take]
            show _ + 1 ≤ 6
            omega
          · intro s hs
            rcases List.mem_append.mp hs with hs | hs
            · exact G4.2.2.1 s (List.mem_of_mem_take hs)
            · rw [List.mem_singleton.mp hs]
              unfold S25 at hs0
              unfold S40 B40
              dsimp only
              omega
        have N7 : ¬ (B30 v.1 ∧ ∀ s ∈ v.2.1.take (v.2.1.length - 1) ++ [(s0.1, s0.2.1, far)], S30 s) := fun h => by
          have := (h.2 _ (List.mem_append_right _ (List.mem_singleton.mpr rfl))).2.2
          unfold B30 at this
          dsimp only at this
          omega
        refine ⟨fun c _ H' => c = .ref A.NoText ∧ Same H7 H' ∧ Plain H', ?_, fun C y H1' hEX hy => ?_⟩
        · refine ⟨_, rfl, P7, (v.1, v.2.1.take (v.2.1.length - 1) ++ [(s0.1, s0.2.1, far)], v.2.2), ⟨_, rfl, D7, G7⟩, fun v H' hv _ _ => absurd hv.1 N7, fun C H' hC hs' hp' => ⟨by rw [hC.1], hs', hp'⟩⟩
        · obtain ⟨hC, hs', hP'⟩ := hEX
          obtain rfl : C = A.NoText := by cases hC; rfl
          refine ⟨T.x_NoText, T.m_nd, ?_⟩
          refine ⟨_, rfl, ?_⟩
          refine ⟨_, rfl, rfl, _, rfl, iteDT rfl ?_⟩
          refine ⟨_, rfl, _, _, _, _, _, rfl, upd_same, T.x_NoText, rfl, (by show (if (Value.ref _ == Value.ref _) = true then _ else _) = _; rw [if_pos (beq_self_eq_true _)]), _, rfl, iteT ?_⟩
          refine ⟨_, rfl, (by show 2 ≤ sizeLine; decide), fun tp htp => ?_⟩
          refine ⟨_, _, _, _, _, _, rfl, by rw [upd_ne (ne_of_none upd_same htp)]; exact upd_same, T.x_NoText, upd_same, rfl, T.ku, _, rfl, q _ _ rfl (((S7.trans hs').upd ((S7.trans hs').free hy)).trans (same_upd htp))⟩
      · refine ⟨fun c _ H' => c = .ref A.NoText ∧ Same H2 H' ∧ Plain H', ?_, fun C y H1' hEX hy => ?_⟩
        · refine ⟨_, rfl, P2, (far, v.2), ⟨_, rfl, D2, G1⟩, fun v H' hv _ _ => absurd hv.1 N1, fun C H' hC hs' hp' => ⟨by rw [hC.1], hs', hp'⟩⟩
        · obtain ⟨hC, hs', hP'⟩ := hEX
          obtain rfl : C = A.NoText := by cases hC; rfl
          refine ⟨T.x_NoText, T.m_nd, ?_⟩
          refine ⟨_, rfl, ?_⟩
          refine ⟨_, rfl, rfl, _, rfl, iteDT rfl ?_⟩
          refine ⟨_, rfl, _, _, _, _, _, rfl, upd_same, T.x_NoText, rfl, (by show (if (Value.ref _ == Value.ref _) = true then _ else _) = _; rw [if_pos (beq_self_eq_true _)]), _, rfl, iteT ?_⟩
          refine ⟨_, rfl, (by show 2 ≤ sizeLine; decide), fun tp htp => ?_⟩
          refine ⟨_, _, _, _, _, _, rfl, by rw [upd_ne (ne_of_none upd_same htp)]; exact upd_same, T.x_NoText, upd_same, rfl, T.ku, _, rfl, q _ _ rfl (((S2.trans hs').upd ((S2.trans hs').free hy)).trans (same_upd htp))⟩
    · refine iteF ?_
      refine ⟨fun c _ H' => c = .ref A.NoText ∧ Same H2 H' ∧ Plain H', ?_, fun C y H1' hEX hy => ?_⟩
      · refine ⟨_, rfl, P2, (far, v.2), ⟨_, rfl, D2, G1⟩, fun v H' hv _ _ => absurd hv.1 N1, fun C H' hC hs' hp' => ⟨by rw [hC.1], hs', hp'⟩⟩
      · obtain ⟨hC, hs', hP'⟩ := hEX
        obtain rfl : C = A.NoText := by cases hC; rfl
        refine ⟨T.x_NoText, T.m_nd, ?_⟩
        refine ⟨_, rfl, ?_⟩
        refine ⟨_, rfl, rfl, _, rfl, iteDT rfl ?_⟩
        refine ⟨_, rfl, _, _, _, _, _, rfl, upd_same, T.x_NoText, rfl, (by show (if (Value.ref _ == Value.ref _) = true then _ else _) = _; rw [if_pos (beq_self_eq_true _)]), _, rfl, iteT ?_⟩
        refine ⟨_, rfl, (by show 2 ≤ sizeLine; decide), fun tp htp => ?_⟩
        refine ⟨_, _, _, _, _, _, rfl, by rw [upd_ne (ne_of_none upd_same htp)]; exact upd_same, T.x_NoText, upd_same, rfl, T.ku, _, rfl, q _ _ rfl (((S2.trans hs').upd ((S2.trans hs').free hy)).trans (same_upd htp))⟩
theorem sc_law : FnScope ["_law_script", "_law_j", "_law_cell", "_law_some", "_law_version_here", "_law_text"] ["_law_script"] (defScope s_law) := ⟨rfl, rfl, rfl, by decide +kernel, rfl, by decide +kernel, by decide +kernel⟩
abbrev Ok_law (P : Program) (w : World) (K : PySem.W.Frag) (mg : Str → Option Value) (base : Heap) (A : Adr) : Prop := FnOk P w K mg base (CX1 P w base) 8 A.f_law A.d_law ["_law_script"] (sp_law K)
set_option maxHeartbeats 4000000 in
theorem ok_law (T : Txt K mg A) (G_version_text : Ok_version_text P w K mg base A) (G__law_digits : Ok__law_digits P w K mg base A) (G__law_version : Ok__law_version P w K mg base A) (G__law_bent : Ok__law_bent P w K mg base A) (G__law_right : Ok__law_right P w K mg base A) (G__law_written : Ok__law_written P w K mg base A) (G__law_too_great : Ok__law_too_great P w K mg base A) : Ok_law P w K mg base A := by
  have B_version_text := T.b_version_text
  have B__law_digits := T.b__law_digits
  have B__law_version := T.b__law_version
  have B__law_bent := T.b__law_bent
  have B__law_right := T.b__law_right
  have B__law_written := T.b__law_written
  have B__law_too_great := T.b__law_too_great
  refine T.F_law.okN sc_law (fun vs H Q E h => ?_) (fun cdv Ar outer s H vs Q E hr h => ?_)
  · obtain ⟨a, ns, rfl, _⟩ := h
    rfl
  · obtain ⟨a, ns, rfl, hS, hlen, k, hP⟩ := h
    refine ⟨_, (pss_cons (ps_for PassesOwn.never rfl (pi_enum rfl T.n_enumerate (by decide +kernel) (pa_cons (pe_slice sl_list (pv 0) po_none (po_some pe_int)) pa_nil)) (pg_tup rfl (pgs_cons (pg_name (i := 1) sc_law.nd rfl (Or.inl rfl)) (pgs_cons (pg_name (i := 2) sc_law.nd rfl (Or.inl rfl)) pgs_nil))) (pss_cons (ps_set (i := 3) sc_law.nd rfl (Or.inl rfl) (pe_call G__law_digits (hr.mono (by decide)) rfl T.g__law_digits T.k__law_digits B__law_digits .nil pass1 (pa_cons (pv 2) (pa_cons (pv 1) pa_nil))))
      (pss_cons (ps_set (i := 4) sc_law.nd rfl (Or.inl rfl) (pe_call G__law_version (hr.mono (by decide)) rfl T.g__law_version T.k__law_version B__law_version .nil pass1 (pa_cons (pv 3) pa_nil)))
      (pss_cons (ps_set (i := 5) sc_law.nd rfl (Or.inl rfl) (pe_call G__law_written (hr.mono (by decide)) rfl T.g__law_written T.k__law_written B__law_written .nil pass1 (pa_cons (pv 4) pa_nil)))
      (pss_cons (ps_if (PW.pt (pw_or (pt_cmpR op_ne (pe_call G_version_text (hr.mono (by decide)) rfl T.g_version_text T.k_version_text B_version_text .nil pass1 (pa_cons (pv 4) pa_nil)) (pv 5) (nomark _)) (pw_or (pt_not (pt_val (pe_call G__law_right (hr.mono (by decide)) rfl T.g__law_right T.k__law_right B__law_right .nil pass1 (pa_cons (pv 5) pa_nil)))) (pw_or1 (pt_not (pt_val (pe_call G__law_right (hr.mono (by decide)) rfl T.g__law_right T.k__law_right B__law_right .nil pass1 (pa_cons (pe_call G__law_bent (hr.mono (by decide)) rfl T.g__law_bent T.k__law_bent B__law_bent .nil pass1 (pa_cons (pv 5) (pa_cons (pv 3) pa_nil))) pa_nil)))))))) (pss_one (ps_ret pe_bl)) pss_nil)
      (pss_one (ps_if (pt_not (pt_val (pe_call G__law_too_great (hr.mono (by decide)) rfl T.g__law_too_great T.k__law_too_great B__law_too_great .nil pass1 (pa_cons (pv 4) (pa_cons (pv 3) pa_nil))))) (pss_one (ps_ret pe_bl)) pss_nil)))))))
      (pss_cons (ps_for PassesOwn.never rfl (pi_list (pe_lst (pa_cons pe_str (pa_cons pe_str (pa_cons pe_str (pa_cons pe_str (pa_cons pe_str (pa_cons pe_str (pa_cons pe_str (pa_cons pe_str (pa_cons pe_str (pa_cons pe_str (pa_cons pe_str (pa_cons pe_str (pa_cons pe_str pa_nil))))))))))))))) (pg_name (i := 5) sc_law.nd rfl (Or.inl rfl)) (pss_one (ps_if (pt_not (pt_val (pe_call G__law_right (hr.mono (by decide)) rfl T.g__law_right T.k__law_right B__law_right .nil pass1 (pa_cons (pv 5) pa_nil)))) (pss_one (ps_ret pe_bl)) pss_nil)))
      (pss_one (ps_ret pe_bl)))), ?_⟩
    refine ⟨_, rfl, _, rfl, a, _, rfl, hS, fun p hp => ⟨p, rfl, ⟨_, SqL.of upd_same⟩, ?_⟩⟩
    refine for_enum (K := K) (a := p) (xs := cutV (ns.map V.int) none (some 50)) (fun i σ H2 => ∃ o1 o2 o3 o4 o5, σ = [some (.ref a), o1, o2, o3, o4, o5] ∧ Plain H2 ∧ H2 p = some (.lst (cutV (ns.map V.int) none (some 50))))
      ⟨_, _, _, _, _, rfl, hP.lst, upd_same⟩ (fun i σ H2 _ ⟨_, _, _, _, _, _, _, e⟩ => SqL.of e) ?_ ?_
    · rintro i x T' σ H2 hx ⟨o1, o2, o3, o4, o5, rfl, hP2, hp2⟩ hT
      obtain ⟨cell, rfl⟩ := cut_int hx
      refine ⟨T', _, rfl, SqT.of upd_same, rfl, _, _, rfl, _, _, rfl, rfl, ?_⟩
      refine ⟨_, rfl, _, rfl, hP2.tup, (cell, i), rfl, fun l o hl ho => ?_⟩
      obtain ⟨d0, d1, d2, d3, d4, d5, d6, d7, rfl, e0, e1, e2, e3, e4, e5, e6, e7⟩ := ho
      have hP3 : Plain (upd (upd H2 T' (.tup [.int i, .int cell])) l (.lst [.int d0, .int d1, .int d2, .int d3, .int d4, .int d5, .int d6, .int d7])) := hP2.tup.lst
      have hs3 : Same H2 (upd (upd H2 T' (.tup [.int i, .int cell])) l (.lst [.int d0, .int d1, .int d2, .int d3, .int d4, .int d5, .int d6, .int d7])) := (same_upd hT).trans (same_upd hl)
      have hl3 : (upd (upd H2 T' (.tup [.int i, .int cell])) l (.lst [.int d0, .int d1, .int d2, .int d3, .int d4, .int d5, .int d6, .int d7])) l = some (.lst [.int d0, .int d1, .int d2, .int d3, .int d4, .int d5, .int d6, .int d7]) := upd_same
      generalize upd (upd H2 T' (.tup [.int i, .int cell])) l (.lst [.int d0, .int d1, .int d2, .int d3, .int d4, .int d5, .int d6, .int d7]) = H3 at hP3 hs3 hl3 ⊢
      have dig : ∀ H', Same H3 H' → digL l H' := fun H' s => ⟨d0, d1, d2, d3, d4, d5, d6, d7, s _ _ hl3, e0, e1, e2, e3, e4, e5, e6, e7⟩
      refine ⟨_, rfl, hP3, l, ⟨rfl, dig _ (Same.refl _)⟩, fun x H4 hv s4 P4 => ?_, fun _ _ h => h.elim⟩
      obtain ⟨v, hd, hg⟩ := hv
      have okv := hg.2.2.2.2
      have vl := verTxt_len hg
      have vok := verTxt_ok okv
      refine ⟨_, rfl, P4, v, ⟨_, rfl, hd, hg⟩, fun r hr => ?_⟩
      subst hr
      refine ⟨_, rfl, P4, v, ⟨_, rfl, hd, g40 hg⟩, fun r H5 hr s5 P5 => ?_, fun C H5 hC _ _ => ?_⟩
      · obtain ⟨_, rfl⟩ := hr
        have S5 := s4.trans s5
        refine ⟨_, rfl, rfl, _, rfl, iteNS rfl ?_⟩
        refine ⟨_, rfl, P5, verTxt v, ⟨rfl, by omega, vok⟩, fun r hr => ⟨true, hr, iteF ?_⟩⟩
        refine ⟨_, rfl, _, rfl, P5, (verTxt v, l), ⟨rfl, vl, vok, dig _ S5⟩, fun r hr => ?_⟩
        obtain ⟨y, rfl, hy, hyo⟩ := hr
        refine ⟨P5, y, ⟨rfl, hy, hyo⟩, fun r hr => ⟨true, hr, iteF ?_⟩⟩
        refine ⟨_, rfl, _, rfl, P5, (v, l), ⟨_, rfl, DV.same s5 _ _ hd, hg, dig _ S5⟩, fun r hr => ⟨true, hr, iteF ?_⟩⟩
        exact ⟨_, _, _, _, _, rfl, P5, (hs3.trans S5) _ _ hp2⟩
      · exact hC.2 ⟨hg.1, fun s hs => s30 (hg.2.2.1 s hs)⟩
    · rintro σ H2 ⟨o1, o2, o3, o4, o5, rfl, hP2, hp2⟩
      refine ⟨by decide, fun b hb => ⟨b, rfl, ⟨_, SqL.of upd_same⟩, ?_⟩⟩
      refine for_list (K := K) (a := b) (xs := [V.str "", V.str "1", V.str "1 ", V.str "1  ", V.str "- -", V.str "0 -", V.str "1 - ", V.str "1 --", V.str "1 0.1.1", V.str "1 0.1.1 ", V.str " 1 -", V.str "1 - a", V.str "01 -"]) (fun i' σ H4 => ∃ o5, σ = [some (.ref a), o1, o2, o3, o4, o5] ∧ Plain H4 ∧ H4 b = some (.lst [V.str "", V.str "1", V.str "1 ", V.str "1  ", V.str "- -", V.str "0 -", V.str "1 - ", V.str "1 --", V.str "1 0.1.1", V.str "1 0.1.1 ", V.str " 1 -", V.str "1 - a", V.str "01 -"]))
        ⟨_, rfl, hP2.lst, upd_same⟩ (fun i σ H2 _ ⟨_, _, _, e⟩ => SqL.of e) ?_ ?_
      · rintro i' x σ H4 hx4 ⟨o5', rfl, hP4, hb4⟩
        obtain ⟨u, rfl, u1, u2⟩ : ∃ u : Str, x = .str u ∧ u.length ≤ 640 ∧ PyData.strOk u = true := by
          have := List.mem_of_getElem? hx4
          simp only [List.mem_cons, List.not_mem_nil, or_false] at this
          rcases this with e | e | e | e | e | e | e | e | e | e | e | e | e <;> exact ⟨_, e, by decide, ok_lit _⟩
        refine ⟨_, rfl, hP4, u, ⟨rfl, u1, u2⟩, fun v hv => ⟨true, hv, iteF ?_⟩⟩
        exact ⟨_, rfl, hP4, hb4⟩
      · rintro σ H4 ⟨o5', rfl, hP4, hb4⟩
        exact k H4
end
theorem all_mk {l : PySem.W.OpenLaw} {w : World} {K : PySem.W.Frag} {h : Heap} {mg : Str → Option Value} {fa : Addr} (X : K.In h) (G : h.Ns mainGlobals mg) (hfa : mg "law" = some (.ref fa))
    {f_is_words : Addr} {od_is_words an_is_words : Option Addr} {sl_is_words : Array (Option Value)} {oc_is_words kV_is_words dc_is_words pm_is_words cd_is_words ct_is_words : Value}
    {f_made_of : Addr} {od_made_of an_made_of : Option Addr} {sl_made_of : Array (Option Value)} {oc_made_of kV_made_of dc_made_of pm_made_of cd_made_of ct_made_of : Value}
    {f_number_text : Addr} {od_number_text an_number_text : Option Addr} {sl_number_text : Array (Option Value)} {oc_number_text kV_number_text dc_number_text pm_number_text cd_number_text ct_number_text : Value}
    {f_read_number : Addr} {od_read_number an_read_number : Option Addr} {sl_read_number : Array (Option Value)} {oc_read_number kV_read_number dc_read_number pm_read_number cd_read_number ct_read_number : Value}
    {f_dotted_text : Addr} {od_dotted_text an_dotted_text : Option Addr} {sl_dotted_text : Array (Option Value)} {oc_dotted_text kV_dotted_text dc_dotted_text pm_dotted_text cd_dotted_text ct_dotted_text : Value}
    {f_read_dotted : Addr} {od_read_dotted an_read_dotted : Option Addr} {sl_read_dotted : Array (Option Value)} {oc_read_dotted kV_read_dotted dc_read_dotted pm_read_dotted cd_read_dotted ct_read_dotted : Value}
    {f_check_maker : Addr} {od_check_maker an_check_maker : Option Addr} {sl_check_maker : Array (Option Value)} {oc_check_maker kV_check_maker dc_check_maker pm_check_maker cd_check_maker ct_check_maker : Value}
    {f_place_text : Addr} {od_place_text an_place_text : Option Addr} {sl_place_text : Array (Option Value)} {oc_place_text kV_place_text dc_place_text pm_place_text cd_place_text ct_place_text : Value}
    {f_read_step : Addr} {od_read_step an_read_step : Option Addr} {sl_read_step : Array (Option Value)} {oc_read_step kV_read_step dc_read_step pm_read_step cd_read_step ct_read_step : Value}
    {f_read_place : Addr} {od_read_place an_read_place : Option Addr} {sl_read_place : Array (Option Value)} {oc_read_place kV_read_place dc_read_place pm_read_place cd_read_place ct_read_place : Value}
    {f_out_version : Addr} {od_out_version an_out_version : Option Addr} {sl_out_version : Array (Option Value)} {oc_out_version kV_out_version dc_out_version pm_out_version cd_out_version ct_out_version : Value}
    {f_is_in : Addr} {od_is_in an_is_in : Option Addr} {sl_is_in : Array (Option Value)} {oc_is_in kV_is_in dc_is_in pm_is_in cd_is_in ct_is_in : Value}
    {f_version_text : Addr} {od_version_text an_version_text : Option Addr} {sl_version_text : Array (Option Value)} {oc_version_text kV_version_text dc_version_text pm_version_text cd_version_text ct_version_text : Value}
    {f_read_from : Addr} {od_read_from an_read_from : Option Addr} {sl_read_from : Array (Option Value)} {oc_read_from kV_read_from dc_read_from pm_read_from cd_read_from ct_read_from : Value}
    {f_read_version : Addr} {od_read_version an_read_version : Option Addr} {sl_read_version : Array (Option Value)} {oc_read_version kV_read_version dc_read_version pm_read_version cd_read_version ct_read_version : Value}
    {f__law_digits : Addr} {od__law_digits an__law_digits : Option Addr} {sl__law_digits : Array (Option Value)} {oc__law_digits kV__law_digits dc__law_digits pm__law_digits cd__law_digits ct__law_digits : Value}
    {f__law_signs : Addr} {od__law_signs an__law_signs : Option Addr} {sl__law_signs : Array (Option Value)} {oc__law_signs kV__law_signs dc__law_signs pm__law_signs cd__law_signs ct__law_signs : Value}
    {f__law_words : Addr} {od__law_words an__law_words : Option Addr} {sl__law_words : Array (Option Value)} {oc__law_words kV__law_words dc__law_words pm__law_words cd__law_words ct__law_words : Value}
    {f__law_version : Addr} {od__law_version an__law_version : Option Addr} {sl__law_version : Array (Option Value)} {oc__law_version kV__law_version dc__law_version pm__law_version cd__law_version ct__law_version : Value}
    {f__law_bent : Addr} {od__law_bent an__law_bent : Option Addr} {sl__law_bent : Array (Option Value)} {oc__law_bent kV__law_bent dc__law_bent pm__law_bent cd__law_bent ct__law_bent : Value}
    {f__law_number : Addr} {od__law_number an__law_number : Option Addr} {sl__law_number : Array (Option Value)} {oc__law_number kV__law_number dc__law_number pm__law_number cd__law_number ct__law_number : Value}
    {f__law_place_of : Addr} {od__law_place_of an__law_place_of : Option Addr} {sl__law_place_of : Array (Option Value)} {oc__law_place_of kV__law_place_of dc__law_place_of pm__law_place_of cd__law_place_of ct__law_place_of : Value}
    {f__law_reads : Addr} {od__law_reads an__law_reads : Option Addr} {sl__law_reads : Array (Option Value)} {oc__law_reads kV__law_reads dc__law_reads pm__law_reads cd__law_reads ct__law_reads : Value}
    {f__law_right : Addr} {od__law_right an__law_right : Option Addr} {sl__law_right : Array (Option Value)} {oc__law_right kV__law_right dc__law_right pm__law_right cd__law_right ct__law_right : Value}
    {f__law_written : Addr} {od__law_written an__law_written : Option Addr} {sl__law_written : Array (Option Value)} {oc__law_written kV__law_written dc__law_written pm__law_written cd__law_written ct__law_written : Value}
    {f__law_too_great : Addr} {od__law_too_great an__law_too_great : Option Addr} {sl__law_too_great : Array (Option Value)} {oc__law_too_great kV__law_too_great dc__law_too_great pm__law_too_great cd__law_too_great ct__law_too_great : Value}
    {f_law : Addr} {od_law an_law : Option Addr} {sl_law : Array (Option Value)} {oc_law kV_law dc_law pm_law cd_law ct_law : Value}
    {t_FIGURES : Tok}
    {t_MOST_FIGURES : Tok}
    {t_OUT : Tok}
    {t_TOO_GREAT : Tok}
    {C_DraftError : Addr}
    {C_NoDeed : Addr}
    {C_NoRow : Addr}
    {C_NoSave : Addr}
    {C_NoText : Addr}
    {C_NoWords : Addr}
    (a_is_words : PySem.W.nsIn K mainGlobals "is_words" = some (some (.ref f_is_words))) (l_is_words : K.lookup f_is_words = some ⟨oc_is_words, od_is_words, .func (PySem.W.fnOf "is_words" "is_words" (defArgs s_is_words) (defBody s_is_words) (defScope s_is_words) .none kV_is_words dc_is_words pm_is_words an_is_words cd_is_words ct_is_words), sl_is_words⟩) (c_is_words : PySem.W.codeIn K cd_is_words "is_words" = true) (k_is_words : PySem.W.keepIn K (.ref f_is_words) = true)
    (a_made_of : PySem.W.nsIn K mainGlobals "made_of" = some (some (.ref f_made_of))) (l_made_of : K.lookup f_made_of = some ⟨oc_made_of, od_made_of, .func (PySem.W.fnOf "made_of" "made_of" (defArgs s_made_of) (defBody s_made_of) (defScope s_made_of) .none kV_made_of dc_made_of pm_made_of an_made_of cd_made_of ct_made_of), sl_made_of⟩) (c_made_of : PySem.W.codeIn K cd_made_of "made_of" = true) (k_made_of : PySem.W.keepIn K (.ref f_made_of) = true)
    (a_number_text : PySem.W.nsIn K mainGlobals "number_text" = some (some (.ref f_number_text))) (l_number_text : K.lookup f_number_text = some ⟨oc_number_text, od_number_text, .func (PySem.W.fnOf "number_text" "number_text" (defArgs s_number_text) (defBody s_number_text) (defScope s_number_text) .none kV_number_text dc_number_text pm_number_text an_number_text cd_number_text ct_number_text), sl_number_text⟩) (c_number_text : PySem.W.codeIn K cd_number_text "number_text" = true) (k_number_text : PySem.W.keepIn K (.ref f_number_text) = true)
    (a_read_number : PySem.W.nsIn K mainGlobals "read_number" = some (some (.ref f_read_number))) (l_read_number : K.lookup f_read_number = some ⟨oc_read_number, od_read_number, .func (PySem.W.fnOf "read_number" "read_number" (defArgs s_read_number) (defBody s_read_number) (defScope s_read_number) .none kV_read_number dc_read_number pm_read_number an_read_number cd_read_number ct_read_number), sl_read_number⟩) (c_read_number : PySem.W.codeIn K cd_read_number "read_number" = true) (k_read_number : PySem.W.keepIn K (.ref f_read_number) = true)
    (a_dotted_text : PySem.W.nsIn K mainGlobals "dotted_text" = some (some (.ref f_dotted_text))) (l_dotted_text : K.lookup f_dotted_text = some ⟨oc_dotted_text, od_dotted_text, .func (PySem.W.fnOf "dotted_text" "dotted_text" (defArgs s_dotted_text) (defBody s_dotted_text) (defScope s_dotted_text) .none kV_dotted_text dc_dotted_text pm_dotted_text an_dotted_text cd_dotted_text ct_dotted_text), sl_dotted_text⟩) (c_dotted_text : PySem.W.codeIn K cd_dotted_text "dotted_text" = true) (k_dotted_text : PySem.W.keepIn K (.ref f_dotted_text) = true)
    (a_read_dotted : PySem.W.nsIn K mainGlobals "read_dotted" = some (some (.ref f_read_dotted))) (l_read_dotted : K.lookup f_read_dotted = some ⟨oc_read_dotted, od_read_dotted, .func (PySem.W.fnOf "read_dotted" "read_dotted" (defArgs s_read_dotted) (defBody s_read_dotted) (defScope s_read_dotted) .none kV_read_dotted dc_read_dotted pm_read_dotted an_read_dotted cd_read_dotted ct_read_dotted), sl_read_dotted⟩) (c_read_dotted : PySem.W.codeIn K cd_read_dotted "read_dotted" = true) (k_read_dotted : PySem.W.keepIn K (.ref f_read_dotted) = true)
    (a_check_maker : PySem.W.nsIn K mainGlobals "check_maker" = some (some (.ref f_check_maker))) (l_check_maker : K.lookup f_check_maker = some ⟨oc_check_maker, od_check_maker, .func (PySem.W.fnOf "check_maker" "check_maker" (defArgs s_check_maker) (defBody s_check_maker) (defScope s_check_maker) .none kV_check_maker dc_check_maker pm_check_maker an_check_maker cd_check_maker ct_check_maker), sl_check_maker⟩) (c_check_maker : PySem.W.codeIn K cd_check_maker "check_maker" = true) (k_check_maker : PySem.W.keepIn K (.ref f_check_maker) = true)
    (a_place_text : PySem.W.nsIn K mainGlobals "place_text" = some (some (.ref f_place_text))) (l_place_text : K.lookup f_place_text = some ⟨oc_place_text, od_place_text, .func (PySem.W.fnOf "place_text" "place_text" (defArgs s_place_text) (defBody s_place_text) (defScope s_place_text) .none kV_place_text dc_place_text pm_place_text an_place_text cd_place_text ct_place_text), sl_place_text⟩) (c_place_text : PySem.W.codeIn K cd_place_text "place_text" = true) (k_place_text : PySem.W.keepIn K (.ref f_place_text) = true)
    (a_read_step : PySem.W.nsIn K mainGlobals "read_step" = some (some (.ref f_read_step))) (l_read_step : K.lookup f_read_step = some ⟨oc_read_step, od_read_step, .func (PySem.W.fnOf "read_step" "read_step" (defArgs s_read_step) (defBody s_read_step) (defScope s_read_step) .none kV_read_step dc_read_step pm_read_step an_read_step cd_read_step ct_read_step), sl_read_step⟩) (c_read_step : PySem.W.codeIn K cd_read_step "read_step" = true) (k_read_step : PySem.W.keepIn K (.ref f_read_step) = true)
    (a_read_place : PySem.W.nsIn K mainGlobals "read_place" = some (some (.ref f_read_place))) (l_read_place : K.lookup f_read_place = some ⟨oc_read_place, od_read_place, .func (PySem.W.fnOf "read_place" "read_place" (defArgs s_read_place) (defBody s_read_place) (defScope s_read_place) .none kV_read_place dc_read_place pm_read_place an_read_place cd_read_place ct_read_place), sl_read_place⟩) (c_read_place : PySem.W.codeIn K cd_read_place "read_place" = true) (k_read_place : PySem.W.keepIn K (.ref f_read_place) = true)
    (a_out_version : PySem.W.nsIn K mainGlobals "out_version" = some (some (.ref f_out_version))) (l_out_version : K.lookup f_out_version = some ⟨oc_out_version, od_out_version, .func (PySem.W.fnOf "out_version" "out_version" (defArgs s_out_version) (defBody s_out_version) (defScope s_out_version) .none kV_out_version dc_out_version pm_out_version an_out_version cd_out_version ct_out_version), sl_out_version⟩) (c_out_version : PySem.W.codeIn K cd_out_version "out_version" = true) (k_out_version : PySem.W.keepIn K (.ref f_out_version) = true)
    (a_is_in : PySem.W.nsIn K mainGlobals "is_in" = some (some (.ref f_is_in))) (l_is_in : K.lookup f_is_in = some ⟨oc_is_in, od_is_in, .func (PySem.W.fnOf "is_in" "is_in" (defArgs s_is_in) (defBody s_is_in) (defScope s_is_in) .none kV_is_in dc_is_in pm_is_in an_is_in cd_is_in ct_is_in), sl_is_in⟩) (c_is_in : PySem.W.codeIn K cd_is_in "is_in" = true) (k_is_in : PySem.W.keepIn K (.ref f_is_in) = true)
    (a_version_text : PySem.W.nsIn K mainGlobals "version_text" = some (some (.ref f_version_text))) (l_version_text : K.lookup f_version_text = some ⟨oc_version_text, od_version_text, .func (PySem.W.fnOf "version_text" "version_text" (defArgs s_version_text) (defBody s_version_text) (defScope s_version_text) .none kV_version_text dc_version_text pm_version_text an_version_text cd_version_text ct_version_text), sl_version_text⟩) (c_version_text : PySem.W.codeIn K cd_version_text "version_text" = true) (k_version_text : PySem.W.keepIn K (.ref f_version_text) = true)
    (a_read_from : PySem.W.nsIn K mainGlobals "read_from" = some (some (.ref f_read_from))) (l_read_from : K.lookup f_read_from = some ⟨oc_read_from, od_read_from, .func (PySem.W.fnOf "read_from" "read_from" (defArgs s_read_from) (defBody s_read_from) (defScope s_read_from) .none kV_read_from dc_read_from pm_read_from an_read_from cd_read_from ct_read_from), sl_read_from⟩) (c_read_from : PySem.W.codeIn K cd_read_from "read_from" = true) (k_read_from : PySem.W.keepIn K (.ref f_read_from) = true)
    (a_read_version : PySem.W.nsIn K mainGlobals "read_version" = some (some (.ref f_read_version))) (l_read_version : K.lookup f_read_version = some ⟨oc_read_version, od_read_version, .func (PySem.W.fnOf "read_version" "read_version" (defArgs s_read_version) (defBody s_read_version) (defScope s_read_version) .none kV_read_version dc_read_version pm_read_version an_read_version cd_read_version ct_read_version), sl_read_version⟩) (c_read_version : PySem.W.codeIn K cd_read_version "read_version" = true) (k_read_version : PySem.W.keepIn K (.ref f_read_version) = true)
    (a__law_digits : PySem.W.nsIn K mainGlobals "_law_digits" = some (some (.ref f__law_digits))) (l__law_digits : K.lookup f__law_digits = some ⟨oc__law_digits, od__law_digits, .func (PySem.W.fnOf "_law_digits" "_law_digits" (defArgs s__law_digits) (defBody s__law_digits) (defScope s__law_digits) .none kV__law_digits dc__law_digits pm__law_digits an__law_digits cd__law_digits ct__law_digits), sl__law_digits⟩) (c__law_digits : PySem.W.codeIn K cd__law_digits "_law_digits" = true) (k__law_digits : PySem.W.keepIn K (.ref f__law_digits) = true)
    (a__law_signs : PySem.W.nsIn K mainGlobals "_law_signs" = some (some (.ref f__law_signs))) (l__law_signs : K.lookup f__law_signs = some ⟨oc__law_signs, od__law_signs, .func (PySem.W.fnOf "_law_signs" "_law_signs" (defArgs s__law_signs) (defBody s__law_signs) (defScope s__law_signs) .none kV__law_signs dc__law_signs pm__law_signs an__law_signs cd__law_signs ct__law_signs), sl__law_signs⟩) (c__law_signs : PySem.W.codeIn K cd__law_signs "_law_signs" = true) (k__law_signs : PySem.W.keepIn K (.ref f__law_signs) = true)
    (a__law_words : PySem.W.nsIn K mainGlobals "_law_words" = some (some (.ref f__law_words))) (l__law_words : K.lookup f__law_words = some ⟨oc__law_words, od__law_words, .func (PySem.W.fnOf "_law_words" "_law_words" (defArgs s__law_words) (defBody s__law_words) (defScope s__law_words) .none kV__law_words dc__law_words pm__law_words an__law_words cd__law_words ct__law_words), sl__law_words⟩) (c__law_words : PySem.W.codeIn K cd__law_words "_law_words" = true) (k__law_words : PySem.W.keepIn K (.ref f__law_words) = true)
    (a__law_version : PySem.W.nsIn K mainGlobals "_law_version" = some (some (.ref f__law_version))) (l__law_version : K.lookup f__law_version = some ⟨oc__law_version, od__law_version, .func (PySem.W.fnOf "_law_version" "_law_version" (defArgs s__law_version) (defBody s__law_version) (defScope s__law_version) .none kV__law_version dc__law_version pm__law_version an__law_version cd__law_version ct__law_version), sl__law_version⟩) (c__law_version : PySem.W.codeIn K cd__law_version "_law_version" = true) (k__law_version : PySem.W.keepIn K (.ref f__law_version) = true)
    (a__law_bent : PySem.W.nsIn K mainGlobals "_law_bent" = some (some (.ref f__law_bent))) (l__law_bent : K.lookup f__law_bent = some ⟨oc__law_bent, od__law_bent, .func (PySem.W.fnOf "_law_bent" "_law_bent" (defArgs s__law_bent) (defBody s__law_bent) (defScope s__law_bent) .none kV__law_bent dc__law_bent pm__law_bent an__law_bent cd__law_bent ct__law_bent), sl__law_bent⟩) (c__law_bent : PySem.W.codeIn K cd__law_bent "_law_bent" = true) (k__law_bent : PySem.W.keepIn K (.ref f__law_bent) = true)
    (a__law_number : PySem.W.nsIn K mainGlobals "_law_number" = some (some (.ref f__law_number))) (l__law_number : K.lookup f__law_number = some ⟨oc__law_number, od__law_number, .func (PySem.W.fnOf "_law_number" "_law_number" (defArgs s__law_number) (defBody s__law_number) (defScope s__law_number) .none kV__law_number dc__law_number pm__law_number an__law_number cd__law_number ct__law_number), sl__law_number⟩) (c__law_number : PySem.W.codeIn K cd__law_number "_law_number" = true) (k__law_number : PySem.W.keepIn K (.ref f__law_number) = true)
    (a__law_place_of : PySem.W.nsIn K mainGlobals "_law_place_of" = some (some (.ref f__law_place_of))) (l__law_place_of : K.lookup f__law_place_of = some ⟨oc__law_place_of, od__law_place_of, .func (PySem.W.fnOf "_law_place_of" "_law_place_of" (defArgs s__law_place_of) (defBody s__law_place_of) (defScope s__law_place_of) .none kV__law_place_of dc__law_place_of pm__law_place_of an__law_place_of cd__law_place_of ct__law_place_of), sl__law_place_of⟩) (c__law_place_of : PySem.W.codeIn K cd__law_place_of "_law_place_of" = true) (k__law_place_of : PySem.W.keepIn K (.ref f__law_place_of) = true)
    (a__law_reads : PySem.W.nsIn K mainGlobals "_law_reads" = some (some (.ref f__law_reads))) (l__law_reads : K.lookup f__law_reads = some ⟨oc__law_reads, od__law_reads, .func (PySem.W.fnOf "_law_reads" "_law_reads" (defArgs s__law_reads) (defBody s__law_reads) (defScope s__law_reads) .none kV__law_reads dc__law_reads pm__law_reads an__law_reads cd__law_reads ct__law_reads), sl__law_reads⟩) (c__law_reads : PySem.W.codeIn K cd__law_reads "_law_reads" = true) (k__law_reads : PySem.W.keepIn K (.ref f__law_reads) = true)
    (a__law_right : PySem.W.nsIn K mainGlobals "_law_right" = some (some (.ref f__law_right))) (l__law_right : K.lookup f__law_right = some ⟨oc__law_right, od__law_right, .func (PySem.W.fnOf "_law_right" "_law_right" (defArgs s__law_right) (defBody s__law_right) (defScope s__law_right) .none kV__law_right dc__law_right pm__law_right an__law_right cd__law_right ct__law_right), sl__law_right⟩) (c__law_right : PySem.W.codeIn K cd__law_right "_law_right" = true) (k__law_right : PySem.W.keepIn K (.ref f__law_right) = true)
    (a__law_written : PySem.W.nsIn K mainGlobals "_law_written" = some (some (.ref f__law_written))) (l__law_written : K.lookup f__law_written = some ⟨oc__law_written, od__law_written, .func (PySem.W.fnOf "_law_written" "_law_written" (defArgs s__law_written) (defBody s__law_written) (defScope s__law_written) .none kV__law_written dc__law_written pm__law_written an__law_written cd__law_written ct__law_written), sl__law_written⟩) (c__law_written : PySem.W.codeIn K cd__law_written "_law_written" = true) (k__law_written : PySem.W.keepIn K (.ref f__law_written) = true)
    (a__law_too_great : PySem.W.nsIn K mainGlobals "_law_too_great" = some (some (.ref f__law_too_great))) (l__law_too_great : K.lookup f__law_too_great = some ⟨oc__law_too_great, od__law_too_great, .func (PySem.W.fnOf "_law_too_great" "_law_too_great" (defArgs s__law_too_great) (defBody s__law_too_great) (defScope s__law_too_great) .none kV__law_too_great dc__law_too_great pm__law_too_great an__law_too_great cd__law_too_great ct__law_too_great), sl__law_too_great⟩) (c__law_too_great : PySem.W.codeIn K cd__law_too_great "_law_too_great" = true) (k__law_too_great : PySem.W.keepIn K (.ref f__law_too_great) = true)
    (a_law : PySem.W.nsIn K mainGlobals "law" = some (some (.ref f_law))) (l_law : K.lookup f_law = some ⟨oc_law, od_law, .func (PySem.W.fnOf "law" "law" (defArgs s_law) (defBody s_law) (defScope s_law) .none kV_law dc_law pm_law an_law cd_law ct_law), sl_law⟩) (c_law : PySem.W.codeIn K cd_law "law" = true) (k_law : PySem.W.keepIn K (.ref f_law) = true)
    (u_FIGURES : PySem.W.nsIn K mainGlobals "FIGURES" = some (some (.str "0123456789" t_FIGURES)))
    (u_MOST_FIGURES : PySem.W.nsIn K mainGlobals "MOST_FIGURES" = some (some (.int (30) t_MOST_FIGURES)))
    (u_OUT : PySem.W.nsIn K mainGlobals "OUT" = some (some (.str "-" t_OUT)))
    (u_TOO_GREAT : PySem.W.nsIn K mainGlobals "TOO_GREAT" = some (some (.int (1000000000000000000000000000000) t_TOO_GREAT)))
    (q_DraftError : PySem.W.nsIn K mainGlobals "DraftError" = some (some (.ref C_DraftError)))
    (x_DraftError : XCls K C_DraftError)
    (q_NoDeed : PySem.W.nsIn K mainGlobals "NoDeed" = some (some (.ref C_NoDeed)))
    (x_NoDeed : XCls K C_NoDeed)
    (q_NoRow : PySem.W.nsIn K mainGlobals "NoRow" = some (some (.ref C_NoRow)))
    (x_NoRow : XCls K C_NoRow)
    (q_NoSave : PySem.W.nsIn K mainGlobals "NoSave" = some (some (.ref C_NoSave)))
    (x_NoSave : XCls K C_NoSave)
    (q_NoText : PySem.W.nsIn K mainGlobals "NoText" = some (some (.ref C_NoText)))
    (x_NoText : XCls K C_NoText)
    (q_NoWords : PySem.W.nsIn K mainGlobals "NoWords" = some (some (.ref C_NoWords)))
    (x_NoWords : XCls K C_NoWords)
    (m_nd : PySem.W.mroIn K C_NoText (.ref C_DraftError) = some true)
    (kv : PySem.W.kitOne K (.ref C_NoText) (.type "ValueError") = some true)
    (kt : PySem.W.kitAny K (.ref C_NoText) [.ref C_NoDeed, .ref C_NoRow, .ref C_NoSave, .ref C_NoWords] = some false)
    (ku : PySem.W.kitAny K (.ref C_NoText) [.ref C_NoRow, .ref C_NoWords] = some false)
    (n_ValueError : PySem.W.nsIn K mainGlobals "ValueError" = some none)
    (n_abs : PySem.W.nsIn K mainGlobals "abs" = some none)
    (n_all : PySem.W.nsIn K mainGlobals "all" = some none)
    (n_enumerate : PySem.W.nsIn K mainGlobals "enumerate" = some none)
    (n_int : PySem.W.nsIn K mainGlobals "int" = some none)
    (n_isinstance : PySem.W.nsIn K mainGlobals "isinstance" = some none)
    (n_len : PySem.W.nsIn K mainGlobals "len" = some none)
    (n_range : PySem.W.nsIn K mainGlobals "range" = some none)
    (n_str : PySem.W.nsIn K mainGlobals "str" = some none)
    (n_tuple : PySem.W.nsIn K mainGlobals "tuple" = some none)
    : ∃ fd : FuncData, (∀ (s : Shared) (v : Value), BindsTo s fd ⟨[v], []⟩ [("_law_script", v)]) ∧ ∀ base : Heap, K.In base → base.Ns mainGlobals mg → FnOk l.prog w K mg base (CX1 l.prog w base) 8 fa fd ["_law_script"] (sp_law K) := by
  have e := hfa.symm.trans (PySem.W.mg_of X G a_law)
  cases e
  have F_is_words := fun_mk (st := s_is_words) l_is_words c_is_words k_is_words
  have F_made_of := fun_mk (st := s_made_of) l_made_of c_made_of k_made_of
  have F_number_text := fun_mk (st := s_number_text) l_number_text c_number_text k_number_text
  have F_read_number := fun_mk (st := s_read_number) l_read_number c_read_number k_read_number
  have F_dotted_text := fun_mk (st := s_dotted_text) l_dotted_text c_dotted_text k_dotted_text
  have F_read_dotted := fun_mk (st := s_read_dotted) l_read_dotted c_read_dotted k_read_dotted
  have F_check_maker := fun_mk (st := s_check_maker) l_check_maker c_check_maker k_check_maker
  have F_place_text := fun_mk (st := s_place_text) l_place_text c_place_text k_place_text
  have F_read_step := fun_mk (st := s_read_step) l_read_step c_read_step k_read_step
  have F_read_place := fun_mk (st := s_read_place) l_read_place c_read_place k_read_place
  have F_out_version := fun_mk (st := s_out_version) l_out_version c_out_version k_out_version
  have F_is_in := fun_mk (st := s_is_in) l_is_in c_is_in k_is_in
  have F_version_text := fun_mk (st := s_version_text) l_version_text c_version_text k_version_text
  have F_read_from := fun_mk (st := s_read_from) l_read_from c_read_from k_read_from
  have F_read_version := fun_mk (st := s_read_version) l_read_version c_read_version k_read_version
  have F__law_digits := fun_mk (st := s__law_digits) l__law_digits c__law_digits k__law_digits
  have F__law_signs := fun_mk (st := s__law_signs) l__law_signs c__law_signs k__law_signs
  have F__law_words := fun_mk (st := s__law_words) l__law_words c__law_words k__law_words
  have F__law_version := fun_mk (st := s__law_version) l__law_version c__law_version k__law_version
  have F__law_bent := fun_mk (st := s__law_bent) l__law_bent c__law_bent k__law_bent
  have F__law_number := fun_mk (st := s__law_number) l__law_number c__law_number k__law_number
  have F__law_place_of := fun_mk (st := s__law_place_of) l__law_place_of c__law_place_of k__law_place_of
  have F__law_reads := fun_mk (st := s__law_reads) l__law_reads c__law_reads k__law_reads
  have F__law_right := fun_mk (st := s__law_right) l__law_right c__law_right k__law_right
  have F__law_written := fun_mk (st := s__law_written) l__law_written c__law_written k__law_written
  have F__law_too_great := fun_mk (st := s__law_too_great) l__law_too_great c__law_too_great k__law_too_great
  have F_law := fun_mk (st := s_law) l_law c_law k_law
  have T : Txt K mg ⟨f_is_words, _, f_made_of, _, f_number_text, _, f_read_number, _, f_dotted_text, _, f_read_dotted, _, f_check_maker, _, f_place_text, _, f_read_step, _, f_read_place, _, f_out_version, _, f_is_in, _, f_version_text, _, f_read_from, _, f_read_version, _, f__law_digits, _, f__law_signs, _, f__law_words, _, f__law_version, _, f__law_bent, _, f__law_number, _, f__law_place_of, _, f__law_reads, _, f__law_right, _, f__law_written, _, f__law_too_great, _, fa, _, C_DraftError, C_NoDeed, C_NoRow, C_NoSave, C_NoText, C_NoWords⟩ := ⟨F_is_words, (PySem.W.mg_of X G a_is_words), k_is_words, (F_is_words.binds fun _ _ _ _ _ _ us hl => match us, hl with | [_], _ => rfl), F_made_of, (PySem.W.mg_of X G a_made_of), k_made_of, (F_made_of.binds fun _ _ _ _ _ _ us hl => match us, hl with | [_, _], _ => rfl), F_number_text, (PySem.W.mg_of X G a_number_text), k_number_text, (F_number_text.binds fun _ _ _ _ _ _ us hl => match us, hl with | [_], _ => rfl), F_read_number, (PySem.W.mg_of X G a_read_number), k_read_number, (F_read_number.binds fun _ _ _ _ _ _ us hl => match us, hl with | [_], _ => rfl), F_dotted_text, (PySem.W.mg_of X G a_dotted_text), k_dotted_text, (F_dotted_text.binds fun _ _ _ _ _ _ us hl => match us, hl with | [_], _ => rfl), F_read_dotted, (PySem.W.mg_of X G a_read_dotted), k_read_dotted, (F_read_dotted.binds fun _ _ _ _ _ _ us hl => match us, hl with | [_, _], _ => rfl), F_check_maker, (PySem.W.mg_of X G a_check_maker), k_check_maker, (F_check_maker.binds fun _ _ _ _ _ _ us hl => match us, hl with | [_, _], _ => rfl), F_place_text, (PySem.W.mg_of X G a_place_text), k_place_text, (F_place_text.binds fun _ _ _ _ _ _ us hl => match us, hl with | [_], _ => rfl), F_read_step, (PySem.W.mg_of X G a_read_step), k_read_step, (F_read_step.binds fun _ _ _ _ _ _ us hl => match us, hl with | [_], _ => rfl), F_read_place, (PySem.W.mg_of X G a_read_place), k_read_place, (F_read_place.binds fun _ _ _ _ _ _ us hl => match us, hl with | [_], _ => rfl), F_out_version, (PySem.W.mg_of X G a_out_version), k_out_version, (F_out_version.binds fun _ _ _ _ _ _ us hl => match us, hl with | [_], _ => rfl), F_is_in, (PySem.W.mg_of X G a_is_in), k_is_in, (F_is_in.binds fun _ _ _ _ _ _ us hl => match us, hl with | [_], _ => rfl), F_version_text, (PySem.W.mg_of X G a_version_text), k_version_text, (F_version_text.binds fun _ _ _ _ _ _ us hl => match us, hl with | [_], _ => rfl), F_read_from, (PySem.W.mg_of X G a_read_from), k_read_from, (F_read_from.binds fun _ _ _ _ _ _ us hl => match us, hl with | [_, _], _ => rfl), F_read_version, (PySem.W.mg_of X G a_read_version), k_read_version, (F_read_version.binds fun _ _ _ _ _ _ us hl => match us, hl with | [_], _ => rfl), F__law_digits, (PySem.W.mg_of X G a__law_digits), k__law_digits, (F__law_digits.binds fun _ _ _ _ _ _ us hl => match us, hl with | [_, _], _ => rfl), F__law_signs, (PySem.W.mg_of X G a__law_signs), k__law_signs, (F__law_signs.binds fun _ _ _ _ _ _ us hl => match us, hl with | [], _ => rfl), F__law_words, (PySem.W.mg_of X G a__law_words), k__law_words, (F__law_words.binds fun _ _ _ _ _ _ us hl => match us, hl with | [_, _], _ => rfl), F__law_version, (PySem.W.mg_of X G a__law_version), k__law_version, (F__law_version.binds fun _ _ _ _ _ _ us hl => match us, hl with | [_], _ => rfl), F__law_bent, (PySem.W.mg_of X G a__law_bent), k__law_bent, (F__law_bent.binds fun _ _ _ _ _ _ us hl => match us, hl with | [_, _], _ => rfl), F__law_number, (PySem.W.mg_of X G a__law_number), k__law_number, (F__law_number.binds fun _ _ _ _ _ _ us hl => match us, hl with | [_, _], _ => rfl), F__law_place_of, (PySem.W.mg_of X G a__law_place_of), k__law_place_of, (F__law_place_of.binds fun _ _ _ _ _ _ us hl => match us, hl with | [_], _ => rfl), F__law_reads, (PySem.W.mg_of X G a__law_reads), k__law_reads, (F__law_reads.binds fun _ _ _ _ _ _ us hl => match us, hl with | [_], _ => rfl), F__law_right, (PySem.W.mg_of X G a__law_right), k__law_right, (F__law_right.binds fun _ _ _ _ _ _ us hl => match us, hl with | [_], _ => rfl), F__law_written, (PySem.W.mg_of X G a__law_written), k__law_written, (F__law_written.binds fun _ _ _ _ _ _ us hl => match us, hl with | [_], _ => rfl), F__law_too_great, (PySem.W.mg_of X G a__law_too_great), k__law_too_great, (F__law_too_great.binds fun _ _ _ _ _ _ us hl => match us, hl with | [_, _], _ => rfl), F_law, (PySem.W.mg_of X G a_law), k_law, (F_law.binds fun _ _ _ _ _ _ us hl => match us, hl with | [_], _ => rfl), ⟨t_FIGURES, PySem.W.mg_of X G u_FIGURES⟩, ⟨t_MOST_FIGURES, PySem.W.mg_of X G u_MOST_FIGURES⟩, ⟨t_OUT, PySem.W.mg_of X G u_OUT⟩, ⟨t_TOO_GREAT, PySem.W.mg_of X G u_TOO_GREAT⟩, (PySem.W.mg_of X G q_DraftError), x_DraftError, (PySem.W.mg_of X G q_NoDeed), x_NoDeed, (PySem.W.mg_of X G q_NoRow), x_NoRow, (PySem.W.mg_of X G q_NoSave), x_NoSave, (PySem.W.mg_of X G q_NoText), x_NoText, (PySem.W.mg_of X G q_NoWords), x_NoWords, m_nd, kv, kt, ku, (PySem.W.mg_none_of X G n_ValueError), (PySem.W.mg_none_of X G n_abs), (PySem.W.mg_none_of X G n_all), (PySem.W.mg_none_of X G n_enumerate), (PySem.W.mg_none_of X G n_int), (PySem.W.mg_none_of X G n_isinstance), (PySem.W.mg_none_of X G n_len), (PySem.W.mg_none_of X G n_range), (PySem.W.mg_none_of X G n_str), (PySem.W.mg_none_of X G n_tuple)⟩
  refine ⟨PySem.W.fnOf "law" "law" (defArgs s_law) (defBody s_law) (defScope s_law) .none kV_law dc_law pm_law an_law cd_law ct_law, fun s v => .of_eq rfl, fun base _ _ => ?_⟩
  have G_is_words : Ok_is_words l.prog w K mg base ⟨f_is_words, _, f_made_of, _, f_number_text, _, f_read_number, _, f_dotted_text, _, f_read_dotted, _, f_check_maker, _, f_place_text, _, f_read_step, _, f_read_place, _, f_out_version, _, f_is_in, _, f_version_text, _, f_read_from, _, f_read_version, _, f__law_digits, _, f__law_signs, _, f__law_words, _, f__law_version, _, f__law_bent, _, f__law_number, _, f__law_place_of, _, f__law_reads, _, f__law_right, _, f__law_written, _, f__law_too_great, _, fa, _, C_DraftError, C_NoDeed, C_NoRow, C_NoSave, C_NoText, C_NoWords⟩ := ok_is_words T 
  have G_made_of : Ok_made_of l.prog w K mg base ⟨f_is_words, _, f_made_of, _, f_number_text, _, f_read_number, _, f_dotted_text, _, f_read_dotted, _, f_check_maker, _, f_place_text, _, f_read_step, _, f_read_place, _, f_out_version, _, f_is_in, _, f_version_text, _, f_read_from, _, f_read_version, _, f__law_digits, _, f__law_signs, _, f__law_words, _, f__law_version, _, f__law_bent, _, f__law_number, _, f__law_place_of, _, f__law_reads, _, f__law_right, _, f__law_written, _, f__law_too_great, _, fa, _, C_DraftError, C_NoDeed, C_NoRow, C_NoSave, C_NoText, C_NoWords⟩ := ok_made_of T 
  have G_number_text : Ok_number_text l.prog w K mg base ⟨f_is_words, _, f_made_of, _, f_number_text, _, f_read_number, _, f_dotted_text, _, f_read_dotted, _, f_check_maker, _, f_place_text, _, f_read_step, _, f_read_place, _, f_out_version, _, f_is_in, _, f_version_text, _, f_read_from, _, f_read_version, _, f__law_digits, _, f__law_signs, _, f__law_words, _, f__law_version, _, f__law_bent, _, f__law_number, _, f__law_place_of, _, f__law_reads, _, f__law_right, _, f__law_written, _, f__law_too_great, _, fa, _, C_DraftError, C_NoDeed, C_NoRow, C_NoSave, C_NoText, C_NoWords⟩ := ok_number_text T 
  have G_read_number : Ok_read_number l.prog w K mg base ⟨f_is_words, _, f_made_of, _, f_number_text, _, f_read_number, _, f_dotted_text, _, f_read_dotted, _, f_check_maker, _, f_place_text, _, f_read_step, _, f_read_place, _, f_out_version, _, f_is_in, _, f_version_text, _, f_read_from, _, f_read_version, _, f__law_digits, _, f__law_signs, _, f__law_words, _, f__law_version, _, f__law_bent, _, f__law_number, _, f__law_place_of, _, f__law_reads, _, f__law_right, _, f__law_written, _, f__law_too_great, _, fa, _, C_DraftError, C_NoDeed, C_NoRow, C_NoSave, C_NoText, C_NoWords⟩ := ok_read_number T G_made_of
  have G_dotted_text : Ok_dotted_text l.prog w K mg base ⟨f_is_words, _, f_made_of, _, f_number_text, _, f_read_number, _, f_dotted_text, _, f_read_dotted, _, f_check_maker, _, f_place_text, _, f_read_step, _, f_read_place, _, f_out_version, _, f_is_in, _, f_version_text, _, f_read_from, _, f_read_version, _, f__law_digits, _, f__law_signs, _, f__law_words, _, f__law_version, _, f__law_bent, _, f__law_number, _, f__law_place_of, _, f__law_reads, _, f__law_right, _, f__law_written, _, f__law_too_great, _, fa, _, C_DraftError, C_NoDeed, C_NoRow, C_NoSave, C_NoText, C_NoWords⟩ := ok_dotted_text T G_number_text
  have G_read_dotted : Ok_read_dotted l.prog w K mg base ⟨f_is_words, _, f_made_of, _, f_number_text, _, f_read_number, _, f_dotted_text, _, f_read_dotted, _, f_check_maker, _, f_place_text, _, f_read_step, _, f_read_place, _, f_out_version, _, f_is_in, _, f_version_text, _, f_read_from, _, f_read_version, _, f__law_digits, _, f__law_signs, _, f__law_words, _, f__law_version, _, f__law_bent, _, f__law_number, _, f__law_place_of, _, f__law_reads, _, f__law_right, _, f__law_written, _, f__law_too_great, _, fa, _, C_DraftError, C_NoDeed, C_NoRow, C_NoSave, C_NoText, C_NoWords⟩ := ok_read_dotted T G_read_number
  have G_check_maker : Ok_check_maker l.prog w K mg base ⟨f_is_words, _, f_made_of, _, f_number_text, _, f_read_number, _, f_dotted_text, _, f_read_dotted, _, f_check_maker, _, f_place_text, _, f_read_step, _, f_read_place, _, f_out_version, _, f_is_in, _, f_version_text, _, f_read_from, _, f_read_version, _, f__law_digits, _, f__law_signs, _, f__law_words, _, f__law_version, _, f__law_bent, _, f__law_number, _, f__law_place_of, _, f__law_reads, _, f__law_right, _, f__law_written, _, f__law_too_great, _, fa, _, C_DraftError, C_NoDeed, C_NoRow, C_NoSave, C_NoText, C_NoWords⟩ := ok_check_maker T 
  have G_place_text : Ok_place_text l.prog w K mg base ⟨f_is_words, _, f_made_of, _, f_number_text, _, f_read_number, _, f_dotted_text, _, f_read_dotted, _, f_check_maker, _, f_place_text, _, f_read_step, _, f_read_place, _, f_out_version, _, f_is_in, _, f_version_text, _, f_read_from, _, f_read_version, _, f__law_digits, _, f__law_signs, _, f__law_words, _, f__law_version, _, f__law_bent, _, f__law_number, _, f__law_place_of, _, f__law_reads, _, f__law_right, _, f__law_written, _, f__law_too_great, _, fa, _, C_DraftError, C_NoDeed, C_NoRow, C_NoSave, C_NoText, C_NoWords⟩ := ok_place_text T G_dotted_text
  have G_read_step : Ok_read_step l.prog w K mg base ⟨f_is_words, _, f_made_of, _, f_number_text, _, f_read_number, _, f_dotted_text, _, f_read_dotted, _, f_check_maker, _, f_place_text, _, f_read_step, _, f_read_place, _, f_out_version, _, f_is_in, _, f_version_text, _, f_read_from, _, f_read_version, _, f__law_digits, _, f__law_signs, _, f__law_words, _, f__law_version, _, f__law_bent, _, f__law_number, _, f__law_place_of, _, f__law_reads, _, f__law_right, _, f__law_written, _, f__law_too_great, _, fa, _, C_DraftError, C_NoDeed, C_NoRow, C_NoSave, C_NoText, C_NoWords⟩ := ok_read_step T G_read_dotted G_check_maker
  have G_read_place : Ok_read_place l.prog w K mg base ⟨f_is_words, _, f_made_of, _, f_number_text, _, f_read_number, _, f_dotted_text, _, f_read_dotted, _, f_check_maker, _, f_place_text, _, f_read_step, _, f_read_place, _, f_out_version, _, f_is_in, _, f_version_text, _, f_read_from, _, f_read_version, _, f__law_digits, _, f__law_signs, _, f__law_words, _, f__law_version, _, f__law_bent, _, f__law_number, _, f__law_place_of, _, f__law_reads, _, f__law_right, _, f__law_written, _, f__law_too_great, _, fa, _, C_DraftError, C_NoDeed, C_NoRow, C_NoSave, C_NoText, C_NoWords⟩ := ok_read_place T G_read_step
  have G_out_version : Ok_out_version l.prog w K mg base ⟨f_is_words, _, f_made_of, _, f_number_text, _, f_read_number, _, f_dotted_text, _, f_read_dotted, _, f_check_maker, _, f_place_text, _, f_read_step, _, f_read_place, _, f_out_version, _, f_is_in, _, f_version_text, _, f_read_from, _, f_read_version, _, f__law_digits, _, f__law_signs, _, f__law_words, _, f__law_version, _, f__law_bent, _, f__law_number, _, f__law_place_of, _, f__law_reads, _, f__law_right, _, f__law_written, _, f__law_too_great, _, fa, _, C_DraftError, C_NoDeed, C_NoRow, C_NoSave, C_NoText, C_NoWords⟩ := ok_out_version T 
  have G_is_in : Ok_is_in l.prog w K mg base ⟨f_is_words, _, f_made_of, _, f_number_text, _, f_read_number, _, f_dotted_text, _, f_read_dotted, _, f_check_maker, _, f_place_text, _, f_read_step, _, f_read_place, _, f_out_version, _, f_is_in, _, f_version_text, _, f_read_from, _, f_read_version, _, f__law_digits, _, f__law_signs, _, f__law_words, _, f__law_version, _, f__law_bent, _, f__law_number, _, f__law_place_of, _, f__law_reads, _, f__law_right, _, f__law_written, _, f__law_too_great, _, fa, _, C_DraftError, C_NoDeed, C_NoRow, C_NoSave, C_NoText, C_NoWords⟩ := ok_is_in T 
  have G_version_text : Ok_version_text l.prog w K mg base ⟨f_is_words, _, f_made_of, _, f_number_text, _, f_read_number, _, f_dotted_text, _, f_read_dotted, _, f_check_maker, _, f_place_text, _, f_read_step, _, f_read_place, _, f_out_version, _, f_is_in, _, f_version_text, _, f_read_from, _, f_read_version, _, f__law_digits, _, f__law_signs, _, f__law_words, _, f__law_version, _, f__law_bent, _, f__law_number, _, f__law_place_of, _, f__law_reads, _, f__law_right, _, f__law_written, _, f__law_too_great, _, fa, _, C_DraftError, C_NoDeed, C_NoRow, C_NoSave, C_NoText, C_NoWords⟩ := ok_version_text T G_number_text G_place_text G_is_in
  have G_read_from : Ok_read_from l.prog w K mg base ⟨f_is_words, _, f_made_of, _, f_number_text, _, f_read_number, _, f_dotted_text, _, f_read_dotted, _, f_check_maker, _, f_place_text, _, f_read_step, _, f_read_place, _, f_out_version, _, f_is_in, _, f_version_text, _, f_read_from, _, f_read_version, _, f__law_digits, _, f__law_signs, _, f__law_words, _, f__law_version, _, f__law_bent, _, f__law_number, _, f__law_place_of, _, f__law_reads, _, f__law_right, _, f__law_written, _, f__law_too_great, _, fa, _, C_DraftError, C_NoDeed, C_NoRow, C_NoSave, C_NoText, C_NoWords⟩ := ok_read_from T G_read_number
  have G_read_version : Ok_read_version l.prog w K mg base ⟨f_is_words, _, f_made_of, _, f_number_text, _, f_read_number, _, f_dotted_text, _, f_read_dotted, _, f_check_maker, _, f_place_text, _, f_read_step, _, f_read_place, _, f_out_version, _, f_is_in, _, f_version_text, _, f_read_from, _, f_read_version, _, f__law_digits, _, f__law_signs, _, f__law_words, _, f__law_version, _, f__law_bent, _, f__law_number, _, f__law_place_of, _, f__law_reads, _, f__law_right, _, f__law_written, _, f__law_too_great, _, fa, _, C_DraftError, C_NoDeed, C_NoRow, C_NoSave, C_NoText, C_NoWords⟩ := ok_read_version T G_is_words G_read_place G_out_version G_read_from
  have G__law_digits : Ok__law_digits l.prog w K mg base ⟨f_is_words, _, f_made_of, _, f_number_text, _, f_read_number, _, f_dotted_text, _, f_read_dotted, _, f_check_maker, _, f_place_text, _, f_read_step, _, f_read_place, _, f_out_version, _, f_is_in, _, f_version_text, _, f_read_from, _, f_read_version, _, f__law_digits, _, f__law_signs, _, f__law_words, _, f__law_version, _, f__law_bent, _, f__law_number, _, f__law_place_of, _, f__law_reads, _, f__law_right, _, f__law_written, _, f__law_too_great, _, fa, _, C_DraftError, C_NoDeed, C_NoRow, C_NoSave, C_NoText, C_NoWords⟩ := ok__law_digits T 
  have G__law_signs : Ok__law_signs l.prog w K mg base ⟨f_is_words, _, f_made_of, _, f_number_text, _, f_read_number, _, f_dotted_text, _, f_read_dotted, _, f_check_maker, _, f_place_text, _, f_read_step, _, f_read_place, _, f_out_version, _, f_is_in, _, f_version_text, _, f_read_from, _, f_read_version, _, f__law_digits, _, f__law_signs, _, f__law_words, _, f__law_version, _, f__law_bent, _, f__law_number, _, f__law_place_of, _, f__law_reads, _, f__law_right, _, f__law_written, _, f__law_too_great, _, fa, _, C_DraftError, C_NoDeed, C_NoRow, C_NoSave, C_NoText, C_NoWords⟩ := ok__law_signs T 
  have G__law_words : Ok__law_words l.prog w K mg base ⟨f_is_words, _, f_made_of, _, f_number_text, _, f_read_number, _, f_dotted_text, _, f_read_dotted, _, f_check_maker, _, f_place_text, _, f_read_step, _, f_read_place, _, f_out_version, _, f_is_in, _, f_version_text, _, f_read_from, _, f_read_version, _, f__law_digits, _, f__law_signs, _, f__law_words, _, f__law_version, _, f__law_bent, _, f__law_number, _, f__law_place_of, _, f__law_reads, _, f__law_right, _, f__law_written, _, f__law_too_great, _, fa, _, C_DraftError, C_NoDeed, C_NoRow, C_NoSave, C_NoText, C_NoWords⟩ := ok__law_words T G__law_signs
  have G__law_version : Ok__law_version l.prog w K mg base ⟨f_is_words, _, f_made_of, _, f_number_text, _, f_read_number, _, f_dotted_text, _, f_read_dotted, _, f_check_maker, _, f_place_text, _, f_read_step, _, f_read_place, _, f_out_version, _, f_is_in, _, f_version_text, _, f_read_from, _, f_read_version, _, f__law_digits, _, f__law_signs, _, f__law_words, _, f__law_version, _, f__law_bent, _, f__law_number, _, f__law_place_of, _, f__law_reads, _, f__law_right, _, f__law_written, _, f__law_too_great, _, fa, _, C_DraftError, C_NoDeed, C_NoRow, C_NoSave, C_NoText, C_NoWords⟩ := ok__law_version T G__law_words
  have G__law_bent : Ok__law_bent l.prog w K mg base ⟨f_is_words, _, f_made_of, _, f_number_text, _, f_read_number, _, f_dotted_text, _, f_read_dotted, _, f_check_maker, _, f_place_text, _, f_read_step, _, f_read_place, _, f_out_version, _, f_is_in, _, f_version_text, _, f_read_from, _, f_read_version, _, f__law_digits, _, f__law_signs, _, f__law_words, _, f__law_version, _, f__law_bent, _, f__law_number, _, f__law_place_of, _, f__law_reads, _, f__law_right, _, f__law_written, _, f__law_too_great, _, fa, _, C_DraftError, C_NoDeed, C_NoRow, C_NoSave, C_NoText, C_NoWords⟩ := ok__law_bent T G__law_signs
  have G__law_number : Ok__law_number l.prog w K mg base ⟨f_is_words, _, f_made_of, _, f_number_text, _, f_read_number, _, f_dotted_text, _, f_read_dotted, _, f_check_maker, _, f_place_text, _, f_read_step, _, f_read_place, _, f_out_version, _, f_is_in, _, f_version_text, _, f_read_from, _, f_read_version, _, f__law_digits, _, f__law_signs, _, f__law_words, _, f__law_version, _, f__law_bent, _, f__law_number, _, f__law_place_of, _, f__law_reads, _, f__law_right, _, f__law_written, _, f__law_too_great, _, fa, _, C_DraftError, C_NoDeed, C_NoRow, C_NoSave, C_NoText, C_NoWords⟩ := ok__law_number T 
  have G__law_place_of : Ok__law_place_of l.prog w K mg base ⟨f_is_words, _, f_made_of, _, f_number_text, _, f_read_number, _, f_dotted_text, _, f_read_dotted, _, f_check_maker, _, f_place_text, _, f_read_step, _, f_read_place, _, f_out_version, _, f_is_in, _, f_version_text, _, f_read_from, _, f_read_version, _, f__law_digits, _, f__law_signs, _, f__law_words, _, f__law_version, _, f__law_bent, _, f__law_number, _, f__law_place_of, _, f__law_reads, _, f__law_right, _, f__law_written, _, f__law_too_great, _, fa, _, C_DraftError, C_NoDeed, C_NoRow, C_NoSave, C_NoText, C_NoWords⟩ := ok__law_place_of T G__law_number
  have G__law_reads : Ok__law_reads l.prog w K mg base ⟨f_is_words, _, f_made_of, _, f_number_text, _, f_read_number, _, f_dotted_text, _, f_read_dotted, _, f_check_maker, _, f_place_text, _, f_read_step, _, f_read_place, _, f_out_version, _, f_is_in, _, f_version_text, _, f_read_from, _, f_read_version, _, f__law_digits, _, f__law_signs, _, f__law_words, _, f__law_version, _, f__law_bent, _, f__law_number, _, f__law_place_of, _, f__law_reads, _, f__law_right, _, f__law_written, _, f__law_too_great, _, fa, _, C_DraftError, C_NoDeed, C_NoRow, C_NoSave, C_NoText, C_NoWords⟩ := ok__law_reads T G__law_number G__law_place_of
  have G__law_right : Ok__law_right l.prog w K mg base ⟨f_is_words, _, f_made_of, _, f_number_text, _, f_read_number, _, f_dotted_text, _, f_read_dotted, _, f_check_maker, _, f_place_text, _, f_read_step, _, f_read_place, _, f_out_version, _, f_is_in, _, f_version_text, _, f_read_from, _, f_read_version, _, f__law_digits, _, f__law_signs, _, f__law_words, _, f__law_version, _, f__law_bent, _, f__law_number, _, f__law_place_of, _, f__law_reads, _, f__law_right, _, f__law_written, _, f__law_too_great, _, fa, _, C_DraftError, C_NoDeed, C_NoRow, C_NoSave, C_NoText, C_NoWords⟩ := ok__law_right T G_read_version G__law_reads
  have G__law_written : Ok__law_written l.prog w K mg base ⟨f_is_words, _, f_made_of, _, f_number_text, _, f_read_number, _, f_dotted_text, _, f_read_dotted, _, f_check_maker, _, f_place_text, _, f_read_step, _, f_read_place, _, f_out_version, _, f_is_in, _, f_version_text, _, f_read_from, _, f_read_version, _, f__law_digits, _, f__law_signs, _, f__law_words, _, f__law_version, _, f__law_bent, _, f__law_number, _, f__law_place_of, _, f__law_reads, _, f__law_right, _, f__law_written, _, f__law_too_great, _, fa, _, C_DraftError, C_NoDeed, C_NoRow, C_NoSave, C_NoText, C_NoWords⟩ := ok__law_written T 
  have G__law_too_great : Ok__law_too_great l.prog w K mg base ⟨f_is_words, _, f_made_of, _, f_number_text, _, f_read_number, _, f_dotted_text, _, f_read_dotted, _, f_check_maker, _, f_place_text, _, f_read_step, _, f_read_place, _, f_out_version, _, f_is_in, _, f_version_text, _, f_read_from, _, f_read_version, _, f__law_digits, _, f__law_signs, _, f__law_words, _, f__law_version, _, f__law_bent, _, f__law_number, _, f__law_place_of, _, f__law_reads, _, f__law_right, _, f__law_written, _, f__law_too_great, _, fa, _, C_DraftError, C_NoDeed, C_NoRow, C_NoSave, C_NoText, C_NoWords⟩ := ok__law_too_great T G_version_text
  have G_law : Ok_law l.prog w K mg base ⟨f_is_words, _, f_made_of, _, f_number_text, _, f_read_number, _, f_dotted_text, _, f_read_dotted, _, f_check_maker, _, f_place_text, _, f_read_step, _, f_read_place, _, f_out_version, _, f_is_in, _, f_version_text, _, f_read_from, _, f_read_version, _, f__law_digits, _, f__law_signs, _, f__law_words, _, f__law_version, _, f__law_bent, _, f__law_number, _, f__law_place_of, _, f__law_reads, _, f__law_right, _, f__law_written, _, f__law_too_great, _, fa, _, C_DraftError, C_NoDeed, C_NoRow, C_NoSave, C_NoText, C_NoWords⟩ := ok_law T G_version_text G__law_digits G__law_version G__law_bent G__law_right G__law_written G__law_too_great
  exact G_law
theorem walk {l : PySem.W.OpenLaw} {q : Program} {loose : List Str} {XP : (Str → Option Value) → Heap → Prop} {YP : World → Heap → Prop} {d : DefRec} {K : Params → PySem.W.Frag} (hn : l.most = some 63) (hdf : d.params.defaults = [])
    (hY : ∀ (w : World) (h : Heap), YP w h → (K w.params).In h)
    (F : ∀ (w : World) (mg : Str → Option Value) (fa : Addr) (h : Heap), (K w.params).In h → h.Ns mainGlobals mg → mg d.name = some (.ref fa) →
      ∃ fd : FuncData, (∀ (s : Shared) (u : Value), BindsTo s fd ⟨[u], []⟩ [("_law_script", u)]) ∧ ∀ base : Heap, (K w.params).In base → base.Ns mainGlobals mg → FnOk l.prog w (K w.params) mg base (CX1 l.prog w base) 8 fa fd ["_law_script"] (sp_law (K w.params))) :
    PySem.W.WalkO q loose XP YP l.row.toRowW d [] (fun f vs => PySem.call f vs) :=
  walk_ofX (n := 63) (k := 8) (x := "_law_script") (sp := fun w => sp_law (K w.params)) hn (by decide) hdf ⟨rfl, by decide, by decide⟩ hY F (fun _ _ a ns hl hO hS => ⟨a, ns, rfl, hS, hl, fun _ => rfl, hO.plain⟩)
end My
open PySem PySem.W PyProof.Rows
set_option maxRecDepth 100000 in
set_option maxHeartbeats 0 in
theorem PySem.Challenge.cw_twotabs_k08_versions_written_holds : PySem.Challenge.rw_twotabs_k08_versions_written.Holds := by
  w_on; o_law; k_head; (case hw => w_witness2)
  k_fill
  refine My.walk (l := PySem.Challenge.rw_twotabs_k08_versions_written) rfl rfl (fun w h Y => PySem.W.kIn_of Y) ?F
  case F =>
    intro w mg fa h KX G hmg
    refine' My.all_mk KX G hmg ?a_is_words ?l_is_words ?c_is_words ?k_is_words ?a_made_of ?l_made_of ?c_made_of ?k_made_of ?a_number_text ?l_number_text ?c_number_text ?k_number_text ?a_read_number ?l_read_number ?c_read_number ?k_read_number ?a_dotted_text ?l_dotted_text ?c_dotted_text ?k_dotted_text ?a_read_dotted ?l_read_dotted ?c_read_dotted ?k_read_dotted ?a_check_maker ?l_check_maker ?c_check_maker ?k_check_maker ?a_place_text ?l_place_text ?c_place_text ?k_place_text ?a_read_step ?l_read_step ?c_read_step ?k_read_step ?a_read_place ?l_read_place ?c_read_place ?k_read_place ?a_out_version ?l_out_version ?c_out_version ?k_out_version ?a_is_in ?l_is_in ?c_is_in ?k_is_in ?a_version_text ?l_version_text ?c_version_text ?k_version_text ?a_read_from ?l_read_from ?c_read_from ?k_read_from ?a_read_version ?l_read_version ?c_read_version ?k_read_version ?a__law_digits ?l__law_digits ?c__law_digits ?k__law_digits ?a__law_signs ?l__law_signs ?c__law_signs ?k__law_signs ?a__law_words ?l__law_words ?c__law_words ?k__law_words ?a__law_version ?l__law_version ?c__law_version ?k__law_version ?a__law_bent ?l__law_bent ?c__law_bent ?k__law_bent ?a__law_number ?l__law_number ?c__law_number ?k__law_number ?a__law_place_of ?l__law_place_of ?c__law_place_of ?k__law_place_of ?a__law_reads ?l__law_reads ?c__law_reads ?k__law_reads ?a__law_right ?l__law_right ?c__law_right ?k__law_right ?a__law_written ?l__law_written ?c__law_written ?k__law_written ?a__law_too_great ?l__law_too_great ?c__law_too_great ?k__law_too_great ?a_law ?l_law ?c_law ?k_law ?u_FIGURES ?u_MOST_FIGURES ?u_OUT ?u_TOO_GREAT ?q_DraftError ?x_DraftError ?q_NoDeed ?x_NoDeed ?q_NoRow ?x_NoRow ?q_NoSave ?x_NoSave ?q_NoText ?x_NoText ?q_NoWords ?x_NoWords ?m_nd ?kv ?kt ?ku ?n_ValueError ?n_abs ?n_all ?n_enumerate ?n_int ?n_isinstance ?n_len ?n_range ?n_str ?n_tuple
    (case a_is_words => k_is)
    (case l_is_words => k_is)
    (case c_is_words => k_is)
    (case k_is_words => k_is)
    (case a_made_of => k_is)
    (case l_made_of => k_is)
    (case c_made_of => k_is)
    (case k_made_of => k_is)
    (case a_number_text => k_is)
    (case l_number_text => k_is)
    (case c_number_text => k_is)
    (case k_number_text => k_is)
    (case a_read_number => k_is)
    (case l_read_number => k_is)
    (case c_read_number => k_is)
    (case k_read_number => k_is)
    (case a_dotted_text => k_is)
    (case l_dotted_text => k_is)
    (case c_dotted_text => k_is)
    (case k_dotted_text => k_is)
    (case a_read_dotted => k_is)
    (case l_read_dotted => k_is)
    (case c_read_dotted => k_is)
    (case k_read_dotted => k_is)
    (case a_check_maker => k_is)
    (case l_check_maker => k_is)
    (case c_check_maker => k_is)
    (case k_check_maker => k_is)
    (case a_place_text => k_is)
    (case l_place_text => k_is)
    (case c_place_text => k_is)
    (case k_place_text => k_is)
    (case a_read_step => k_is)
    (case l_read_step => k_is)
    (case c_read_step => k_is)
    (case k_read_step => k_is)
    (case a_read_place => k_is)
    (case l_read_place => k_is)
    (case c_read_place => k_is)
    (case k_read_place => k_is)
    (case a_out_version => k_is)
    (case l_out_version => k_is)
    (case c_out_version => k_is)
    (case k_out_version => k_is)
    (case a_is_in => k_is)
    (case l_is_in => k_is)
    (case c_is_in => k_is)
    (case k_is_in => k_is)
    (case a_version_text => k_is)
    (case l_version_text => k_is)
    (case c_version_text => k_is)
    (case k_version_text => k_is)
    (case a_read_from => k_is)
    (case l_read_from => k_is)
    (case c_read_from => k_is)
    (case k_read_from => k_is)
    (case a_read_version => k_is)
    (case l_read_version => k_is)
    (case c_read_version => k_is)
    (case k_read_version => k_is)
    (case a__law_digits => k_is)
    (case l__law_digits => k_is)
    (case c__law_digits => k_is)
    (case k__law_digits => k_is)
    (case a__law_signs => k_is)
    (case l__law_signs => k_is)
    (case c__law_signs => k_is)
    (case k__law_signs => k_is)
    (case a__law_words => k_is)
    (case l__law_words => k_is)
    (case c__law_words => k_is)
    (case k__law_words => k_is)
    (case a__law_version => k_is)
    (case l__law_version => k_is)
    (case c__law_version => k_is)
    (case k__law_version => k_is)
    (case a__law_bent => k_is)
    (case l__law_bent => k_is)
    (case c__law_bent => k_is)
    (case k__law_bent => k_is)
    (case a__law_number => k_is)
    (case l__law_number => k_is)
    (case c__law_number => k_is)
    (case k__law_number => k_is)
    (case a__law_place_of => k_is)
    (case l__law_place_of => k_is)
    (case c__law_place_of => k_is)
    (case k__law_place_of => k_is)
    (case a__law_reads => k_is)
    (case l__law_reads => k_is)
    (case c__law_reads => k_is)
    (case k__law_reads => k_is)
    (case a__law_right => k_is)
    (case l__law_right => k_is)
    (case c__law_right => k_is)
    (case k__law_right => k_is)
    (case a__law_written => k_is)
    (case l__law_written => k_is)
    (case c__law_written => k_is)
    (case k__law_written => k_is)
    (case a__law_too_great => k_is)
    (case l__law_too_great => k_is)
    (case c__law_too_great => k_is)
    (case k__law_too_great => k_is)
    (case a_law => k_is)
    (case l_law => k_is)
    (case c_law => k_is)
    (case k_law => k_is)
    (case u_FIGURES => k_is)
    (case u_MOST_FIGURES => k_is)
    (case u_OUT => k_is)
    (case u_TOO_GREAT => k_is)
    (case q_DraftError => k_is)
    (case x_DraftError => refine' L2.XCls.mk ?_ ?_ ?_ ?_ ?_ ?_ ?_ ?_ ?_; all_goals (first | k_is | k_exc))
    (case q_NoDeed => k_is)
    (case x_NoDeed => refine' L2.XCls.mk ?_ ?_ ?_ ?_ ?_ ?_ ?_ ?_ ?_; all_goals (first | k_is | k_exc))
    (case q_NoRow => k_is)
    (case x_NoRow => refine' L2.XCls.mk ?_ ?_ ?_ ?_ ?_ ?_ ?_ ?_ ?_; all_goals (first | k_is | k_exc))
    (case q_NoSave => k_is)
    (case x_NoSave => refine' L2.XCls.mk ?_ ?_ ?_ ?_ ?_ ?_ ?_ ?_ ?_; all_goals (first | k_is | k_exc))
    (case q_NoText => k_is)
    (case x_NoText => refine' L2.XCls.mk ?_ ?_ ?_ ?_ ?_ ?_ ?_ ?_ ?_; all_goals (first | k_is | k_exc))
    (case q_NoWords => k_is)
    (case x_NoWords => refine' L2.XCls.mk ?_ ?_ ?_ ?_ ?_ ?_ ?_ ?_ ?_; all_goals (first | k_is | k_exc))
    (case m_nd => first | k_is | kit_is)
    (case kv => first | k_is | kit_is)
    (case kt => first | k_is | kit_is)
    (case ku => first | k_is | kit_is)
    (case n_ValueError => k_is)
    (case n_abs => k_is)
    (case n_all => k_is)
    (case n_enumerate => k_is)
    (case n_int => k_is)
    (case n_isinstance => k_is)
    (case n_len => k_is)
    (case n_range => k_is)
    (case n_str => k_is)
    (case n_tuple => k_is)
