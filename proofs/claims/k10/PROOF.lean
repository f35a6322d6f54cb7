import PyProof.Rows.All
import Wide.All
import OpenK.AllK
import Wide.FinOn
import Lean
import PyProof.EqAt
import PyProof.EqKinds
import PyProof.TupleCall
import PySem.Challenge.RW_twotabs_k10_gaps
set_option Elab.async false
set_option linter.all false
set_option maxRecDepth 100000
/-! THE HAND LAYER, for ints, bools, texts, own classes, LISTS and tuples (index, slices, in, append, pop ..), calls, loops. Paste it whole ahead of your own text; what your proof does not reach may be deleted. -/
namespace L2
open PySem PySem.Spec PyProof.Rows

/-- a key: an int or a str -/
abbrev Key := Sum Int Str
def keyIs : Key → Value → Bool
  | .inl k, v => Value.isInt k v
  | .inr x, v => Value.isStrOf x v
def keyH (w : World) : Key → Int
  | .inl k => hashInt k
  | .inr x => hashStr w x
theorem keyIs_shape : ∀ {k : Key} {v : Value}, keyIs k v = true → (∃ i t, k = Sum.inl i ∧ v = Value.int i t) ∨ (∃ x t, k = Sum.inr x ∧ v = Value.str x t)
  | .inl i, v, h => by
    obtain ⟨t, e⟩ := Value.isInt_shape (k := i) (v := v) h
    exact .inl ⟨i, t, rfl, e⟩
  | .inr x, v, h => by
    obtain ⟨t, e⟩ := Value.isStrOf_shape (x := x) (v := v) h
    exact .inr ⟨x, t, rfl, e⟩
theorem keyIs_int (i : Int) (t : Tok) : keyIs (.inl i) (.int i t) = true := by simp [keyIs, Value.isInt]
theorem key_ll (a b : Int) : decide ((Sum.inl a : Key) = Sum.inl b) = (a == b) := by
  by_cases e : a = b
  · subst e; simp
  · have h : ¬ (Sum.inl a : Key) = Sum.inl b := fun q => e (Sum.inl.inj q)
    rw [decide_eq_false h]
    exact (beq_eq_false_iff_ne.mpr e).symm
theorem key_rr (a b : Str) : decide ((Sum.inr a : Key) = Sum.inr b) = decide (a = b) := by
  by_cases e : a = b
  · subst e; simp
  · have h : ¬ (Sum.inr a : Key) = Sum.inr b := fun q => e (Sum.inr.inj q)
    rw [decide_eq_false h, decide_eq_false e]
theorem key_lr (a : Int) (b : Str) : decide ((Sum.inl a : Key) = Sum.inr b) = false := decide_eq_false (fun q => nomatch q)
theorem key_rl (a : Str) (b : Int) : decide ((Sum.inr a : Key) = Sum.inl b) = false := decide_eq_false (fun q => nomatch q)

def mixKind (prog : Program) (w : World) : PySem.KeyKind prog w Key where
  is := keyIs
  hash := keyH w
  inj := fun v a b ha hb => by
    rcases keyIs_shape ha with ⟨i, t, rfl, rfl⟩ | ⟨x, t, rfl, rfl⟩
    · rcases keyIs_shape hb with ⟨j, u, rfl, e⟩ | ⟨y, u, rfl, e⟩
      · injection e with e1 _; rw [e1]
      · exact nomatch e
    · rcases keyIs_shape hb with ⟨j, u, rfl, e⟩ | ⟨y, u, rfl, e⟩
      · exact nomatch e
      · injection e with e1 _; rw [e1]
  byValue := fun k v h => by
    rcases keyIs_shape h with ⟨i, t, rfl, rfl⟩ | ⟨x, t, rfl, rfl⟩ <;> rfl
  pyHash := fun hv h => by
    rcases keyIs_shape hv with ⟨i, t, rfl, rfl⟩ | ⟨x, t, rfl, rfl⟩
    · exact wpAny_pyHash_int h
    · exact wpAny_pyHash_str h
  eqBool := fun hu hv h => by
    rcases keyIs_shape hu with ⟨i, t, rfl, rfl⟩ | ⟨x, t, rfl, rfl⟩
    · rcases keyIs_shape hv with ⟨j, u, rfl, rfl⟩ | ⟨y, u, rfl, rfl⟩
      · rw [key_ll] at h; exact wpAny_eqBool_int h
      · rw [key_lr] at h; exact SeqAt.EqAt.int_str i t y u _ _ _ _ h
    · rcases keyIs_shape hv with ⟨j, u, rfl, rfl⟩ | ⟨y, u, rfl, rfl⟩
      · rw [key_rl] at h; exact SeqAt.EqAt.str_int x t j u _ _ _ _ h
      · rw [key_rr] at h; exact wpAny_eqBool_str h
  «strs» := fun k x t v h => by
    rcases keyIs_shape h with ⟨i, u, rfl, e⟩ | ⟨y, u, rfl, e⟩
    · exact nomatch e
    · injection e with e1 _
      subst e1
      cases v <;> rfl

theorem mixKind_int (prog : Program) (w : World) (i : Int) (t : Tok) : (mixKind prog w).is (.inl i) (.int i t) = true := keyIs_int i t
end L2

namespace L2
open PySem PySem.Spec PyProof.Rows

/-- a value, without the heap -/
inductive V where
  | non | bl (b : Bool) | int (i : Int) | str (x : Str) | byt (b : Array UInt8) | flt (b : UInt64) | ref (a : Addr) | ty (n : String)
  deriving DecidableEq

def RelV : V → Value → Prop
  | .non, u => u = Value.none
  | .bl b, u => u = Value.bool b
  | .int i, u => ∃ t, u = Value.int i t
  | .str x, u => ∃ t, u = Value.str x t
  | .byt b, u => ∃ t, u = Value.bytes b t
  | .flt b, u => ∃ t, u = Value.float b t
  | .ref a, u => u = Value.ref a
  | .ty n, u => u = Value.type n

abbrev Vals : List V → List Value → Prop := Paired RelV
theorem Vals.length {xs : List V} {us : List Value} (r : Vals xs us) : xs.length = us.length := Paired.length r
theorem Vals.get : ∀ {xs : List V} {us : List Value} {i : Nat} {x : V}, Vals xs us → xs[i]? = some x → ∃ u, us[i]? = some u ∧ RelV x u
  | _, _, _, _, .nil, e => by simp at e
  | _, _, 0, _, .cons r _, e => by simp at e; subst e; exact ⟨_, rfl, r⟩
  | _, _, i + 1, x, .cons _ t, e => by
    obtain ⟨u, h1, h2⟩ := Vals.get (i := i) (x := x) t (by simpa using e)
    exact ⟨u, by simpa using h1, h2⟩
theorem Vals.append : ∀ {xs ys : List V} {us ws : List Value}, Vals xs us → Vals ys ws → Vals (xs ++ ys) (us ++ ws)
  | _, _, _, _, .nil, s => s
  | _, _, _, _, .cons r t, s => .cons r (Vals.append t s)
theorem Vals.take : ∀ {xs : List V} {us : List Value} (n : Nat), Vals xs us → Vals (xs.take n) (us.take n)
  | _, _, 0, _ => .nil
  | _, _, _ + 1, .nil => .nil
  | _, _, n + 1, .cons r t => .cons r (Vals.take n t)
theorem Vals.drop : ∀ {xs : List V} {us : List Value} (n : Nat), Vals xs us → Vals (xs.drop n) (us.drop n)
  | _, _, 0, r => r
  | _, _, _ + 1, .nil => .nil
  | _, _, n + 1, .cons _ t => Vals.drop n t
def RelO : Option V → Option Value → Prop
  | some v, some u => RelV v u
  | none, none => True
  | _, _ => False
def KV {κ : Type} : List (κ × V) → List (κ × Value) → Prop := Paired fun (p : κ × V) (q : κ × Value) => p.1 = q.1 ∧ RelV p.2 q.2

/-- a key of a dict (00_mix): an int or a text -/
def kV : Key → V
  | .inl i => .int i
  | .inr x => .str x

/-- what stands at a tracked address -/
inductive HO where
  /-- a list -/
  | lst (xs : List V)
  /-- a tuple (never changes) -/
  | tup (xs : List V)
  /-- a dict whose keys are ints and texts; one whose keys are tuples of ints and texts (the empty one is both) -/
  | dK (kvs : List (Key × V)) | dT (kvs : List (List Key × V))
  /-- a set of ints: its members, its size -/
  | set (S : Int → Bool) (n : Nat)
  /-- an instance of the class at C, its dict at dx, its attributes -/
  | ins (C dx : Addr) (fs : List (Str × V))
  /-- the dict of the instance at x -/
  | own (x : Addr)
  /-- the dict of an exception -/
  | xd (fs : List (Str × V))
  /-- a bound method, f of x -/
  | met (f x : Addr)
  /-- a range object lo, lo + 1, .. below hi -/
  | rng (lo hi : Int)
  /-- a thing that is known to the object (the script; a dict while a loop walks it): read, never written while it is so -/
  | frz (o : Obj) (u : HO)
  /-- a code object's table -/
  | tbl (ps : Array Value)
  /-- any other thing, by what is true of its one object (a def of one's own: SetO a S n := HO.ext fun h => ..) -/
  | ext (φ : Heap → Prop)

abbrev Hp := Addr → Option HO
def upd (H : Hp) (a : Addr) (o : HO) : Hp := fun b => if b = a then some o else H b
theorem upd_same {H : Hp} {a : Addr} {o : HO} : upd H a o a = some o := by unfold upd; rw [if_pos rfl]
theorem upd_ne {H : Hp} {a b : Addr} {o : HO} (h : b ≠ a) : upd H a o b = H b := by unfold upd; rw [if_neg h]
theorem upd_upd {H : Hp} {a : Addr} {o u : HO} : upd (upd H a o) a u = upd H a u := by
  funext b; unfold upd; split <;> rfl
/-- two objects of different content stand apart -/
theorem ne_of {H : Hp} {a b : Addr} {o u : HO} (h : H a = some o) (h' : H b = some u) (d : o ≠ u) : a ≠ b := by
  intro e; subst e; rw [h] at h'; exact d (Option.some.inj h')
theorem ne_of_none {H : Hp} {a b : Addr} {o : HO} (h : H a = some o) (h' : H b = none) : a ≠ b := by
  intro e; subst e; rw [h] at h'; cases h'

section
variable (P : Program) (w : World)
def ObjOk (H : Hp) (h : Heap) (a : Addr) : HO → Prop
  | .lst xs => xs.length ≤ sizeLine ∧ ∃ (its : List Value) (n : Nat), Vals xs its ∧ h.get? a = some { cls := .type "list", data := .seq its.toArray n }
  | .tup xs => xs.length ≤ sizeLine ∧ ∃ its : List Value, Vals xs its ∧ IsTup h a its.toArray
  | .dK kvs => kvs.length ≤ sizeLine ∧ (a == sysModules) = false ∧ ∃ vs, KV kvs vs ∧ h.DictOf (mixKind P w) a vs
  | .dT kvs => kvs.length ≤ sizeLine ∧ (a == sysModules) = false ∧ ∃ xs : List (List Key × Addr × Value),
      Paired (fun (p : List Key × V) (q : List Key × Addr × Value) => p.1 = q.1 ∧ H q.2.1 = some (.tup (p.1.map kV)) ∧ RelV p.2 q.2.2) kvs xs ∧
      ∃ o es ep, h.get? a = some o ∧ o.ExactDict ∧ o.data = .dict es ep ∧ es.toList = xs.map (entryOfKey (tupleKind (mixKind P w))) ∧ (xs.map (·.1)).Nodup
  | .set S n => h.SetOf (intKind P w) a S n
  | .ins C dx fs => H dx = some (.own a) ∧ fs.length ≤ 1000 ∧ dx ≠ a ∧ h.get? a = some (PySem.W.instObj C dx) ∧
      ∃ mA, h.Ns1 dx mA ∧ (∀ f, RelO (fs.lookup f) (mA f)) ∧ PySem.Within mA (fs.map (·.1))
  | .own _ => ∃ o, h.get? a = some o
  | .xd fs => ∃ mA, h.Ns1 a mA ∧ ∀ f, RelO (fs.lookup f) (mA f)
  | .rng lo hi => ∃ t u v, h.get? a = some { cls := .type "range", data := .fields #[.int lo t, .int hi u, .int 1 v] }
  | .frz o u => h.get? a = some o ∧ ObjOk H h a u
  | .tbl ps => h.get? a = some { cls := .none, data := .fields ps }
  | .met f x => h.get? a = some (PySem.W.methodObj (.ref f) (.ref x))
  | .ext φ => φ h ∧ (∃ o, h.get? a = some o) ∧ ∀ h1 h2 : Heap, φ h1 → (∀ o, h1.get? a = some o → h2.get? a = some o) → φ h2
/-- the abstract heap is held -/
def HOk (H : Hp) (h : Heap) : Prop := ∀ a o, H a = some o → ObjOk P w H h a o
end

section
variable {P : Program} {w : World} {H H' : Hp} {h h' : Heap} {a : Addr} {o : HO}
theorem ObjOk.lt (x : ObjOk P w H h a o) : a < h.objs.size := by
  cases o with
  | lst xs => obtain ⟨_, _, _, _, e⟩ := x; exact Heap.lt_size e
  | tup xs => obtain ⟨_, _, _, p⟩ := x; exact p.lt
  | dK kvs => obtain ⟨_, _, _, _, o, _, _, e, _⟩ := x; exact Heap.lt_size e
  | dT kvs => obtain ⟨_, _, _, _, o, _, _, e, _⟩ := x; exact Heap.lt_size e
  | set S n => obtain ⟨o, _, _, _, e, _⟩ := x; exact Heap.lt_size e
  | ins C dx fs => obtain ⟨_, _, _, e, _⟩ := x; exact Heap.lt_size e
  | own y => obtain ⟨_, e⟩ := x; exact Heap.lt_size e
  | xd fs => obtain ⟨_, ⟨_, _, _, e, _⟩, _⟩ := x; exact Heap.lt_size e
  | rng lo hi => obtain ⟨_, _, _, e⟩ := x; exact Heap.lt_size e
  | frz ob u => obtain ⟨e, _⟩ := x; exact Heap.lt_size e
  | tbl ps => exact Heap.lt_size (show h.get? a = some _ from x)
  | met f y => exact Heap.lt_size (show h.get? a = some _ from x)
  | ext φ => obtain ⟨_, ⟨_, e⟩, _⟩ := x; exact Heap.lt_size e
theorem Paired.mapP {α β : Type} {F G : α → β → Prop} : ∀ {l₁ : List α} {l₂ : List β}, Paired F l₁ l₂ → (∀ a b, F a b → G a b) → Paired G l₁ l₂
  | _, _, .nil, _ => .nil
  | _, _, .cons r t, f => .cons (f _ _ r) (Paired.mapP t f)
/-- what an object's description leans on: its own object, its own dict, the tuples -/
theorem ObjOk.stay (x : ObjOk P w H h a o) (k : ∀ b u, (b = a ∨ H b = some (.own a)) → h.get? b = some u → h'.get? b = some u)
    (ho : ∀ b, H b = some (.own a) → H' b = some (.own a)) (ht : ∀ b xs, H b = some (.tup xs) → H' b = some (.tup xs)) : ObjOk P w H' h' a o := by
  induction o with
  | lst xs => obtain ⟨z, its, n, r, e⟩ := x; exact ⟨z, its, n, r, k _ _ (.inl rfl) e⟩
  | tup xs => obtain ⟨z, its, r, ob, e, c⟩ := x; exact ⟨z, its, r, ob, k _ _ (.inl rfl) e, c⟩
  | dK kvs => obtain ⟨z, y, vs, r, ob, es, ep, e, c⟩ := x; exact ⟨z, y, vs, r, ob, es, ep, k _ _ (.inl rfl) e, c⟩
  | dT kvs =>
    obtain ⟨z, y, xs, r, ob, es, ep, e, c⟩ := x
    exact ⟨z, y, xs, Paired.mapP r fun p q z => ⟨z.1, ht _ _ z.2.1, z.2.2⟩, ob, es, ep, k _ _ (.inl rfl) e, c⟩
  | set S n => obtain ⟨ob, es, ep, t, e, c⟩ := x; exact ⟨ob, es, ep, t, k _ _ (.inl rfl) e, c⟩
  | ins C dx fs =>
    obtain ⟨d, z, ne, e, mA, ⟨od, es, ep, e2, c⟩, r⟩ := x
    exact ⟨ho _ d, z, ne, k _ _ (.inl rfl) e, mA, ⟨od, es, ep, k _ _ (.inr d) e2, c⟩, r⟩
  | own y => obtain ⟨ob, e⟩ := x; exact ⟨ob, k _ _ (.inl rfl) e⟩
  | xd fs => obtain ⟨mA, ⟨od, es, ep, e, c⟩, r⟩ := x; exact ⟨mA, ⟨od, es, ep, k _ _ (.inl rfl) e, c⟩, r⟩
  | rng lo hi => obtain ⟨t, u, v, e⟩ := x; exact ⟨t, u, v, k _ _ (.inl rfl) e⟩
  | frz ob u ih => obtain ⟨e, q⟩ := x; exact ⟨k _ _ (.inl rfl) e, ih q⟩
  | tbl ps =>
    have e : h.get? a = some { cls := .none, data := .fields ps } := x
    show h'.get? a = some { cls := .none, data := .fields ps }
    exact k a _ (.inl rfl) e
  | met f y =>
    have e : h.get? a = some (PySem.W.methodObj (.ref f) (.ref y)) := x
    show h'.get? a = some (PySem.W.methodObj (.ref f) (.ref y))
    exact k a _ (.inl rfl) e
  | ext φ => obtain ⟨p, ⟨o, e⟩, st⟩ := x; exact ⟨st _ _ p fun o q => k _ _ (.inl rfl) q, ⟨o, k _ _ (.inl rfl) e⟩, st⟩
theorem HOk.lt (x : HOk P w H h) (e : H a = some o) : a < h.objs.size := (x a o e).lt
theorem HOk.fresh (x : HOk P w H h) (e : h.objs.size ≤ a) : H a = none := by
  cases q : H a with
  | none => rfl
  | some u => exact absurd (Nat.lt_of_lt_of_le (x.lt q) e) (Nat.lt_irrefl _)
/-- every object of the heap is kept -/
theorem HOk.kept (x : HOk P w H h) (k : ∀ b u, h.get? b = some u → h'.get? b = some u) : HOk P w H h' := fun a o e =>
  (x a o e).stay (fun b u _ q => k b u q) (fun _ q => q) fun _ _ q => q
/-- a new object is laid and tracked -/
theorem HOk.laid (x : HOk P w H h) (k : ∀ b u, h.get? b = some u → h'.get? b = some u) (hp : h.objs.size ≤ a) (new : ObjOk P w (upd H a o) h' a o) : HOk P w (upd H a o) h' := fun b u e => by
  have hn := x.fresh hp
  by_cases hb : b = a
  · subst hb; rw [upd_same] at e; cases e; exact new
  · rw [upd_ne hb] at e
    exact (x b u e).stay (fun c v _ q => k c v q) (fun c q => by rw [upd_ne (ne_of_none q hn)]; exact q) fun c xs q => by rw [upd_ne (ne_of_none q hn)]; exact q
end

/-- what may be read as u: it is u, or a known u -/
def Rd (H : Hp) (a : Addr) (u : HO) : Prop := H a = some u ∨ ∃ o, H a = some (.frz o u)
theorem Rd.ok {P : Program} {w : World} {H : Hp} {h : Heap} {a : Addr} {u : HO} (r : Rd H a u) (x : HOk P w H h) : ObjOk P w H h a u := by
  rcases r with r | ⟨o, r⟩
  · exact x a u r
  · obtain ⟨_, q⟩ := x a _ r
    exact q
/-- what may be written -/
def Mut : Option HO → Prop
  | some (.lst _) => True
  | some (.dK _) => True
  | some (.dT _) => True
  | some (.set _ _) => True
  | some (.ins _ _ _) => True
  | some (.ext _) => True
  | _ => False
section
variable {P : Program} {w : World} {H : Hp} {h h' : Heap} {x e : Addr} {o' : HO}
/-- the object at e is changed: x itself, or the dict of the instance x -/
theorem HOk.write (ok : HOk P w H h) (mu : Mut (H x)) (he : e = x ∨ H e = some (.own x)) (k : ∀ b u, b ≠ e → h.get? b = some u → h'.get? b = some u) (heo : ∃ u, h'.get? e = some u)
    (new : ObjOk P w (upd H x o') h' x o') : HOk P w (upd H x o') h' := fun b u q => by
  have nown : ∀ c y, H c = some (.own y) → c ≠ x := fun c y r z => by subst z; rw [r] at mu; exact mu
  have ntup : ∀ c xs, H c = some (.tup xs) → c ≠ x := fun c xs r z => by subst z; rw [r] at mu; exact mu
  by_cases hb : b = x
  · subst hb; rw [upd_same] at q; cases q; exact new
  · rw [upd_ne hb] at q
    by_cases hbe : b = e
    · have q' : H b = some (.own x) := by
        rcases he with z | z
        · exact absurd (hbe.trans z) hb
        · rw [hbe]; exact z
      rw [q] at q'; cases q'
      obtain ⟨v, hv⟩ := heo
      exact ⟨v, by rw [hbe]; exact hv⟩
    · refine (ok b u q).stay (fun c v hc r => k c v ?_ r) (fun c r => by rw [upd_ne (nown c b r)]; exact r) fun c xs r => by rw [upd_ne (ntup c xs r)]; exact r
      rcases hc with rfl | hc
      · exact hbe
      · rintro rfl
        rcases he with z | z
        · exact nown c b hc z
        · rw [hc] at z; cases z; exact hb rfl
end

/-! ### kept unless tracked; of the frames at fs (the callers') the slots may change (an exception that passes writes there); of the records at ex (iterators) nothing is said -/
structure Un (fs ex : List Addr) (H H' : Hp) (h h' : Heap) : Prop where
  keep : ∀ b o, h.get? b = some o → H b = none → b ∉ fs → b ∉ ex → h'.get? b = some o
  slot : ∀ b o, h.get? b = some o → H b = none → b ∈ fs → b ∉ ex → ∃ sl, h'.get? b = some { o with slots := sl }
  free : ∀ b o, h.get? b = some o → H b = none → b ∉ ex → H' b = none
  there : ∀ b o, h.get? b = some o → b ∉ ex → ∃ o', h'.get? b = some o'
  tups : ∀ b xs, H b = some (.tup xs) → H' b = some (.tup xs)
  frzs : ∀ b o u, H b = some (.frz o u) → H' b = some (.frz o u)
  tbls : ∀ b ps, H b = some (.tbl ps) → ∃ more, H' b = some (.tbl (ps ++ more))
section
variable {fs fs' ex ex' : List Addr} {H H1 H2 : Hp} {h h1 h2 h' : Heap} {a x e : Addr} {o : HO}
theorem Un.any (u : Un fs ex H H1 h h1) {b : Addr} {ob : Obj} (q : h.get? b = some ob) (n : H b = none) (hx : b ∉ ex) : ∃ sl, h1.get? b = some { ob with slots := sl } := by
  by_cases hb : b ∈ fs
  · exact u.slot b ob q n hb hx
  · exact ⟨ob.slots, u.keep b ob q n hb hx⟩
theorem Un.kept (k : ∀ b u, h.get? b = some u → h'.get? b = some u) : Un fs ex H H h h' :=
  ⟨fun b ob q _ _ _ => k b ob q, fun b ob q _ _ _ => ⟨ob.slots, k b ob q⟩, fun _ _ _ n _ => n, fun b ob q _ => ⟨ob, k b ob q⟩, fun _ _ q => q, fun _ _ _ q => q, fun _ ps q => ⟨#[], by rw [q]; simp⟩⟩
theorem Un.refl : Un fs ex H H h h := Un.kept fun _ _ q => q
theorem Un.laid (k : ∀ b u, h.get? b = some u → h'.get? b = some u) (hp : h.objs.size ≤ a) (hn : H a = none) : Un fs ex H (upd H a o) h h' where
  keep := fun b u q _ _ _ => k b u q
  slot := fun b u q _ _ _ => ⟨u.slots, k b u q⟩
  free := fun b u q n _ => by rw [upd_ne (Nat.ne_of_lt (Nat.lt_of_lt_of_le (Heap.lt_size q) hp))]; exact n
  there := fun b u q _ => ⟨u, k b u q⟩
  tups := fun b xs q => by rw [upd_ne (ne_of_none q hn)]; exact q
  frzs := fun b u xs q => by rw [upd_ne (ne_of_none q hn)]; exact q
  tbls := fun b ps q => ⟨#[], by rw [upd_ne (ne_of_none q hn), q]; simp⟩
theorem Un.write (mu : Mut (H x)) (he : e = x ∨ H e = some (.own x)) (k : ∀ b u, b ≠ e → h.get? b = some u → h'.get? b = some u) (heo : ∃ u, h'.get? e = some u) : Un fs ex H (upd H x o) h h' := by
  have hx : ∀ b, H b = none → b ≠ x := fun b n z => by subst z; rw [n] at mu; exact mu
  have hb : ∀ b, H b = none → b ≠ e := fun b n z => by
    subst z
    rcases he with r | r
    · exact hx b n r
    · rw [n] at r; cases r
  have hm : ∀ b u, H b = some u → ¬ Mut (some u) → b ≠ x := fun b u q nm z => by subst z; rw [q] at mu; exact nm mu
  refine ⟨fun b u q n _ _ => k b u (hb b n) q, fun b u q n _ _ => ⟨u.slots, k b u (hb b n) q⟩, fun b u q n _ => by rw [upd_ne (hx b n)]; exact n, fun b u q _ => ?_,
    fun b xs q => by rw [upd_ne (hm b _ q fun z => z)]; exact q, fun b u xs q => by rw [upd_ne (hm b _ q fun z => z)]; exact q, fun b ps q => ⟨#[], by rw [upd_ne (hm b _ q fun z => z), q]; simp⟩⟩
  by_cases hbe : b = e
  · subst hbe; exact heo
  · exact ⟨u, k b u hbe q⟩
end

/-! ### the heap without what is tracked -/
def trk (h : Heap) (H : Hp) : List Addr := (List.range h.objs.size).filter fun a => (H a).isSome
def hidT (h : Heap) (H : Hp) : Heap := PySem.W.hideAll h (trk h H)
theorem hidT_size (h : Heap) (H : Hp) : (hidT h H).objs.size = h.objs.size := PySem.W.hideAll_size _ _
theorem hidT_get {h : Heap} {H : Hp} {b : Addr} {o : Obj} (e : h.get? b = some o) (n : H b = none) : (hidT h H).get? b = some o :=
  PySem.W.hideAll_get _ e fun hm => by
    have q : (H b).isSome = true := (List.mem_filter.mp hm).2
    rw [n] at q; simp at q
theorem of_hidT {h : Heap} {H : Hp} {b : Addr} {o : Obj} (e : (hidT h H).get? b = some o) : h.get? b = some o ∧ H b = none := by
  have e' : h.get? b = some o := PySem.W.of_hideAll (trk h H) e
  refine ⟨e', ?_⟩
  cases q : H b with
  | none => rfl
  | some x =>
    have hm : b ∈ trk h H := List.mem_filter.mpr ⟨List.mem_range.mpr (Heap.lt_size e'), by simp [q]⟩
    have z : (hidT h H).get? b = none := PySem.W.hideAll_none (trk h H) hm
    rw [z] at e; cases e

/-! ### OpenK's ledger, filled with every new object but one -/
end L2

namespace L2
open PySem PySem.Spec PyProof.Rows

/-- the module's facts, over the base: the heap at the law's entry without what is tracked there -/
structure Mod (K : PySem.W.Frag) (mg : Str → Option Value) (base : Heap) : Prop where
  kin : K.In base
  glob : base.Ns mainGlobals mg
  blt : ∃ mb, base.Ns builtinsNs mb ∧ ∀ x : Str, x ≠ "__name__" → mb x = bootBuiltins x
  nolimit : base.NoLimit

/-- the context: a def's body (or a comprehension's block) running. base: fixed through the whole law; s₀, H₀: the entry; outer: the frames whose slots others may change (a def's callers); stack: all frames that run;
   ex: iterators that were made ahead of the entry and are walked here (a comprehension's); fn: the names whose cells were made at the entry (a def: all; a comprehension's block: its own); calm: not within an except suite; pn: pins that every state bears; xe: what is wanted of an exception that leaves the code -/
structure Cx where
  prog : Program
  w : World
  K : PySem.W.Frag
  mg : Str → Option Value
  base : Heap
  A : Around
  N : List Str
  s₀ : Shared
  H₀ : Hp
  env : Env
  outer : List Env
  stack : List Env
  ex : List Addr
  fn : Str → Bool
  calm : Bool
  pn : List (Addr × Obj)
  xe : Value → Shared → Prop
/-- the callers' frames -/
def frs (l : List Env) : List Addr := l.filterMap (·.frame)
abbrev Cx.fs (X : Cx) : List Addr := frs X.outer

def Vis (sc : Scope) (x : Str) : Prop := sc.names.lookup x = some .local ∨ sc.names.lookup x = some .cell ∨ sc.names.lookup x = some .free
def Loc (sc : Scope) (x : Str) : Prop := sc.names.lookup x = some .local ∨ sc.names.lookup x = some .cell
def Look (env : Env) (h : Heap) (m : Str → Option Value) (x : Str) (u : Value) : Prop :=
  (env.kindOf x = some .local ∧ m x = some u) ∨ ((env.kindOf x = some .cell ∨ env.kindOf x = some .free) ∧ ∃ c, env.cells.lookup x = some c ∧ h.IsCell c (some u))

structure Cx.Ok (X : Cx) : Prop where
  mod : Mod X.K X.mg X.base
  kind : X.env.scope.kind = .function
  glob : X.env.globals = mainGlobals
  blt : X.env.builtins = builtinsNs
  above : X.s₀.heap.objs.size ≤ X.env.locals
  inj : ∀ x y c, X.env.cells.lookup x = some c → X.env.cells.lookup y = some c → x = y
  has : ∀ x, (X.env.kindOf x = some .cell ∨ X.env.kindOf x = some .free) → ∃ c, X.env.cells.lookup x = some c
  cab : ∀ x c, X.fn x = true → X.env.cells.lookup x = some c → X.s₀.heap.objs.size ≤ c
  hd : X.calm = true → X.A.handled = none
  frames : X.A.frames = some X.stack
  stk : X.stack = X.outer ∨ (X.stack = X.env :: X.outer ∧ X.env.frame = some X.env.locals)
  exf : ∀ b ∈ X.ex, b ≠ X.env.locals ∧ ∀ x c, X.env.cells.lookup x = some c → c ≠ b
  bs : ∀ b o, X.base.get? b = some o → X.s₀.heap.get? b = some o ∧ X.H₀ b = none
  bsz : X.base.objs.size ≤ X.s₀.heap.objs.size
  noex : ∀ b o, X.base.get? b = some o → b ∉ X.ex
  exfs : ∀ b ∈ X.ex, b ∉ X.fs
  funs : X.s₀.heap.FunFrames X.base X.outer
  frf : ∀ b ∈ X.fs, X.H₀ b = none

structure Inv (X : Cx) (pins : List (Addr × Obj)) (σ : List (Option V)) (H : Hp) (s : Shared) : Prop where
  ok : X.Ok
  os : s.os = X.s₀.os
  bare : AllBare s.gens
  base : Un X.fs X.ex X.H₀ H X.s₀.heap s.heap
  loc : ∃ m, s.heap.Ns X.env.locals m ∧ ∀ (i : Nat) (x : Str) (v : V), X.N[i]? = some x → σ[i]? = some (some v) → Vis X.env.scope x → ∃ u, RelV v u ∧ Look X.env s.heap m x u
  cell : ∀ x c, X.env.cells.lookup x = some c → ∃ v, s.heap.IsCell c v
  free : H X.env.locals = none
  freeC : ∀ x c, X.env.cells.lookup x = some c → H c = none
  pin : ∀ p ∈ X.pn ++ pins, s.heap.get? p.1 = some p.2 ∧ H p.1 = none ∧ p.1 ≠ X.env.locals ∧ p.1 ∉ X.fs ∧ ∀ v, p.2.data ≠ .cell v
  hok : HOk X.prog X.w H s.heap
  len : σ.length = X.N.length

section
variable {X : Cx} {pins : List (Addr × Obj)} {σ : List (Option V)} {H H' : Hp} {s : Shared} {h' : Heap}

theorem Cx.Ok.nofr (ok : X.Ok) {b : Addr} {o : Obj} (e : X.base.get? b = some o) : b ∉ X.fs := fun hb => by
  have := (ok.funs.mem hb).1
  rw [e] at this; cases this
theorem Inv.bs (I : Inv X pins σ H s) : ∀ b o, X.base.get? b = some o → s.heap.get? b = some o ∧ H b = none := fun b o e =>
  ⟨I.base.keep b o (I.ok.bs b o e).1 (I.ok.bs b o e).2 (I.ok.nofr e) (I.ok.noex b o e), I.base.free b o (I.ok.bs b o e).1 (I.ok.bs b o e).2 (I.ok.noex b o e)⟩
theorem Inv.bk (I : Inv X pins σ H s) : ∀ b o, X.base.get? b = some o → s.heap.get? b = some o := fun b o e => (I.bs b o e).1
theorem Inv.mod (I : Inv X pins σ H s) : Mod X.K X.mg X.base := I.ok.mod
theorem Inv.kIn (I : Inv X pins σ H s) : X.K.In s.heap := I.ok.mod.kin.keeps I.bk
theorem Inv.lt (I : Inv X pins σ H s) : X.env.locals < s.heap.objs.size := let ⟨_, hn, _⟩ := I.loc; hn.lt
theorem Inv.sz (I : Inv X pins σ H s) : X.s₀.heap.objs.size ≤ s.heap.objs.size := Nat.le_trans I.ok.above (Nat.le_of_lt I.lt)
theorem Inv.nofs (I : Inv X pins σ H s) {a : Addr} (h : s.heap.objs.size ≤ a) : a ∉ X.fs := fun hb => by
  obtain ⟨_, o, ho, _⟩ := I.ok.funs.mem hb
  exact absurd (Nat.lt_of_lt_of_le (Heap.lt_size ho) (Nat.le_trans I.sz h)) (Nat.lt_irrefl _)
theorem Inv.cne (I : Inv X pins σ H s) : ∀ x c, X.env.cells.lookup x = some c → c ≠ X.env.locals := fun x c e z => by
  obtain ⟨v, o, ho, hd⟩ := I.cell x c e
  obtain ⟨m, ⟨o', es, ep, ho', hd', _⟩, _⟩ := I.loc
  rw [z, ho'] at ho; cases ho; rw [hd'] at hd; cases hd
theorem Inv.funs (I : Inv X pins σ H s) : s.heap.FunFrames X.base X.outer := by
  have all : ∀ (l : List Env), (∀ b ∈ frs l, b ∈ X.fs) → X.s₀.heap.FunFrames X.base l → s.heap.FunFrames X.base l := by
    intro l
    induction l with
    | nil => intro _ _; trivial
    | cons env r ih =>
      intro hs hl
      obtain ⟨hk, ⟨L, o, hf, hn, ho, hd⟩, hr⟩ := hl
      have hL : L ∈ X.fs := hs L (by unfold frs; rw [List.filterMap_cons, hf]; exact List.mem_cons_self)
      obtain ⟨sl, e⟩ := I.base.slot L o ho (I.ok.frf L hL) hL fun z => I.ok.exfs L z hL
      exact ⟨hk, ⟨L, _, hf, hn, e, hd⟩, ih (fun b hb => hs b (by unfold frs; rw [List.filterMap_cons, hf]; exact List.mem_cons_of_mem _ hb)) hr⟩
  exact all X.outer (fun _ hb => hb) I.ok.funs

/-- the frames that run, for a call -/
theorem Inv.stack (I : Inv X pins σ H s) : s.heap.FunFrames X.base X.stack := by
  rcases I.ok.stk with e | ⟨e, hf⟩
  · rw [e]; exact I.funs
  · rw [e]
    obtain ⟨m, hn, _⟩ := I.loc
    refine .cons (by rw [I.ok.kind]; decide) hf hn ?_ I.funs
    exact Heap.get?_none_of_le (Nat.le_trans I.ok.bsz I.ok.above)
theorem Inv.stkSub (I : Inv X pins σ H s) : ∀ b ∈ frs X.stack, b ∈ X.env.locals :: X.fs := fun b hb => by
  rcases I.ok.stk with e | ⟨e, hf⟩
  · rw [e] at hb; exact List.mem_cons_of_mem _ hb
  · rw [e] at hb
    unfold frs at hb
    rw [List.filterMap_cons, hf] at hb
    exact hb
theorem Inv.stkFree (I : Inv X pins σ H s) : ∀ b ∈ frs X.stack, H b = none := fun b hb => by
  rcases List.mem_cons.mp (I.stkSub b hb) with e | hb
  · rw [e]; exact I.free
  · obtain ⟨_, o, ho, _⟩ := I.ok.funs.mem hb
    exact I.base.free b o ho (I.ok.frf b hb) fun z => I.ok.exfs b z hb

/-- THE STEP: the untracked objects but the frame and the records at ch are kept (the callers' frames up to slots), the frame's map is kept, the new abstract heap is held -/
theorem Inv.step {g' : Array GenState} {t' : Nat} {d' : Drawn} {ch : List Addr} (I : Inv X pins σ H s)
    (hch : ∀ b ∈ ch, (b ∈ X.ex ∨ X.s₀.heap.objs.size ≤ b) ∧ b ≠ X.env.locals ∧ (∀ x c, X.env.cells.lookup x = some c → c ≠ b) ∧ ∀ p ∈ X.pn ++ pins, p.1 ≠ b)
    (keep : ∀ b o, b ≠ X.env.locals → b ∉ X.fs → b ∉ ch → s.heap.get? b = some o → H b = none → h'.get? b = some o)
    (slot : ∀ b o, b ≠ X.env.locals → b ∈ X.fs → b ∉ ch → s.heap.get? b = some o → H b = none → ∃ sl, h'.get? b = some { o with slots := sl }) (free : ∀ b o, b ∉ ch → s.heap.get? b = some o → H b = none → H' b = none)
    (there : ∀ b o, b ∉ ch → s.heap.get? b = some o → ∃ o', h'.get? b = some o')
    (tups : ∀ b xs, H b = some (.tup xs) → H' b = some (.tup xs)) (frzs : ∀ b o u, H b = some (.frz o u) → H' b = some (.frz o u)) (tbls : ∀ b ps, H b = some (.tbl ps) → ∃ more, H' b = some (.tbl (ps ++ more)))
    (ns : ∀ m, s.heap.Ns X.env.locals m → h'.Ns X.env.locals m) (hok : HOk X.prog X.w H' h') (hg : AllBare g') :
    Inv X pins σ H' { s with heap := h', gens := g', drawn := d', toks := t' } := by
  have neL : ∀ b o, X.s₀.heap.get? b = some o → b ≠ X.env.locals := fun b o e => Nat.ne_of_lt (Nat.lt_of_lt_of_le (Heap.lt_size e) I.ok.above)
  have neC : ∀ b o, X.s₀.heap.get? b = some o → b ∉ X.ex → b ∉ ch := fun b o e hx hb => by
    rcases (hch b hb).1 with z | z
    · exact hx z
    · exact absurd (Nat.lt_of_lt_of_le (Heap.lt_size e) z) (Nat.lt_irrefl _)
  have cellK : ∀ x c, X.env.cells.lookup x = some c → ∀ v, s.heap.IsCell c v → h'.IsCell c v := fun x c e v ⟨o, ho, hd⟩ => by
    have nch : c ∉ ch := fun z => (hch c z).2.2.1 x c e rfl
    by_cases hc : c ∈ X.fs
    · obtain ⟨sl, q⟩ := slot c o (I.cne x c e) hc nch ho (I.freeC x c e)
      exact ⟨_, q, hd⟩
    · exact ⟨o, keep c o (I.cne x c e) hc nch ho (I.freeC x c e), hd⟩
  refine ⟨I.ok, I.os, hg, ⟨fun b o e n hb hx => ?_, fun b o e n hb hx => ?_, fun b o e n hx => ?_, fun b o e hx => ?_, fun b xs e => tups b xs (I.base.tups b xs e), fun b o xs e => frzs b o xs (I.base.frzs b o xs e), fun b ps e => ?_⟩, ?_, fun x c e => ?_, ?_, fun x c e => ?_, fun p hp => ?_, hok, I.len⟩
  · exact keep b o (neL b o e) hb (neC b o e hx) (I.base.keep b o e n hb hx) (I.base.free b o e n hx)
  · obtain ⟨sl, e1⟩ := I.base.slot b o e n hb hx
    obtain ⟨sl', e2⟩ := slot b _ (neL b o e) hb (neC b o e hx) e1 (I.base.free b o e n hx)
    exact ⟨sl', e2⟩
  · obtain ⟨o', e1⟩ := I.base.there b o e hx
    exact free b o' (neC b o e hx) e1 (I.base.free b o e n hx)
  · obtain ⟨o', e1⟩ := I.base.there b o e hx
    exact there b o' (neC b o e hx) e1
  · obtain ⟨m1, e1⟩ := I.base.tbls b ps e
    obtain ⟨m2, e2⟩ := tbls b _ e1
    exact ⟨m1 ++ m2, by rw [e2, Array.append_assoc]⟩
  · obtain ⟨m, hn, hl⟩ := I.loc
    refine ⟨m, ns m hn, fun i x v e1 e2 e3 => ?_⟩
    obtain ⟨u, r, l⟩ := hl i x v e1 e2 e3
    refine ⟨u, r, ?_⟩
    rcases l with l | ⟨k, c, e, z⟩
    · exact .inl l
    · exact .inr ⟨k, c, e, cellK x c e _ z⟩
  · obtain ⟨v, z⟩ := I.cell x c e
    exact ⟨v, cellK x c e v z⟩
  · obtain ⟨m, ⟨o, _, _, ho, _⟩, _⟩ := I.loc
    exact free _ o (fun z => (hch _ z).2.1 rfl) ho I.free
  · obtain ⟨v, o, ho, hd⟩ := I.cell x c e
    exact free c o (fun z => (hch c z).2.2.1 x c e rfl) ho (I.freeC x c e)
  · obtain ⟨e, n, ne, nf, d⟩ := I.pin p hp
    have nch : p.1 ∉ ch := fun z => (hch p.1 z).2.2.2 p hp rfl
    exact ⟨keep p.1 p.2 ne nf nch e n, free p.1 p.2 nch e n, ne, nf, d⟩
/-- .. where the frame's own object is kept too -/
theorem Inv.un {t' : Nat} (I : Inv X pins σ H s) (u : Un X.fs [] H H' s.heap h') (hok : HOk X.prog X.w H' h') : Inv X pins σ H' { s with heap := h', toks := t' } := by
  obtain ⟨m, ⟨o, es, ep, ho, r⟩, _⟩ := id I.loc
  obtain ⟨sl, hL⟩ := u.any ho I.free (by simp)
  exact I.step (g' := s.gens) (d' := s.drawn) (ch := []) (fun _ z => nomatch z) (fun b o _ hb _ e n => u.keep b o e n hb (by simp)) (fun b o _ hb _ e n => u.slot b o e n hb (by simp)) (fun b o _ e n => u.free b o e n (by simp)) (fun b o _ e => u.there b o e (by simp)) u.tups u.frzs u.tbls (fun m' hm => by
    obtain ⟨o', es', ep', ho', r'⟩ := hm
    rw [ho] at ho'; cases ho'
    exact ⟨_, es', ep', hL, r'⟩) hok I.bare
/-- behind a call (or a comprehension's block): the slots of this frame may have changed too, the records at ch may have turned -/
theorem Inv.call {g' : Array GenState} {t' : Nat} {d' : Drawn} {ch : List Addr} (I : Inv X pins σ H s) (u : Un (frs X.stack) ch H H' s.heap h') (hok : HOk X.prog X.w H' h') (hg : AllBare g')
    (hch : ∀ b ∈ ch, (b ∈ X.ex ∨ X.s₀.heap.objs.size ≤ b) ∧ b ≠ X.env.locals ∧ (∀ x c, X.env.cells.lookup x = some c → c ≠ b) ∧ ∀ p ∈ X.pn ++ pins, p.1 ≠ b) :
    Inv X pins σ H' { s with heap := h', gens := g', drawn := d', toks := t' } := by
  obtain ⟨m, ⟨o, es, ep, ho, r⟩, _⟩ := id I.loc
  obtain ⟨sl, hL⟩ := u.any ho I.free fun z => (hch _ z).2.1 rfl
  exact I.step (ch := ch) hch (fun b o hL hb hc e n => u.keep b o e n (fun z => (List.mem_cons.mp (I.stkSub b z)).elim hL hb) hc) (fun b o _ _ hc e n => u.any e n hc) (fun b o hc e n => u.free b o e n hc) (fun b o hc e => u.there b o e hc) u.tups u.frzs u.tbls (fun m' hm => by
    obtain ⟨o', es', ep', ho', r'⟩ := hm
    rw [ho] at ho'; cases ho'
    exact ⟨_, es', ep', hL, r'⟩) hok hg
/-- an untracked record of ours (an iterator) has turned -/
theorem Inv.turned {t' : Nat} {it : Addr} (I : Inv X pins σ H s) (k : ∀ b o, b ≠ it → s.heap.get? b = some o → h'.get? b = some o) (hn : H it = none) (hL : it ≠ X.env.locals)
    (h1 : it ∈ X.ex ∨ X.s₀.heap.objs.size ≤ it) (h2 : ∀ x c, X.env.cells.lookup x = some c → c ≠ it) (h3 : ∀ p ∈ X.pn ++ pins, p.1 ≠ it) : Inv X pins σ H { s with heap := h', toks := t' } := by
  have nit : ∀ b u, H b = some u → b ≠ it := fun b u e z => by rw [z, hn] at e; cases e
  refine I.step (g' := s.gens) (d' := s.drawn) (ch := [it]) (fun b hb => ?_) (fun b o _ _ hc e _ => k b o (fun z => hc (by simp [z])) e) (fun b o _ _ hc e _ => ⟨o.slots, k b o (fun z => hc (by simp [z])) e⟩) (fun _ _ _ _ n => n)
    (fun b o hc e => ⟨o, k b o (fun z => hc (by simp [z])) e⟩) (fun _ _ e => e) (fun _ _ _ e => e) (fun b ps e => ⟨#[], by rw [e]; simp⟩) (fun m hm => ?_) (fun b u e => ?_) I.bare
  · have e : b = it := by simpa using hb
    subst e
    exact ⟨h1, hL, h2, h3⟩
  · obtain ⟨o, es, ep, ho, r⟩ := hm
    exact ⟨o, es, ep, k _ o (Ne.symm hL) ho, r⟩
  · refine (I.hok b u e).stay (fun c v hc q => k c v ?_ q) (fun _ q => q) fun _ _ q => q
    rcases hc with z | z
    · rw [z]; exact nit b u e
    · exact nit c _ z
theorem Inv.tok (I : Inv X pins σ H s) (t : Nat) : Inv X pins σ H { s with toks := t } := I.un (h' := s.heap) (t' := t) Un.refl I.hok
/-- all objects kept -/
theorem Inv.kept {t' : Nat} (I : Inv X pins σ H s) (k : ∀ b u, s.heap.get? b = some u → h'.get? b = some u) : Inv X pins σ H { s with heap := h', toks := t' } := I.un (Un.kept k) (I.hok.kept k)
/-- a new object laid and tracked -/
theorem Inv.laid {a : Addr} {o : HO} {t' : Nat} (I : Inv X pins σ H s) (k : ∀ b u, s.heap.get? b = some u → h'.get? b = some u) (hp : s.heap.objs.size ≤ a) (new : ObjOk X.prog X.w (upd H a o) h' a o) :
    Inv X pins σ (upd H a o) { s with heap := h', toks := t' } := I.un (Un.laid k hp (I.hok.fresh hp)) (I.hok.laid k hp new)
/-- an object written -/
theorem Inv.write {x e : Addr} {o : HO} {t' : Nat} (I : Inv X pins σ H s) (mu : Mut (H x)) (he : e = x ∨ H e = some (.own x)) (k : ∀ b u, b ≠ e → s.heap.get? b = some u → h'.get? b = some u) (heo : ∃ u, h'.get? e = some u)
    (new : ObjOk X.prog X.w (upd H x o) h' x o) : Inv X pins σ (upd H x o) { s with heap := h', toks := t' } := I.un (Un.write mu he k heo) (I.hok.write mu he k heo new)
/-- forgetting slots, pins -/
theorem Inv.weak {σ' : List (Option V)} (I : Inv X pins σ H s) (hl : σ'.length = σ.length) (w : ∀ (i : Nat) v, σ'[i]? = some (some v) → σ[i]? = some (some v)) : Inv X pins σ' H s :=
  ⟨I.ok, I.os, I.bare, I.base, let ⟨m, hn, hl'⟩ := I.loc; ⟨m, hn, fun i x v e1 e2 e3 => hl' i x v e1 (w i v e2) e3⟩, I.cell, I.free, I.freeC, I.pin, I.hok, hl.trans I.len⟩
theorem Inv.pins_of {pins' : List (Addr × Obj)} (I : Inv X pins σ H s) (h : ∀ p ∈ pins', s.heap.get? p.1 = some p.2 ∧ H p.1 = none ∧ p.1 ≠ X.env.locals ∧ p.1 ∉ X.fs ∧ ∀ v, p.2.data ≠ .cell v) : Inv X pins' σ H s :=
  ⟨I.ok, I.os, I.bare, I.base, I.loc, I.cell, I.free, I.freeC, fun p hp => (List.mem_append.mp hp).elim (fun z => I.pin p (List.mem_append_left _ z)) (h p), I.hok, I.len⟩

theorem nodup_ix {N : List Str} (hN : N.Nodup) {i j : Nat} {x : Str} (a : N[i]? = some x) (b : N[j]? = some x) : i = j := by
  obtain ⟨h1, e1⟩ := List.getElem?_eq_some_iff.mp a
  obtain ⟨h2, e2⟩ := List.getElem?_eq_some_iff.mp b
  exact (List.getElem_inj hN).mp (e1.trans e2.symm)

/-- a name is stored; what changed -/
theorem store_ok2 {M : Model} {A : Around} {E : Value → Shared → Prop} {i : Nat} {x : Str} {v : V} {u : Value} {Q : Unit → Shared → Prop} (I : Inv X pins σ H s) (hN : X.N.Nodup) (hi : X.N[i]? = some x) (hx : Loc X.env.scope x) (r : RelV v u)
    (h : ∀ s', Inv X pins (σ.set i (some v)) H s' → (∃ a, Heap.SameBut a s.heap s'.heap ∧ (a = X.env.locals ∨ X.env.cells.lookup x = some a)) → Q () s') (hf : X.fn x = true ∨ X.env.scope.names.lookup x = some .local := by first | exact .inl rfl | exact .inr rfl | assumption) : wpAny M A (storeName X.env x u) Q E s := by
  obtain ⟨m, hn, hl⟩ := id I.loc
  have hcls : (X.env.scope.kind == .class || (X.env.scope.kind == .module && X.env.locals != X.env.globals)) = false := by rw [I.ok.kind]; rfl
  have hiσ : i < σ.length := by rw [I.len]; exact (List.getElem?_eq_some_iff.mp hi).1
  have cne := I.cne
  have tracked : ∀ {a : Addr} {h' : Heap}, (∃ o, s.heap.get? a = some o ∧ H a = none) → Heap.SameBut a s.heap h' → HOk X.prog X.w H h' := fun {a h'} ha hs b ob e => by
    obtain ⟨_, _, hfree⟩ := ha
    refine (I.hok b ob e).stay (fun c w' hc q => (hs.2 c ?_).trans q) (fun _ q => q) fun _ _ q => q
    rintro rfl
    rcases hc with rfl | hc
    · rw [hfree] at e; cases e
    · rw [hfree] at hc; cases hc
  rcases hx with hk | hk
  · refine wpAny_storeName_local hk hn (fun h' hn' hs => ?_) hcls
    obtain ⟨oL, _, _, hoL, _⟩ := id hn
    refine h _ ⟨I.ok, I.os, I.bare, ⟨fun b o e n hb hx => ?_, fun b o e n hb hx => ?_, I.base.free, fun b o e hx => ?_, I.base.tups, I.base.frzs, I.base.tbls⟩, ⟨_, hn', fun j y v' e1 e2 e3 => ?_⟩, fun y c e => ?_, I.free, I.freeC, fun p hp => ?_, tracked ⟨oL, hoL, I.free⟩ hs, by simpa using I.len⟩ ⟨_, hs, .inl rfl⟩
    · exact (hs.2 b (Nat.ne_of_lt (Nat.lt_of_lt_of_le (Heap.lt_size e) I.ok.above))).trans (I.base.keep b o e n hb hx)
    · obtain ⟨sl, e1⟩ := I.base.slot b o e n hb hx
      exact ⟨sl, (hs.2 b (Nat.ne_of_lt (Nat.lt_of_lt_of_le (Heap.lt_size e) I.ok.above))).trans e1⟩
    · obtain ⟨o', e1⟩ := I.base.there b o e hx
      exact ⟨o', (hs.2 b (Nat.ne_of_lt (Nat.lt_of_lt_of_le (Heap.lt_size e) I.ok.above))).trans e1⟩
    · by_cases hj : j = i
      · subst hj
        rw [hi] at e1; cases e1
        rw [List.getElem?_set_self hiσ] at e2
        cases e2
        exact ⟨u, r, .inl ⟨hk, by simp⟩⟩
      · rw [List.getElem?_set_ne (Ne.symm hj)] at e2
        obtain ⟨u', r', q⟩ := hl j y v' e1 e2 e3
        refine ⟨u', r', ?_⟩
        rcases q with ⟨k, e⟩ | ⟨k, c, e, z⟩
        · refine .inl ⟨k, ?_⟩
          have : y ≠ x := fun e => hj (nodup_ix hN e1 (e ▸ hi))
          simp [this, e]
        · exact .inr ⟨k, c, e, z.sameBut hs (cne y c e)⟩
    · obtain ⟨w', z⟩ := I.cell y c e
      exact ⟨w', z.sameBut hs (cne y c e)⟩
    · obtain ⟨e, n, ne, nf, d⟩ := I.pin p hp
      exact ⟨(hs.2 p.1 ne).trans e, n, ne, nf, d⟩
  · have hfn : X.fn x = true := by
      rcases hf with z | z
      · exact z
      · rw [z] at hk; cases hk
    obtain ⟨c, hc⟩ := I.ok.has x (.inl hk)
    obtain ⟨w', z⟩ := I.cell x c hc
    refine wpAny_storeName_cell I.ok.kind hk hc z (fun h' hc' hs => ?_)
    obtain ⟨oc, hoc, hocd⟩ := id z
    refine h { s with heap := h' } ⟨I.ok, I.os, I.bare, ⟨fun b o e n hb hx => ?_, fun b o e n hb hx => ?_, I.base.free, fun b o e hx => ?_, I.base.tups, I.base.frzs, I.base.tbls⟩, ⟨m, hn.sameBut hs (Ne.symm (cne x c hc)), fun j y v' e1 e2 e3 => ?_⟩, fun y c' e => ?_, I.free, I.freeC, fun p hp => ?_, tracked ⟨oc, hoc, I.freeC x c hc⟩ hs, by simpa using I.len⟩ ⟨c, hs, .inr hc⟩
    · exact (hs.2 b (Nat.ne_of_lt (Nat.lt_of_lt_of_le (Heap.lt_size e) (I.ok.cab x c hfn hc)))).trans (I.base.keep b o e n hb hx)
    · obtain ⟨sl, e1⟩ := I.base.slot b o e n hb hx
      exact ⟨sl, (hs.2 b (Nat.ne_of_lt (Nat.lt_of_lt_of_le (Heap.lt_size e) (I.ok.cab x c hfn hc)))).trans e1⟩
    · obtain ⟨o', e1⟩ := I.base.there b o e hx
      exact ⟨o', (hs.2 b (Nat.ne_of_lt (Nat.lt_of_lt_of_le (Heap.lt_size e) (I.ok.cab x c hfn hc)))).trans e1⟩
    · by_cases hj : j = i
      · subst hj
        rw [hi] at e1; cases e1
        rw [List.getElem?_set_self hiσ] at e2
        cases e2
        exact ⟨u, r, .inr ⟨.inl hk, c, hc, hc'⟩⟩
      · rw [List.getElem?_set_ne (Ne.symm hj)] at e2
        obtain ⟨u', r', q⟩ := hl j y v' e1 e2 e3
        refine ⟨u', r', ?_⟩
        rcases q with q | ⟨k, c', e, z'⟩
        · exact .inl q
        · refine .inr ⟨k, c', e, z'.sameBut hs ?_⟩
          rintro rfl
          exact hj (nodup_ix hN e1 (I.ok.inj _ _ _ e hc ▸ hi))
    · by_cases hcc : c' = c
      · subst hcc; exact ⟨_, hc'⟩
      · obtain ⟨w2, z2⟩ := I.cell y c' e
        exact ⟨w2, z2.sameBut hs hcc⟩
    · obtain ⟨e, n, ne, nf, d⟩ := I.pin p hp
      refine ⟨(hs.2 p.1 ?_).trans e, n, ne, nf, d⟩
      intro q
      rw [q, hoc] at e
      have q' : oc = p.2 := Option.some.inj e
      exact d w' (by rw [← q']; exact hocd)
theorem store_ok {M : Model} {A : Around} {E : Value → Shared → Prop} {i : Nat} {x : Str} {v : V} {u : Value} {Q : Unit → Shared → Prop} (I : Inv X pins σ H s) (hN : X.N.Nodup) (hi : X.N[i]? = some x) (hx : Loc X.env.scope x) (r : RelV v u)
    (h : ∀ s', Inv X pins (σ.set i (some v)) H s' → Q () s') (hf : X.fn x = true ∨ X.env.scope.names.lookup x = some .local := by first | exact .inl rfl | exact .inr rfl | assumption) : wpAny M A (storeName X.env x u) Q E s :=
  store_ok2 I hN hi hx r (fun s' I' _ => h s' I') hf
/-- behind a call or a block, the state as it is -/
theorem Inv.call' {s' : Shared} {ch : List Addr} (I : Inv X pins σ H s) (ho : s'.os = s.os) (u : Un (frs X.stack) ch H H' s.heap s'.heap) (hok : HOk X.prog X.w H' s'.heap) (hg : AllBare s'.gens)
    (hch : ∀ b ∈ ch, (b ∈ X.ex ∨ X.s₀.heap.objs.size ≤ b) ∧ b ≠ X.env.locals ∧ (∀ x c, X.env.cells.lookup x = some c → c ≠ b) ∧ ∀ p ∈ X.pn ++ pins, p.1 ≠ b) : Inv X pins σ H' s' := by
  obtain ⟨h', g', d', t', o'⟩ := s'
  have e : o' = s.os := ho
  subst e
  exact I.call (g' := g') (t' := t') (d' := d') u hok hg hch
end

/-! ### the judgements -/
/-- an exception: its class, its own dict's address (where it has one), the abstract heap behind it -/
abbrev XK := Value → Option Addr → Hp → Prop
abbrev St := List (Option V)
abbrev VK := V → Hp → Prop
/-- an expression's reading; a test's; an argument list's -/
abbrev TE := St → Hp → VK → Prop
abbrev TT := St → Hp → (Bool → Hp → Prop) → Prop
abbrev TA := St → Hp → (List V → Hp → Prop) → Prop
/-- what is wanted behind a statement -/
structure Ends where
  nx : St → Hp → Prop
  rt : VK
  bk : St → Hp → Prop := fun _ _ => False
  ct : St → Hp → Prop := fun _ _ => False
abbrev TS := Ends → St → Hp → Prop

def EP (X : Cx) (pins : List (Addr × Obj)) (σ : St) (Q : VK) (u : Value) (s' : Shared) : Prop := ∃ v H', Inv X pins σ H' s' ∧ RelV v u ∧ Q v H'
def TP (X : Cx) (pins : List (Addr × Obj)) (σ : St) (Q : Bool → Hp → Prop) (b : Bool) (s' : Shared) : Prop := ∃ H', Inv X pins σ H' s' ∧ Q b H'
def AP (X : Cx) (pins : List (Addr × Obj)) (σ : St) (Q : List V → Hp → Prop) (us : List Value) (s' : Shared) : Prop := ∃ vs H', Inv X pins σ H' s' ∧ Vals vs us ∧ Q vs H'
def SP (X : Cx) (pins : List (Addr × Obj)) (D : Ends) (f : Flow) (s' : Shared) : Prop :=
  match f with
  | .next => ∃ σ' H', Inv X pins σ' H' s' ∧ D.nx σ' H'
  | .brk => ∃ σ' H', Inv X pins σ' H' s' ∧ D.bk σ' H'
  | .cont => ∃ σ' H', Inv X pins σ' H' s' ∧ D.ct σ' H'
  | .ret u => ∃ v σ' H', Inv X pins σ' H' s' ∧ RelV v u ∧ D.rt v H'

structure PE (X : Cx) (e : Expr) (t : TE) : Prop where
  run :
  ∀ (pins : List (Addr × Obj)) (s : Shared) (σ : St) (H : Hp) (Q : VK), Inv X pins σ H s → t σ H Q → wpAny (model X.prog X.w) X.A (eval e X.env) (EP X pins σ Q) X.xe s
instance {X : Cx} {e : Expr} {t : TE} : CoeFun (PE X e t) (fun _ =>
  ∀ (pins : List (Addr × Obj)) (s : Shared) (σ : St) (H : Hp) (Q : VK), Inv X pins σ H s → t σ H Q → wpAny (model X.prog X.w) X.A (eval e X.env) (EP X pins σ Q) X.xe s
  ) := ⟨fun h => h.run⟩
structure PT (X : Cx) (e : Expr) (t : TT) : Prop where
  run :
  ∀ (pins : List (Addr × Obj)) (s : Shared) (σ : St) (H : Hp) (Q : Bool → Hp → Prop), Inv X pins σ H s → t σ H Q → wpAny (model X.prog X.w) X.A (isTrue e X.env (eval e X.env)) (TP X pins σ Q) X.xe s
instance {X : Cx} {e : Expr} {t : TT} : CoeFun (PT X e t) (fun _ =>
  ∀ (pins : List (Addr × Obj)) (s : Shared) (σ : St) (H : Hp) (Q : Bool → Hp → Prop), Inv X pins σ H s → t σ H Q → wpAny (model X.prog X.w) X.A (isTrue e X.env (eval e X.env)) (TP X pins σ Q) X.xe s
  ) := ⟨fun h => h.run⟩
/-- a test whatever its 'whole' is (and, or) -/
structure PW (X : Cx) (e : Expr) (t : TT) : Prop where
  run :
  ∀ (whole : Sem Value) (pins : List (Addr × Obj)) (s : Shared) (σ : St) (H : Hp) (Q : Bool → Hp → Prop), Inv X pins σ H s → t σ H Q → wpAny (model X.prog X.w) X.A (isTrue e X.env whole) (TP X pins σ Q) X.xe s
instance {X : Cx} {e : Expr} {t : TT} : CoeFun (PW X e t) (fun _ =>
  ∀ (whole : Sem Value) (pins : List (Addr × Obj)) (s : Shared) (σ : St) (H : Hp) (Q : Bool → Hp → Prop), Inv X pins σ H s → t σ H Q → wpAny (model X.prog X.w) X.A (isTrue e X.env whole) (TP X pins σ Q) X.xe s
  ) := ⟨fun h => h.run⟩
theorem PW.pt {X : Cx} {e : Expr} {t : TT} (h : PW X e t) : PT X e t := .mk (h _)
/-- an argument list (no star), from the left -/
structure PA (X : Cx) (es : List Expr) (t : TA) : Prop where
  run :
  ∀ (pos : Pos) (pins : List (Addr × Obj)) (s : Shared) (σ : St) (H : Hp) (Q : List V → Hp → Prop), Inv X pins σ H s → t σ H Q → wpAny (model X.prog X.w) X.A (spliced (backTo pos (starEach es X.env))) (AP X pins σ Q) X.xe s
instance {X : Cx} {es : List Expr} {t : TA} : CoeFun (PA X es t) (fun _ =>
  ∀ (pos : Pos) (pins : List (Addr × Obj)) (s : Shared) (σ : St) (H : Hp) (Q : List V → Hp → Prop), Inv X pins σ H s → t σ H Q → wpAny (model X.prog X.w) X.A (spliced (backTo pos (starEach es X.env))) (AP X pins σ Q) X.xe s
  ) := ⟨fun h => h.run⟩
structure PS (X : Cx) (st : Stmt) (t : TS) : Prop where
  run :
  ∀ (pins : List (Addr × Obj)) (s : Shared) (σ : St) (H : Hp) (D : Ends), Inv X pins σ H s → t D σ H → wpAny (model X.prog X.w) X.A (exec st X.env) (SP X pins D) X.xe s
instance {X : Cx} {st : Stmt} {t : TS} : CoeFun (PS X st t) (fun _ =>
  ∀ (pins : List (Addr × Obj)) (s : Shared) (σ : St) (H : Hp) (D : Ends), Inv X pins σ H s → t D σ H → wpAny (model X.prog X.w) X.A (exec st X.env) (SP X pins D) X.xe s
  ) := ⟨fun h => h.run⟩
structure PSs (X : Cx) (st : List Stmt) (t : TS) : Prop where
  run :
  ∀ (pins : List (Addr × Obj)) (s : Shared) (σ : St) (H : Hp) (D : Ends), Inv X pins σ H s → t D σ H → wpAny (model X.prog X.w) X.A (execs st X.env) (SP X pins D) X.xe s
instance {X : Cx} {st : List Stmt} {t : TS} : CoeFun (PSs X st t) (fun _ =>
  ∀ (pins : List (Addr × Obj)) (s : Shared) (σ : St) (H : Hp) (D : Ends), Inv X pins σ H s → t D σ H → wpAny (model X.prog X.w) X.A (execs st X.env) (SP X pins D) X.xe s
  ) := ⟨fun h => h.run⟩
/-- weaken the end -/
theorem thn {α : Type} {t : Sem α} {Q Q' : α → Shared → Prop} {M : Model} {A : Around} {E : Value → Shared → Prop} {s : Shared} (h : wpAny M A t Q E s) (hQ : ∀ a s, Q a s → Q' a s) : wpAny M A t Q' E s := wpAny_mono h hQ fun _ _ x => x
end L2

namespace L2
open PySem PySem.Spec PyProof.Rows
section
variable {X : Cx}

/-! ### names and constants -/
def tVar (i : Nat) : TE := fun σ H Q => ∃ v, σ[i]? = some (some v) ∧ Q v H
def tC (v : V) : TE := fun _ H Q => Q v H
theorem pe_var {i : Nat} {x : Str} {pos : Pos} (hN : X.N[i]? = some x) (hv : Vis X.env.scope x) (hd : (x == ("__debug__" : Str)) = false := by decide) (hcd : (x == ("__classdict__" : Str)) = false := by decide) : PE X (.Name x pos) (tVar i) := .mk <| by
  intro pins s σ H Q I h
  obtain ⟨v, e, h⟩ := h
  obtain ⟨m, hn, hl⟩ := I.loc
  obtain ⟨u, r, l⟩ := hl i x v hN e hv
  have fin : EP X pins σ Q u s := ⟨v, H, I, r, h⟩
  rcases l with ⟨hk, hm⟩ | ⟨hk, c, hc, hcell⟩
  · exact wpAny_Name (wpAny_loadName_local I.ok.kind hk hn hm fin) hd
  · rcases hk with hk | hk
    · exact wpAny_Name (wpAny_loadName_cell I.ok.kind hk hc hcell fin) hd
    · exact wpAny_Name (wpAny_loadName_free I.ok.kind hk hc hcell fin hcd) hd
theorem pe_int {i j pos} : PE X (.Constant (.int i) j pos) (tC (.int i)) := .mk <| fun _ _ _ H _ I h => wpAny_Constant_int ⟨.int i, H, I.tok _, ⟨_, rfl⟩, h⟩
theorem pe_bl {b j pos} : PE X (.Constant (.bool b) j pos) (tC (.bl b)) := .mk <| fun _ _ _ H _ I h => Constant_bool ⟨.bl b, H, I, rfl, h⟩
theorem pe_non {j pos} : PE X (.Constant .none j pos) (tC .non) := .mk <| fun _ _ _ H _ I h => Constant_none ⟨.non, H, I, rfl, h⟩
theorem pe_str {x j pos} : PE X (.Constant (.str x) j pos) (tC (.str x)) := .mk <| fun _ _ _ H _ I h => Calls.Constant_str ⟨.str x, H, I.tok _, ⟨_, rfl⟩, h⟩

/-- a global name of the def -/
def Gl (X : Cx) (x : Str) : Prop := X.env.kindOf x = some .globalImplicit
theorem ld_glob {E : Value → Shared → Prop} {pins : List (Addr × Obj)} {s : Shared} {σ : St} {H : Hp} {x : Str} {u : Value} {pos : Pos} {Q : Value → Shared → Prop} (I : Inv X pins σ H s) (hg : Gl X x) (hm : X.mg x = some u) (h : Q u s)
    (hd : (x == ("__debug__" : Str)) = false := by decide) : wpAny (model X.prog X.w) X.A (eval (.Name x pos) X.env) Q E s :=
  Calls.Name_function_global I.ok.kind hg (Calls.loadGlobal_global (by rw [I.ok.glob]; exact I.mod.glob.keeps I.bk) hm h) hd
theorem ld_blt {E : Value → Shared → Prop} {pins : List (Addr × Obj)} {s : Shared} {σ : St} {H : Hp} {x : Str} {u : Value} {pos : Pos} {Q : Value → Shared → Prop} (I : Inv X pins σ H s) (hg : Gl X x) (hm : X.mg x = none) (hv : bootBuiltins x = some u) (h : Q u s)
    (hn : x ≠ "__name__" := by decide) (hd : (x == ("__debug__" : Str)) = false := by decide) : wpAny (model X.prog X.w) X.A (eval (.Name x pos) X.env) Q E s := by
  obtain ⟨mb, h1, h2⟩ := I.mod.blt
  exact Calls.Name_function_global I.ok.kind hg (Calls.loadGlobal_builtin (by rw [I.ok.glob]; exact I.mod.glob.keeps I.bk) hm (by rw [I.ok.blt]; exact h1.keeps I.bk) ((h2 x hn).trans hv) h) hd
/-- a module's constant, a class, a function, as a value -/
theorem pe_glob {x : Str} {v : V} {u : Value} {pos : Pos} (hg : Gl X x) (hm : X.mg x = some u) (r : RelV v u) (hd : (x == ("__debug__" : Str)) = false := by decide) : PE X (.Name x pos) (tC v) := .mk <| fun _ _ _ H _ I h => ld_glob I hg hm ⟨v, H, I, r, h⟩ hd
theorem pe_bltn {x : Str} {v : V} {u : Value} {pos : Pos} (hg : Gl X x) (hm : X.mg x = none) (hv : bootBuiltins x = some u) (r : RelV v u) (hn : x ≠ "__name__" := by decide) (hd : (x == ("__debug__" : Str)) = false := by decide) : PE X (.Name x pos) (tC v) := .mk <| fun _ _ _ H _ I h => ld_blt I hg hm hv ⟨v, H, I, r, h⟩ hn hd

/-! ### arithmetic -/
variable {a b : Expr} {ta tb : TE} {pos : Pos}
/-! ### comparisons -/
/-- a comparison as a value, as a test -/
def tB (t : TE) : TT := fun σ H Q => t σ H fun x H1 => ∃ c, x = .bl c ∧ Q c H1
/-- an expression whose value is a bool, as a test -/
theorem pt_val {e : Expr} {t : TE} (h : PE X e t) (he : ∀ whole, isTrue e X.env whole = (do let v ← whole; standAt e.pos; holding [v] (truthy v)) := by intro _; rfl) : PT X e (tB t) := .mk <| by
  intro pins s σ H Q I hw
  refine isTrue_plain (thn (h pins s σ H _ I hw) fun v s1 ⟨x, H1, I1, r1, q1⟩ => ?_) (he _)
  obtain ⟨d, rfl, q⟩ := q1
  cases r1
  exact wpAny_truthy_bool ⟨H1, I1, q⟩

/-! ### and, or, not -/
variable {tA tB' : TT} {rest : List Expr}
def tAnd (t u : TT) : TT := fun σ H Q => t σ H fun c H1 => if c = true then u σ H1 Q else Q false H1
def tOr (t u : TT) : TT := fun σ H Q => t σ H fun c H1 => if c = true then Q true H1 else u σ H1 Q
def tNot (t : TT) : TT := fun σ H Q => t σ H fun c H1 => Q (!c) H1
theorem pw_and1 (ha : PT X a tA) : PW X (.BoolOp .And [a] pos) tA := .mk <| by
  intro wh pins s σ H Q I h
  refine isTrue_and (thn (ha pins s σ H Q I h) fun c s1 e => ?_)
  cases c with
  | true => exact isTrue_and_nil e
  | false => exact e
theorem pw_or1 (ha : PT X a tA) : PW X (.BoolOp .Or [a] pos) tA := .mk <| by
  intro wh pins s σ H Q I h
  refine isTrue_or (thn (ha pins s σ H Q I h) fun c s1 e => ?_)
  cases c with
  | false => exact isTrue_or_nil e
  | true => exact e
theorem pw_and (ha : PT X a tA) (hb : PW X (.BoolOp .And (b :: rest) pos) tB') : PW X (.BoolOp .And (a :: b :: rest) pos) (tAnd tA tB') := .mk <| by
  intro wh pins s σ H Q I h
  refine isTrue_and (thn (ha pins s σ H _ I h) fun c s1 ⟨H1, I1, q1⟩ => ?_)
  cases c with
  | true => exact hb wh pins s1 σ H1 Q I1 q1
  | false => exact ⟨H1, I1, q1⟩
theorem pw_or (ha : PT X a tA) (hb : PW X (.BoolOp .Or (b :: rest) pos) tB') : PW X (.BoolOp .Or (a :: b :: rest) pos) (tOr tA tB') := .mk <| by
  intro wh pins s σ H Q I h
  refine isTrue_or (thn (ha pins s σ H _ I h) fun c s1 ⟨H1, I1, q1⟩ => ?_)
  cases c with
  | true => exact ⟨H1, I1, q1⟩
  | false => exact hb wh pins s1 σ H1 Q I1 q1
theorem pt_not (ha : PT X a tA) : PT X (.UnaryOp .Not a pos) (tNot tA) := .mk <| by
  intro pins s σ H Q I h
  exact isTrue_not (ha pins s σ H (fun c H1 => Q (!c) H1) I h)
/-- .. as values (bools) -/
def tAndV (ta tb : TE) : TE := fun σ H Q => ta σ H fun x H1 => ∃ c, x = .bl c ∧ if c = true then tb σ H1 Q else Q (.bl false) H1
def tNotV (ta : TE) : TE := fun σ H Q => ta σ H fun x H1 => ∃ c, x = .bl c ∧ Q (.bl (!c)) H1
theorem pe_one {op} {t : TE} (h : PE X a t) : PE X (.BoolOp op [a] pos) t := .mk <| fun pins s σ H Q I hw => BoolOp_one (h pins s σ H Q I hw)
theorem pe_and (ha : PE X a ta) (hb : PE X (.BoolOp .And (b :: rest) pos) tb) : PE X (.BoolOp .And (a :: b :: rest) pos) (tAndV ta tb) := .mk <| by
  intro pins s σ H Q I h
  refine BoolOp_and (thn (ha pins s σ H _ I h) fun v s1 ⟨x, H1, I1, r1, q1⟩ => ?_)
  obtain ⟨c, rfl, q1⟩ := q1
  cases r1
  refine wpAny_truthy_bool ?_
  cases c with
  | true => exact hb pins s1 σ H1 Q I1 q1
  | false => exact ⟨.bl false, H1, I1, rfl, q1⟩
theorem pe_not (ha : PE X a ta) : PE X (.UnaryOp .Not a pos) (tNotV ta) := .mk <| by
  intro pins s σ H Q I h
  refine UnaryOp_ (thn (ha pins s σ H _ I h) fun v s1 ⟨x, H1, I1, r1, q1⟩ => ?_)
  obtain ⟨c, rfl, q1⟩ := q1
  cases r1
  exact not_of (wpAny_truthy_bool ⟨.bl (!c), H1, I1, rfl, q1⟩)
/-- a if t else b -/
def tIf (t : TT) (ta tb : TE) : TE := fun σ H Q => t σ H fun c H1 => if c = true then ta σ H1 Q else tb σ H1 Q
theorem pe_ifExp {c : Expr} (hc : PT X c tA) (ha : PE X a ta) (hb : PE X b tb) : PE X (.IfExp c a b pos) (tIf tA ta tb) := .mk <| by
  intro pins s σ H Q I h
  refine wpAny_IfExp (thn (hc pins s σ H _ I h) fun d s1 ⟨H1, I1, q1⟩ => ?_)
  cases d with
  | true => exact ha pins s1 σ H1 Q I1 q1
  | false => exact hb pins s1 σ H1 Q I1 q1
end
end L2

namespace L2
open PySem PySem.Spec PyProof.Rows

/-! ### a list, a tuple that is read: tracked, frozen, or an object of the module -/
def SqL (K : PySem.W.Frag) (H : Hp) (a : Addr) (xs : List V) : Prop :=
  Rd H a (.lst xs) ∨
    ∃ (o : Obj) (its : Array Value) (n : Nat), K.lookup a = some o ∧ o.cls = .type "list" ∧ o.dict = none ∧ o.data = .seq its n ∧ its.size ≤ sizeLine ∧ Vals xs its.toList
def SqT (K : PySem.W.Frag) (H : Hp) (a : Addr) (xs : List V) : Prop :=
  Rd H a (.tup xs) ∨
    ∃ (o : Obj) (its : Array Value) (n : Nat), K.lookup a = some o ∧ o.cls = .type "tuple" ∧ o.data = .seq its n ∧ its.size ≤ sizeLine ∧ Vals xs its.toList
def absV : Value → Option V
  | .none => some .non
  | .bool b => some (.bl b)
  | .int i _ => some (.int i)
  | .str x _ => some (.str x)
  | .bytes b _ => some (.byt b)
  | .float b _ => some (.flt b)
  | .ref a => some (.ref a)
  | .type n => some (.ty n)
  | _ => none
theorem RelV.abs {x : V} {u : Value} (r : RelV x u) : absV u = some x := by
  cases x with
  | non => cases r; rfl
  | bl _ => cases r; rfl
  | int _ => obtain ⟨t, rfl⟩ := r; rfl
  | str _ => obtain ⟨t, rfl⟩ := r; rfl
  | byt _ => obtain ⟨t, rfl⟩ := r; rfl
  | flt _ => obtain ⟨t, rfl⟩ := r; rfl
  | ref _ => cases r; rfl
  | ty _ => cases r; rfl
theorem RelV.inj {x y : V} {u : Value} (r : RelV x u) (q : RelV y u) : x = y := Option.some.inj (r.abs.symm.trans q.abs)
theorem Vals.inj : ∀ {xs ys : List V} {us : List Value}, Vals xs us → Vals ys us → xs = ys
  | _, _, _, .nil, .nil => rfl
  | _, _, _, .cons r t, .cons r' t' => by rw [r.inj r', Vals.inj t t']
section
variable {X : Cx} {pins : List (Addr × Obj)} {σ : St} {H : Hp} {s : Shared} {a : Addr} {xs ys : List V}
theorem SqL.of {K : PySem.W.Frag} (h : H a = some (.lst xs)) : SqL K H a xs := .inl (.inl h)
theorem SqT.of {K : PySem.W.Frag} (h : H a = some (.tup xs)) : SqT K H a xs := .inl (.inl h)
theorem Inv.list (I : Inv X pins σ H s) (h : SqL X.K H a xs) : ∃ its : List Value, Vals xs its ∧ PlainL s.heap a its.toArray ∧ xs.length ≤ sizeLine := by
  rcases h with h | ⟨o, its, n, hk, hc, hd, hs, hz, r⟩
  · obtain ⟨z, its, n, r, e⟩ := h.ok I.hok
    exact ⟨its, r, ⟨_, n, e, rfl, rfl, rfl⟩, z⟩
  · refine ⟨its.toList, r, ⟨o, n, I.kIn a o hk, hc, hd, by simpa using hs⟩, ?_⟩
    have e := r.length
    simp only [Array.length_toList] at e
    omega
theorem Inv.tuple (I : Inv X pins σ H s) (h : SqT X.K H a xs) : ∃ its : List Value, Vals xs its ∧ IsTup s.heap a its.toArray ∧ xs.length ≤ sizeLine := by
  rcases h with h | ⟨o, its, n, hk, hc, hs, hz, r⟩
  · obtain ⟨z, its, r, p⟩ := h.ok I.hok
    exact ⟨its, r, p, z⟩
  · refine ⟨its.toList, r, ⟨o, I.kIn a o hk, hc, n, by simpa using hs⟩, ?_⟩
    have e := r.length
    simp only [Array.length_toList] at e
    omega
theorem Inv.list_inj (I : Inv X pins σ H s) (h : SqL X.K H a xs) (h' : SqL X.K H a ys) : xs = ys := by
  obtain ⟨its, r, ⟨o, n, e, _, _, d⟩, _⟩ := I.list h
  obtain ⟨its', r', ⟨o', n', e', _, _, d'⟩, _⟩ := I.list h'
  rw [e] at e'; cases e'
  rw [d] at d'
  injection d' with d1 _
  have : its = its' := by simpa using congrArg Array.toList d1
  subst this
  exact r.inj r'
end

/-! ### another wish about exceptions -/
abbrev Cx.wish (X : Cx) (E : Value → Shared → Prop) : Cx := { X with xe := E }
/-- no exception leaves -/
abbrev Cx.nox (X : Cx) : Cx := X.wish fun _ _ => False
theorem Cx.Ok.wish {X : Cx} (ok : X.Ok) (E : Value → Shared → Prop) : (X.wish E).Ok :=
  ⟨ok.mod, ok.kind, ok.glob, ok.blt, ok.above, ok.inj, ok.has, ok.cab, ok.hd, ok.frames, ok.stk, ok.exf, ok.bs, ok.bsz, ok.noex, ok.exfs, ok.funs, ok.frf⟩
theorem Cx.Ok.unwish {X : Cx} {E : Value → Shared → Prop} (ok : (X.wish E).Ok) : X.Ok :=
  ⟨ok.mod, ok.kind, ok.glob, ok.blt, ok.above, ok.inj, ok.has, ok.cab, ok.hd, ok.frames, ok.stk, ok.exf, ok.bs, ok.bsz, ok.noex, ok.exfs, ok.funs, ok.frf⟩
section
variable {X : Cx} {pins : List (Addr × Obj)} {σ : St} {H : Hp} {s : Shared} {E : Value → Shared → Prop}
theorem Inv.wish (I : Inv X pins σ H s) (E : Value → Shared → Prop) : Inv (X.wish E) pins σ H s := ⟨I.ok.wish E, I.os, I.bare, I.base, I.loc, I.cell, I.free, I.freeC, I.pin, I.hok, I.len⟩
theorem Inv.unwish (I : Inv (X.wish E) pins σ H s) : Inv X pins σ H s := ⟨I.ok.unwish, I.os, I.bare, I.base, I.loc, I.cell, I.free, I.freeC, I.pin, I.hok, I.len⟩
theorem SP.unwish {D : Ends} {f : Flow} {s' : Shared} (h : SP (X.wish E) pins D f s') : SP X pins D f s' := by
  cases f with
  | next => obtain ⟨σ', H', I, q⟩ := h; exact ⟨σ', H', I.unwish, q⟩
  | brk => obtain ⟨σ', H', I, q⟩ := h; exact ⟨σ', H', I.unwish, q⟩
  | cont => obtain ⟨σ', H', I, q⟩ := h; exact ⟨σ', H', I.unwish, q⟩
  | ret u => obtain ⟨v, σ', H', I, r, q⟩ := h; exact ⟨v, σ', H', I.unwish, r, q⟩
theorem PSs.nox {st : List Stmt} {t : TS} (h : PSs X.nox st t) : PSs X st t := .mk <| fun pins s σ H D I hw =>
  wpAny_mono (h pins s σ H D (I.wish _) hw) (fun _ _ q => q.unwish) fun _ _ z => False.elim z
end

/-! ### blocks and small statements -/
section
variable {X : Cx} {st : Stmt} {rest : List Stmt} {t u : TS} {e : Expr} {te : TE} {pos : Pos}
def tNext : TS := fun D σ H => D.nx σ H
def tSeq (t u : TS) : TS := fun D σ H => t { D with nx := u D } σ H
theorem pss_nil : PSs X [] tNext := .mk <| fun _ _ σ H _ I h => wpAny_execs_nil ⟨σ, H, I, h⟩
theorem pss_cons (h1 : PS X st t) (h2 : PSs X rest u) : PSs X (st :: rest) (tSeq t u) := .mk <| by
  intro pins s σ H D I h
  refine wpAny_execs_cons (thn (h1 pins s σ H { D with nx := u D } I h) fun f s1 q => ?_)
  cases f with
  | next =>
    obtain ⟨σ', H', I', q⟩ := q
    exact h2 pins s1 σ' H' D I' q
  | ret v => exact q
  | brk => exact q
  | cont => exact q
theorem pss_one (h1 : PS X st t) : PSs X [st] t := .mk <| by
  intro pins s σ H D I h
  refine wpAny_execs_cons (thn (h1 pins s σ H D I h) fun f s1 q => ?_)
  cases f with
  | next => exact wpAny_execs_nil q
  | ret v => exact q
  | brk => exact q
  | cont => exact q
/-- in a def's body nothing is shown -/
theorem Inv.quiet {pins : List (Addr × Obj)} {σ : St} {H : Hp} {s : Shared} (I : Inv X pins σ H s) : interactive X.env = false := by simp [interactive, I.ok.kind]
/-- an expression whose value is dropped -/
def tDrop (te : TE) : TS := fun D σ H => te σ H fun _ H1 => D.nx σ H1
theorem ps_expr (he : PE X e te) (hs : swapsWith e none pos.line X.env = pure false := by rfl) : PS X (.Expr e pos) (tDrop te) := .mk <| by
  intro pins s σ H D I h
  exact wpAny_Expr_any (thn (he pins s σ H _ I h) fun v s1 ⟨x, H1, I1, r1, q1⟩ => ⟨σ, H1, I1, q1⟩) I.quiet hs
def tRet (te : TE) : TS := fun D σ H => te σ H D.rt
theorem ps_ret (he : PE X e te) : PS X (.Return (some e) pos) (tRet te) := .mk <| by
  intro pins s σ H D I h
  exact wpAny_Return_some (thn (he pins s σ H _ I h) fun v s1 ⟨x, H1, I1, r1, q1⟩ => ⟨x, σ, H1, I1, r1, q1⟩)
def tIfS (c : TT) (t u : TS) : TS := fun D σ H => c σ H fun b H1 => if b = true then t D σ H1 else u D σ H1
theorem ps_if {c : Expr} {a b : List Stmt} {tc : TT} (hc : PT X c tc) (ha : PSs X a t) (hb : PSs X b u) : PS X (.If c a b pos) (tIfS tc t u) := .mk <| by
  intro pins s σ H D I h
  refine wpAny_If (thn (hc pins s σ H _ I h) fun d s1 ⟨H1, I1, q1⟩ => ?_)
  cases d with
  | true => exact ha pins s1 σ H1 D I1 q1
  | false => exact hb pins s1 σ H1 D I1 q1
end

/-! ### targets -/
abbrev TG := V → St → Hp → (St → Hp → Prop) → Prop
abbrev TGs := List V → St → Hp → (St → Hp → Prop) → Prop
structure PG (X : Cx) (target : Expr) (t : TG) : Prop where
  run :
  ∀ (pins : List (Addr × Obj)) (s : Shared) (σ : St) (H : Hp) (v : V) (u : Value) (Q : St → Hp → Prop), Inv X pins σ H s → RelV v u → t v σ H Q →
    wpAny (model X.prog X.w) X.A (assign target X.env u) (fun _ s' => ∃ σ' H', Inv X pins σ' H' s' ∧ Q σ' H') X.xe s
instance {X : Cx} {target : Expr} {t : TG} : CoeFun (PG X target t) (fun _ =>
  ∀ (pins : List (Addr × Obj)) (s : Shared) (σ : St) (H : Hp) (v : V) (u : Value) (Q : St → Hp → Prop), Inv X pins σ H s → RelV v u → t v σ H Q →
    wpAny (model X.prog X.w) X.A (assign target X.env u) (fun _ s' => ∃ σ' H', Inv X pins σ' H' s' ∧ Q σ' H') X.xe s
  ) := ⟨fun h => h.run⟩
/-- several targets, one after another -/
structure PGs (X : Cx) (ts : List Expr) (t : TGs) : Prop where
  run :
  ∀ (pins : List (Addr × Obj)) (s : Shared) (σ : St) (H : Hp) (vs : List V) (us : List Value) (Q : St → Hp → Prop), Inv X pins σ H s → Vals vs us → t vs σ H Q →
    wpAny (model X.prog X.w) X.A (assignInOrder ((assignEach ts X.env).map (·.2)) us) (fun _ s' => ∃ σ' H', Inv X pins σ' H' s' ∧ Q σ' H') X.xe s
instance {X : Cx} {ts : List Expr} {t : TGs} : CoeFun (PGs X ts t) (fun _ =>
  ∀ (pins : List (Addr × Obj)) (s : Shared) (σ : St) (H : Hp) (vs : List V) (us : List Value) (Q : St → Hp → Prop), Inv X pins σ H s → Vals vs us → t vs σ H Q →
    wpAny (model X.prog X.w) X.A (assignInOrder ((assignEach ts X.env).map (·.2)) us) (fun _ s' => ∃ σ' H', Inv X pins σ' H' s' ∧ Q σ' H') X.xe s
  ) := ⟨fun h => h.run⟩
section
variable {X : Cx} {pos : Pos}
def gName (i : Nat) : TG := fun v σ H Q => Q (σ.set i (some v)) H
theorem pg_name {i : Nat} {x : Str} (hN : X.N.Nodup) (hi : X.N[i]? = some x) (hx : Loc X.env.scope x) (hf : X.fn x = true ∨ X.env.scope.names.lookup x = some .local := by first | exact .inl rfl | exact .inr rfl | assumption) : PG X (.Name x pos) (gName i) := .mk <| by
  intro pins s σ H v u Q I r h
  exact wpAny_assign_Name (store_ok I hN hi hx r (fun s' I' => ⟨_, H, I', h⟩) hf)
def gNil : TGs := fun vs σ H Q => vs = [] ∧ Q σ H
def gCons (t : TG) (u : TGs) : TGs := fun vs σ H Q => ∃ v r, vs = v :: r ∧ t v σ H fun σ' H' => u r σ' H' Q
theorem pgs_nil : PGs X [] gNil := .mk <| by
  intro pins s σ H vs us Q I r h
  obtain ⟨e, h⟩ := h
  subst e
  cases r
  exact assignInOrder_nil ⟨σ, H, I, h⟩
theorem pgs_cons {e : Expr} {es : List Expr} {t : TG} {u : TGs} (h1 : PG X e t) (h2 : PGs X es u)
    (hs : (assignEach (e :: es) X.env).map (·.2) = assign e X.env :: (assignEach es X.env).map (·.2) := by rfl) : PGs X (e :: es) (gCons t u) := .mk <| by
  intro pins s σ H vs us Q I r h
  obtain ⟨v, vr, e1, h⟩ := h
  subst e1
  cases r with
  | cons r rr =>
    rw [hs]
    refine assignInOrder_cons (thn (h1 pins s σ H _ _ _ I r h) fun _ s1 ⟨σ1, H1, I1, q1⟩ => ?_)
    exact h2 pins s1 σ1 H1 _ _ Q I1 rr q1
/-- (a, b, ..) = a tuple of that length -/
def gTup (K : PySem.W.Frag) (n : Nat) (t : TGs) : TG := fun v σ H Q => ∃ a xs, v = .ref a ∧ SqT K H a xs ∧ xs.length = n ∧ t xs σ H Q
theorem pg_tup {es : List Expr} {k : Nat} {t : TGs} {n : Nat} (hc : X.calm = true) (h : PGs X es t)
    (hn : (assignEach es X.env).length = n := by rfl) (hst : (assignEach es X.env).findIdx? (·.1) = none := by rfl) : PG X (.Tuple es k pos) (gTup X.K n t) := .mk <| by
  intro pins s σ H v u Q I r hw
  obtain ⟨a, xs, e1, hq, hl, hw⟩ := hw
  subst e1
  cases r
  obtain ⟨its, rv, ht, hz⟩ := I.tuple hq
  refine assign_Tuple_tuple (I.ok.hd hc) ht (by simp [hn, ← hl, rv.length]) hst fun h' hx => ?_
  have I1 : Inv X pins σ H { s with heap := h' } := I.kept (t' := s.toks) fun b o e => hx b o (Nat.ne_of_lt (Heap.lt_size e)) e
  exact h pins _ σ H xs _ Q I1 (by simpa using rv) hw
/-- target = value -/
def tAsg (te : TE) (g : TG) : TS := fun D σ H => te σ H fun x H1 => g x σ H1 D.nx
/-- name = value -/
theorem ps_set {i : Nat} {x : Str} {e : Expr} {te : TE} {pos' : Pos} (hN : X.N.Nodup) (hi : X.N[i]? = some x) (hx : Loc X.env.scope x) (he : PE X e te) (hs : swapsWith e (some (.Name x pos')) pos.line X.env = pure false := by rfl) (hf : X.fn x = true ∨ X.env.scope.names.lookup x = some .local := by first | exact .inl rfl | exact .inr rfl | assumption) :
    PS X (.Assign [.Name x pos'] e pos) (tAsg te (gName i)) := .mk <| by
  intro pins s σ H D I h
  refine wpAny_Assign_Name (thn (he pins s σ H _ I h) fun v s1 ⟨y, H1, I1, r1, q1⟩ => ?_) hs
  exact store_ok I1 hN hi hx r1 (fun s2 I2 => ⟨_, H1, I2, q1⟩) hf
end

/-! ### while -/
section
variable {X : Cx} {pos : Pos}
end

/-! ### what a loop or a comprehension walks -/
/-- at turn i: it yields x (the heap may grow), or it stops -/
structure It where
  go : Nat → Hp → Prop
  yld : Nat → Hp → V → Hp → Prop
  stop : Nat → Hp → Prop
/-- the iterator's own objects may turn: they are not the frame's, not pinned, younger than the entry (or a comprehension's own) -/
def FpOk (X : Cx) (pins : List (Addr × Obj)) (H : Hp) (b : Addr) : Prop :=
  H b = none ∧ b ≠ X.env.locals ∧ b ∉ X.fs ∧ (b ∈ X.ex ∨ X.s₀.heap.objs.size ≤ b) ∧ (∀ x c, X.env.cells.lookup x = some c → c ≠ b) ∧ ∀ p ∈ X.pn ++ pins, p.1 ≠ b
theorem Inv.fpOk {X : Cx} {pins : List (Addr × Obj)} {σ : St} {H H' : Hp} {s : Shared} {b : Addr} (I : Inv X pins σ H s) (hb : s.heap.objs.size ≤ b) (hn : H' b = none) : FpOk X pins H' b := by
  refine ⟨hn, Nat.ne_of_gt (Nat.lt_of_lt_of_le I.lt hb), I.nofs hb, .inr (Nat.le_trans I.sz hb), fun x c e z => ?_, fun p hp z => ?_⟩
  · obtain ⟨v, q⟩ := I.cell x c e
    exact absurd (Nat.lt_of_lt_of_le q.lt (by rw [z]; exact hb)) (Nat.lt_irrefl _)
  · exact absurd (Nat.lt_of_lt_of_le (Heap.lt_size (I.pin p hp).1) (by rw [z]; exact hb)) (Nat.lt_irrefl _)
structure Turn (P : Program) (w : World) (K : PySem.W.Frag) (tg : Expr) (J : It) (fp : List Addr) (it : Addr) (tn : Nat → Heap → Prop) : Prop where
  mem : it ∈ fp
  obj : ∀ i h, tn i h → ∀ b ∈ fp, ∃ o, h.get? b = some o ∧ ∀ v, o.data ≠ .cell v
  keep : ∀ i h h', tn i h → (∀ b ∈ fp, ∀ o, h.get? b = some o → h'.get? b = some o) → tn i h'
  item : ∀ (X : Cx), X.prog = P → X.w = w → X.K = K → X.calm = true → ∀ (i : Nat) (pins : List (Addr × Obj)) (s : Shared) (σ : St) (H : Hp) (E : Value → Shared → Prop), Inv X pins σ H s → (∀ b ∈ fp, FpOk X pins H b) → tn i s.heap → J.go i H →
    wpAny (model P w) X.A (pyNext (.ref it)) (fun r s1 => ∃ u, r = some u ∧
      wpAny (model P w) X.A (letOwnedTupleGo tg (.ref it) u) (fun _ s2 => ∃ x H', Inv X pins σ H' s2 ∧ RelV x u ∧ J.yld i H x H' ∧ tn (i + 1) s2.heap ∧ ∀ b ∈ fp, H' b = none) E s1) E s
  done : ∀ (X : Cx), X.prog = P → X.w = w → X.K = K → X.calm = true → ∀ (i : Nat) (pins : List (Addr × Obj)) (s : Shared) (σ : St) (H : Hp) (E : Value → Shared → Prop), Inv X pins σ H s → (∀ b ∈ fp, FpOk X pins H b) → tn i s.heap → J.stop i H →
    wpAny (model P w) X.A (pyNext (.ref it)) (fun r s1 => r = none ∧ Inv X pins σ H s1) E s
  self : ∀ (A : Around) (i : Nat) (s : Shared) (Q : Value → Shared → Prop) (E : Value → Shared → Prop), tn i s.heap → Q (.ref it) s → wpAny (model P w) A (pyIter (.ref it)) Q E s
abbrev TI := St → Hp → (It → Hp → Prop) → Prop
/-- an iterator has come -/
def PIE (X : Cx) (pins : List (Addr × Obj)) (σ : St) (tg : Expr) (R : It → Hp → Prop) (itv : Value) (s2 : Shared) : Prop :=
  ∃ (it : Addr) (fp : List Addr) (tn : Nat → Heap → Prop) (J : It) (H' : Hp), itv = .ref it ∧ Inv X pins σ H' s2 ∧ Turn X.prog X.w X.K tg J fp it tn ∧ tn 0 s2.heap ∧ (∀ b ∈ fp, FpOk X pins H' b) ∧ R J H'
structure PI (X : Cx) (tg iter : Expr) (wi : TI) : Prop where
  run :
  ∀ (pins : List (Addr × Obj)) (s : Shared) (σ : St) (H : Hp) (R : It → Hp → Prop), Inv X pins σ H s → wi σ H R →
    wpAny (model X.prog X.w) X.A (eval iter X.env) (fun v s1 => wpAny (model X.prog X.w) X.A (pyIter v) (PIE X pins σ tg R) X.xe s1) X.xe s
instance {X : Cx} {tg iter : Expr} {wi : TI} : CoeFun (PI X tg iter wi) (fun _ =>
  ∀ (pins : List (Addr × Obj)) (s : Shared) (σ : St) (H : Hp) (R : It → Hp → Prop), Inv X pins σ H s → wi σ H R →
    wpAny (model X.prog X.w) X.A (eval iter X.env) (fun v s1 => wpAny (model X.prog X.w) X.A (pyIter v) (PIE X pins σ tg R) X.xe s1) X.xe s
  ) := ⟨fun h => h.run⟩

/-- the step ahead of the store is nothing for an iterator that keeps no tuple -/
theorem go_of {M : Model} {A : Around} {E : Value → Shared → Prop} {s : Shared} {tg : Expr} {it : Addr} {u : Value} {o : Obj} {n : String} {vs : Array Value} {Q : Unit → Shared → Prop} (ho : s.heap.get? it = some o) (hc : o.cls = .type n) (hd : o.data = .fields vs)
    (hn : ["enumerate", "zip", "dict_itemiterator", "dict_reverseitemiterator", "odict_iterator", "itertools.zip_longest", "itertools.pairwise"].contains n = false) (hQ : Q () s) : wpAny M A (letOwnedTupleGo tg (.ref it) u) Q E s := by
  unfold letOwnedTupleGo
  cases tg <;> first
    | exact wpAny_pure hQ
    | (cases u <;> first
        | exact wpAny_pure hQ
        | (refine wpAny_bind (wpAny_load ho ?_)
           rw [hc, hd]
           show wpAny M A (if (["enumerate", "zip", "dict_itemiterator", "dict_reverseitemiterator", "odict_iterator", "itertools.zip_longest", "itertools.pairwise"].contains n && vs[0]? == some (rawInt _)) = true then _ else _) Q E s
           rw [if_neg (by intro h; rw [hn, Bool.false_and] at h; cases h)]
           exact wpAny_pure hQ))

/-- the list at a, as it stands at each turn (a loop may append to it) -/
def Itl (K : PySem.W.Frag) (a : Addr) : It :=
  ⟨fun i H => ∃ xs x, SqL K H a xs ∧ xs[i]? = some x, fun i H x H' => H' = H ∧ ∀ xs, SqL K H a xs → xs[i]? = some x, fun i H => ∃ xs, SqL K H a xs ∧ xs.length ≤ i⟩
/-- lo, lo + 1, .. (n of them) -/
def Itr (lo : Int) (n : Nat) : It := ⟨fun i _ => i < n, fun i H x H' => H' = H ∧ x = .int (lo + i), fun i _ => n ≤ i⟩
theorem turn_list {P : Program} {w : World} {K : PySem.W.Frag} {tg : Expr} (a it : Addr) : Turn P w K tg (Itl K a) [it] it (fun i h => h.IsListIter it a i) where
  mem := by simp
  obj := fun i h st b hb => by
    have e : b = it := by simpa using hb
    subst e
    obtain ⟨o, e, c, d⟩ := st
    exact ⟨o, e, fun v z => by rw [d] at z; cases z⟩
  keep := fun i h h' st k => st.at fun o e => k it (by simp) o e
  item := by
    intro X hP hw hK hc i pins s σ H E I hf st hg
    subst hP hw hK
    obtain ⟨xs, x, hq, hx⟩ := hg
    obtain ⟨its, rv, p, hz⟩ := I.list hq
    obtain ⟨u, hu, ru⟩ := rv.get hx
    obtain ⟨f0, f1, f2, f3, f4, f5⟩ := hf it (by simp)
    refine wpAny_pyNext_list_item st p.isList (x := u) (by simpa using hu) fun h' st' sb => ?_
    have I1 : Inv X pins σ H { s with heap := h' } := I.turned (t' := s.toks) (fun b o hb e => (sb.2 b hb).trans e) f0 f1 f3 f4 f5
    obtain ⟨o, e, c, d⟩ := id st'
    exact ⟨u, rfl, go_of (s := { s with heap := h' }) e c d (by decide) ⟨x, H, I1, ru, ⟨rfl, fun ys hy => by rw [I.list_inj hy hq]; exact hx⟩, st', fun b hb => (hf b hb).1⟩⟩
  done := by
    intro X hP hw hK hc i pins s σ H E I hf st hg
    subst hP hw hK
    obtain ⟨xs, hq, hx⟩ := hg
    obtain ⟨its, rv, p, hz⟩ := I.list hq
    obtain ⟨f0, f1, f2, f3, f4, f5⟩ := hf it (by simp)
    have hl := rv.length
    exact wpAny_pyNext_list_end (I.ok.hd hc) st p.isList (by simp; omega) fun h' eb => ⟨rfl, I.turned (t' := s.toks) (fun b o hb e => eb b o hb e) f0 f1 f3 f4 f5⟩
  self := fun _ _ _ _ _ st h => wpAny_pyIter_listiter st h
theorem turn_range {P : Program} {w : World} {K : PySem.W.Frag} {tg : Expr} (it : Addr) (lo : Int) (n : Nat) : Turn P w K tg (Itr lo n) [it] it (fun i h => IsRangeIter h it (lo + (i : Nat) * 1) ((n : Int) - (i : Nat)) 1) where
  mem := by simp
  obj := fun i h st b hb => by
    have e : b = it := by simpa using hb
    subst e
    exact ⟨_, st, fun v z => by
      have z' : Data.fields _ = Data.cell v := z
      cases z'⟩
  keep := fun i h h' st k => k it (by simp) _ st
  item := by
    intro X hP hw hK hc i pins s σ H E I hf st hg
    subst hP hw hK
    obtain ⟨f0, f1, f2, f3, f4, f5⟩ := hf it (by simp)
    have W := Walks.range (prog := X.prog) (w := X.w) (I.ok.hd hc) it lo 1 n
    refine W.item i s _ _ hg st fun v h' tk hv st' kk => ?_
    obtain ⟨t, rfl⟩ := hv
    have I1 : Inv X pins σ H { s with heap := h', toks := tk } := I.turned (fun b o hb e => kk b o (by simpa using hb) e) f0 f1 f3 f4 f5
    refine ⟨_, rfl, go_of (s := { s with heap := h', toks := tk }) (n := "range_iterator") st' rfl rfl (by decide) ⟨.int (lo + i), H, I1, ⟨t, ?_⟩, ⟨rfl, rfl⟩, st', fun b hb => (hf b hb).1⟩⟩
    rw [Int.mul_one]
  done := by
    intro X hP hw hK hc i pins s σ H E I hf st hg
    subst hP hw hK
    obtain ⟨f0, f1, f2, f3, f4, f5⟩ := hf it (by simp)
    exact wpAny_pyNext_range_end (I.ok.hd hc) st (by have : n ≤ i := hg; omega) fun h' eb => ⟨rfl, I.turned (t' := s.toks) (fun b o hb e => eb b o hb e) f0 f1 f3 f4 f5⟩
  self := fun _ _ _ _ _ st h => wpAny_pyIter_rangeiter st h
end L2

namespace L2
open PySem PySem.Spec PyProof.Rows
section
variable {X : Cx} {tg : Expr}
def iList (K : PySem.W.Frag) (tl : TE) : TI := fun σ H R => tl σ H fun x H1 => ∃ a, x = .ref a ∧ (∃ xs, SqL K H1 a xs) ∧ R (Itl K a) H1
theorem pi_list {l : Expr} {tl : TE} (hl : PE X l tl) : PI X tg l (iList X.K tl) := .mk <| by
  intro pins s σ H R I h
  refine thn (hl pins s σ H _ I h) fun v s1 ⟨x, H1, I1, r1, q1⟩ => ?_
  obtain ⟨a, e, ⟨xs, hq⟩, q⟩ := q1
  subst e
  cases r1
  obtain ⟨its, rv, p, hz⟩ := I1.list hq
  refine wpAny_pyIter_list p.isList ?_
  refine ⟨s1.heap.objs.size, [s1.heap.objs.size], _, _, H1, rfl, I1.kept (t' := s1.toks) fun b o e => Heap.get?_push_of_some _ e, turn_list a _, ⟨_, Heap.get?_push_size _ rfl, rfl, rfl⟩, fun b hb => ?_, q⟩
  have e : b = s1.heap.objs.size := by simpa using hb
  subst e
  exact I1.fpOk (Nat.le_refl _) (I1.hok.fresh (Nat.le_refl _))
/-- a range object just made, walked -/
theorem range_it {pins : List (Addr × Obj)} {σ : St} {H : Hp} {s : Shared} {R : It → Hp → Prop} {E : Value → Shared → Prop} {lo hi : Int} {t u v : Tok} {tk : Nat} (I : Inv X pins σ H s) (h1 : -(2 ^ 62) ≤ lo) (h2 : lo < 2 ^ 62) (h3 : -(2 ^ 62) ≤ hi) (h4 : hi < 2 ^ 62)
    (q : R (Itr lo (hi - lo).toNat) H) : wpAny (model X.prog X.w) X.A (pyIter (.ref s.heap.objs.size)) (PIE X pins σ tg R) E { s with heap := s.heap.push { cls := .type "range", data := .fields #[.int lo t, .int hi u, .int 1 v] }, toks := tk } := by
  refine wpAny_pyIter_range (IsRange.new ..) (small_one h1 h2 h3 h4) ?_
  have I1 : Inv X pins σ H { s with heap := s.heap.push { cls := .type "range", data := .fields #[.int lo t, .int hi u, .int 1 v] }, toks := tk } := I.kept fun b o e => Heap.get?_push_of_some _ e
  refine ⟨(s.heap.push { cls := .type "range", data := .fields #[.int lo t, .int hi u, .int 1 v] }).objs.size, [(s.heap.push { cls := .type "range", data := .fields #[.int lo t, .int hi u, .int 1 v] }).objs.size], _, _, H, rfl,
    I1.kept (t' := tk) fun b o e => Heap.get?_push_of_some _ e, turn_range _ lo (hi - lo).toNat, ?_, fun b hb => ?_, q⟩
  · have e1 : lo + ((0 : Nat) : Int) * 1 = lo := by simp
    have e2 : (((hi - lo).toNat : Nat) : Int) - ((0 : Nat) : Int) = Builtin.Range.rangeSize lo hi 1 := by rw [rangeSize_one]; split <;> omega
    show IsRangeIter _ _ (lo + ((0 : Nat) : Int) * 1) ((((hi - lo).toNat : Nat) : Int) - ((0 : Nat) : Int)) 1
    rw [e1, e2]
    exact Heap.get?_push_size _ rfl
  · have e : b = (s.heap.push { cls := .type "range", data := .fields #[.int lo t, .int hi u, .int 1 v] }).objs.size := by simpa using hb
    subst e
    exact I1.fpOk (Nat.le_refl _) (I1.hok.fresh (Nat.le_refl _))
def iRng1 (ta : TA) : TI := fun σ H R => ta σ H fun vs H1 => ∃ j : Int, vs = [.int j] ∧ -(2 ^ 62) ≤ j ∧ j < 2 ^ 62 ∧ R (Itr 0 j.toNat) H1
theorem pi_range1 {a : Expr} {ta : TA} {p pos : Pos} (hg : Gl X "range") (hm : X.mg "range" = none) (ha : PA X [a] ta) (hs : starEach [a] X.env = [(false, eval a X.env)] := by rfl) : PI X tg (.Call (.Name "range" p) [a] [] pos) (iRng1 ta) := .mk <| by
  intro pins s σ H R I h
  refine Call_ (ld_blt I hg hm boot_range (PyProof.Rows.callWith_type1 (thn (ha pos pins s σ H _ I h) fun us s1 ⟨vs, H1, I1, r1, q1⟩ => ?_) hs rfl))
  obtain ⟨j, e, q1, q2, q⟩ := q1
  subst e
  cases r1 with
  | cons r rr =>
    cases rr
    obtain ⟨t, rfl⟩ := r
    exact call_range_1 (range_it I1 (by omega) (by omega) q1 q2 (by simpa using q))
/-! ### for -/
/-- W: the invariant by the turn and a measure; N: what the body is to reach -/
def tFor (wi : TI) (g : TG) (tb : TS) : TS := fun D σ H => wi σ H fun J H1 => ∃ W : Nat → Nat → St → Hp → Prop, (∃ m, W 0 m σ H1) ∧ ∀ i m σ H, W i m σ H →
  (J.stop i H ∧ D.nx σ H) ∨ (J.go i H ∧ ∃ N : St → Hp → Prop, (∀ σ' H', N σ' H' → ∃ m', m' < m ∧ W (i + 1) m' σ' H') ∧ ∀ x H', J.yld i H x H' → g x σ H' fun σ2 H2 => tb { D with nx := N, ct := N, bk := D.nx } σ2 H2)
/-- the records at fp as they stand -/
def pinsAt (fp : List Addr) (h : Heap) : List (Addr × Obj) := fp.filterMap fun b => (h.get? b).map fun o => (b, o)
theorem mem_pinsAt {fp : List Addr} {h : Heap} {b : Addr} {o : Obj} (hb : b ∈ fp) (e : h.get? b = some o) : (b, o) ∈ pinsAt fp h := List.mem_filterMap.mpr ⟨b, hb, by rw [e]; rfl⟩
theorem of_pinsAt {fp : List Addr} {h : Heap} {p : Addr × Obj} (hp : p ∈ pinsAt fp h) : p.1 ∈ fp ∧ h.get? p.1 = some p.2 := by
  obtain ⟨b, hb, e⟩ := List.mem_filterMap.mp hp
  cases q : h.get? b with
  | none => rw [q] at e; cases e
  | some o =>
    rw [q] at e
    have e' : (b, o) = p := Option.some.inj e
    subst e'
    exact ⟨hb, q⟩
theorem Inv.pinned {pins : List (Addr × Obj)} {σ : St} {H : Hp} {s : Shared} {fp : List Addr} (I : Inv X pins σ H s) (hf : ∀ b ∈ fp, FpOk X pins H b) (ho : ∀ b ∈ fp, ∃ o, s.heap.get? b = some o ∧ ∀ v, o.data ≠ .cell v) : Inv X (pins ++ pinsAt fp s.heap) σ H s :=
  I.pins_of fun p hp => (List.mem_append.mp hp).elim (fun z => I.pin p (List.mem_append_right _ z)) fun z => by
    obtain ⟨hb, e⟩ := of_pinsAt z
    obtain ⟨f0, f1, f2, _⟩ := hf p.1 hb
    obtain ⟨o, e', d⟩ := ho p.1 hb
    rw [e] at e'; cases e'
    exact ⟨e, f0, f1, f2, d⟩
theorem Inv.unpinned {pins pl : List (Addr × Obj)} {σ : St} {H : Hp} {s : Shared} (I : Inv X (pins ++ pl) σ H s) : Inv X pins σ H s := I.pins_of fun p hp => I.pin p (List.mem_append_right _ (List.mem_append_left _ hp))
theorem ps_for {iter : Expr} {body : List Stmt} {wi : TI} {g : TG} {tb : TS} {pos : Pos} (hp : PassesOwn (model X.prog X.w) X.A X.env X.xe) (hc : X.calm = true) (hi : PI X tg iter wi) (hg : PG X tg g) (hb : PSs X body tb)
    (hs : ∀ x, foldedSetIterable iter X.env x = pure x := by intro _; rfl) : PS X (.For tg iter body [] pos) (tFor wi g tb) := .mk <| by
  intro pins s σ H D I h
  refine wpAny_For (thn (hi pins s σ H _ I h) fun v s1 h1 => thn h1 fun itv s2 h2 => ?_) hs
  obtain ⟨it, fp, tn, J, H2, e, I2, T, st2, f2, W, ⟨m0, w0⟩, turn⟩ := h2
  subst e
  -- what stays true of the iterator's objects through the loop
  have stat : ∀ {H' : Hp}, (∀ b ∈ fp, H' b = none) → ∀ b ∈ fp, FpOk X pins H' b := fun hn b hb => ⟨hn b hb, (f2 b hb).2⟩
  refine codeAny_forLoop_any (fun n s' => ∃ i σ' H', Inv X pins σ' H' s' ∧ tn i s'.heap ∧ (∀ b ∈ fp, H' b = none) ∧ W i n σ' H') ?_ m0 ⟨0, σ, H2, I2, st2, fun b hb => (f2 b hb).1, w0⟩
  rintro n s3 ⟨i, σ3, H3, I3, st3, fr3, w3⟩
  rcases turn i n σ3 H3 w3 with ⟨stop, qn⟩ | ⟨go, N, hN, step⟩
  · refine wpAny_passesOwn hp (thn (T.done X rfl rfl rfl hc i pins s3 σ3 H3 X.xe I3 (stat fr3) st3 stop) fun r s4 ⟨hr, I4⟩ => ?_)
    subst hr
    exact wpAny_execs_nil ⟨σ3, H3, I4, qn⟩
  · refine wpAny_passesOwn hp (thn (T.item X rfl rfl rfl hc i pins s3 σ3 H3 X.xe I3 (stat fr3) st3 go) fun r s4 ⟨u, hr, h4⟩ => ?_)
    subst hr
    refine wpAny_passesOwn hp (thn h4 fun _ s5 ⟨x, H5, I5, r5, y5, st5, fr5⟩ => ?_)
    have I5' := I5.pinned (stat fr5) (T.obj _ _ st5)
    refine wpAny_passesOwn hp (thn (hg _ s5 σ3 H5 x u _ I5' r5 (step x H5 y5)) fun _ s6 ⟨σ6, H6, I6, q6⟩ => ?_)
    refine wpAny_passesOwn hp (thn (hb _ s6 σ6 H6 _ I6 q6) fun f s7 q7 => ?_)
    have again : ∀ {σ7 : St} {H7 : Hp}, Inv X (pins ++ pinsAt fp s5.heap) σ7 H7 s7 → N σ7 H7 → ∃ m, m < n ∧ ∃ i σ' H', Inv X pins σ' H' s7 ∧ tn i s7.heap ∧ (∀ b ∈ fp, H' b = none) ∧ W i m σ' H' := fun {σ7 H7} I7 n7 => by
      obtain ⟨m', hm, w7⟩ := hN σ7 H7 n7
      refine ⟨m', hm, i + 1, σ7, H7, I7.unpinned, T.keep _ _ _ st5 fun b hb o e => (I7.pin (b, o) (List.mem_append_right _ (List.mem_append_right _ (mem_pinsAt hb e)))).1, fun b hb => ?_, w7⟩
      obtain ⟨o, e, d⟩ := T.obj _ _ st5 b hb
      exact (I7.pin (b, o) (List.mem_append_right _ (List.mem_append_right _ (mem_pinsAt hb e)))).2.1
    cases f with
    | next => obtain ⟨σ7, H7, I7, n7⟩ := q7; exact again I7 n7
    | cont => obtain ⟨σ7, H7, I7, n7⟩ := q7; exact again I7 n7
    | brk => obtain ⟨σ7, H7, I7, q7⟩ := q7; exact ⟨σ7, H7, I7.unpinned, q7⟩
    | ret v => obtain ⟨x7, σ7, H7, I7, r7, q7⟩ := q7; exact ⟨x7, σ7, H7, I7.unpinned, r7, q7⟩
end

/-! ### the forms one uses -/
/-- over a list that the body leaves as it is -/
theorem for_list {K : PySem.W.Frag} {a : Addr} {xs : List V} {g : TG} {tb : TS} {D : Ends} {σ : St} {H : Hp} (Pv : Nat → St → Hp → Prop) (h0 : Pv 0 σ H) (hl : ∀ i σ H, i ≤ xs.length → Pv i σ H → SqL K H a xs)
    (hs : ∀ i x σ H, xs[i]? = some x → Pv i σ H → g x σ H fun σ2 H2 => tb { D with nx := Pv (i + 1), ct := Pv (i + 1), bk := D.nx } σ2 H2) (hd : ∀ σ H, Pv xs.length σ H → D.nx σ H) :
    ∃ W : Nat → Nat → St → Hp → Prop, (∃ m, W 0 m σ H) ∧ ∀ i m σ H, W i m σ H →
      ((Itl K a).stop i H ∧ D.nx σ H) ∨ ((Itl K a).go i H ∧ ∃ N : St → Hp → Prop, (∀ σ' H', N σ' H' → ∃ m', m' < m ∧ W (i + 1) m' σ' H') ∧ ∀ x H', (Itl K a).yld i H x H' → g x σ H' fun σ2 H2 => tb { D with nx := N, ct := N, bk := D.nx } σ2 H2) := by
  refine ⟨fun i m σ H => m = xs.length - i ∧ i ≤ xs.length ∧ Pv i σ H, ⟨xs.length, by simp, Nat.zero_le _, h0⟩, ?_⟩
  rintro i m σ H ⟨rfl, hi, p⟩
  have q := hl i σ H hi p
  by_cases hlt : i < xs.length
  · refine .inr ⟨⟨xs, xs[i], q, by simp [hlt]⟩, Pv (i + 1), fun σ' H' p' => ⟨xs.length - (i + 1), by omega, rfl, hlt, p'⟩, fun x H' y => ?_⟩
    obtain ⟨e, y⟩ := y
    subst e
    exact hs i x σ _ (y xs q) p
  · have e : i = xs.length := by omega
    subst e
    exact .inl ⟨⟨xs, q, Nat.le_refl _⟩, hd σ H p⟩
theorem for_range {lo : Int} {n : Nat} {g : TG} {tb : TS} {D : Ends} {σ : St} {H : Hp} (Pv : Nat → St → Hp → Prop) (h0 : Pv 0 σ H)
    (hs : ∀ i σ H, i < n → Pv i σ H → g (.int (lo + i)) σ H fun σ2 H2 => tb { D with nx := Pv (i + 1), ct := Pv (i + 1), bk := D.nx } σ2 H2) (hd : ∀ σ H, Pv n σ H → D.nx σ H) :
    ∃ W : Nat → Nat → St → Hp → Prop, (∃ m, W 0 m σ H) ∧ ∀ i m σ H, W i m σ H →
      ((Itr lo n).stop i H ∧ D.nx σ H) ∨ ((Itr lo n).go i H ∧ ∃ N : St → Hp → Prop, (∀ σ' H', N σ' H' → ∃ m', m' < m ∧ W (i + 1) m' σ' H') ∧ ∀ x H', (Itr lo n).yld i H x H' → g x σ H' fun σ2 H2 => tb { D with nx := N, ct := N, bk := D.nx } σ2 H2) := by
  refine ⟨fun i m σ H => m = n - i ∧ i ≤ n ∧ Pv i σ H, ⟨n, by simp, Nat.zero_le _, h0⟩, ?_⟩
  rintro i m σ H ⟨rfl, hi, p⟩
  by_cases hlt : i < n
  · refine .inr ⟨hlt, Pv (i + 1), fun σ' H' p' => ⟨n - (i + 1), by omega, rfl, hlt, p'⟩, fun x H' y => ?_⟩
    obtain ⟨e, y⟩ := y
    subst e y
    exact hs i σ _ hlt p
  · have e : i = n := by omega
    subst e
    exact .inl ⟨Nat.le_refl _, hd σ H p⟩
end L2

namespace L2
open PySem PySem.Spec PyProof.Rows

abbrev R2 := V → V → Hp → VK → Prop
/-- a two-place operation on values: f is binaryOp op, inplaceOp op or compareOp op -/
def OpR (X : Cx) (f : Value → Value → Sem Value) (r : R2) : Prop :=
  ∀ (pins : List (Addr × Obj)) (s : Shared) (σ : St) (H : Hp) (x y : V) (v u : Value) (Q : VK), Inv X pins σ H s → RelV x v → RelV y u → r x y H Q →
    wpAny (model X.prog X.w) X.A (f v u) (EP X pins σ Q) X.xe s
/-- a call of a value that is known (a builtin, a type) with values -/
def CallR (X : Cx) (f : Value) (r : List V → Hp → VK → Prop) : Prop :=
  ∀ (pins : List (Addr × Obj)) (s : Shared) (σ : St) (H : Hp) (xs : List V) (us : List Value) (Q : VK), Inv X pins σ H s → Vals xs us → r xs H Q →
    wpAny (model X.prog X.w) X.A (call f us) (EP X pins σ Q) X.xe s
def tOp (r : R2) (ta tb : TE) : TE := fun σ H Q => ta σ H fun x H1 => tb σ H1 fun y H2 => r x y H2 Q
/-- ints in, under C, and a value out -/
def rI (C : Int → Int → Prop) (g : Int → Int → V) : R2 := fun x y H Q => ∃ i j, x = .int i ∧ y = .int j ∧ C i j ∧ Q (g i j) H
def rI0 (g : Int → Int → V) : R2 := fun x y H Q => ∃ i j, x = .int i ∧ y = .int j ∧ Q (g i j) H
section
variable {X : Cx} {a b c : Expr} {ta tb tc : TE} {pos : Pos}

theorem binT (ha : PE X a ta) (hb : PE X b tb) {pins : List (Addr × Obj)} {s : Shared} {σ : St} {H : Hp} {R : V → V → Hp → Prop} (I : Inv X pins σ H s)
    (h : ta σ H fun x H1 => tb σ H1 fun y H2 => R x y H2) {Q : Value → Shared → Prop} {f : Value → Value → Sem Value}
    (hf : ∀ v u s2 x y H2, Inv X pins σ H2 s2 → RelV x v → RelV y u → R x y H2 → wpAny (model X.prog X.w) X.A (f v u) Q X.xe s2) :
    wpAny (model X.prog X.w) X.A (eval a X.env) (fun v s₁ => wpAny (model X.prog X.w) X.A (eval b X.env) (fun u s₂ => wpAny (model X.prog X.w) X.A (f v u) Q X.xe s₂) X.xe s₁) X.xe s := by
  refine thn (ha pins s σ H _ I h) fun v s1 ⟨x, H1, I1, r1, q1⟩ => ?_
  refine thn (hb pins s1 σ H1 _ I1 q1) fun u s2 ⟨y, H2, I2, r2, q2⟩ => ?_
  exact hf v u s2 x y H2 I2 r1 r2 q2

theorem pe_op {op : Operator} {r : R2} (ho : OpR X (binaryOp op) r) (ha : PE X a ta) (hb : PE X b tb) : PE X (.BinOp a op b pos) (tOp r ta tb) := .mk <| by
  intro pins s σ H Q I h
  exact wpAny_BinOp (binT ha hb I h fun v u s2 x y H2 I2 rx ry q => ho pins s2 σ H2 x y v u Q I2 rx ry q)
/-! ### ints -/
theorem opI {f : Value → Value → Sem Value} {C : Int → Int → Prop} {g : Int → Int → Int}
    (rule : ∀ (i j : Int) (t u : Tok) (s : Shared) (Q : Value → Shared → Prop) (E : Value → Shared → Prop), C i j → Q (.int (g i j) s.toks) { s with toks := s.toks + 1 } → wpAny (model X.prog X.w) X.A (f (.int i t) (.int j u)) Q E s) :
    OpR X f (rI C fun i j => .int (g i j)) := by
  intro pins s σ H x y v u Q I rx ry h
  obtain ⟨i, j, rfl, rfl, hc, q⟩ := h
  obtain ⟨t, rfl⟩ := rx
  obtain ⟨t', rfl⟩ := ry
  exact rule i j t t' s _ _ hc ⟨.int (g i j), H, I.tok _, ⟨_, rfl⟩, q⟩
theorem opI0 {f : Value → Value → Sem Value} {g : Int → Int → Int}
    (rule : ∀ (i j : Int) (t u : Tok) (s : Shared) (Q : Value → Shared → Prop) (E : Value → Shared → Prop), Q (.int (g i j) s.toks) { s with toks := s.toks + 1 } → wpAny (model X.prog X.w) X.A (f (.int i t) (.int j u)) Q E s) :
    OpR X f (rI0 fun i j => .int (g i j)) := by
  intro pins s σ H x y v u Q I rx ry h
  obtain ⟨i, j, rfl, rfl, q⟩ := h
  obtain ⟨t, rfl⟩ := rx
  obtain ⟨t', rfl⟩ := ry
  exact rule i j t t' s _ _ ⟨.int (g i j), H, I.tok _, ⟨_, rfl⟩, q⟩
theorem opB0 {f : Value → Value → Sem Value} {g : Int → Int → Bool}
    (rule : ∀ (i j : Int) (t u : Tok) (s : Shared) (Q : Value → Shared → Prop) (E : Value → Shared → Prop), Q (.bool (g i j)) s → wpAny (model X.prog X.w) X.A (f (.int i t) (.int j u)) Q E s) :
    OpR X f (rI0 fun i j => .bl (g i j)) := by
  intro pins s σ H x y v u Q I rx ry h
  obtain ⟨i, j, rfl, rfl, q⟩ := h
  obtain ⟨t, rfl⟩ := rx
  obtain ⟨t', rfl⟩ := ry
  exact rule i j t t' s _ _ ⟨.bl (g i j), H, I, rfl, q⟩

def CDiv (i j : Int) : Prop := 0 < j ∧ j < 1073741824
def CPow (i j : Int) : Prop := 0 ≤ j ∧ j ≤ 1000000 ∧ i.natAbs < 2 ^ 64
def CMul (i j : Int) : Prop := (-(2 ^ 64) < i ∧ i < 2 ^ 64) ∨ (-(2 ^ 64) < j ∧ j < 2 ^ 64)
theorem CMul.ok {i j : Int} (h : CMul i j) : IntMulOk i j := by
  rcases h with ⟨h1, h2⟩ | ⟨h1, h2⟩
  · exact .of_left (intBits_le_64 h1 h2)
  · exact .of_right (intBits_le_64 h1 h2)
theorem op_add : OpR X (binaryOp .Add) (rI0 fun i j => .int (i + j)) := opI0 fun _ _ _ _ _ _ _ q => add_int q
theorem op_sub : OpR X (binaryOp .Sub) (rI0 fun i j => .int (i - j)) := opI0 fun _ _ _ _ _ _ _ q => sub_int q
theorem op_mul : OpR X (binaryOp .Mult) (rI CMul fun i j => .int (i * j)) := opI fun _ _ _ _ _ _ _ hc q => mul_int q hc.ok
/-- // by a positive divisor -/
theorem op_fdiv : OpR X (binaryOp .FloorDiv) (rI CDiv fun i j => .int (i / j)) := opI fun i j _ _ _ _ _ hc q => by
  have h1 : (0 : Int) < j := hc.1
  have h2 : j < 1073741824 := hc.2
  exact floordiv_int (by omega) (by rw [Int.fdiv_eq_ediv_of_nonneg i (by omega)]; exact q) (.inl (PyProof.noPylong_small (by omega)))
/-- % by a positive divisor of any size -/
theorem op_mod : OpR X (binaryOp .Mod) (rI (fun _ j => 0 < j) fun i j => .int (i % j)) := opI fun i j _ _ _ _ _ hc q => by
  have h1 : (0 : Int) < j := hc
  exact mod_int' (by omega) (by rw [Int.fmod_eq_emod_of_nonneg i (by omega)]; exact q)
theorem op_pow : OpR X (binaryOp .Pow) (rI CPow fun i j => .int (i ^ j.toNat)) := opI fun _ _ _ _ _ _ _ hc q => pow_int_small hc.1 hc.2.1 hc.2.2 q
/-! ### bools among ints: n += (a < b) -/
end

/-! ### comparisons -/
/-- the scalars that == tells apart as data does -/
def scal : V → V → Bool
  | .non, .non => true | .non, .int _ => true | .int _, .non => true | .non, .bl _ => true | .bl _, .non => true | .non, .str _ => true | .str _, .non => true
  | .int _, .int _ => true | .bl _, .bl _ => true | .str _, .str _ => true | .byt _, .byt _ => true
  | .int _, .str _ => true | .str _, .int _ => true | .bl _, .str _ => true | .str _, .bl _ => true
  | _, _ => false
def rEq : R2 := fun x y H Q => scal x y = true ∧ Q (.bl (decide (x = y))) H
def rNe : R2 := fun x y H Q => scal x y = true ∧ Q (.bl (!decide (x = y))) H

theorem dec_int {i j : Int} : decide (V.int i = V.int j) = (i == j) := by
  rw [Bool.eq_iff_iff]
  simp
theorem dec_bl {i j : Bool} : decide (V.bl i = V.bl j) = (i == j) := by
  rw [Bool.eq_iff_iff]
  simp
theorem dec_str {i j : Str} : decide (V.str i = V.str j) = (i == j) := by
  rw [Bool.eq_iff_iff]
  simp
theorem dec_byt {i j : Array UInt8} : decide (V.byt i = V.byt j) = (i.toList == j.toList) := by
  rw [Bool.eq_iff_iff]
  cases i
  cases j
  simp

section
variable {X : Cx} {a b c : Expr} {ta tb tc : TE} {pos : Pos}
theorem fin_bl {pins : List (Addr × Obj)} {σ : St} {H : Hp} {s : Shared} {Q : VK} {k k' : Bool} (I : Inv X pins σ H s) (q : Q (.bl k) H) (e : k = k') : EP X pins σ Q (.bool k') s := by
  subst e
  exact ⟨.bl k, H, I, rfl, q⟩
theorem op_eq : OpR X (compareOp .Eq) rEq := by
  intro pins s σ H x y v u Q I rx ry h
  obtain ⟨hs, q⟩ := h
  cases x with
  | non =>
    cases rx
    cases y with
    | non => cases ry; exact PySem.EqNone.eq_none_none (fin_bl I q (by simp))
    | bl j => cases ry; exact PySem.EqNone.eq_none_bool (fin_bl I q (by simp))
    | int j => obtain ⟨t', rfl⟩ := ry; exact PySem.EqNone.eq_none_int (fin_bl I q (by simp))
    | str j => obtain ⟨t', rfl⟩ := ry; exact PySem.EqNone.eq_none_str (fin_bl I q (by simp))
    | _ => exact absurd (show false = true from hs) Bool.false_ne_true
  | bl i =>
    cases rx
    cases y with
    | non => cases ry; exact PySem.EqNone.eq_bool_none (fin_bl I q (by simp))
    | bl j => cases ry; exact eq_bool (fin_bl I q dec_bl)
    | str j => obtain ⟨t', rfl⟩ := ry; exact PySem.EqMixed.eq_bool_str (fin_bl I q (by simp))
    | _ => exact absurd (show false = true from hs) Bool.false_ne_true
  | int i =>
    obtain ⟨t, rfl⟩ := rx
    cases y with
    | non => cases ry; exact PySem.EqNone.eq_int_none (fin_bl I q (by simp))
    | int j => obtain ⟨t', rfl⟩ := ry; exact eq_int (fin_bl I q dec_int)
    | str j => obtain ⟨t', rfl⟩ := ry; exact PySem.EqMixed.eq_int_str (fin_bl I q (by simp))
    | _ => exact absurd (show false = true from hs) Bool.false_ne_true
  | str i =>
    obtain ⟨t, rfl⟩ := rx
    cases y with
    | non => cases ry; exact PySem.EqNone.eq_str_none (fin_bl I q (by simp))
    | bl j => cases ry; exact PySem.EqMixed.eq_str_bool (fin_bl I q (by simp))
    | int j => obtain ⟨t', rfl⟩ := ry; exact PySem.EqMixed.eq_str_int (fin_bl I q (by simp))
    | str j => obtain ⟨t', rfl⟩ := ry; exact eq_str (fin_bl I q dec_str)
    | _ => exact absurd (show false = true from hs) Bool.false_ne_true
  | byt i =>
    obtain ⟨t, rfl⟩ := rx
    cases y with
    | byt j => obtain ⟨t', rfl⟩ := ry; exact PySem.W.eq_bytes (fin_bl I q dec_byt)
    | _ => exact absurd (show false = true from hs) Bool.false_ne_true
  | _ => cases y <;> exact absurd (show false = true from hs) Bool.false_ne_true
theorem op_ne : OpR X (compareOp .NotEq) rNe := by
  intro pins s σ H x y v u Q I rx ry h
  obtain ⟨hs, q⟩ := h
  cases x with
  | non =>
    cases rx
    cases y with
    | non => cases ry; exact PySem.EqNone.ne_none_none (fin_bl I q (by simp))
    | bl j => cases ry; exact PySem.EqNone.ne_none_bool (fin_bl I q (by simp))
    | int j => obtain ⟨t', rfl⟩ := ry; exact PySem.EqNone.ne_none_int (fin_bl I q (by simp))
    | str j => obtain ⟨t', rfl⟩ := ry; exact PySem.EqNone.ne_none_str (fin_bl I q (by simp))
    | _ => exact absurd (show false = true from hs) Bool.false_ne_true
  | bl i =>
    cases rx
    cases y with
    | non => cases ry; exact PySem.EqNone.ne_bool_none (fin_bl I q (by simp))
    | bl j => cases ry; exact ne_bool (fin_bl I q (congrArg not dec_bl))
    | str j => obtain ⟨t', rfl⟩ := ry; exact PySem.EqMixed.ne_bool_str (fin_bl I q (by simp))
    | _ => exact absurd (show false = true from hs) Bool.false_ne_true
  | int i =>
    obtain ⟨t, rfl⟩ := rx
    cases y with
    | non => cases ry; exact PySem.EqNone.ne_int_none (fin_bl I q (by simp))
    | int j => obtain ⟨t', rfl⟩ := ry; exact ne_int (fin_bl I q (congrArg not dec_int))
    | str j => obtain ⟨t', rfl⟩ := ry; exact PySem.EqMixed.ne_int_str (fin_bl I q (by simp))
    | _ => exact absurd (show false = true from hs) Bool.false_ne_true
  | str i =>
    obtain ⟨t, rfl⟩ := rx
    cases y with
    | non => cases ry; exact PySem.EqNone.ne_str_none (fin_bl I q (by simp))
    | bl j => cases ry; exact PySem.EqMixed.ne_str_bool (fin_bl I q (by simp))
    | int j => obtain ⟨t', rfl⟩ := ry; exact PySem.EqMixed.ne_str_int (fin_bl I q (by simp))
    | str j => obtain ⟨t', rfl⟩ := ry; exact ne_str (fin_bl I q (congrArg not dec_str))
    | _ => exact absurd (show false = true from hs) Bool.false_ne_true
  | byt i =>
    obtain ⟨t, rfl⟩ := rx
    cases y with
    | byt j => obtain ⟨t', rfl⟩ := ry; exact PySem.W.ne_bytes (fin_bl I q (congrArg not dec_byt))
    | _ => exact absurd (show false = true from hs) Bool.false_ne_true
  | _ => cases y <;> exact absurd (show false = true from hs) Bool.false_ne_true

theorem op_lt : OpR X (compareOp .Lt) (rI0 fun i j => .bl (decide (i < j))) := opB0 fun _ _ _ _ _ _ _ q => lt_int q
/-- is None, is not None: the right side a value none -/
theorem op_isN : OpR X (compareOp .Is) (fun x y H Q => y = .non ∧ Q (.bl (decide (x = .non))) H) := by
  intro pins s σ H x y v u Q I rx ry h
  obtain ⟨rfl, q⟩ := h
  cases ry
  refine is_none_gen (fin_bl I q ?_)
  cases x <;> first
    | (cases rx; rfl)
    | (obtain ⟨t, rfl⟩ := rx; rfl)
theorem op_notN : OpR X (compareOp .IsNot) (fun x y H Q => y = .non ∧ Q (.bl (!decide (x = .non))) H) := by
  intro pins s σ H x y v u Q I rx ry h
  obtain ⟨rfl, q⟩ := h
  cases ry
  refine isnot_none_gen (fin_bl I q ?_)
  cases x <;> first
    | (cases rx; rfl)
    | (obtain ⟨t, rfl⟩ := rx; rfl)

theorem nomark (b : Expr) {op : CmpOp} (h : op ≠ .In := by decide) (h2 : op ≠ .NotIn := by decide) : behindInMarks op b = false := by
  have e1 : (op == CmpOp.In) = false := by cases op <;> first | rfl | exact absurd rfl h
  have e2 : (op == CmpOp.NotIn) = false := by cases op <;> first | rfl | exact absurd rfl h2
  cases b <;> simp [behindInMarks, e1, e2]
/-- a comparison as a value; hm: nomark b, or (for in, not in) by with_unfolding_all rfl -/
theorem pe_cmpR {op : CmpOp} {r : R2} (ho : OpR X (compareOp op) r) (ha : PE X a ta) (hb : PE X b tb) (hm : behindInMarks op b = false) : PE X (.Compare a [op] [b] pos) (tOp r ta tb) := .mk <| by
  intro pins s σ H Q I h
  exact wpAny_Compare1 (binT ha hb I h fun v u s2 x y H2 I2 rx ry q => ho pins s2 σ H2 x y v u Q I2 rx ry q) hm
/-- a reading of a value as a test -/
def tTest (t : TE) : TT := fun σ H Q => t σ H fun x H' => ∃ k, x = .bl k ∧ Q k H'
theorem pt_cmpR {op : CmpOp} {r : R2} (ho : OpR X (compareOp op) r) (ha : PE X a ta) (hb : PE X b tb) (hm : behindInMarks op b = false) : PT X (.Compare a [op] [b] pos) (tTest (tOp r ta tb)) := .mk <| by
  intro pins s σ H Q I h
  refine wpAny_isTrue_Compare1 (thn (ha pins s σ H _ I h) fun v s1 ⟨x, H1, I1, r1, q1⟩ => thn (hb pins s1 σ H1 _ I1 q1) fun u s2 ⟨y, H2, I2, r2, q2⟩ =>
    thn (ho pins s2 σ H2 x y v u _ I2 r1 r2 q2) fun c s3 ⟨z, H3, I3, r3, k, e, q3⟩ => ?_) hm
  subst e
  cases r3
  exact wpAny_truthy_bool ⟨H3, I3, q3⟩
/-- a op1 b op2 c -/
def tChain (r r' : R2) (ta tb tc : TE) : TE := fun σ H Q => ta σ H fun x H1 => tb σ H1 fun y H2 => r x y H2 fun z H3 => ∃ k, z = .bl k ∧
  (if k = true then tc σ H3 fun w' H4 => r' y w' H4 Q else Q (.bl false) H3)
theorem pt_chain {op op' : CmpOp} {r r' : R2} (ho : OpR X (compareOp op) r) (ho' : OpR X (compareOp op') r') (ha : PE X a ta) (hb : PE X b tb) (hc : PE X c tc)
    (hm : lastMarks [op, op'] [b, c] = false := by with_unfolding_all rfl) : PT X (.Compare a [op, op'] [b, c] pos) (tTest (tChain r r' ta tb tc)) := .mk <| by
  intro pins s σ H Q I h
  refine isTrue_chain (thn (ha pins s σ H _ I h) fun v s1 ⟨x, H1, I1, r1, q1⟩ => test_link (thn (hb pins s1 σ H1 _ I1 q1) fun u s2 ⟨y, H2, I2, r2, q2⟩ =>
    thn (ho pins s2 σ H2 x y v u _ I2 r1 r2 q2) fun d s3 ⟨z, H3, I3, r3, k, e, q3⟩ => ?_)) hm
  subst e
  cases r3
  refine wpAny_truthy_bool ?_
  cases k with
  | false =>
    obtain ⟨k', e', q'⟩ := q3
    cases e'
    exact ite_ff ⟨H3, I3, q'⟩
  | true =>
    refine ite_tt (test_last (thn (hc pins s3 σ H3 _ I3 q3) fun w' s4 ⟨z', H4, I4, r4, q4⟩ => thn (ho' pins s4 σ H4 y z' u w' _ I4 r2 r4 q4) fun d' s5 ⟨z2, H5, I5, r5, k2, e2, q5⟩ => ?_))
    subst e2
    cases r5
    exact wpAny_truthy_bool ⟨H5, I5, q5⟩

/-! ### truth -/
theorem line63 : (sizeLine : Nat) < 2 ^ 63 := by rw [sizeLine_eq]; decide
/-! ### strs and bytes -/
theorem op_add_str : OpR X (binaryOp .Add) (fun x y H Q => ∃ i j, x = .str i ∧ y = .str j ∧ i.length + j.length ≤ sizeLine ∧ Q (.str (i ++ j)) H) := by
  intro pins s σ H x y v u Q I rx ry h
  obtain ⟨i, j, rfl, rfl, hz, q⟩ := h
  obtain ⟨t, rfl⟩ := rx
  obtain ⟨t', rfl⟩ := ry
  exact add_str (fun t' tk => ⟨.str (i ++ j), H, I.tok _, ⟨_, rfl⟩, q⟩) hz
/-! ### scalar builtins, by CallR -/
theorem vals1 {x : V} {us : List Value} (r : Vals [x] us) : ∃ u, us = [u] ∧ RelV x u := by
  cases r with
  | cons r1 r2 => cases r2; exact ⟨_, rfl, r1⟩
end
end L2

namespace L2
open PySem PySem.Spec PyProof.Rows

/-! ### an instance, its attributes a map -/
structure ObjM (h : Heap) (x dx C : Addr) (mA : Str → Option Value) : Prop where
  obj : h.get? x = some (PySem.W.instObj C dx)
  ns : h.Ns1 dx mA
  ne : dx ≠ x

theorem lookIn_ns {h : Heap} {dx : Addr} {mA : Str → Option Value} (n : h.Ns1 dx mA) : ∃ od, h.get? dx = some od ∧ ∀ name, PySem.W.lookIn name od = some (mA name) := by
  obtain ⟨o, es, ep, ho, hd, hk, _, hm⟩ := n
  refine ⟨o, ho, fun name => ?_⟩
  have e := hm name
  unfold nsFind findBy at e
  rw [← Array.find?_toList] at e
  unfold PySem.W.lookIn
  rw [hd]
  dsimp only
  split
  · rename_i y q
    rw [q] at e
    exact congrArg some e
  · rename_i q
    rw [q] at e
    have a : es.toList.any (·.refKey) = false := by
      rw [List.any_eq_false]
      intro y hy
      obtain ⟨z, t, hkey⟩ := hk y (Array.mem_toList_iff.mp hy)
      simp [DictEntry.refKey, hkey]
    have a' : ¬ es.toList.any (·.refKey) = true := by rw [a]; exact Bool.false_ne_true
    rw [if_neg a']
    exact congrArg some e

theorem ObjM.look {h : Heap} {x dx C : Addr} {mA : Str → Option Value} (I : ObjM h x dx C mA) : ∃ od, PySem.W.InstAt h x (PySem.W.instObj C dx) C (some od) ∧ ∀ name, PySem.W.lookIn name od = some (mA name) :=
  let ⟨od, ho, hl⟩ := lookIn_ns I.ns
  ⟨od, ⟨I.obj, rfl, rfl, ho⟩, hl⟩

section
variable {prog : Program} {w : World} {A : Around} {E : Value → Shared → Prop} {s : Shared} {K : PySem.W.Frag} {x dx C f : Addr} {mA : Str → Option Value} {name : Str} {v : Value}

theorem get_map {expr : Bool} {Q : Value → Shared → Prop} (X : K.In s.heap) (I : ObjM s.heap x dx C mA) (hg : PySem.W.plainGet K C name = true) (hh : PySem.W.hasDictIn K C = true)
    (ha : PySem.W.findIn K (.ref C) name = some none) (hv : mA name = some v) (hv' : PySem.W.handedIn v = true) (h : Q v { s with toks := s.toks + 1 }) :
    wpAny (model prog w) A (getAttr (.ref x) name expr) Q E s := by
  obtain ⟨od, J, hl⟩ := I.look
  exact PySem.W.get_value X J (PySem.W.plainGet_of hg).1 (PySem.W.findObj_own hh ha rfl (by rw [hl, hv])) hv' h

theorem get_meth {pl : Sem Bool} {Q : Value × List Value → Shared → Prop} (X : K.In s.heap) (I : ObjM s.heap x dx C mA) (hg : PySem.W.plainGet K C name = true)
    (hf : PySem.W.findIn K (.ref C) name = some (some (.ref f))) (ht : PySem.W.isFn K (.ref f) = true) (hv : mA name = none) (h : Q (.ref f, [.ref x]) s) :
    wpAny (model prog w) A (getMethod (.ref x) name pl) Q E s := by
  obtain ⟨od, J, hl⟩ := I.look
  exact PySem.W.method_fn X J (PySem.W.plainGet_of hg).1 (PySem.W.plainGet_of hg).2 hf (beq_iff_eq.mp ht) (by show (PySem.W.lookIn name od).map (·.isSome) = some false; rw [hl, hv]; rfl) h

theorem set_map {ns : List Str} {Q : Unit → Shared → Prop} (X : K.In s.heap) (I : ObjM s.heap x dx C mA)
    (hs : PySem.W.findIn K (.ref C) "__setattr__" = some (some (.builtin "object.__setattr__"))) (hp : PySem.W.plainOver K C = true) (ht : PySem.W.takerIn K C name = some none) (hh : PySem.W.hasDictIn K C = true)
    (hw : PySem.Within mA ns) (hsz : ns.length ≤ sizeLine)
    (h : ∀ h', ObjM h' x dx C (fun y => if y = name then some v else mA y) → Heap.SameBut dx s.heap h' → Q () { s with heap := h', toks := s.toks + 2 }) :
    wpAny (model prog w) A (setAttr (.ref x) name v) Q E s := by
  obtain ⟨od, J, hl⟩ := I.look
  refine PySem.W.set_plain X J hs (PySem.W.osa_open (s := { s with toks := s.toks + 1 }) (r := none) X J hp ht fun b => ?_)
  obtain ⟨cd, hc, hd'⟩ := PySem.W.any_some hh
  have hx : s.heap.get? x = some ⟨.ref C, some dx, .plain, #[]⟩ := I.obj
  refine wpAny_bind (wpAny_pure (wpAny_bind (wpAny_bind (wpAny_loadPart hx (wpAny_bind (PySem.W.Looks.here (s := { s with toks := s.toks + 1 }) (PySem.W.looks_clsIn X hc) ?_))))))
  rw [hd']
  refine wpAny_pure (a := some dx) (wpAny_bind (wpAny_pure (wpAny_bind ?_)))
  refine wpAny_nsSet1 (s := { s with toks := s.toks + 1 }) I.ns fun h' hn2 hs2 => ?_
  obtain ⟨oD, esD, epD, hoD, hdD, hcD⟩ := hn2.count (PySem.Within.cons name v hw)
  refine wpAny_bind (wpAny_lookBehind hoD (by rw [hdD]; exact pastItsLine_dict (Nat.le_trans hcD (by rw [List.length_cons]; omega))) ?_)
  exact wpAny_pure (h _ ⟨(hs2.2 _ (Ne.symm I.ne)).trans I.obj, hn2, I.ne⟩ hs2)

/-- C(..): the dict at the heap's end, the instance behind it; then its __init__ -/
theorem make_map {R : Result → Shared → Prop} {vs : List Value} {kw : List (Str × Value)} (X : K.In s.heap) (hm : PySem.W.makesIn K C = true)
    (hi : PySem.W.findIn K (.ref C) "__init__" = some (some (.ref f))) (hf : PySem.W.typeIn K (.ref f) = some (.type "function"))
    (h : codeAny (model prog w) (A.under (.builtin "type.__call__" ⟨.ref C :: vs, kw⟩)) (.call (.ref f) ⟨.ref (s.heap.objs.size + 1) :: vs, kw⟩) (PySem.W.InitBack (s.heap.objs.size + 1) R)
      { s with heap := (s.heap.push PySem.W.emptyDict).push (PySem.W.instObj C s.heap.objs.size) }) :
    codeAny (model prog w) A (.call (.ref C) ⟨vs, kw⟩) R s := by
  obtain ⟨hh, g, d, t, os⟩ := s
  exact PySem.W.make_core (PySem.W.makes_of X hm) (PySem.W.looks_findIn X hi) (fun self => PySem.W.bind_fn X self hf) (.inl rfl) h
end

/-! ### the attributes as a list of pairs -/
def putF (f : Str) (v : V) : List (Str × V) → List (Str × V)
  | [] => [(f, v)]
  | (g, x) :: r => if g = f then (g, v) :: r else (g, x) :: putF f v r
theorem lookup_putF (f g : Str) (v : V) : ∀ fs : List (Str × V), (putF f v fs).lookup g = if g = f then some v else fs.lookup g
  | [] => by
    show List.lookup g [(f, v)] = _
    by_cases h : g = f
    · have hb : (g == f) = true := beq_iff_eq.mpr h
      simp only [List.lookup, hb, if_pos h]
    · have hb : (g == f) = false := beq_eq_false_iff_ne.mpr h
      simp only [List.lookup, hb, if_neg h]
  | (k, x) :: r => by
    have ih := lookup_putF f g v r
    rw [show putF f v ((k, x) :: r) = (if k = f then (k, v) :: r else (k, x) :: putF f v r) from rfl]
    by_cases hk : k = f
    · rw [if_pos hk]
      by_cases h : g = k
      · have hb : (g == k) = true := beq_iff_eq.mpr h
        simp only [List.lookup, hb, if_pos (h.trans hk)]
      · have hb : (g == k) = false := beq_eq_false_iff_ne.mpr h
        simp only [List.lookup, hb, if_neg (fun e : g = f => h (e.trans hk.symm))]
    · rw [if_neg hk]
      by_cases h : g = k
      · have hb : (g == k) = true := beq_iff_eq.mpr h
        simp only [List.lookup, hb, if_neg (fun e : g = f => hk (h.symm.trans e))]
      · have hb : (g == k) = false := beq_eq_false_iff_ne.mpr h
        simp only [List.lookup, hb]
        exact ih
theorem keys_putF (f : Str) (v : V) : ∀ fs : List (Str × V), f ∈ (putF f v fs).map (·.1) ∧ ∀ g, g ∈ fs.map (·.1) → g ∈ (putF f v fs).map (·.1)
  | [] => ⟨by simp [putF], fun g h => by simp at h⟩
  | (k, x) :: r => by
    obtain ⟨i1, i2⟩ := keys_putF f v r
    rw [show putF f v ((k, x) :: r) = (if k = f then (k, v) :: r else (k, x) :: putF f v r) from rfl]
    by_cases hk : k = f
    · rw [if_pos hk]
      subst hk
      exact ⟨by simp, fun g h => by simpa using h⟩
    · rw [if_neg hk]
      refine ⟨?_, fun g h => ?_⟩
      · rw [List.map_cons]
        exact List.mem_cons_of_mem _ i1
      · rw [List.map_cons] at h ⊢
        rcases List.mem_cons.mp h with e | e
        · exact List.mem_cons.mpr (.inl e)
        · exact List.mem_cons_of_mem _ (i2 g e)
theorem length_putF (f : Str) (v : V) : ∀ fs : List (Str × V), (putF f v fs).length ≤ fs.length + 1
  | [] => by simp [putF]
  | (k, x) :: r => by
    have ih := length_putF f v r
    rw [show putF f v ((k, x) :: r) = (if k = f then (k, v) :: r else (k, x) :: putF f v r) from rfl]
    by_cases hk : k = f
    · rw [if_pos hk, List.length_cons, List.length_cons]; omega
    · rw [if_neg hk, List.length_cons, List.length_cons]; omega

theorem RelO.some_of {v : V} {o : Option Value} (r : RelO (some v) o) : ∃ u, o = some u ∧ RelV v u := by
  cases o with
  | none => exact (show False from r).elim
  | some u => exact ⟨u, rfl, r⟩
theorem RelO.none_of {o : Option Value} (r : RelO none o) : o = none := by
  cases o with
  | none => rfl
  | some u => exact (show False from r).elim
theorem handed_of {v : V} {u : Value} (r : RelV v u) : PySem.W.handedIn u = true := by
  cases v with
  | non => cases (show u = Value.none from r); rfl
  | bl b => cases (show u = Value.bool b from r); rfl
  | int i => obtain ⟨t, e⟩ := (show ∃ t, u = Value.int i t from r); cases e; rfl
  | str x => obtain ⟨t, e⟩ := (show ∃ t, u = Value.str x t from r); cases e; rfl
  | byt b => obtain ⟨t, e⟩ := (show ∃ t, u = Value.bytes b t from r); cases e; rfl
  | flt b => obtain ⟨t, e⟩ := (show ∃ t, u = Value.float b t from r); cases e; rfl
  | ref a => cases (show u = Value.ref a from r); rfl
  | ty n => cases (show u = Value.type n from r); rfl

section
variable {P : Program} {w : World} {H H' : Hp} {h h' : Heap} {a C dx : Addr} {fs fs' : List (Str × V)}
theorem ins_get (hok : HOk P w H h) (e : H a = some (.ins C dx fs)) : ∃ mA, ObjM h a dx C mA ∧ (∀ f, RelO (fs.lookup f) (mA f)) ∧ PySem.Within mA (fs.map (·.1)) ∧ fs.length ≤ 1000 ∧ H dx = some (.own a) := by
  obtain ⟨d, z, ne, ob, mA, n, r, q⟩ := (show ObjOk P w H h a (.ins C dx fs) from hok a _ e)
  exact ⟨mA, ⟨ob, n, ne⟩, r, q, z, d⟩
end

/-! ### what of the text a class must have -/
structure Cls (K : PySem.W.Frag) (C : Addr) : Prop where
  pg : PySem.W.plainGet K C Str.empty = true
  hd : PySem.W.hasDictIn K C = true
  po : PySem.W.plainOver K C = true
  sa : PySem.W.findIn K (.ref C) "__setattr__" = some (some (.builtin "object.__setattr__"))
theorem Cls.get {K : PySem.W.Frag} {C : Addr} (c : Cls K C) (f : Str) : PySem.W.plainGet K C f = true := c.pg
/-- no class of it has the name -/
def NoAttr (K : PySem.W.Frag) (C : Addr) (f : Str) : Prop := PySem.W.findIn K (.ref C) f = some none
theorem NoAttr.taker {K : PySem.W.Frag} {C : Addr} {f : Str} (n : NoAttr K C f) : PySem.W.takerIn K C f = some none := by
  unfold PySem.W.takerIn
  rw [show PySem.W.findIn K (.ref C) f = some none from n]
  rfl
/-- a method: a plain def of the class or of one above it -/
structure Meth (K : PySem.W.Frag) (C : Addr) (m : Str) (f : Addr) : Prop where
  at_ : PySem.W.findIn K (.ref C) m = some (some (.ref f))
  fn : PySem.W.isFn K (.ref f) = true
  kp : PySem.W.keepIn K (.ref f) = true

section
variable {X : Cx} {pins : List (Addr × Obj)} {σ : St} {H : Hp} {s : Shared} {a C dx : Addr} {fs : List (Str × V)} {f : Str} {v : V} {A : Around} {E : Value → Shared → Prop}

theorem getattr_ok {b : Bool} {Q : Value → Shared → Prop} (I : Inv X pins σ H s) (e : H a = some (.ins C dx fs)) (c : Cls X.K C) (n : NoAttr X.K C f) (l : fs.lookup f = some v)
    (h : ∀ u s', Inv X pins σ H s' → RelV v u → Q u s') : wpAny (model X.prog X.w) A (getAttr (.ref a) f b) Q E s := by
  obtain ⟨mA, O, r, _, _, _⟩ := ins_get I.hok e
  obtain ⟨u, hu, ru⟩ := RelO.some_of (v := v) (o := mA f) (by rw [← l]; exact r f)
  exact get_map I.kIn O (c.get f) c.hd n hu (handed_of ru) (h u _ (I.tok _) ru)

theorem getmeth_ok {m : Str} {g : Addr} {pl : Sem Bool} {Q : Value × List Value → Shared → Prop} (I : Inv X pins σ H s) (e : H a = some (.ins C dx fs)) (c : Cls X.K C) (k : Meth X.K C m g) (l : fs.lookup m = none)
    (h : Q (.ref g, [.ref a]) s) : wpAny (model X.prog X.w) A (getMethod (.ref a) m pl) Q E s := by
  obtain ⟨mA, O, r, _, _, _⟩ := ins_get I.hok e
  have hn : mA m = none := RelO.none_of (by rw [← l]; exact r m)
  exact get_meth I.kIn O (c.get m) k.at_ k.fn hn h

theorem setattr_ok {y : V} {u : Value} {Q : Unit → Shared → Prop} (I : Inv X pins σ H s) (e : H a = some (.ins C dx fs)) (c : Cls X.K C) (n : NoAttr X.K C f) (hl : fs.length < 1000) (ry : RelV y u)
    (h : ∀ s', Inv X pins σ (upd H a (.ins C dx (putF f y fs))) s' → Q () s') : wpAny (model X.prog X.w) A (setAttr (.ref a) f u) Q E s := by
  obtain ⟨mA, O, r, wi, _, ho⟩ := ins_get I.hok e
  have hz : (fs.map (·.1)).length ≤ sizeLine := by rw [List.length_map, sizeLine_eq]; omega
  refine set_map I.kIn O c.sa c.po n.taker c.hd wi hz fun h' O' sb => h _ ?_
  have hd : ∃ o, h'.get? dx = some o := let ⟨o, _, _, e', _⟩ := O'.ns; ⟨o, e'⟩
  refine I.write (x := a) (e := dx) (by rw [e]; exact True.intro) (.inr ho) (fun b q hb z => (sb.2 b hb).trans z) hd ?_
  refine ⟨by rw [upd_ne O.ne]; exact ho, ?_, O.ne, O'.obj, _, O'.ns, fun g => ?_, fun g hg => ?_⟩
  · have := length_putF f y fs; omega
  · show RelO ((putF f y fs).lookup g) (if g = f then some u else mA g)
    rw [lookup_putF]
    by_cases q : g = f
    · rw [if_pos q, if_pos q]; exact ry
    · rw [if_neg q, if_neg q]; exact r g
  · by_cases q : g = f
    · rw [q]; exact (keys_putF f y fs).1
    · refine (keys_putF f y fs).2 g (wi g fun z => hg ?_)
      show (if g = f then some u else mA g) = none
      rw [if_neg q]; exact z

/-- a new instance, tracked, without attributes -/
theorem Inv.made (I : Inv X pins σ H s) : Inv X pins σ (upd (upd H s.heap.objs.size (.own (s.heap.objs.size + 1))) (s.heap.objs.size + 1) (.ins C s.heap.objs.size []))
    { s with heap := (s.heap.push PySem.W.emptyDict).push (PySem.W.instObj C s.heap.objs.size) } := by
  have e1 : (s.heap.push PySem.W.emptyDict).get? s.heap.objs.size = some PySem.W.emptyDict := Heap.get?_push_size s.heap rfl
  have e2 : ((s.heap.push PySem.W.emptyDict).push (PySem.W.instObj C s.heap.objs.size)).get? (s.heap.objs.size + 1) = some (PySem.W.instObj C s.heap.objs.size) := by
    have := Heap.get?_push_size (s.heap.push PySem.W.emptyDict) (o := PySem.W.instObj C s.heap.objs.size) rfl
    rwa [Heap.size_push] at this
  have e3 : (s.heap.push PySem.W.emptyDict).Ns s.heap.objs.size (fun _ => none) := ⟨PySem.W.emptyDict, #[], _, e1, rfl, (fun e he => absurd he (by simp)), fun _ => rfl⟩
  have I1 := I.laid (a := s.heap.objs.size) (o := .own (s.heap.objs.size + 1)) (h' := s.heap.push PySem.W.emptyDict) (t' := s.toks) (fun b u q => Heap.get?_push_of_some _ q) (Nat.le_refl _) ⟨_, e1⟩
  refine I1.laid (a := s.heap.objs.size + 1) (o := .ins C s.heap.objs.size []) (t' := s.toks) (fun b u q => Heap.get?_push_of_some _ q) (Nat.le_of_eq (Heap.size_push _ _)) ?_
  have ne : s.heap.objs.size ≠ s.heap.objs.size + 1 := Nat.ne_of_lt (Nat.lt_succ_self _)
  refine ⟨by rw [upd_ne ne, upd_same], Nat.zero_le _, ne, e2, fun _ => none, (Heap.Ns1.of_empty e3).at fun o q => Heap.get?_push_of_some _ q, fun _ => True.intro, fun y hy => absurd rfl hy⟩

/-- e.f where nothing but the object is asked: through attributeBase (super) and the last hold -/
theorem attr_of {prog : Program} {w : World} {env : Env} {e : Expr} {f : Str} {pos : Pos} {s : Shared} {Q : Value → Shared → Prop} (hb : attributeBase e f env (eval e env) = eval e env)
    (h : wpAny (model prog w) A (eval e env) (fun o s₁ => wpAny (model prog w) A (getAttr o f true) Q E s₁) E s) : wpAny (model prog w) A (eval (.Attribute e f pos) env) Q E s :=
  Attribute_any_ h (by rw [arm_eval_Attribute, hb])
end

/-! ### readings and rules -/
/-- e.f, an attribute of the instance -/
def tFld (K : PySem.W.Frag) (ta : TE) (f : Str) : TE := fun σ H Q => ta σ H fun x H1 => ∃ a C dx fs v, x = .ref a ∧ H1 a = some (.ins C dx fs) ∧ Cls K C ∧ NoAttr K C f ∧ fs.lookup f = some v ∧ Q v H1
/-- e.f = value -/
def sFld (K : PySem.W.Frag) (ta tv : TE) (f : Str) : TS := fun D σ H => tv σ H fun y H1 => ta σ H1 fun x H2 => ∃ a C dx fs, x = .ref a ∧ H2 a = some (.ins C dx fs) ∧ Cls K C ∧ NoAttr K C f ∧ fs.length < 1000 ∧
  D.nx σ (upd H2 a (.ins C dx (putF f y fs)))
section
variable {X : Cx} {o e value : Expr} {f : Str} {pos pos' tpos : Pos} {ta tv : TE}
theorem pe_fld (he : PE X e ta) (hb : attributeBase e f X.env (eval e X.env) = eval e X.env) : PE X (.Attribute e f pos) (tFld X.K ta f) := .mk <| by
  intro pins s σ H Q I h
  refine attr_of hb (thn (he pins s σ H _ I h) fun u s1 ⟨x, H1, I1, rx, a, C, dx, fs, v, ex, ea, c, n, l, q⟩ => ?_)
  subst ex
  obtain rfl : u = Value.ref a := rx
  exact getattr_ok I1 ea c n l fun u' s2 I2 ru => ⟨v, H1, I2, ru, q⟩
theorem ps_fld (ha : PE X o ta) (hv : PE X value tv) (hs : swapsWith value (some (.Attribute o f pos')) pos.line X.env = pure false) : PS X (.Assign [.Attribute o f pos'] value pos) (sFld X.K ta tv f) := .mk <| by
  intro pins s σ H D I h
  refine plainObj_wpAny_Assign_Attribute (thn (hv pins s σ H _ I h) fun u s1 ⟨y, H1, I1, ry, q⟩ => thn (ha pins s1 σ H1 _ I1 q) fun ov s2 ⟨x, H2, I2, rx, a, C, dx, fs, ex, ea, c, n, l, q2⟩ => ?_) hs
  subst ex
  obtain rfl : ov = Value.ref a := rx
  exact setattr_ok I2 ea c n l ry fun s3 I3 => ⟨σ, _, I3, q2⟩
end

/-! ### isinstance -/
section
variable {X : Cx} {pins : List (Addr × Obj)} {σ : St} {H : Hp} {s : Shared} {A : Around} {E : Value → Shared → Prop} {Q : Value → Shared → Prop} {c : Value} {b : Bool}
end
end L2

namespace L2
open PySem PySem.Spec PyProof.Rows

/-! ### room -/
structure Room (k : Nat) (A : Around) : Prop where
  hd : A.handled = none
  dp : A.depth + 3 * k + 5 < recursionLimit
  un : A.units + 16 * k + 200 < cLine
theorem Room.mono {j k : Nat} {A : Around} (r : Room k A) (h : j ≤ k) : Room j A := ⟨r.hd, by have := r.dp; omega, by have := r.un; omega⟩
theorem Room.deeper {k : Nat} {A : Around} (r : Room (k + 1) A) (env : Env) : Room k (A.deeper env) :=
  ⟨r.hd, by have := r.dp; show A.depth + 1 + 3 * k + 5 < _; omega, by have := r.un; show A.units + 3 + 16 * k + 200 < _; omega⟩
theorem make_depth {A : Around} {C : Addr} {us : List Value} {kw : List (Str × Value)} : (A.under (.builtin "type.__call__" ⟨.ref C :: us, kw⟩)).depth = A.depth + 1 := by
  first | rfl | simp [Around.under, Code.weight, Code.isCreation, Code.isGuard, Code.isCaller, Code.frames, Code.isFrame, guardIds]
theorem make_units {A : Around} {C : Addr} {us : List Value} {kw : List (Str × Value)} : (A.under (.builtin "type.__call__" ⟨.ref C :: us, kw⟩)).units = A.units + 1 := by
  first | rfl | simp [Around.under, Code.cUnits, Code.frames, Code.isFrame]
theorem Room.make {k : Nat} {A : Around} (r : Room (k + 1) A) (C : Addr) (us : List Value) (kw : List (Str × Value)) : Room k (A.under (.builtin "type.__call__" ⟨.ref C :: us, kw⟩)) :=
  ⟨r.hd, by have := r.dp; rw [make_depth]; omega, by have := r.un; rw [make_units]; omega⟩
theorem Room.depth {k : Nat} {A : Around} (r : Room k A) : A.depth < recursionLimit := by have := r.dp; omega
theorem Room.units {k : Nat} {A : Around} (r : Room k A) : A.units + 64 < cLine := by have := r.un; omega
/-! ### argument lists and displays -/
def tNil : TA := fun _ H Q => Q [] H
def tCons (ta : TE) (tr : TA) : TA := fun σ H Q => ta σ H fun x H1 => tr σ H1 fun xs H2 => Q (x :: xs) H2
section
variable {X : Cx} {e : Expr} {es : List Expr} {te : TE} {t : TA} {pos : Pos}
theorem pa_nil : PA X [] tNil := .mk <| fun _ _ _ _ H Q I h => Calls.spliced_nil ⟨[], H, I, .nil, h⟩
theorem pa_cons (ha : PE X e te) (hr : PA X es t) (hs : starEach (e :: es) X.env = (false, eval e X.env) :: starEach es X.env := by rfl) : PA X (e :: es) (tCons te t) := .mk <| by
  intro pos pins s σ H Q I h
  rw [hs]
  show wpAny _ _ (spliced ((false, eval e X.env) :: backTo pos (starEach es X.env))) _ _ s
  refine Calls.spliced_cons (thn (ha pins s σ H _ I h) fun u s1 ⟨x, H1, I1, r1, q1⟩ => ?_)
  exact thn (hr pos pins s1 σ H1 _ I1 q1) fun us s2 ⟨xs, H2, I2, r2, q2⟩ => ⟨x :: xs, H2, I2, .cons r1 r2, q2⟩

/-- a tuple, a list of written items -/
def tTup (t : TA) : TE := fun σ H Q => t σ H fun xs H1 => xs.length ≤ sizeLine ∧ ∀ p, H1 p = none → Q (.ref p) (upd H1 p (.tup xs))
def tLst (t : TA) : TE := fun σ H Q => t σ H fun xs H1 => xs.length ≤ sizeLine ∧ ∀ p, H1 p = none → Q (.ref p) (upd H1 p (.lst xs))
theorem pe_tup {x1} (h : PA X es t) : PE X (.Tuple es x1 pos) (tTup t) := .mk <| by
  intro pins s σ H Q I hq
  refine wpAny_Tuple_spliced (thn (h pos pins s σ H _ I hq) fun us s1 ⟨xs, H1, I1, r, z, q⟩ => ⟨by rw [← r.length]; exact z, ?_⟩)
  have hf : H1 s1.heap.objs.size = none := I1.hok.fresh (Nat.le_refl _)
  refine ⟨.ref s1.heap.objs.size, upd H1 s1.heap.objs.size (.tup xs), I1.laid (t' := s1.toks) (fun b u e => Heap.get?_push_of_some _ e) (Nat.le_refl _) ?_, rfl, q _ hf⟩
  exact ⟨z, us, r, ⟨_, Heap.get?_push_size _ rfl, rfl, _, rfl⟩⟩
theorem pe_lst (h : PA X es t) : PE X (.List es pos) (tLst t) := .mk <| by
  intro pins s σ H Q I hq
  refine wpAny_List_spliced (thn (h pos pins s σ H _ I hq) fun us s1 ⟨xs, H1, I1, r, z, q⟩ => ⟨by rw [← r.length]; exact z, ?_⟩)
  have hf : H1 s1.heap.objs.size = none := I1.hok.fresh (Nat.le_refl _)
  refine ⟨.ref s1.heap.objs.size, upd H1 s1.heap.objs.size (.lst xs), I1.laid (t' := s1.toks) (fun b u e => Heap.get?_push_of_some _ e) (Nat.le_refl _) ?_, rfl, q _ hf⟩
  exact ⟨z, us, 0, r, Heap.get?_push_size _ rfl⟩
end

/-! ### what a def promises -/
/-- a def's promise: the bound arguments in the parameters' order, the heap, the wanted end, the wanted exception -/
abbrev Sp := List V → Hp → VK → XK → Prop
/-- how an exception lies behind a call (file 08 gives it): the callers' frames, abstract heap and state ahead of the call, the wish, the exception, the state -/
abbrev CXT := List Env → Hp → Shared → XK → Value → Shared → Prop

/-- the state at a call -/
structure Env0 (P : Program) (w : World) (K : PySem.W.Frag) (mg : Str → Option Value) (base : Heap) (A : Around) (outer : List Env) (s : Shared) (H : Hp) : Prop where
  frames : A.frames = some outer
  mod : Mod K mg base
  bs : ∀ b o, base.get? b = some o → s.heap.get? b = some o ∧ H b = none
  bsz : base.objs.size ≤ s.heap.objs.size
  funs : s.heap.FunFrames base outer
  frf : ∀ b ∈ frs outer, H b = none
  hok : HOk P w H s.heap
  bare : AllBare s.gens
/-- a call's end -/
def CE (outer : List Env) (P : Program) (w : World) (H : Hp) (s : Shared) (Q : VK) (u : Value) (s' : Shared) : Prop :=
  ∃ v H', s'.os = s.os ∧ AllBare s'.gens ∧ Un (frs outer) [] H H' s.heap s'.heap ∧ HOk P w H' s'.heap ∧ RelV v u ∧ Q v H'
def CR (CX : CXT) (outer : List Env) (P : Program) (w : World) (H : Hp) (s : Shared) (Q : VK) (E : XK) (r : Result) (s' : Shared) : Prop :=
  match r with
  | .ok (.ret u) => CE outer P w H s Q u s'
  | .ok _ => False
  | .error e => CX outer H s E e s'
structure FnOk (P : Program) (w : World) (K : PySem.W.Frag) (mg : Str → Option Value) (base : Heap) (CX : CXT) (k : Nat) (f : Addr) (fd : FuncData) (ps : List Str) (sp : Sp) : Prop where
  len : ∀ vs H Q E, sp vs H Q E → vs.length = ps.length
  run : ∀ (A : Around) (outer : List Env) (s : Shared) (H : Hp) (args : Args) (us : List Value) (vs : List V) (Q : VK) (E : XK), Room k A → Env0 P w K mg base A outer s H → BindsTo s fd args (ps.zip us) → Vals vs us → sp vs H Q E →
    codeAny (model P w) A (.call (.ref f) args) (CR CX outer P w H s Q E) s
/-- a weaker promise -/
theorem FnOk.imp {P : Program} {w : World} {K : PySem.W.Frag} {mg : Str → Option Value} {base : Heap} {CX : CXT} {k : Nat} {f : Addr} {fd : FuncData} {ps : List Str} {sp sp' : Sp} (F : FnOk P w K mg base CX k f fd ps sp)
    (h : ∀ vs H Q E, sp' vs H Q E → sp vs H Q E) : FnOk P w K mg base CX k f fd ps sp' :=
  ⟨fun vs H Q E q => F.len vs H Q E (h _ _ _ _ q), fun A outer s H args us vs Q E hr he hb hv hs => F.run A outer s H args us vs Q E hr he hb hv (h _ _ _ _ hs)⟩

theorem Env0.make {P : Program} {w : World} {K : PySem.W.Frag} {mg : Str → Option Value} {base : Heap} {A : Around} {outer : List Env} {s : Shared} {H : Hp} (e : Env0 P w K mg base A outer s H) (C : Addr) (us : List Value) (kw : List (Str × Value)) :
    Env0 P w K mg base (A.under (.builtin "type.__call__" ⟨.ref C :: us, kw⟩)) outer s H := ⟨by first | exact e.frames | (simpa [Around.under, Code.envs, Code.isFrame, pushEnvs] using e.frames), e.mod, e.bs, e.bsz, e.funs, e.frf, e.hok, e.bare⟩
section
variable {X : Cx} {pins : List (Addr × Obj)} {σ : St} {H : Hp} {s s' : Shared}
/-- from a body: what a callee wants -/
theorem Inv.env0 (I : Inv X pins σ H s) : Env0 X.prog X.w X.K X.mg X.base X.A X.stack s H :=
  ⟨I.ok.frames, I.ok.mod, I.bs, Nat.le_trans I.ok.bsz I.sz, I.stack, I.stkFree, I.hok, I.bare⟩
/-- behind a call -/
theorem Inv.after {Q : VK} {u : Value} (I : Inv X pins σ H s) (h : CE X.stack X.prog X.w H s Q u s') : EP X pins σ Q u s' := by
  obtain ⟨v, H', os, bare, un, hok, r, q⟩ := h
  obtain ⟨hh, g, d, t, os'⟩ := s'
  obtain rfl : os' = s.os := os
  exact ⟨v, H', I.call (h' := hh) (g' := g) (d' := d) (t' := t) (ch := []) un hok bare (fun b z => absurd z (by simp)), r, q⟩
end

/-! ### calls -/
/-- f(..): the written arguments, then the defaults dvs; E: what is wanted of an exception -/
def tCall (sp : Sp) (dvs : List V) (E : XK) (t : TA) : TE := fun σ H Q => t σ H fun vs H1 => sp (vs ++ dvs) H1 Q E
/-- o.m(..) of an instance of the class at C -/
def tMeth (C : Addr) (m : Str) (sp : Sp) (dvs : List V) (E : XK) (ta : TE) (t : TA) : TE := fun σ H Q => ta σ H fun x H1 => ∃ a dx fs, x = .ref a ∧ H1 a = some (.ins C dx fs) ∧ fs.lookup m = none ∧
  t σ H1 fun vs H2 => sp (x :: (vs ++ dvs)) H2 Q E
/-- C(..): a new instance and its dict, then __init__ -/
def tMake (C : Addr) (sp : Sp) (dvs : List V) (E : XK) (t : TA) : TE := fun σ H Q => t σ H fun vs H1 => ∀ x dx, H1 x = none → H1 dx = none → dx ≠ x →
  sp (.ref x :: (vs ++ dvs)) (upd (upd H1 dx (.own x)) x (.ins C dx [])) (fun v H2 => v = .non ∧ Q (.ref x) H2) E

/-- how the parameters are bound: us the positional arguments, kw the keywords' values by name, ds the defaults that fill up -/
def Binds (K : PySem.W.Frag) (fd : FuncData) (ps : List Str) (ds : List Value) : Prop :=
  ∀ (s : Shared) (us : List Value), K.In s.heap → (us ++ ds).length = ps.length → BindsTo s fd ⟨us, []⟩ (ps.zip (us ++ ds))
/-- every parameter is given -/
theorem Binds.all {K : PySem.W.Frag} {fd : FuncData} {ps : List Str} (h : ∀ us : List Value, us.length = ps.length → bindArgs fd ⟨us, []⟩ = pure (ps.zip us)) : Binds K fd ps [] := fun s us _ hl => by
  rw [List.append_nil] at hl ⊢
  exact .of_eq (h us hl)

/-- an exception of a callee reaches what this body wants of exceptions -/
def Passes (CX : CXT) (X : Cx) (E : XK) : Prop := ∀ (pins : List (Addr × Obj)) (σ : St) (H : Hp) (s : Shared) (e : Value) (s' : Shared), Inv X pins σ H s → CX X.stack H s E e s' → X.xe e s'

section
variable {X : Cx} {CX : CXT} {k : Nat} {f C : Addr} {fd : FuncData} {ps : List Str} {sp : Sp} {dvs : List V} {ds : List Value} {E : XK} {x m : Str} {p pos apos : Pos} {e o : Expr} {es : List Expr} {ta : TE} {t : TA}

/-- the callee runs -/
theorem run_fn {pins : List (Addr × Obj)} {σ : St} {H : Hp} {s : Shared} {Q : VK} {us : List Value} {vs : List V} (F : FnOk X.prog X.w X.K X.mg X.base CX k f fd ps sp) (hr : Room k X.A) (hb : Binds X.K fd ps ds) (hd : Vals dvs ds) (hx : Passes CX X E)
    (I : Inv X pins σ H s) (r : Vals vs us) (h : sp (vs ++ dvs) H Q E) : wpAny (model X.prog X.w) X.A (call (.ref f) us) (EP X pins σ Q) X.xe s := by
  have r2 : Vals (vs ++ dvs) (us ++ ds) := r.append hd
  have hl : (us ++ ds).length = ps.length := by rw [← r2.length]; exact F.len _ _ _ _ h
  refine wpAny_call (codeAny_mono (F.run X.A X.stack s H ⟨us, []⟩ (us ++ ds) (vs ++ dvs) Q E hr I.env0 (hb s us I.kIn hl) r2 h) fun r s' hq => ?_)
  cases r with
  | error e => exact hx pins σ H s e s' I hq
  | ok fl =>
    cases fl with
    | ret u => exact I.after hq
    | next => exact False.elim hq
    | brk => exact False.elim hq
    | cont => exact False.elim hq

theorem pe_call (F : FnOk X.prog X.w X.K X.mg X.base CX k f fd ps sp) (hr : Room k X.A) (hg : Gl X x) (hm : X.mg x = some (.ref f)) (hk : PySem.W.keepIn X.K (.ref f) = true) (hb : Binds X.K fd ps ds) (hd : Vals dvs ds) (hx : Passes CX X E)
    (ha : PA X (e :: es) t) (hdb : (x == ("__debug__" : Str)) = false := by decide) (he : starEach (e :: es) X.env = (false, eval e X.env) :: starEach es X.env := by rfl) (hpl : (backTo pos (starEach es X.env)).any (·.1) = false := by rfl) :
    PE X (.Call (.Name x p) (e :: es) [] pos) (tCall sp dvs E t) := .mk <| by
  intro pins s σ H Q I h
  refine wpAny_Call_Name_kw (ld_glob I hg hm ?_ hdb)
  refine PySem.W.callWith_K (h₀ := X.base) I.ok.mod.kin hk (thn (ha pos pins s σ H _ I h) fun us s1 ⟨vs, H1, I1, r, q⟩ => ⟨I1.kIn, ?_⟩) he hpl
  exact run_fn F hr hb hd hx I1 r q
theorem pe_call0 (F : FnOk X.prog X.w X.K X.mg X.base CX k f fd ps sp) (hr : Room k X.A) (hg : Gl X x) (hm : X.mg x = some (.ref f)) (hk : PySem.W.keepIn X.K (.ref f) = true) (hb : Binds X.K fd ps ds) (hd : Vals dvs ds) (hx : Passes CX X E)
    (hdb : (x == ("__debug__" : Str)) = false := by decide) : PE X (.Call (.Name x p) [] [] pos) (tCall sp dvs E tNil) := .mk <| by
  intro pins s σ H Q I h
  refine wpAny_Call_Name_kw (ld_glob I hg hm ?_ hdb)
  exact PySem.W.callWith_K0 I.kIn hk (run_fn (us := []) F hr hb hd hx I .nil h)

/-- o.m(e, ..) -/
theorem pe_meth {pl : Sem Bool} (he : PE X o ta) (c : Cls X.K C) (hm : Meth X.K C m f) (F : FnOk X.prog X.w X.K X.mg X.base CX k f fd ps sp) (hr : Room k X.A) (hb : Binds X.K fd ps ds) (hd : Vals dvs ds) (hx : Passes CX X E) (ha : PA X (e :: es) t)
    (hst : starEach (e :: es) X.env = (false, eval e X.env) :: starEach es X.env := by rfl) (hpl : (backTo pos (starEach es X.env)).any (·.1) = false := by rfl)
    (ht : eval (.Call (.Attribute o m apos) (e :: es) [] pos) X.env = (do
      let ov ← eval o X.env
      standAt apos.atName
      let (f, first) ← holding [ov] (getMethod ov m pl)
      callWith pos f first (backTo pos (starEach (e :: es) X.env)) (backToKw pos (keywordEach [] X.env))) := by rfl) :
    PE X (.Call (.Attribute o m apos) (e :: es) [] pos) (tMeth C m sp dvs E ta t) := .mk <| by
  intro pins s σ H Q I h
  refine PySem.W.methodCall_KW (pl := pl) (thn (he pins s σ H _ I h) fun u s1 ⟨x, H1, I1, rx, a, dx, fs, ex, ea, l, q⟩ => ?_) ht
  subst ex
  obtain rfl : u = Value.ref a := rx
  refine getmeth_ok I1 ea c hm l ?_
  refine PySem.W.callWith_K (first := [.ref a]) (h₀ := X.base) I.ok.mod.kin hm.kp (thn (ha pos pins s1 σ H1 _ I1 q) fun us s2 ⟨vs, H2, I2, r, q2⟩ => ⟨I2.kIn, ?_⟩) hst hpl
  exact run_fn (us := .ref a :: us) (vs := .ref a :: vs) F hr hb hd hx I2 (.cons rfl r) q2
/-- what a class must have to be made -/
structure Mk (K : PySem.W.Frag) (C f : Addr) : Prop where
  makes : PySem.W.makesIn K C = true
  init : PySem.W.findIn K (.ref C) "__init__" = some (some (.ref f))
  fn : PySem.W.isFn K (.ref f) = true
  kp : PySem.W.keepIn K (.ref C) = true

theorem run_make {pins : List (Addr × Obj)} {σ : St} {H : Hp} {s : Shared} {Q : VK} {us : List Value} {vs : List V} (M : Mk X.K C f) (F : FnOk X.prog X.w X.K X.mg X.base CX k f fd ps sp) (hr : Room (k + 1) X.A) (hb : Binds X.K fd ps ds) (hd : Vals dvs ds)
    (hx : Passes CX X E) (I : Inv X pins σ H s) (r : Vals vs us)
    (h : ∀ x dx, H x = none → H dx = none → dx ≠ x → sp (.ref x :: (vs ++ dvs)) (upd (upd H dx (.own x)) x (.ins C dx [])) (fun v H2 => v = .non ∧ Q (.ref x) H2) E) :
    wpAny (model X.prog X.w) X.A (call (.ref C) us) (EP X pins σ Q) X.xe s := by
  have hq := h (s.heap.objs.size + 1) s.heap.objs.size (I.hok.fresh (Nat.le_succ _)) (I.hok.fresh (Nat.le_refl _)) (Nat.ne_of_lt (Nat.lt_succ_self _))
  have I2 := Inv.made (C := C) I
  have r2 : Vals (V.ref (s.heap.objs.size + 1) :: (vs ++ dvs)) (Value.ref (s.heap.objs.size + 1) :: (us ++ ds)) := .cons rfl (r.append hd)
  have hl : (Value.ref (s.heap.objs.size + 1) :: us ++ ds).length = ps.length := by
    have e := r2.length
    rw [F.len _ _ _ _ hq] at e
    exact e.symm
  refine wpAny_call (make_map (f := f) I.kIn M.makes M.init (beq_iff_eq.mp M.fn) (codeAny_mono (F.run _ X.stack _ _ ⟨Value.ref (s.heap.objs.size + 1) :: us, []⟩ (Value.ref (s.heap.objs.size + 1) :: (us ++ ds)) _ _ E (hr.make C us [])
    (I2.env0.make C us []) (hb _ (Value.ref (s.heap.objs.size + 1) :: us) I2.kIn hl) r2 hq) fun r s' hq' => ?_))
  cases r with
  | error e => exact hx pins σ _ _ e s' I2 hq'
  | ok fl =>
    cases fl with
    | ret u =>
      obtain ⟨v, H', I3, rv, ev, q3⟩ := I2.after hq'
      subst ev
      exact ⟨rv, ⟨V.ref (s.heap.objs.size + 1), H', I3, rfl, q3⟩⟩
    | next => exact False.elim hq'
    | brk => exact False.elim hq'
    | cont => exact False.elim hq'
theorem pe_make (M : Mk X.K C f) (F : FnOk X.prog X.w X.K X.mg X.base CX k f fd ps sp) (hr : Room (k + 1) X.A) (hg : Gl X x) (hm : X.mg x = some (.ref C)) (hb : Binds X.K fd ps ds) (hd : Vals dvs ds) (hx : Passes CX X E)
    (ha : PA X (e :: es) t) (hdb : (x == ("__debug__" : Str)) = false := by decide) (he : starEach (e :: es) X.env = (false, eval e X.env) :: starEach es X.env := by rfl) (hpl : (backTo pos (starEach es X.env)).any (·.1) = false := by rfl) :
    PE X (.Call (.Name x p) (e :: es) [] pos) (tMake C sp dvs E t) := .mk <| by
  intro pins s σ H Q I h
  refine wpAny_Call_Name_kw (ld_glob I hg hm ?_ hdb)
  refine PySem.W.callWith_K (h₀ := X.base) I.ok.mod.kin M.kp (thn (ha pos pins s σ H _ I h) fun us s1 ⟨vs, H1, I1, r, q⟩ => ⟨I1.kIn, ?_⟩) he hpl
  exact run_make M F hr hb hd hx I1 r q
end

/-! ### keywords -/
section
variable {X : Cx} {CX : CXT} {k : Nat} {f C : Addr} {fd : FuncData} {ps ks : List Str} {sp : Sp} {E : XK} {x m : Str} {p pos apos kpos : Pos} {e o : Expr} {es : List Expr} {kws : List Keyword} {te ta : TE} {t tk : TA} {nm : Option Str}
variable {g : List Value → List Value → List Value} {gV : List V → List V → List V}
end

/-! ### a def's body keeps its promise -/
/-- names: the parameters first -/
structure FnScope (N P : List Str) (sc : Scope) : Prop where
  kind : sc.kind = .function
  co : sc.isCoroutine = false
  gen : sc.isGenerator = false
  nd : N.Nodup
  pre : N.take P.length = P
  par : ∀ x ∈ P, sc.names.lookup x = some .local ∨ sc.names.lookup x = some .cell
  nofree : ∀ y ∈ sc.names, y.2 ≠ .free

theorem bindL_out {kindOf : Str → Option NameKind} {x : Str} : ∀ {binds : List (Str × Value)} {m : Str → Option Value}, (∀ v, (x, v) ∉ binds) → bindL kindOf binds m x = m x
  | [], _, _ => rfl
  | (n, v) :: r, m, h => by
    unfold bindL
    rw [bindL_out fun w hw => h w (List.mem_cons_of_mem _ hw)]
    split
    · have : x ≠ n := by rintro rfl; exact h v List.mem_cons_self
      simp [this]
    · rfl
theorem bindC_out {kindOf : Str → Option NameKind} {x : Str} : ∀ {binds : List (Str × Value)} {m : Str → Option Value}, (∀ v, (x, v) ∉ binds) → bindC kindOf binds m x = m x
  | [], _, _ => rfl
  | (n, v) :: r, m, h => by
    unfold bindC
    rw [bindC_out fun w hw => h w (List.mem_cons_of_mem _ hw)]
    split
    · rfl
    · have : x ≠ n := by rintro rfl; exact h v List.mem_cons_self
      simp [this]
theorem bindL_get {kindOf : Str → Option NameKind} {x : Str} {v : Value} : ∀ {P : List Str} {vs : List Value} {i : Nat} {m : Str → Option Value}, P.Nodup → P[i]? = some x → vs[i]? = some v → kindOf x = some .local →
    bindL kindOf (P.zip vs) m x = some v
  | [], _, _, _, _, h, _, _ => by simp at h
  | _ :: _, [], _, _, _, _, h, _ => by simp at h
  | p :: P, w :: vs, 0, m, nd, h1, h2, hk => by
    simp at h1 h2; subst h1; subst h2
    show bindL kindOf ((p, w) :: P.zip vs) m p = _
    unfold bindL
    rw [bindL_out fun v hv => (List.nodup_cons.mp nd).1 (List.of_mem_zip hv).1, if_pos hk]
    simp
  | p :: P, w :: vs, i + 1, m, nd, h1, h2, hk => by
    show bindL kindOf ((p, w) :: P.zip vs) m x = _
    unfold bindL
    exact bindL_get (i := i) (List.nodup_cons.mp nd).2 (by simpa using h1) (by simpa using h2) hk
theorem bindC_get {kindOf : Str → Option NameKind} {x : Str} {v : Value} : ∀ {P : List Str} {vs : List Value} {i : Nat} {m : Str → Option Value}, P.Nodup → P[i]? = some x → vs[i]? = some v → kindOf x ≠ some .local →
    bindC kindOf (P.zip vs) m x = some v
  | [], _, _, _, _, h, _, _ => by simp at h
  | _ :: _, [], _, _, _, _, h, _ => by simp at h
  | p :: P, w :: vs, 0, m, nd, h1, h2, hk => by
    simp at h1 h2; subst h1; subst h2
    show bindC kindOf ((p, w) :: P.zip vs) m p = _
    unfold bindC
    rw [bindC_out fun v hv => (List.nodup_cons.mp nd).1 (List.of_mem_zip hv).1, if_neg hk]
    simp
  | p :: P, w :: vs, i + 1, m, nd, h1, h2, hk => by
    show bindC kindOf ((p, w) :: P.zip vs) m x = _
    unfold bindC
    exact bindC_get (i := i) (List.nodup_cons.mp nd).2 (by simpa using h1) (by simpa using h2) hk

/-- the names' values at the entry -/
def start (N : List Str) (vs : List V) : St := vs.map some ++ List.replicate (N.length - vs.length) none

/-- the context of a def's body, at its entry; an exception leaves the frame, then lies as CX says -/
def cxOf (CX : CXT) (P : Program) (w : World) (K : PySem.W.Frag) (mg : Str → Option Value) (base : Heap) (N : List Str) (qual : Str) (scope : Scope) (f : Addr) (cd : Value) (A : Around) (outer : List Env) (s : Shared) (H : Hp) (E : XK) : Cx where
  prog := P
  w := w
  K := K
  mg := mg
  base := base
  A := A.deeper (envOfC qual scope s.heap.objs.size f cd)
  N := N
  s₀ := s
  H₀ := H
  env := envOfC qual scope s.heap.objs.size f cd
  outer := outer
  stack := envOfC qual scope s.heap.objs.size f cd :: outer
  ex := []
  calm := true
  fn := fun _ => true
  pn := []
  xe := fun e s' => wpAny (model P w) (A.deeper (envOfC qual scope s.heap.objs.size f cd)) (leaving (envOfC qual scope s.heap.objs.size f cd) e) (fun _ s'' => CX outer H s E e s'') (fun e' s'' => CX outer H s E e' s'') s'

theorem cell_has {sc : Scope} {n : Nat} {x : Str} (h : sc.names.lookup x = some .cell) : ∃ c, (cellsFrom n sc.names []).lookup x = some c := by
  have q := PySem.W.cellsFrom_some sc.names n [] (.inl h)
  exact Option.isSome_iff_exists.mp q

theorem inv_start {CX : CXT} {P : Program} {w : World} {K : PySem.W.Frag} {mg : Str → Option Value} {base : Heap} {N ps : List Str} {qual : Str} {scope : Scope} {f : Addr} {cd : Value} {A : Around} {outer : List Env} {s s1 : Shared} {H : Hp} {E : XK} {us : List Value} {vs : List V}
    (S : FnScope N ps scope) (hd : A.handled = none) (e0 : Env0 P w K mg base A outer s H) (hl : vs.length = ps.length) (r : Vals vs us)
    (x : InCallC s s.heap.objs.size (bindL (envOfC qual scope s.heap.objs.size f cd).kindOf (ps.zip us) fun _ => none) (cellsFrom (s.heap.objs.size + 1) scope.names []) (bindC (envOfC qual scope s.heap.objs.size f cd).kindOf (ps.zip us) fun _ => none) s1) :
    Inv (cxOf CX P w K mg base N qual scope f cd A outer s H E) [] (start N vs) H s1 := by
  have hpl : ps.length ≤ N.length := by have := congrArg List.length S.pre; rw [List.length_take] at this; omega
  obtain ⟨h1, tk, rfl, hk⟩ := x.done
  have noA : ∀ b : Addr, b ∉ (cxOf CX P w K mg base N qual scope f cd A outer s H E).ex := fun b z => absurd (show b ∈ ([] : List Addr) from z) (by simp)
  refine ⟨⟨e0.mod, S.kind, rfl, rfl, Nat.le_refl _, fun y z c h1 h2 => ?_, fun y hy => ?_, fun y c _ h => ?_, fun _ => hd, Around.frames_deeper e0.frames, .inr ⟨rfl, rfl⟩, fun b z => absurd z (noA b), e0.bs, e0.bsz, fun b _ _ => noA b, fun b z => absurd z (noA b), e0.funs, e0.frf⟩,
    rfl, e0.bare, Un.kept hk, ⟨_, x.toInCall.ns, fun i y v h1 h2 h3 => ?_⟩, fun y c h => ⟨_, x.cell y c h⟩, e0.hok.fresh (Nat.le_refl _), fun y c h => ?_, fun p hp => absurd (show p ∈ ([] : List (Addr × Obj)) from hp) (by simp), e0.hok.kept hk, ?_⟩
  · exact name_of_addr x.apart (PySem.mem_of_lookup h1) (PySem.mem_of_lookup h2)
  · have hy : scope.names.lookup y = some .cell ∨ scope.names.lookup y = some .free := hy
    rcases hy with hy | hy
    · exact cell_has hy
    · exact absurd rfl (S.nofree _ (PySem.mem_of_lookup hy))
  · exact Nat.le_of_lt (x.above y c (PySem.mem_of_lookup h))
  · have hi : i < vs.length := by
      unfold start at h2
      by_cases hi : i < vs.length
      · exact hi
      · rw [List.getElem?_append_right (by simpa using hi)] at h2
        rw [List.getElem?_replicate] at h2
        split at h2 <;> cases h2
    have ha : vs[i]? = some v := by
      unfold start at h2
      rw [List.getElem?_append_left (by simpa using hi), List.getElem?_map] at h2
      cases e : vs[i]? with
      | none => rw [e] at h2; cases h2
      | some a => rw [e] at h2; cases h2; rfl
    obtain ⟨u, hu, rv⟩ := r.get ha
    have hp : ps[i]? = some y := by
      rw [← S.pre, List.getElem?_take_of_lt (by omega)]; exact h1
    have ndP : ps.Nodup := by rw [← S.pre]; exact S.nd.sublist (List.take_sublist _ _)
    refine ⟨u, rv, ?_⟩
    rcases S.par y (List.mem_of_getElem? hp) with k | k
    · exact .inl ⟨k, bindL_get ndP hp hu k⟩
    · obtain ⟨c, e⟩ := cell_has (n := s.heap.objs.size + 1) k
      refine .inr ⟨.inl k, c, e, ?_⟩
      have q := x.cell y c e
      rw [bindC_get ndP hp hu (by show scope.names.lookup y ≠ _; rw [k]; decide)] at q
      exact q
  · exact e0.hok.fresh (Nat.le_of_lt (x.above y c (PySem.mem_of_lookup h)))
  · unfold start
    show _ = N.length
    rw [List.length_append, List.length_map, List.length_replicate]
    omega

/-- THE RULE: a def (or a method) of the text, by its body. The body's reading t is chosen for each entry; it is run at the parameters' values -/
theorem fn_of {CX : CXT} {P : Program} {w : World} {K : PySem.W.Frag} {mg : Str → Option Value} {base : Heap} {k : Nat} {f : Addr} {name qual : Str} {params : Arguments} {body : List Stmt} {scope : Scope} {dV kV doc pm cdv ct oc : Value} {an od : Option Addr}
    {osl : Array (Option Value)} {N ps : List Str} {sp : Sp} (lk : K.lookup f = some ⟨oc, od, .func (PySem.W.fnOf name qual params body scope dV kV doc pm an cdv ct), osl⟩) (hcd : PySem.W.codeIn K cdv qual = true) (S : FnScope N ps scope)
    (len : ∀ vs H Q E, sp vs H Q E → vs.length = ps.length)
    (hbody : ∀ (A : Around) (outer : List Env) (s : Shared) (H : Hp) (vs : List V) (Q : VK) (E : XK), Room k (A.deeper (envOfC qual scope s.heap.objs.size f cdv)) → sp vs H Q E →
      ∃ t, PSs (cxOf CX P w K mg base N qual scope f cdv A outer s H E) body t ∧ t { nx := fun _ H' => Q .non H', rt := Q } (start N vs) H) :
    FnOk P w K mg base CX (k + 1) f (PySem.W.fnOf name qual params body scope dV kV doc pm an cdv ct) ps sp := by
  refine ⟨len, fun A outer s H args us vs Q E hr e0 hb r hsp => ?_⟩
  have hl := len _ _ _ _ hsp
  have KX : K.In s.heap := e0.mod.kin.keeps fun b o e => (e0.bs b o e).1
  have lim : s.heap.NoLimit := e0.mod.nolimit.keeps fun b o e => (e0.bs b o e).1
  have hkind : ∀ y ∈ ps.zip us, scope.names.lookup y.1 = some .local ∨ (scope.names.lookup y.1 = some .cell ∧ ((cellsFrom (s.heap.objs.size + 1) scope.names []).lookup y.1).isSome = true) := fun ⟨n, v⟩ hy => by
    rcases S.par n (List.of_mem_zip hy).1 with q | q
    · exact .inl q
    · exact .inr ⟨q, PySem.W.cellsFrom_some _ _ _ (.inl q)⟩
  refine codeAny_call_function hr.depth (KX _ _ lk) rfl S.co S.gen rfl (PySem.W.codeRec_of KX hcd) (hb _ _ _ _ ?_)
  refine wpAny_newFunctionEnv_cells S.kind hkind fun env he s1 x => ?_
  subst he
  refine ⟨lim.keeps x.toInCall.keep, codeAny_func ?_⟩
  obtain ⟨t, ht, hq⟩ := hbody A outer s H vs Q E (hr.deeper _) hsp
  have I : Inv (cxOf CX P w K mg base N qual scope f cdv A outer s H E) [] (start N vs) H s1 := inv_start S hr.hd e0 hl r x
  refine wpAny_mono (ht [] s1 (start N vs) H _ I hq) (fun fl s' hs => ?_) fun e s' hs => hs
  have fin : ∀ {σ' : St} {H' : Hp} {v : V} {u : Value}, Inv (cxOf CX P w K mg base N qual scope f cdv A outer s H E) [] σ' H' s' → RelV v u → Q v H' → CE outer P w H s Q u s' :=
    fun {σ' H' v u} J rv q => ⟨v, H', J.os, J.bare, J.base, J.hok, rv, q⟩
  cases fl with
  | ret u =>
    obtain ⟨v, σ', H', J, rv, q⟩ := hs
    exact fin J rv q
  | next =>
    obtain ⟨σ', H', J, q⟩ := hs
    exact fin (v := V.non) (u := Value.none) J rfl q
  | brk =>
    obtain ⟨_, _, _, q⟩ := hs
    exact False.elim q
  | cont =>
    obtain ⟨_, _, _, q⟩ := hs
    exact False.elim q
end L2

namespace L2
open PySem PySem.Spec PyProof.Rows
section
variable {X : Cx} {x : Str} {p pos : Pos} {e : Expr} {es : List Expr} {t : TA} {id T : String} {r : List V → Hp → VK → Prop}

def tCB (r : List V → Hp → VK → Prop) (t : TA) : TE := fun σ H Q => t σ H fun vs H1 => r vs H1 Q
/-- f(e, ..), f a built-in function -/
theorem pe_callB (hc : CallR X (.builtin id) r) (hg : Gl X x) (hm : X.mg x = none) (hv : bootBuiltins x = some (.builtin id)) (ha : PA X (e :: es) t) (hn : x ≠ "__name__" := by decide) (hdb : (x == ("__debug__" : Str)) = false := by decide)
    (he : starEach (e :: es) X.env = (false, eval e X.env) :: starEach es X.env := by rfl) (hpl : (backTo pos (starEach es X.env)).any (·.1) = false := by rfl) : PE X (.Call (.Name x p) (e :: es) [] pos) (tCB r t) := .mk <| by
  intro pins s σ H Q I h
  refine wpAny_Call_Name_kw (ld_blt I hg hm hv ?_ hn hdb)
  exact PyProof.Rows.callWith_builtin1 (thn (ha pos pins s σ H _ I h) fun us s1 ⟨vs, H1, I1, r1, q1⟩ => hc pins s1 σ H1 vs us Q I1 r1 q1) he hpl
/-- T(e, ..), T a built-in type -/
theorem pe_callTy (hc : CallR X (.type T) r) (hg : Gl X x) (hm : X.mg x = none) (hv : bootBuiltins x = some (.type T)) (ha : PA X (e :: es) t) (hn : x ≠ "__name__" := by decide) (hdb : (x == ("__debug__" : Str)) = false := by decide)
    (he : starEach (e :: es) X.env = (false, eval e X.env) :: starEach es X.env := by rfl) (hpl : (backTo pos (starEach es X.env)).any (·.1) = false := by rfl) : PE X (.Call (.Name x p) (e :: es) [] pos) (tCB r t) := .mk <| by
  intro pins s σ H Q I h
  refine wpAny_Call_Name_kw (ld_blt I hg hm hv ?_ hn hdb)
  exact PyProof.Rows.callWith_type1 (thn (ha pos pins s σ H _ I h) fun us s1 ⟨vs, H1, I1, r1, q1⟩ => hc pins s1 σ H1 vs us Q I1 r1 q1) he hpl
end
end L2

namespace HT
open PySem PyProof.Rows

section
open PySem.SeqAt
open PySem.AutoSeq1 (wpAny_loadPart')
open PySem.MeetsSeq PySem.MeetsSeq2 PySem.MeetsSeq3

end

section
variable {prog : Program} {w : World} {A : Around} {E : Value → Shared → Prop} {s : Shared}

/-! ### t[a:b], not the whole -/
/-- a slice's bound as a place among n (d where it is left out) -/
def sIx (n d : Nat) : Option Int → Nat
  | none => d
  | some v => if v < 0 then (v + (n : Int)).toNat else min v.toNat n
theorem sIx_nat (n d k : Nat) : sIx n d (some (k : Int)) = min k n := by
  show (if (k : Int) < 0 then ((k : Int) + (n : Int)).toNat else min (k : Int).toNat n) = min k n
  rw [if_neg (by omega), Int.toNat_natCast]
end
end HT

namespace L2
open PySem PySem.Spec PyProof.Rows

/-! ### the parts of a slice -/
abbrev TO := St → Hp → (Option Int → Hp → Prop) → Prop
/-- a slice's part (left out, or an int) -/
def PO (X : Cx) (e : Option Expr) (t : TO) : Prop :=
  ∀ (pins : List (Addr × Obj)) (s : Shared) (σ : St) (H : Hp) (Q : Option Int → Hp → Prop), Inv X pins σ H s → t σ H Q →
    wpAny (model X.prog X.w) X.A (evalPart e X.env) (fun u s' => ∃ o H', Inv X pins σ H' s' ∧ IsPart u o ∧ Q o H') X.xe s
def tNoPart : TO := fun _ H Q => Q none H
def tPart (t : TE) : TO := fun σ H Q => t σ H fun x H1 => ∃ i, x = .int i ∧ Q (some i) H1

section
variable {X : Cx} {e : Expr} {te : TE} {lo hi : Option Expr} {tl th : TO} {pos p2 : Pos}

theorem po_none : PO X none tNoPart := by
  intro pins s σ H Q I h
  rw [evalPart_none]
  exact wpAny_pure ⟨none, H, I, .none, h⟩
theorem po_some (h : PE X e te) : PO X (some e) (tPart te) := by
  intro pins s σ H Q I hw
  rw [evalPart_some]
  refine thn (h pins s σ H _ I hw) fun u s1 ⟨x, H1, I1, r1, q1⟩ => ?_
  obtain ⟨i, rfl, q⟩ := q1
  obtain ⟨t, rfl⟩ := r1
  exact ⟨some i, H1, I1, .int i t, q⟩

/-- what a slice of a value is, by values: the slice object stands at sl -/
def SlR (X : Cx) (r : V → Option Int → Option Int → Hp → VK → Prop) : Prop :=
  ∀ (pins : List (Addr × Obj)) (s : Shared) (σ : St) (H : Hp) (x : V) (v vl vu : Value) (lo hi : Option Int) (sl : Addr) (Q : VK), Inv X pins σ H s → RelV x v → s.heap.IsSliceOf sl vl vu .none → IsPart vl lo → IsPart vu hi → r x lo hi H Q →
    ∃ T id, typeLookup (.type T) "__getitem__" = pure (some (.builtin id)) ∧ s.TypeIs v T ∧ wpAny (model X.prog X.w) X.A (getItem v (.ref sl)) (EP X pins σ Q) X.xe s
def tSl (r : V → Option Int → Option Int → Hp → VK → Prop) (te : TE) (tl th : TO) : TE := fun σ H Q => te σ H fun x H1 => tl σ H1 fun l H2 => th σ H2 fun u H3 => r x l u H3 Q
/-- a[lo:hi], any a -/
theorem pe_slice {r : V → Option Int → Option Int → Hp → VK → Prop} (hr : SlR X r) (he : PE X e te) (hl : PO X lo tl) (hu : PO X hi th) : PE X (.Subscript e (.Slice lo hi none p2) pos) (tSl r te tl th) := .mk <| by
  intro pins s σ H Q I h
  refine Subscript_ (thn (he pins s σ H _ I h) fun v s1 ⟨x, H1, I1, r1, q1⟩ => ?_)
  refine wpAny_Slice (thn (hl pins s1 σ H1 _ I1 q1) fun vl s2 ⟨l, H2, I2, pl, q2⟩ => thn (hu pins s2 σ H2 _ I2 q2) fun vu s3 ⟨u, H3, I3, pu, q3⟩ => ?_)
  rw [evalPart_none]
  refine wpAny_pure ?_
  have I4 : Inv X pins σ H3 { s3 with heap := s3.heap.push { cls := .type "slice", data := .fields #[vl, vu, .none] } } := I3.kept (t' := s3.toks) fun b ob q => Heap.get?_push_of_some _ q
  obtain ⟨T, id, hT, ht, hg⟩ := hr pins { s3 with heap := s3.heap.push { cls := .type "slice", data := .fields #[vl, vu, .none] } } σ H3 x v vl vu l u s3.heap.objs.size Q I4 r1 (Heap.IsSliceOf.new ..) pl pu q3
  show wpAny (model X.prog X.w) X.A (subscriptTail e (.Slice lo hi none p2) v (.ref s3.heap.objs.size)) (EP X pins σ Q) X.xe { s3 with heap := s3.heap.push { cls := .type "slice", data := .fields #[vl, vu, .none] } }
  exact tail_any (ops := [.ref s3.heap.objs.size, v]) ht hT hg (by with_unfolding_all rfl)

/-- the items of xs[lo:hi] -/
def cutV (xs : List V) (lo hi : Option Int) : List V := (xs.drop (HT.sIx xs.length 0 lo)).take (HT.sIx xs.length xs.length hi - HT.sIx xs.length 0 lo)
theorem cutV_length (xs : List V) (lo hi : Option Int) : (cutV xs lo hi).length ≤ xs.length := by
  unfold cutV
  rw [List.length_take, List.length_drop]
  omega
/-! ### t < u, t + u -/
end
end L2

namespace L2
open PySem PySem.Spec PyProof.Rows

/-! ### places -/
/-- the place that an index of any sign means -/
def ixN (n : Nat) (i : Int) : Option Nat := if 0 ≤ i then (if i < n then some i.toNat else none) else if -(n : Int) ≤ i then some (i + n).toNat else none
def atI {α : Type} (xs : List α) (i : Int) : Option α := (ixN xs.length i).bind fun j => xs[j]?
theorem ixN_seq {n : Nat} {i : Int} {j : Nat} (h : ixN n i = some j) : seqIndex? i n = some j ∧ j < n ∧ -(n : Int) ≤ i ∧ i < n := by
  unfold ixN at h
  by_cases h0 : 0 ≤ i
  · rw [if_pos h0] at h
    by_cases h1 : i < n
    · rw [if_pos h1] at h
      have e : i.toNat = j := Option.some.inj h
      exact ⟨by rw [seqIndex_of h0 h1, e], by omega, by omega, h1⟩
    · rw [if_neg h1] at h; cases h
  · rw [if_neg h0] at h
    by_cases h1 : -(n : Int) ≤ i
    · rw [if_pos h1] at h
      have e : (i + n).toNat = j := Option.some.inj h
      exact ⟨by rw [seqIndex_neg (by omega) h1, e], by omega, h1, by omega⟩
    · rw [if_neg h1] at h; cases h
theorem atI_get {α : Type} {xs : List α} {i : Int} {v : α} (h : atI xs i = some v) : ∃ j, seqIndex? i xs.length = some j ∧ xs[j]? = some v ∧ j < xs.length ∧ -(xs.length : Int) ≤ i ∧ i < xs.length := by
  unfold atI at h
  cases e : ixN xs.length i with
  | none => rw [e] at h; cases h
  | some j =>
    rw [e] at h
    obtain ⟨h1, h2, h3, h4⟩ := ixN_seq e
    exact ⟨j, h1, h, h2, h3, h4⟩
theorem atI_nat {α : Type} {xs : List α} {j : Nat} {v : α} (h : xs[j]? = some v) : atI xs (j : Int) = some v := by
  have hj : j < xs.length := (List.getElem?_eq_some_iff.mp h).1
  have e : ixN xs.length (j : Int) = some j := by
    unfold ixN
    rw [if_pos (by omega), if_pos (by omega)]; simp
  unfold atI; rw [e]; exact h
/-! ### what may be subscripted -/
/-- what stands as an index of a plain subscript -/
def PlainIx (b : Expr) : Prop := ∀ o i, subscripted b false o i = operate [o, i] (getItem o i)
/-- a subscript by values -/
def IxR (X : Cx) (r : R2) : Prop :=
  ∀ (value slice : Expr) (pins : List (Addr × Obj)) (s : Shared) (σ : St) (H : Hp) (x y : V) (v u : Value) (Q : VK), Inv X pins σ H s → RelV x v → RelV y u → r x y H Q →
    subscripted slice false v u = operate [v, u] (getItem v u) → wpAny (model X.prog X.w) X.A (subscriptTail value slice v u) (EP X pins σ Q) X.xe s
/-- a call of a builtin's method by values: the receiver, the arguments -/
def MtR (X : Cx) (id : String) (r : V → List V → Hp → VK → Prop) : Prop :=
  ∀ (pins : List (Addr × Obj)) (s : Shared) (σ : St) (H : Hp) (x : V) (xs : List V) (v : Value) (us : List Value) (Q : VK), Inv X pins σ H s → RelV x v → Vals xs us → r x xs H Q →
    wpAny (model X.prog X.w) X.A (call (.builtin id) (v :: us)) (EP X pins σ Q) X.xe s
section
variable {X : Cx} {a b : Expr} {ta tb : TE} {pos : Pos}
/-- a[b] -/
theorem pe_ix {r : R2} (hr : IxR X r) (ha : PE X a ta) (hb : PE X b tb) (hs : PlainIx b) : PE X (.Subscript a b pos) (tOp r ta tb) := .mk <| by
  intro pins s σ H Q I h
  exact Subscript_ (binT ha hb I h fun v u s2 x y H2 I2 rx ry q => hr a b pins s2 σ H2 x y v u Q I2 rx ry q (hs _ _))

def rIxL (K : PySem.W.Frag) : R2 := fun x y H Q => ∃ p xs i v, x = .ref p ∧ y = .int i ∧ SqL K H p xs ∧ atI xs i = some v ∧ Q v H
def rIxT (K : PySem.W.Frag) : R2 := fun x y H Q => ∃ p xs i v, x = .ref p ∧ y = .int i ∧ SqT K H p xs ∧ atI xs i = some v ∧ Q v H
def rIxS : R2 := fun x y H Q => ∃ z i c, x = .str z ∧ y = .int i ∧ z.length ≤ sizeLine ∧ atI z.cps.toList i = some c ∧ Q (.str ⟨#[c]⟩) H
theorem ix_list : IxR X (rIxL X.K) := by
  intro value slice pins s σ H x y v u Q I rx ry h hs
  obtain ⟨p, xs, i, z, rfl, rfl, hq, he, q⟩ := h
  cases rx
  obtain ⟨t, rfl⟩ := ry
  obtain ⟨its, r, pl, hz⟩ := I.list hq
  obtain ⟨j, h1, h2, h3, h4, h5⟩ := atI_get he
  obtain ⟨w, ew, rw'⟩ := r.get h2
  have hl := r.length
  have hn := line63
  have fin : EP X pins σ Q w s := ⟨z, H, I, rw', q⟩
  by_cases h0 : 0 ≤ i
  · have hj : i.toNat = j := by
      rw [seqIndex_of h0 h5] at h1
      exact Option.some.inj h1
    exact item_listR pl.isList h0 (by omega) (by rw [hj]; simpa using ew) fin hs
  · have hj : (i + (its.toArray.size : Int)).toNat = j := by
      rw [seqIndex_neg (by omega) h4] at h1
      rw [List.size_toArray, ← hl]
      exact Option.some.inj h1
    exact subscriptTail_builtinR (x := w) pl.isList.typeIs slot_list_getitem.lookup
      (wpAny_getItem_list_neg (Q := fun r s' => r = w ∧ EP X pins σ Q r s') pl.isList (by omega) (by rw [List.size_toArray] <;> omega) (by omega) (by rw [hj]; simpa using ew) ⟨rfl, fin⟩) hs
theorem ix_tup : IxR X (rIxT X.K) := by
  intro value slice pins s σ H x y v u Q I rx ry h hs
  obtain ⟨p, xs, i, z, rfl, rfl, hq, he, q⟩ := h
  cases rx
  obtain ⟨t, rfl⟩ := ry
  obtain ⟨its, r, pl, hz⟩ := I.tuple hq
  obtain ⟨j, h1, h2, h3, h4, h5⟩ := atI_get he
  obtain ⟨w, ew, rw'⟩ := r.get h2
  have hl := r.length
  have hn := line63
  have fin : EP X pins σ Q w s := ⟨z, H, I, rw', q⟩
  exact subscriptTail_builtinR (x := w) pl.typeIs slot_tuple_getitem.lookup
    (getItem_tuple (j := j) (Q := fun r s' => r = w ∧ EP X pins σ Q r s') pl (by omega) (by omega) (by rw [List.size_toArray, ← hl]; exact h1) (by simpa using ew) ⟨rfl, fin⟩) hs
theorem ix_str : IxR X rIxS := by
  intro value slice pins s σ H x y v u Q I rx ry h hs
  obtain ⟨z, i, c, rfl, rfl, hz, he, q⟩ := h
  obtain ⟨t, rfl⟩ := rx
  obtain ⟨t', rfl⟩ := ry
  obtain ⟨j, h1, h2, h3, h4, h5⟩ := atI_get he
  have hl : z.cps.toList.length = z.length := by simp [Str.length]
  rw [hl] at h1 h4 h5
  have hn := line63
  exact tail_any (typeIs_str s z t) slot_str_getitem.lookup (getItem_str (c := c) (by
    have e1 : decide (i < -(2 ^ 63 : Int)) = false := decide_eq_false (by omega)
    have e2 : decide (i ≥ 2 ^ 63) = false := decide_eq_false (by omega)
    rw [e1, e2, Bool.or_false]) (by rw [h1]; simpa using h2) ⟨.str ⟨#[c]⟩, H, I.tok _, ⟨_, rfl⟩, q⟩) hs
/-! ### xs[i] = v, any sign -/
/-! ### slices -/
theorem slice_bounds (lo hi : Option Int) (n : Nat) : (sliceBounds lo hi none n).1 = ((HT.sIx n 0 lo : Nat) : Int) ∧ (sliceBounds lo hi none n).2.1 = ((HT.sIx n n hi : Nat) : Int) ∧ (sliceBounds lo hi none n).2.2 = 1 := by
  refine ⟨?_, ?_, rfl⟩
  · cases lo with
    | none => simp [sliceBounds, HT.sIx]
    | some i =>
      simp only [sliceBounds, HT.sIx, Option.getD_none, show (1 : Int) > 0 by decide, if_true]
      by_cases h : i < 0
      · simp only [h, if_true] <;> omega
      · simp only [h, if_false] <;> omega
  · cases hi with
    | none => simp [sliceBounds, HT.sIx]
    | some i =>
      simp only [sliceBounds, HT.sIx, Option.getD_none, show (1 : Int) > 0 by decide, if_true]
      by_cases h : i < 0
      · simp only [h, if_true] <;> omega
      · simp only [h, if_false] <;> omega
theorem slicePick_cut (its : List Value) (lo hi : Option Int) : slicePick its.toArray lo hi none = ((its.drop (HT.sIx its.length 0 lo)).take (HT.sIx its.length its.length hi - HT.sIx its.length 0 lo)).toArray := by
  obtain ⟨h1, h2, h3⟩ := slice_bounds lo hi its.toArray.size
  unfold slicePick
  rw [h1, h2, h3]
  simp only [sliceRange_one, pick_run, List.size_toArray] <;> rfl
/-- xs[lo:hi] of a list: a new list -/
def rSlL (K : PySem.W.Frag) : V → Option Int → Option Int → Hp → VK → Prop := fun x lo hi H Q => ∃ a xs, x = .ref a ∧ SqL K H a xs ∧ ∀ p, H p = none → Q (.ref p) (upd H p (.lst (cutV xs lo hi)))
theorem sl_list : SlR X (rSlL X.K) := by
  intro pins s σ H x v vl vu lo hi sl Q I rx hs pl pu h
  obtain ⟨a, xs, rfl, hx, q⟩ := h
  cases rx
  obtain ⟨its, r, ht, hz⟩ := I.list hx
  have hlen := r.length
  refine ⟨"list", _, slot_list_getitem.lookup, ht.isList.typeIs, ?_⟩
  refine wpAny_getItem_list_slice ht.isList hs pl pu .none (by simp) ?_ (by rw [List.size_toArray] <;> omega)
  rw [slicePick_cut, ← hlen]
  refine ⟨.ref s.heap.objs.size, _, I.laid (t' := s.toks) (o := .lst (cutV xs lo hi)) (fun b ob q => Heap.get?_push_of_some _ q) (Nat.le_refl _) ?_, rfl, q _ (I.hok.fresh (Nat.le_refl _))⟩
  exact ⟨Nat.le_trans (cutV_length xs lo hi) hz, _, 0, (r.drop (HT.sIx xs.length 0 lo)).take (HT.sIx xs.length xs.length hi - HT.sIx xs.length 0 lo), Heap.get?_push_size _ rfl⟩

/-! ### in, not in: flat items -/
/-! ### len, list(x), tuple(x) of any list or tuple that is read -/
theorem call_len_seq : CallR X (.builtin "len") (fun xs H Q => ∃ p ys, xs = [.ref p] ∧ (SqL X.K H p ys ∨ SqT X.K H p ys) ∧ Q (.int ys.length) H) := by
  intro pins s σ H xs us Q I r h
  obtain ⟨p, ys, rfl, hq, q⟩ := h
  obtain ⟨u, rfl, rx⟩ := vals1 r
  cases rx
  have hn := line63
  rcases hq with hq | hq
  · obtain ⟨its, r', pl, hz⟩ := I.list hq
    have hlen := r'.length
    exact Calls.call_len_list pl.isList (by simp only [List.size_toArray] <;> omega) ⟨.int ys.length, H, I.tok _, ⟨s.toks + 1, by rw [List.size_toArray, hlen]⟩, q⟩
  · obtain ⟨its, r', pl, hz⟩ := I.tuple hq
    have hlen := r'.length
    exact len_tuple pl (by simp only [List.size_toArray] <;> omega) ⟨.int ys.length, H, I.tok _, ⟨s.toks + 1, by rw [List.size_toArray, hlen]⟩, q⟩
theorem call_list_of : CallR X (.type "list") (fun xs H Q => ∃ p ys, xs = [.ref p] ∧ (SqL X.K H p ys ∨ SqT X.K H p ys) ∧ ∀ l, H l = none → Q (.ref l) (upd H l (.lst ys))) := by
  intro pins s σ H xs us Q I r h
  obtain ⟨p, ys, rfl, hq, q⟩ := h
  obtain ⟨u, rfl, rx⟩ := vals1 r
  cases rx
  have fin : ∀ (its : List Value), Vals ys its → ys.length ≤ sizeLine → ∀ (h' : Heap) (c' : Nat), (∀ b o', s.heap.get? b = some o' → h'.get? b = some o') →
      h'.get? s.heap.objs.size = some { cls := .type "list", dict := none, data := .seq its.toArray c', slots := #[] } → EP X pins σ Q (.ref s.heap.objs.size) { s with heap := h' } := fun its r' hz h' c' kp e =>
    ⟨.ref s.heap.objs.size, _, I.laid (t' := s.toks) kp (Nat.le_refl _) (show ObjOk X.prog X.w _ h' _ (.lst ys) from ⟨hz, its, c', r', e⟩), rfl, q _ (I.hok.fresh (Nat.le_refl _))⟩
  rcases hq with hq | hq
  · obtain ⟨its, r', pl, hz⟩ := I.list hq
    have hlen := r'.length
    obtain ⟨o, ho, hc, n, hd⟩ := pl.isList
    exact call_list_seq p (.inl rfl) ho hc hd (fun h' c' kp e => fin its r' hz h' c' kp e) (by simp only [List.size_toArray] <;> omega)
  · obtain ⟨its, r', pl, hz⟩ := I.tuple hq
    have hlen := r'.length
    obtain ⟨o, ho, hc, n, hd⟩ := pl
    exact call_list_seq p (.inr rfl) ho hc hd (fun h' c' kp e => fin its r' hz h' c' kp e) (by simp only [List.size_toArray] <;> omega)
theorem call_tuple_of : CallR X (.type "tuple") (fun xs H Q => ∃ p ys, xs = [.ref p] ∧ ((SqL X.K H p ys ∧ ∀ l, H l = none → Q (.ref l) (upd H l (.tup ys))) ∨ (SqT X.K H p ys ∧ Q (.ref p) H))) := by
  intro pins s σ H xs us Q I r h
  obtain ⟨p, ys, rfl, h⟩ := h
  obtain ⟨u, rfl, rx⟩ := vals1 r
  cases rx
  rcases h with ⟨hq, q⟩ | ⟨hq, q⟩
  · obtain ⟨its, r', pl, hz⟩ := I.list hq
    have hlen := r'.length
    refine call_tuple_list pl.isList (fun h' kp => ?_) (by simp only [List.size_toArray] <;> omega)
    have I1 : Inv X pins σ H { s with heap := h' } := I.kept (t' := s.toks) kp
    have I2 : Inv X pins σ (upd H h'.objs.size (.tup ys)) { s with heap := h'.push { cls := .type "tuple", data := .seq its.toArray } } :=
      I1.laid (t' := s.toks) (fun b o e => Heap.get?_push_of_some _ e) (Nat.le_refl _) (show ObjOk X.prog X.w _ _ _ (.tup ys) from ⟨hz, its, r', IsTup.new _ _⟩)
    exact ⟨.ref h'.objs.size, _, I2, rfl, q _ (I1.hok.fresh (Nat.le_refl _))⟩
  · obtain ⟨its, r', pl, hz⟩ := I.tuple hq
    exact call_tuple_same pl ⟨.ref p, H, I, rfl, q⟩

/-! ### the call of a builtin's method: o.m(..) -/
/-- the value is of that builtin type -/
def tyV (K : PySem.W.Frag) (T : String) (x : V) (H : Hp) : Prop := match x with
  | .str _ => T = "str"
  | .int _ => T = "int"
  | .ref p => (T = "list" ∧ ∃ xs, SqL K H p xs) ∨ (T = "tuple" ∧ ∃ o, K.lookup p = some o ∧ o.cls = .type "tuple" ∧ o.dict = none) ∨
      (T = "dict" ∧ ((∃ kvs, H p = some (.dK kvs)) ∨ ∃ kvs, H p = some (.dT kvs))) ∨ (T = "set" ∧ ∃ S n, H p = some (.set S n))
  | _ => False
theorem tyV_is {pins : List (Addr × Obj)} {σ : St} {H : Hp} {s : Shared} {T : String} {x : V} {v : Value} (I : Inv X pins σ H s) (r : RelV x v) (ty : tyV X.K T x H) :
    s.TypeIs v T ∧ ∀ a, v = .ref a → ∃ ob, s.heap.get? a = some ob ∧ ob.dict = none := by
  cases x with
  | str z =>
    obtain ⟨t, rfl⟩ := r
    cases (show T = "str" from ty)
    exact ⟨typeIs_str s z t, fun _ e => nomatch e⟩
  | int i =>
    obtain ⟨t, rfl⟩ := r
    cases (show T = "int" from ty)
    exact ⟨typeIs_int s i t, fun _ e => nomatch e⟩
  | ref p =>
    cases r
    rcases ty with ⟨rfl, xs, hq⟩ | ⟨rfl, o, hk, hc, hd⟩ | ⟨rfl, hk⟩ | ⟨rfl, S, n, hk⟩
    · obtain ⟨its, _, pl, _⟩ := I.list hq
      refine ⟨pl.isList.typeIs, fun a e => ?_⟩
      cases e
      obtain ⟨o, n, e, c, hd, _⟩ := pl
      exact ⟨o, e, hd⟩
    · refine ⟨⟨o, I.kIn p o hk, hc⟩, fun a e => ?_⟩
      cases e
      exact ⟨o, I.kIn _ o hk, hd⟩
    · have z : ∃ o, s.heap.get? p = some o ∧ o.ExactDict := by
        rcases hk with ⟨kvs, hk⟩ | ⟨kvs, hk⟩
        · obtain ⟨_, _, _, _, o, _, _, e, ex, _⟩ := I.hok p _ hk
          exact ⟨o, e, ex⟩
        · obtain ⟨_, _, _, _, o, _, _, e, ex, _⟩ := I.hok p _ hk
          exact ⟨o, e, ex⟩
      obtain ⟨o, e, ex⟩ := z
      refine ⟨⟨o, e, ex.1⟩, fun a e2 => ?_⟩
      cases e2
      exact ⟨o, e, ex.2.1⟩
    · obtain ⟨o, _, _, _, e, ex, _⟩ := I.hok p _ hk
      refine ⟨⟨o, e, ex.1⟩, fun a e2 => ?_⟩
      cases e2
      exact ⟨o, e, ex.2.1⟩
  | _ => exact False.elim ty
def tBM0 (K : PySem.W.Frag) (T : String) (r : V → List V → Hp → VK → Prop) (to : TE) : TE := fun σ H Q => to σ H fun x H1 => tyV K T x H1 ∧ r x [] H1 Q
def tBM (K : PySem.W.Frag) (T : String) (r : V → List V → Hp → VK → Prop) (to : TE) (t : TA) : TE := fun σ H Q => to σ H fun x H1 => tyV K T x H1 ∧ t σ H1 fun xs H2 => r x xs H2 Q
variable {o e : Expr} {es : List Expr} {to : TE} {t : TA} {name : Str} {apos cpos : Pos} {T id : String} {r : V → List V → Hp → VK → Prop}
theorem pe_bm0 (pa : PlainAttrs T) (slot : Slot T name id) (hty : typeOf (.builtin id) = pure (.type "method_descriptor")) (hm : MtR X id r) (ho : PE X o to)
    (hbase : attributeBase o name X.env (eval o X.env) = eval o X.env := by rfl) (hline : (apos.endLine == cpos.line) = true := by rfl) : PE X (.Call (.Attribute o name apos) [] [] cpos) (tBM0 X.K T r to) := .mk <| by
  intro pins s σ H Q I h
  refine wpAny_Call_method0_late hbase hline (thn (ho pins s σ H _ I h) fun v s1 ⟨x, H1, I1, r1, ty, q1⟩ => ?_)
  obtain ⟨h1, h2⟩ := tyV_is I1 r1 ty
  exact ⟨T, id, pa, slot, hty, h1, h2, Calls.callWith_builtin rfl (PySem.evalArgs_none (hm pins s1 σ H1 x [] v [] Q I1 r1 .nil q1))⟩
theorem pe_bm (pa : PlainAttrs T) (slot : Slot T name id) (hty : typeOf (.builtin id) = pure (.type "method_descriptor")) (hm : MtR X id r) (ho : PE X o to) (ha : PA X (e :: es) t)
    (hbase : attributeBase o name X.env (eval o X.env) = eval o X.env := by rfl)
    (hfew : ((backTo cpos (starEach (e :: es) X.env)).all (fun x => !x.1) && (backToKw cpos (keywordEach [] X.env)).all (fun x => x.1.isSome)
      && decide ((e :: es).length + ([] : List Keyword).length + (if ([] : List Keyword).isEmpty then 0 else 1) < 30)) = true := by rfl)
    (hline : (apos.endLine == cpos.line) = true := by rfl) (hs : starEach (e :: es) X.env = (false, eval e X.env) :: starEach es X.env := by rfl) (hplain : (backTo cpos (starEach es X.env)).any (·.1) = false := by rfl) :
    PE X (.Call (.Attribute o name apos) (e :: es) [] cpos) (tBM X.K T r to t) := .mk <| by
  intro pins s σ H Q I h
  refine wpAny_Call_method_late hbase hfew hline rfl (thn (ho pins s σ H _ I h) fun v s1 ⟨x, H1, I1, r1, ty, q1⟩ => ?_)
  obtain ⟨h1, h2⟩ := tyV_is I1 r1 ty
  refine ⟨T, id, pa, slot, hty, h1, h2, ?_⟩
  have hA := ha cpos pins s1 σ H1 _ I1 q1
  rw [hs] at hA ⊢
  refine Calls.callWith_builtin (by show (false || (backTo cpos (starEach es X.env)).any (·.1)) = false; rw [hplain] <;> rfl) (Calls.evalArgs_plain ?_)
  exact thn hA fun us s2 ⟨vs, H2, I2, r2, q2⟩ => hm pins s2 σ H2 x vs v us Q I2 r1 r2 q2
/- xs.append(e), list.index on a module's tuple .. are MtR facts of 06m -/
end
end L2

namespace L2
open PySem PySem.Spec PyProof.Rows

def MtM (X : Cx) (id : String) (r : V → List V → Hp → VK → Prop) : Prop :=
  ∀ (pins : List (Addr × Obj)) (s : Shared) (σ : St) (H : Hp) (x : V) (xs : List V) (v : Value) (us : List Value) (Q : VK), Inv X pins σ H s → RelV x v → Vals xs us → r x xs H Q →
    wpAny (model X.prog X.w) X.A (call (.builtin id) (v :: us)) (EP X pins σ Q) X.xe s

/-! ### lists of values -/
theorem Vals.one : ∀ {x : V} {us : List Value}, Vals [x] us → ∃ u, us = [u] ∧ RelV x u
  | _, _, .cons r .nil => ⟨_, rfl, r⟩
theorem Vals.two : ∀ {x y : V} {us : List Value}, Vals [x, y] us → ∃ u v, us = [u, v] ∧ RelV x u ∧ RelV y v
  | _, _, _, .cons r (.cons q .nil) => ⟨_, _, rfl, r, q⟩
theorem Vals.zero : ∀ {us : List Value}, Vals [] us → us = []
  | _, .nil => rfl
section
variable {X : Cx} {pins : List (Addr × Obj)} {σ : St} {H : Hp} {s : Shared} {l b : Addr} {xs ys zs : List V}

/-! ### the two steps: a tracked list is rewritten, a new list is laid -/
theorem Inv.lset {its its' : List Value} {n : Nat} {f : Array Value → Array Value} {t' : Nat} (I : Inv X pins σ H s) (hH : H l = some (.lst xs))
    (e : s.heap.get? l = some { cls := .type "list", data := .seq its.toArray n }) (hf : f its.toArray = its'.toArray) (hv : Vals ys its') (hz : ys.length ≤ sizeLine) :
    Inv X pins σ (upd H l (.lst ys)) { s with heap := s.heap.update l (Obj.mapSeq f), toks := t' } := by
  have q := PySem.IsL.update e f
  rw [hf] at q
  refine I.write (x := l) (e := l) (by rw [hH]; exact trivial) (.inl rfl) (fun b' u hb hu => (Heap.get?_update_other s.heap (Obj.mapSeq f) (Ne.symm hb)).trans hu) ⟨_, q⟩ ?_
  exact ⟨hz, its', _, hv, q⟩
theorem Inv.lnew {its : List Value} {t' : Nat} (I : Inv X pins σ H s) (hv : Vals ys its) (hz : ys.length ≤ sizeLine) :
    Inv X pins σ (upd H s.heap.objs.size (.lst ys)) { s with heap := s.heap.push { cls := .type "list", data := .seq its.toArray }, toks := t' } :=
  I.laid (fun _ _ q => Heap.get?_push_of_some _ q) (Nat.le_refl _) ⟨hz, its, 0, hv, Heap.get?_push_size _ rfl⟩
theorem Inv.lstM (I : Inv X pins σ H s) (hH : H l = some (.lst xs)) : xs.length ≤ sizeLine ∧ ∃ (its : List Value) (n : Nat), Vals xs its ∧ xs.length = its.length ∧ s.heap.get? l = some { cls := .type "list", data := .seq its.toArray n } := by
  obtain ⟨z, its, n, r, e⟩ := I.hok l _ hH
  exact ⟨z, its, n, r, r.length, e⟩

end

section
variable {X : Cx}

/-! ### methods -/
def rAppend : V → List V → Hp → VK → Prop := fun x vs H Q => ∃ l xs y, x = .ref l ∧ vs = [y] ∧ H l = some (.lst xs) ∧ xs.length < sizeLine ∧ Q .non (upd H l (.lst (xs ++ [y])))
theorem mt_append : MtM X "list.append" rAppend := by
  intro pins s σ H x vs v us Q I rx rv h
  obtain ⟨l, xs, y, rfl, rfl, hH, hz, q⟩ := h
  cases rx
  obtain ⟨u, rfl, ru⟩ := rv.one
  obtain ⟨z, its, n, r, hl, e⟩ := I.lstM hH
  refine call_meets F.slot_list_append ⟨_, e, rfl⟩ F.entry_list_append (F.args_list_append_2 _ _) (PySem.list_append l its.toArray n u (by rw [List.size_toArray]; omega)) ⟨e, ?_⟩
  refine ⟨.non, _, I.lset (its' := its ++ [u]) hH e (by simp) (r.append (.cons ru .nil)) ?_, rfl, q⟩
  rw [List.length_append, List.length_singleton]
  omega

/-! ### list + list, list += list, list * int -/
/-! ### del xs[i] -/
end

/-! ### xs[a:b] = ys -/
section
variable {prog : Program} {w : World} {A : Around} {E : Value → Shared → Prop} {s : Shared}
end

section
variable {X : Cx}
end
end L2

namespace Att
open PySem PySem.W PySem.Calls PyProof.Rows

/-! ### the script -/
theorem ints_of_wellAll {P : Params} {h : Heap} : ∀ (ns : List Int) (vs : List Value), WellAll P h vs (ns.map WData.int) → IntsAre vs ns := by
  intro ns
  induction ns with
  | nil =>
    intro vs w
    rw [List.map_nil] at w
    cases w
    exact .nil
  | cons n ns ih =>
    intro vs w
    rw [List.map_cons] at w
    cases w with
    | cons a b =>
      cases a
      exact .cons _ _ (ih _ b)

theorem script_of {l : OpenLaw} {n : Nat} (hn : l.most = some n) {P : Params} {h : Heap} {args : List WData} {vals : List Value}
    (hpre : l.row.toRowW.claim.pre args = true) (hwl : WellAll P h vals args) :
    ∃ a vs ns, vals = [Value.ref a] ∧ args = [WData.list (ns.map WData.int)] ∧ h.get? a = some { cls := .type "list", data := .seq vs.toArray } ∧ IntsAre vs ns ∧ ns.length ≤ n := by
  have hsh : WShape.hasAll [] args [.list .int] = true := (pre_splitW hpre).1
  have hc : l.pre.holds [] { args := args } = true := (pre_splitW hpre).2
  obtain ⟨d, r, rfl, h1, h2⟩ := hasAllW_cons hsh
  obtain rfl := hasAllW_nil h2
  obtain ⟨xs, rfl, h3⟩ := hasW_list h1
  obtain ⟨ns, rfl⟩ := items_int h3
  have hlen : ns.length ≤ n := by
    unfold OpenLaw.pre at hc
    have h4 : (WTm.not (.lt (.lit (.int (n : Int))) (.len (.arg 0)))).holds [] { args := [.list (ns.map .int)] } = true := by
      have h4 := (holds_andW hc).1
      rw [hn] at h4
      exact h4
    have h5 := condW_of h4 (w_not (w_lt w_lit (w_len_list (w_arg rfl))))
    rw [List.length_map] at h5
    refine Nat.le_of_not_lt fun q => ?_
    have q' : (n : Int) < ((ns.length : Nat) : Int) := by omega
    first
      | (rw [decide_eq_true q'] at h5; exact absurd h5 (by decide))
      | (simp at h5; omega)
  cases hwl with
  | cons w1 w2 =>
    cases w2
    cases w1 with
    | list ho hall => exact ⟨_, _, ns, rfl, rfl, ho, ints_of_wellAll ns _ hall, hlen⟩

theorem post_true (l : OpenLaw) (args : List WData) : l.row.toRowW.claim.post args (.bool true) args = true :=
  postW_of (r := l.row.toRowW) (X := (true == true))
    (show WShape.has [] (.bool true) .bool = true by first | rfl | decide | simp [WShape.has, WShape.arms, WShape.armsAll])
    (show (WTm.eq .res (.lit (.bool true))).value [] { args := args, res := some (.bool true), after := args } = some (.bool (true == true)) from w_eq_bool (w_res rfl) w_lit) rfl

/-! ### the attachment: holds_open's last premise (the goal 'hc' behind k_head) from a wpAny of the law's body -/
/-- the same from a codeAny of the CALL (for a layer whose function contracts speak of calls) -/
theorem attach_call {l : OpenLaw} {n : Nat} {q : Program} {loose : List Str} {XP : (Str → Option Value) → Heap → Prop} {YP : World → Heap → Prop} {d : DefRec}
    (hn : l.most = some n) (hdf : d.params.defaults = [])
    (call : ∀ (w : World) (s₀ s₁ : Shared) (mg mb : Str → Option Value) (fa : Addr) (o : Obj) (pm cd doc : Value) (a : Addr) (vs : List Value) (ns : List Int),
      Ground q loose [] XP w s₀ mg mb s₁.heap → YP w s₁.heap →
      s₁.heap.get? fa = some o → o.data = .func (docDef d.name d.params d.body d.scope pm cd doc) → s₁.heap.CodeRec cd d.name → mg d.name = some (.ref fa) →
      s₁.heap.get? a = some { cls := .type "list", data := .seq vs.toArray } → IntsAre vs ns → ns.length ≤ n → s₁.gens = #[] →
      codeAny (model l.prog w) callerA (.call (.ref fa) ⟨[.ref a], []⟩) (fun r s' => r = .ok (.ret (.bool true)) ∧ OldK s₁.heap s'.heap ∧ s'.os = s₁.os ∧ AllBare s'.gens) s₁) :
    WalkO q loose XP YP l.row.toRowW d [] (fun f vs => PySem.call f vs) := by
  intro w s₀ s₁ mg mb G Y fa o pm cd doc dV kV ho hd hcd hD hmg hg args vals as hpre hlay hrd hwl hlo
  obtain rfl : dV = .none := Dflts.none hD hdf
  obtain rfl : kV = .none := Dflts.noKw hD
  obtain ⟨a, vs, ns, rfl, rfl, hobj, hints, hlen⟩ := script_of hn hpre hwl
  refine enter_call (codeAny_mono (call w s₀ s₁ mg mb fa o pm cd doc a vs ns G Y ho (fd_plain hd) hcd hmg hobj hints hlen hg) fun r s' hq => ?_)
  obtain ⟨rfl, h2, h3, h4⟩ := hq
  exact ⟨.inl ⟨.bool true, .bool true, [], rfl, fun _ => rfl, .bool true, post_true l _, fun _ => ⟨List.Pairwise.nil, fun _ hm => (nomatch hm)⟩⟩, h2, h3, h4⟩

/-! ### rules over ANY heap (no ledger) from facts about the written part K: the library's own take a ledger (News) for what they write -/
section
variable {prog : Program} {w : World} {A : Around} {E : Value → Shared → Prop} {s : Shared} {K : Frag}

/-! the whole heap as the ledger: makes every rule that writes through a ledger a rule over any heap -/
end
end Att

namespace L2
open PySem PySem.Spec PyProof.Rows

theorem vals_ints : ∀ {vs : List Value} {ns : List Int}, IntsAre vs ns → Vals (ns.map V.int) vs
  | _, _, .nil => .nil
  | _, _, .cons n t h => .cons ⟨t, rfl⟩ (vals_ints h)

/-- nothing is tracked but the script, known to the object (or it is an object of the module) -/
def Only (H : Hp) : Prop := ∀ b, H b = none ∨ ∃ o xs, H b = some (.frz o (.lst xs))

/-- THE HEAD: the law's promise, at the heap behind the top. F, the promise of the law's def, may use that base is part of the heap (so K.In base, base.Ns mainGlobals mg stand in Mod) -/
theorem law_call {P : Program} {w : World} {K : PySem.W.Frag} {mg mb : Str → Option Value} {CX : CXT} {k : Nat} {fa a : Addr} {fd : FuncData} {x : Str} {sp : Sp} {s₁ : Shared} {vs : List Value} {ns : List Int}
    (KX : K.In s₁.heap) (hns : s₁.heap.Ns mainGlobals mg) (hb : s₁.heap.Ns builtinsNs mb) (hbb : ∀ x : Str, x ≠ "__name__" → mb x = bootBuiltins x) (hlim : s₁.heap.NoLimit) (hg : s₁.gens = #[])
    (ha : s₁.heap.get? a = some { cls := .type "list", data := .seq vs.toArray }) (hi : IntsAre vs ns) (hl : ns.length ≤ sizeLine) (hr : Room k callerA)
    (F : ∀ base : Heap, K.In base → base.Ns mainGlobals mg → FnOk P w K mg base CX k fa fd [x] sp) (hbind : ∀ (s : Shared) (u : Value), BindsTo s fd ⟨[u], []⟩ [(x, u)])
    (hsp : ∀ H : Hp, Only H → SqL K H a (ns.map V.int) → sp [.ref a] H (fun v _ => v = .bl true) fun _ _ _ => False)
    (hCX : ∀ H e s', CX [] H s₁ (fun _ _ _ => False) e s' → False) :
    codeAny (model P w) callerA (.call (.ref fa) ⟨[.ref a], []⟩) (fun r s' => r = .ok (.ret (.bool true)) ∧ OldK s₁.heap s'.heap ∧ s'.os = s₁.os ∧ AllBare s'.gens) s₁ := by
  have rv := vals_ints hi
  have lenV := hi.length
  -- from an abstract heap in which nothing but the script may be tracked
  have core : ∀ H : Hp, Only H → SqL K H a (ns.map V.int) → HOk P w H s₁.heap → (∀ b, H b ≠ none → b = a) → (H a ≠ none → K.lookup a = none) →
      codeAny (model P w) callerA (.call (.ref fa) ⟨[.ref a], []⟩) (fun r s' => r = .ok (.ret (.bool true)) ∧ OldK s₁.heap s'.heap ∧ s'.os = s₁.os ∧ AllBare s'.gens) s₁ := by
    intro H hO hS hok hA hK
    have base_of : ∀ {b : Addr} {o : Obj}, s₁.heap.get? b = some o → H b = none → (hidT s₁.heap H).get? b = some o := fun e n => hidT_get e n
    have noA : ∀ {b : Addr} {o : Obj} {es : Array DictEntry} {ep : Nat}, s₁.heap.get? b = some o → o.data = .dict es ep → H b = none := fun {b o es ep} e d => by
      cases q : H b with
      | none => rfl
      | some u =>
        have e' : b = a := hA b (by rw [q]; simp)
        subst e'
        rw [ha] at e; cases e
        have d' : Data.seq vs.toArray _ = Data.dict es ep := d
        cases d'
    have nsK : ∀ {b : Addr} {m : Str → Option Value}, s₁.heap.Ns b m → (hidT s₁.heap H).Ns b m := fun {b m} ⟨o, es, ep, e, d, r⟩ => ⟨o, es, ep, base_of e (noA e d), d, r⟩
    have hKb : K.In (hidT s₁.heap H) := fun b o e => base_of (KX b o e) (by
      cases q : H b with
      | none => rfl
      | some u =>
        have e' : b = a := hA b (by rw [q]; simp)
        subst e'
        rw [hK (by rw [q]; simp)] at e; cases e)
    have hM : Mod K mg (hidT s₁.heap H) := ⟨hKb, nsK hns, ⟨mb, nsK hb, hbb⟩, let ⟨mc, h1, h2⟩ := hlim; ⟨mc, nsK h1, h2⟩⟩
    have e0 : Env0 P w K mg (hidT s₁.heap H) callerA [] s₁ H := ⟨rfl, hM, fun b o e => of_hidT e, Nat.le_of_eq (hidT_size _ _), trivial, fun b hb => absurd (show b ∈ ([] : List Addr) from hb) (by simp), hok, .of_eq hg⟩
    refine codeAny_mono ((F _ hKb (nsK hns)).run callerA [] s₁ H ⟨[.ref a], []⟩ [.ref a] [.ref a] _ _ hr e0 (hbind s₁ (.ref a)) (.cons rfl .nil) (hsp H hO hS)) fun r s' h => ?_
    cases r with
    | error e => exact (hCX H e s' h).elim
    | ok fl =>
      cases fl with
      | next => exact False.elim h
      | brk => exact False.elim h
      | cont => exact False.elim h
      | ret u =>
        obtain ⟨v, H', os, bare, un, hok', r', q⟩ := h
        have q' : v = .bl true := q
        subst q'
        obtain rfl : u = Value.bool true := r'
        refine ⟨rfl, OldK.of_keep fun b o e => ?_, os, bare⟩
        cases q : H b with
        | none => exact un.keep b o e q (by intro z; exact absurd (show b ∈ ([] : List Addr) from z) (by simp)) (by simp)
        | some u =>
          rcases hO b with z | ⟨ob, xs, z⟩
          · rw [q] at z; cases z
          · have z2 := un.frzs b ob _ z
            obtain ⟨e1, _⟩ := hok b _ z
            obtain ⟨e2, _⟩ := hok' b _ z2
            rw [e] at e1; cases e1
            exact e2
  cases hk : K.lookup a with
  | some o =>
    -- the script is one of the module's own objects
    have e := KX a o hk
    rw [ha] at e
    cases e
    refine core (fun _ => none) (fun _ => .inl rfl) (.inr ⟨_, vs.toArray, _, hk, rfl, rfl, rfl, by rw [List.size_toArray, lenV]; exact hl, by simpa using rv⟩) (fun b u z => by have z' : (none : Option HO) = some u := z; cases z') (fun b z => absurd rfl z) fun z => absurd rfl z
  | none =>
    refine core (fun b => if b = a then some (.frz { cls := .type "list", data := .seq vs.toArray } (.lst (ns.map V.int))) else none) (fun b => ?_) (.inl (.inr ⟨{ cls := .type "list", data := .seq vs.toArray }, if_pos rfl⟩)) (fun b u z => ?_) (fun b z => ?_) fun _ => hk
    · by_cases hb : b = a
      · exact .inr ⟨_, _, if_pos hb⟩
      · exact .inl (if_neg hb)
    · by_cases hb : b = a
      · have z' := (if_pos hb).symm.trans z
        cases z'
        subst hb
        exact ⟨ha, by rw [List.length_map]; exact hl, vs, _, rv, ha⟩
      · have z' := (if_neg hb).symm.trans z
        cases z'
    · by_cases hb : b = a
      · exact hb
      · exact absurd (if_neg hb) z
end L2

namespace L2
open PySem PySem.Spec PyProof.Rows

/-- the goal that k_head leaves (case hc), from the law's promise. F gives the function object fd (K's own) once, then the promise over every base -/
theorem walk_of {l : PySem.W.OpenLaw} {n k : Nat} {q : Program} {loose : List Str} {XP : (Str → Option Value) → Heap → Prop} {YP : World → Heap → Prop} {d : DefRec} {K : Params → PySem.W.Frag} {CX : World → CXT} {sp : World → Sp} {x : Str}
    (hn : l.most = some n) (hn2 : n ≤ sizeLine) (hdf : d.params.defaults = []) (hr : Room k callerA)
    (hY : ∀ (w : World) (h : Heap), YP w h → (K w.params).In h)
    (F : ∀ (w : World) (mg : Str → Option Value) (fa : Addr) (h : Heap), (K w.params).In h → h.Ns mainGlobals mg → mg d.name = some (.ref fa) →
      ∃ fd : FuncData, (∀ (s : Shared) (u : Value), BindsTo s fd ⟨[u], []⟩ [(x, u)]) ∧
        ∀ base : Heap, (K w.params).In base → base.Ns mainGlobals mg → FnOk l.prog w (K w.params) mg base (CX w) k fa fd [x] (sp w))
    (hsp : ∀ (w : World) (H : Hp) (a : Addr) (ns : List Int), ns.length ≤ n → Only H → SqL (K w.params) H a (ns.map V.int) → sp w [.ref a] H (fun v _ => v = .bl true) fun _ _ _ => False)
    (hCX : ∀ (w : World) (H : Hp) (s : Shared) (e : Value) (s' : Shared), CX w [] H s (fun _ _ _ => False) e s' → False) :
    PySem.W.WalkO q loose XP YP l.row.toRowW d [] (fun f vs => PySem.call f vs) := by
  refine Att.attach_call hn hdf fun w s₀ s₁ mg mb fa o pm cd doc a vs ns G Y ho hd hcd hmg hobj hints hlen hg => ?_
  have KX := hY w _ Y
  obtain ⟨fd, hb, hF⟩ := F w mg fa _ KX G.T.g hmg
  exact law_call KX G.T.g G.T.b G.T.builtins G.T.nolimit hg hobj hints (Nat.le_trans hlen hn2) hr hF hb (fun H hO hS => hsp w H a ns hlen hO hS) fun H e s' => hCX w H s₁ e s'
end L2

/- THE LAST THEOREM (shape; LID, My.* are yours):
   My.Adr: a structure of the addresses that your layer names (classes, functions); My.Txt K t: a structure (Prop) of the equations over K;
   My.txt_mk : {K} {implicit addresses ..} (e1 : nsIn K mainGlobals "law" = some (some (.ref f))) (e2 : K.lookup f = some ⟨oc, od, .func (fnOf "law" "law" params body scope dV kV doc pm an cdv ct), sl⟩) (e3 : codeIn K cdv "law" = true) .. : ∃ t, My.Txt K t

set_option maxRecDepth 100000 in
set_option maxHeartbeats 0 in
theorem PySem.Challenge.cw_LID_holds : PySem.Challenge.rw_LID.Holds := by
  w_on; o_law; k_head; (case hw => w_witness2)
  k_fill
  refine L2.walk_of (l := PySem.Challenge.rw_LID) (n := 63) (k := 40) (x := "script") (CX := fun w => ..) (sp := fun _ => My.sp_law) rfl (by decide) rfl ⟨rfl, by decide, by decide⟩ (fun w h Y => PySem.W.kIn_of Y) ?F ?S ?C
  case F =>
    intro w mg fa h KX G hmg
    have T : ∃ t, My.Txt (L2.KOf KX) t := by
      dsimp only [L2.KOf]                          -- K must stand as «<heap const> w.params» for k_is
      refine' My.txt_mk ?e1 ?e2 ?e3 ..
      (case e1 => PySem.W.k_is)                    -- in the order: a name -> its address -> its object -> its parts
      (case e2 => PySem.W.k_is)
      ..
    obtain ⟨t, T⟩ := T
    have e0 := hmg.symm.trans (PySem.W.mg_of KX G T.law)
    cases e0                                       -- fa is the law's own address
    exact ⟨_, fun s u => .of_eq rfl, fun base kb nb => My.law_fn T kb nb⟩     -- if «.of_eq rfl» comes too early: refine' ⟨_, ?b, fun base kb nb => My.law_fn T kb nb⟩; exact fun s u => .of_eq rfl
  case S => exact fun w H a ns hl hO hS => ..
  case C => exact ..
(the tactic k_is has no namespace: write k_is) -/

/-! SHORT WORDS over the layer: a def of the text, its body, what a loop and a test want. -/
namespace L2
open PySem PySem.Spec PyProof.Rows

/-! ### the text by places -/
/-- the j-th statement of a class's body -/
def inClass (s : Stmt) (j : Nat) : Stmt := match s with
  | .ClassDef _ _ _ body _ _ _ _ _ _ _ => body.getD j (.Pass ⟨0, 0, 0, 0⟩)
  | _ => .Pass ⟨0, 0, 0, 0⟩
def defArgs (s : Stmt) : Arguments := match s with
  | .FunctionDef _ a _ _ _ _ _ _ _ _ => a
  | _ => { posonlyargs := [], args := [], vararg := none, kwonlyargs := [], kw_defaults := [], kwarg := none, defaults := [] }
def defBody (s : Stmt) : List Stmt := match s with
  | .FunctionDef _ _ b _ _ _ _ _ _ _ => b
  | _ => []
def defScope (s : Stmt) : Scope := match s with
  | .FunctionDef _ _ _ _ _ _ sc _ _ _ => sc
  | _ => { kind := .function, names := [], isGenerator := false, isCoroutine := false }

/-! ### no exception leaves a def -/
abbrev E0 : XK := fun _ _ _ => False
/-! ### a def (or method) of the text as it stands behind the top -/
structure Fun (K : PySem.W.Frag) (x qual : Str) (st : Stmt) (f : Addr) (fd : FuncData) : Prop where
  ex : ∃ (oc : Value) (od : Option Addr) (kV doc pm : Value) (an : Option Addr) (cdv ct : Value) (osl : Array (Option Value)),
    fd = PySem.W.fnOf x qual (defArgs st) (defBody st) (defScope st) .none kV doc pm an cdv ct ∧ K.lookup f = some ⟨oc, od, .func fd, osl⟩ ∧ PySem.W.codeIn K cdv qual = true
  kp : PySem.W.keepIn K (.ref f) = true
section
variable {P : Program} {w : World} {K : PySem.W.Frag} {mg : Str → Option Value} {base : Heap}
/-- how its arguments bind (no defaults): h is «fun _ _ _ _ _ _ us hl => match us, hl with | [_, _], _ => rfl», one _ a parameter -/
theorem Fun.binds {x qual : Str} {st : Stmt} {f : Addr} {fd : FuncData} {ps : List Str} (F : Fun K x qual st f fd)
    (h : ∀ (kV doc pm : Value) (an : Option Addr) (cdv ct : Value) (us : List Value), us.length = ps.length → bindArgs (PySem.W.fnOf x qual (defArgs st) (defBody st) (defScope st) .none kV doc pm an cdv ct) ⟨us, []⟩ = pure (ps.zip us)) : Binds K fd ps [] := by
  obtain ⟨oc, od, kV, doc, pm, an, cdv, ct, osl, rfl, lk, hcd⟩ := F.ex
  exact .all (h kV doc pm an cdv ct)
theorem fun_mk {x qual : Str} {st : Stmt} {f : Addr} {oc : Value} {od an : Option Addr} {osl : Array (Option Value)} {kV doc pm cdv ct : Value} (l : K.lookup f = some ⟨oc, od, .func (PySem.W.fnOf x qual (defArgs st) (defBody st) (defScope st) .none kV doc pm an cdv ct), osl⟩)
    (c : PySem.W.codeIn K cdv qual = true) (k : PySem.W.keepIn K (.ref f) = true) : Fun K x qual st f (PySem.W.fnOf x qual (defArgs st) (defBody st) (defScope st) .none kV doc pm an cdv ct) := ⟨⟨oc, od, kV, doc, pm, an, cdv, ct, osl, rfl, l, c⟩, k⟩
end
theorem hu_of {A : Around} {k : Nat} (hr : Room k A) : A.units + 1 < cLine := Nat.lt_of_le_of_lt (Nat.add_le_add_left (by decide : 1 ≤ 64) _) hr.units
theorem small1000 {n : Nat} (h : n ≤ 1000) : n < sizeLine := Nat.lt_of_le_of_lt h (by decide)

/-! ### expressions in short: the name that stands in the i-th slot -/
section
variable {X : Cx}
theorem pv (i : Nat) {x : Str} {pos : Pos} (hN : X.N[i]? = some x := by rfl) (hv : Vis X.env.scope x := by first | exact Or.inl rfl | exact Or.inr (Or.inl rfl) | exact Or.inr (Or.inr rfl)) (hd : (x == ("__debug__" : Str)) = false := by decide)
    (hcd : (x == ("__classdict__" : Str)) = false := by decide) : PE X (.Name x pos) (tVar i) := pe_var hN hv hd hcd
end

/-! ### tests -/
theorem iteF {A B : Prop} (h : B) : if false = true then A else B := by
  rw [if_neg Bool.false_ne_true]
  exact h
theorem iteT {A B : Prop} (h : A) : if true = true then A else B := by
  rw [if_pos rfl]
  exact h
theorem iteNS {c A B : Prop} [Decidable c] (hc : c) (h : B) : if (!decide c) = true then A else B := by
  rw [decide_eq_true hc]
  exact iteF h

/-! ### heaps -/
/-- all that was tracked is as it was -/
def Same (H H' : Hp) : Prop := ∀ b o, H b = some o → H' b = some o
theorem Same.refl (H : Hp) : Same H H := fun _ _ h => h
theorem Same.trans {H H1 H2 : Hp} (a : Same H H1) (b : Same H1 H2) : Same H H2 := fun c o h => b c o (a c o h)
theorem Same.free {H H' : Hp} (e : Same H H') {l : Addr} (h : H' l = Option.none) : H l = Option.none := by
  cases q : H l with
  | none => rfl
  | some o =>
    rw [e l o q] at h
    cases h
theorem Same.seq {K : PySem.W.Frag} {H H' : Hp} {a : Addr} {xs : List V} (e : Same H H') (h : SqL K H a xs) : SqL K H' a xs := by
  rcases h with (h | ⟨o, h⟩) | h
  · exact .inl (.inl (e _ _ h))
  · exact .inl (.inr ⟨o, e _ _ h⟩)
  · exact .inr h

end L2

namespace L2
open PySem PySem.Spec PyProof.Rows
section
variable {X : Cx} {pins : List (Addr × Obj)} {σ : St} {H : Hp} {s : Shared} {h' : Heap}
/-- untracked records of ours have turned, and a new object is laid and tracked -/
theorem Inv.turnLay {t' : Nat} {ch : List Addr} {T : Addr} {o : HO} (I : Inv X pins σ H s) (hf : ∀ b ∈ ch, FpOk X pins H b)
    (k : ∀ b u, b ∉ ch → s.heap.get? b = some u → h'.get? b = some u) (hT : s.heap.objs.size ≤ T)
    (new : ObjOk X.prog X.w (upd H T o) h' T o) : Inv X pins σ (upd H T o) { s with heap := h', toks := t' } := by
  have hn : H T = none := I.hok.fresh hT
  have nT : ∀ b u, s.heap.get? b = some u → b ≠ T := fun b u e => Nat.ne_of_lt (Nat.lt_of_lt_of_le (Heap.lt_size e) hT)
  have nch : ∀ b u, H b = some u → b ∉ ch := fun b u e hb => by rw [(hf b hb).1] at e; cases e
  have nTH : ∀ b u, H b = some u → b ≠ T := fun b u e => ne_of_none e hn
  refine I.step (g' := s.gens) (d' := s.drawn) (ch := ch) (fun b hb => ?_) (fun b o _ _ hc e _ => k b o hc e) (fun b o _ _ hc e _ => ⟨o.slots, k b o hc e⟩)
    (fun b u hc e n => by rw [upd_ne (nT b u e)]; exact n) (fun b u hc e => ⟨u, k b u hc e⟩) (fun b xs e => by rw [upd_ne (nTH b _ e)]; exact e) (fun b o' u e => by rw [upd_ne (nTH b _ e)]; exact e)
    (fun b ps e => ⟨#[], by rw [upd_ne (nTH b _ e), e]; simp⟩) (fun m hm => ?_) (fun b u e => ?_) I.bare
  · obtain ⟨f0, f1, f2, f3, f4, f5⟩ := hf b hb
    exact ⟨f3, f1, f4, f5⟩
  · obtain ⟨ob, es, ep, ho, r⟩ := hm
    exact ⟨ob, es, ep, k _ ob (fun z => (hf _ z).2.1 rfl) ho, r⟩
  · by_cases hb : b = T
    · subst hb; rw [upd_same] at e; cases e; exact new
    · rw [upd_ne hb] at e
      refine (I.hok b u e).stay (fun c v hc q => k c v ?_ q) (fun c q => by rw [upd_ne (nTH c _ q)]; exact q) fun c xs q => by rw [upd_ne (nTH c _ q)]; exact q
      rcases hc with z | z
      · rw [z]; exact nch b u e
      · exact nch c _ z
/-- untracked records of ours have turned -/
theorem Inv.turnedL {t' : Nat} {ch : List Addr} (I : Inv X pins σ H s) (hf : ∀ b ∈ ch, FpOk X pins H b)
    (k : ∀ b u, b ∉ ch → s.heap.get? b = some u → h'.get? b = some u) : Inv X pins σ H { s with heap := h', toks := t' } := by
  have nch : ∀ b u, H b = some u → b ∉ ch := fun b u e hb => by rw [(hf b hb).1] at e; cases e
  refine I.step (g' := s.gens) (d' := s.drawn) (ch := ch) (fun b hb => ?_) (fun b o _ _ hc e _ => k b o hc e) (fun b o _ _ hc e _ => ⟨o.slots, k b o hc e⟩)
    (fun b u hc e n => n) (fun b u hc e => ⟨u, k b u hc e⟩) (fun b xs e => e) (fun b o' u e => e)
    (fun b ps e => ⟨#[], by rw [e]; simp⟩) (fun m hm => ?_) (fun b u e => ?_) I.bare
  · obtain ⟨f0, f1, f2, f3, f4, f5⟩ := hf b hb
    exact ⟨f3, f1, f4, f5⟩
  · obtain ⟨ob, es, ep, ho, r⟩ := hm
    exact ⟨ob, es, ep, k _ ob (fun z => (hf _ z).2.1 rfl) ho, r⟩
  · refine (I.hok b u e).stay (fun c v hc q => k c v ?_ q) (fun c q => q) fun c xs q => q
    rcases hc with z | z
    · rw [z]; exact nch b u e
    · exact nch c _ z
end

/-! ### the signs of a text -/
section
variable {X : Cx} {tg : Expr}
end
/-! ### enumerate over a list -/
def Ite (K : PySem.W.Frag) (a : Addr) : It :=
  ⟨fun i H => ∃ xs x, SqL K H a xs ∧ xs[i]? = some x, fun i H v H' => ∃ T y, v = .ref T ∧ H T = none ∧ H' = upd H T (.tup [.int i, y]) ∧ ∀ xs, SqL K H a xs → xs[i]? = some y, fun i H => ∃ xs, SqL K H a xs ∧ xs.length ≤ i⟩
theorem turn_enum {P : Program} {w : World} {K : PySem.W.Frag} {elts : List Expr} {kk : Nat} {tp : Pos} (a e it : Addr) (hne : e ≠ it) :
    Turn P w K (.Tuple elts kk tp) (Ite K a) [e, it] e (fun i h => (∃ old, IsEnum h e it (i : Nat) old) ∧ h.IsListIter it a i) where
  mem := by simp
  obj := fun i h st b hb => by
    obtain ⟨⟨old, he⟩, o, e', c, d⟩ := st
    have : b = e ∨ b = it := by simpa using hb
    rcases this with rfl | rfl
    · exact ⟨_, he, fun v z => nomatch z⟩
    · exact ⟨o, e', fun v z => by rw [d] at z; cases z⟩
  keep := fun i h h' st k => ⟨let ⟨old, he⟩ := st.1; ⟨old, k e (by simp) _ he⟩, st.2.at fun o q => k it (by simp) o q⟩
  item := by
    intro X hP hw hK hc i pins s σ H E I hf st hg
    subst hP hw hK
    obtain ⟨⟨old, he⟩, hit⟩ := st
    obtain ⟨xs, x, hq, hx⟩ := hg
    obtain ⟨its, rv, p, hz⟩ := I.list hq
    obtain ⟨u, hu, ru⟩ := rv.get hx
    have helt : e < s.heap.objs.size := Heap.lt_size he
    refine wpAny_pyNext_enum_item he hit p.isList (x := u) (by simpa using hu) hne fun h1 heo hit1 ht1 hz1 hk1 => ?_
    refine ⟨_, rfl, wpAny_letOwnedTupleGo_enum heo fun h2 he2 hs2 => ?_⟩
    have hT2 : h2.get? s.heap.objs.size = some { cls := .type "tuple", data := .seq #[.int i s.toks, u] } := (hs2.2 _ (Nat.ne_of_gt helt)).trans ht1
    have I2 : Inv X pins σ (upd H s.heap.objs.size (.tup [.int i, x])) { s with heap := h2, toks := s.toks + 1 } := by
      refine I.turnLay (ch := [e, it]) hf (fun b o hb q => ?_) (Nat.le_refl _) ?_
      · have n1 : b ≠ e := fun z => hb (by simp [z])
        have n2 : b ≠ it := fun z => hb (by simp [z])
        exact (hs2.2 b n1).trans (hk1 b o n1 n2 q)
      · exact ⟨by show 2 ≤ sizeLine; decide, [.int i s.toks, u], .cons ⟨_, rfl⟩ (.cons ru .nil), ⟨_, hT2, rfl, _, rfl⟩⟩
    have hn : H s.heap.objs.size = none := I.hok.fresh (Nat.le_refl _)
    refine ⟨.ref s.heap.objs.size, _, I2, rfl, ⟨_, x, rfl, hn, rfl, fun ys hy => by rw [I.list_inj hy hq]; exact hx⟩, ⟨⟨u, by simpa using he2⟩, hit1.at fun o q => (hs2.2 it (Ne.symm hne)).trans q⟩, fun b hb => ?_⟩
    have hb' : b < s.heap.objs.size := by
      have : b = e ∨ b = it := by simpa using hb
      rcases this with rfl | rfl
      · exact helt
      · obtain ⟨o, q, _⟩ := hit; exact Heap.lt_size q
    rw [upd_ne (Nat.ne_of_lt hb')]
    exact (hf b hb).1
  done := by
    intro X hP hw hK hc i pins s σ H E I hf st hg
    subst hP hw hK
    obtain ⟨⟨old, he⟩, hit⟩ := st
    obtain ⟨xs, hq, hx⟩ := hg
    obtain ⟨its, rv, p, hz⟩ := I.list hq
    have hl := rv.length
    exact wpAny_pyNext_enum_end (I.ok.hd hc) he hit p.isList (by simp; omega) fun h' eb => ⟨rfl, I.turnedL (t' := s.toks) hf fun b o hb q => eb b o (fun z => hb (by simp [z])) q⟩
  self := fun A i s Q E st h => by
    obtain ⟨⟨old, he⟩, hit⟩ := st
    have hT : s.TypeIs (.ref e) "enumerate" := ⟨_, he, rfl⟩
    refine wpAny_pyIter_slot hT F.slot_enumerate_iter (wpAny_call_entry F.slot_enumerate_iter hT F.entry_enumerate_iter ?_ (F.args_enumerate_iter_1 _))
    show wpAny _ _ (ret (.ref e)) _ _ s
    exact wpAny_pure ⟨_, rfl, "enumerate", _, hT, F.slot_enumerate_next.lookup, h⟩
end L2

namespace L2
open PySem PySem.Spec PyProof.Rows

/-! ### enumerate, as a loop walks it -/
section
variable {X : Cx}
def iEnum (K : PySem.W.Frag) (ta : TA) : TI := fun σ H R => ta σ H fun vs H1 => ∃ a, vs = [.ref a] ∧ (∃ xs, SqL K H1 a xs) ∧ R (Ite K a) H1
theorem pi_enum {elts : List Expr} {kk : Nat} {tp : Pos} {a : Expr} {ta : TA} {p pos : Pos} (hg : Gl X "enumerate") (hm : X.mg "enumerate" = none) (hb : bootBuiltins "enumerate" = some (.type "enumerate")) (ha : PA X [a] ta) (hs : starEach [a] X.env = [(false, eval a X.env)] := by rfl) :
    PI X (.Tuple elts kk tp) (.Call (.Name "enumerate" p) [a] [] pos) (iEnum X.K ta) := .mk <| by
  intro pins s σ H R I h
  refine Call_ (ld_blt I hg hm hb (PyProof.Rows.callWith_type1 (thn (ha pos pins s σ H _ I h) fun us s1 ⟨vs, H1, I1, r1, q1⟩ => ?_) hs rfl))
  obtain ⟨b, e, ⟨xs, hq⟩, q⟩ := q1
  subst e
  cases r1 with
  | cons r rr =>
    cases rr
    cases r
    obtain ⟨its, rv, pl, hz⟩ := I1.list hq
    refine call_enumerate_list pl.isList fun h' he hi hsz hk => ?_
    have I2 : Inv X pins σ H1 { s1 with heap := h' } := I1.kept (t' := s1.toks) hk
    have T := turn_enum (P := X.prog) (w := X.w) (K := X.K) (elts := elts) (kk := kk) (tp := tp) b (s1.heap.objs.size + 1) s1.heap.objs.size (Nat.succ_ne_self _)
    have t0 : (∃ old, IsEnum h' (s1.heap.objs.size + 1) s1.heap.objs.size ((0 : Nat) : Int) old) ∧ h'.IsListIter s1.heap.objs.size b 0 := ⟨⟨.none, by simpa using he⟩, hi⟩
    refine T.self X.A 0 _ _ _ t0 ⟨_, _, _, _, H1, rfl, I2, T, t0, fun c hc => ?_, q⟩
    have hc' : s1.heap.objs.size ≤ c := by
      have : c = s1.heap.objs.size + 1 ∨ c = s1.heap.objs.size := by simpa using hc
      rcases this with rfl | rfl
      · exact Nat.le_succ _
      · exact Nat.le_refl _
    exact I1.fpOk hc' (I1.hok.fresh hc')
end
theorem for_enum {K : PySem.W.Frag} {a : Addr} {xs : List V} {g : TG} {tb : TS} {D : Ends} {σ : St} {H : Hp} (Pv : Nat → St → Hp → Prop) (h0 : Pv 0 σ H) (hl : ∀ i σ H, i ≤ xs.length → Pv i σ H → SqL K H a xs)
    (hs : ∀ i x T σ H, xs[i]? = some x → Pv i σ H → H T = none → g (.ref T) σ (upd H T (.tup [.int i, x])) fun σ2 H2 => tb { D with nx := Pv (i + 1), ct := Pv (i + 1), bk := D.nx } σ2 H2) (hd : ∀ σ H, Pv xs.length σ H → D.nx σ H) :
    ∃ W : Nat → Nat → St → Hp → Prop, (∃ m, W 0 m σ H) ∧ ∀ i m σ H, W i m σ H →
      ((Ite K a).stop i H ∧ D.nx σ H) ∨ ((Ite K a).go i H ∧ ∃ N : St → Hp → Prop, (∀ σ' H', N σ' H' → ∃ m', m' < m ∧ W (i + 1) m' σ' H') ∧ ∀ x H', (Ite K a).yld i H x H' → g x σ H' fun σ2 H2 => tb { D with nx := N, ct := N, bk := D.nx } σ2 H2) := by
  refine ⟨fun i m σ H => m = xs.length - i ∧ i ≤ xs.length ∧ Pv i σ H, ⟨xs.length, by simp, Nat.zero_le _, h0⟩, ?_⟩
  rintro i m σ H ⟨rfl, hi, p⟩
  have q := hl i σ H hi p
  by_cases hlt : i < xs.length
  · refine .inr ⟨⟨xs, xs[i], q, by simp [hlt]⟩, Pv (i + 1), fun σ' H' p' => ⟨xs.length - (i + 1), by omega, rfl, hlt, p'⟩, fun x H' y => ?_⟩
    obtain ⟨T, z, rfl, hT, rfl, y⟩ := y
    exact hs i z T σ H (y xs q) p hT
  · have e : i = xs.length := by omega
    subst e
    exact .inl ⟨⟨xs, q, Nat.le_refl _⟩, hd σ H p⟩

/-! ### a comprehension's block -/
def clStep (env : Env) (cs : List (Str × Addr)) (p : Str × NameKind) : List (Str × Addr) := if p.2 = .free then (match env.cells.lookup p.1 with | some c => (p.1, c) :: cs | none => cs) else cs
def clOf (scope : Scope) (env : Env) : List (Str × Addr) := scope.names.foldl (clStep env) []
def compOk (scope : Scope) (env : Env) : Bool :=
  scope.names.all (fun p => p.2 != .cell) && scope.names.all (fun p => p.2 != .local || scope.names.lookup p.1 == some .local) && scope.names.all (fun p => p.2 != .free || (env.scope.names.lookup p.1 == some .cell || env.scope.names.lookup p.1 == some .free))

theorem closure_go {env : Env} : ∀ (ns : List (Str × NameKind)) (cs : List (Str × Addr)), (∀ p ∈ ns, p.2 = .free → ∃ c, env.cells.lookup p.1 = some c) →
    (forIn (m := Sem) ns cs fun (p : Str × NameKind) (cs : List (Str × Addr)) => (if (p.2 == .free) = true then do
        let c ← cellOf env p.1
        pure (ForInStep.yield ((p.1, c) :: cs)) else pure (ForInStep.yield cs))) = pure (ns.foldl (clStep env) cs)
  | [], cs, _ => rfl
  | p :: ns, cs, h => by
    rw [List.forIn_cons, List.foldl_cons]
    have ih := closure_go (env := env) ns
    have hr : ∀ q ∈ ns, q.2 = .free → ∃ c, env.cells.lookup q.1 = some c := fun q hq => h q (List.mem_cons_of_mem _ hq)
    by_cases hk : p.2 = .free
    · obtain ⟨c, e⟩ := h p List.mem_cons_self hk
      have e1 : (p.2 == NameKind.free) = true := by simp [hk]
      have e2 : clStep env cs p = (p.1, c) :: cs := by unfold clStep; rw [if_pos hk, e]
      have e3 : cellOf env p.1 = pure c := by unfold cellOf; rw [e]
      rw [if_pos e1, e3, e2]
      exact ih _ hr
    · have e1 : ¬ ((p.2 == NameKind.free) = true) := by simp [hk]
      have e2 : clStep env cs p = cs := by unfold clStep; rw [if_neg hk]
      rw [if_neg e1, e2]
      exact ih _ hr
theorem closure_is {scope : Scope} {env : Env} (h : ∀ p ∈ scope.names, p.2 = .free → ∃ c, env.cells.lookup p.1 = some c) : closureFor scope env = pure (clOf scope env) := by
  have e := closure_go (env := env) scope.names [] h
  have e2 := congrArg (fun (z : Sem (List (Str × Addr))) => z >>= fun s => pure s) e
  exact e2
theorem cl_in {env : Env} {x : Str} {c : Addr} : ∀ (ns : List (Str × NameKind)) (cs : List (Str × Addr)), (∀ y d, cs.lookup y = some d → env.cells.lookup y = some d) → (ns.foldl (clStep env) cs).lookup x = some c → env.cells.lookup x = some c
  | [], cs, h, e => h x c e
  | p :: ns, cs, h, e => by
    refine cl_in ns (clStep env cs p) (fun y d q => ?_) e
    unfold clStep at q
    split at q
    · split at q
      · rename_i c' ec
        rw [List.lookup_cons] at q
        split at q
        · rename_i he
          have : y = p.1 := by simpa using he
          subst this; rw [← q]; exact ec
        · exact h y d q
      · exact h y d q
    · exact h y d q
theorem cl_mono {env : Env} {x : Str} {c : Addr} (hx : env.cells.lookup x = some c) : ∀ (ns : List (Str × NameKind)) (cs : List (Str × Addr)), cs.lookup x = some c → (ns.foldl (clStep env) cs).lookup x = some c
  | [], cs, e => e
  | p :: ns, cs, e => by
    refine cl_mono hx ns (clStep env cs p) ?_
    unfold clStep
    split
    · split
      · rename_i c' ec
        rw [List.lookup_cons]
        split
        · rename_i he
          have : x = p.1 := by simpa using he
          subst this; rw [hx] at ec; exact ec.symm
        · exact e
      · exact e
    · exact e
theorem cl_has {env : Env} {x : Str} {c : Addr} (hx : env.cells.lookup x = some c) : ∀ (ns : List (Str × NameKind)) (cs : List (Str × Addr)), (x, NameKind.free) ∈ ns → (ns.foldl (clStep env) cs).lookup x = some c
  | [], cs, e => by simp at e
  | p :: ns, cs, e => by
    rcases List.mem_cons.mp e with e | e
    · subst e
      refine cl_mono hx ns _ ?_
      unfold clStep
      rw [if_pos rfl, hx]
      simp
    · exact cl_has hx ns _ e

theorem compOk_cell {scope : Scope} {env : Env} (h : compOk scope env = true) : ∀ p ∈ scope.names, p.2 ≠ .cell := fun p hp => by
  unfold compOk at h
  simp only [Bool.and_eq_true, List.all_eq_true] at h
  simpa using h.1.1 p hp
theorem compOk_local {scope : Scope} {env : Env} (h : compOk scope env = true) : ∀ p ∈ scope.names, p.2 = .local → scope.names.lookup p.1 = some .local := fun p hp e => by
  unfold compOk at h
  simp only [Bool.and_eq_true, List.all_eq_true] at h
  have := h.1.2 p hp
  rw [e] at this
  simpa using this
theorem compOk_free {scope : Scope} {env : Env} (h : compOk scope env = true) : ∀ p ∈ scope.names, p.2 = .free → env.kindOf p.1 = some .cell ∨ env.kindOf p.1 = some .free := fun p hp e => by
  unfold compOk at h
  simp only [Bool.and_eq_true, List.all_eq_true] at h
  have := h.2 p hp
  rw [e] at this
  simpa [Env.kindOf] using this

theorem lookup_relabel {env : Env} : ∀ {names : List (Str × NameKind)} {x : Str} {k : NameKind},
    (names.map fun (n, k) => if (k == NameKind.free && env.scope.kind == .function && env.kindOf n == some .cell) then (n, NameKind.cell) else (n, k)).lookup x = some k →
      names.lookup x = some k ∨ (names.lookup x = some .free ∧ k = .cell)
  | [], _, _, h => by simp at h
  | (n, j) :: r, x, k, h => by
    have ih := @lookup_relabel env r x k
    rw [List.map_cons] at h
    by_cases hx : (x == n) = true
    · rw [List.lookup_cons, hx]
      by_cases hc : (j == NameKind.free && env.scope.kind == .function && env.kindOf n == some .cell) = true
      · simp only [hc, if_true] at h
        rw [List.lookup_cons, hx] at h
        have hj : j = .free := by
          simp only [Bool.and_eq_true] at hc
          simpa using hc.1.1
        exact .inr ⟨by simp [hj], (Option.some.inj h).symm⟩
      · simp only [hc, if_false] at h
        have h' : List.lookup x ((n, j) :: List.map (fun x => if (x.snd == NameKind.free && env.scope.kind == ScopeKind.function && env.kindOf x.fst == some NameKind.cell) = true then (x.fst, NameKind.cell) else (x.fst, x.snd)) r) = some k := by simpa using h
        rw [List.lookup_cons, hx] at h'
        exact .inl h'
    · have hx' : (x == n) = false := by simpa using hx
      rw [List.lookup_cons, hx']
      apply ih
      by_cases hc : (j == NameKind.free && env.scope.kind == .function && env.kindOf n == some .cell) = true
      · simp only [hc, if_true] at h
        rw [List.lookup_cons, hx'] at h
        exact h
      · have h' : List.lookup x ((n, j) :: List.map (fun x => if (x.snd == NameKind.free && env.scope.kind == ScopeKind.function && env.kindOf x.fst == some NameKind.cell) = true then (x.fst, NameKind.cell) else (x.fst, x.snd)) r) = some k := by simpa [hc] using h
        rw [List.lookup_cons, hx'] at h'
        exact h'
theorem relabel_free {env : Env} : ∀ {names : List (Str × NameKind)} {x : Str}, names.lookup x = some .free →
    ∃ k, (names.map fun (n, k) => if (k == NameKind.free && env.scope.kind == .function && env.kindOf n == some .cell) then (n, NameKind.cell) else (n, k)).lookup x = some k ∧ (k = .cell ∨ k = .free)
  | [], _, h => by simp at h
  | (n, j) :: r, x, h => by
    have ih := @relabel_free env r x
    by_cases hx : (x == n) = true
    · rw [List.lookup_cons, hx] at h
      have hj : j = .free := Option.some.inj h
      subst hj
      by_cases hc : (env.scope.kind == .function && env.kindOf n == some .cell) = true
      · refine ⟨.cell, ?_, .inl rfl⟩
        show List.lookup x ((if (NameKind.free == NameKind.free && env.scope.kind == .function && env.kindOf n == some .cell) = true then (n, NameKind.cell) else (n, NameKind.free)) :: _) = _
        rw [if_pos (by simpa using hc), List.lookup_cons, hx]
      · refine ⟨.free, ?_, .inr rfl⟩
        show List.lookup x ((if (NameKind.free == NameKind.free && env.scope.kind == .function && env.kindOf n == some .cell) = true then (n, NameKind.cell) else (n, NameKind.free)) :: _) = _
        rw [if_neg (by simpa using hc), List.lookup_cons, hx]
    · have hx' : (x == n) = false := by simpa using hx
      rw [List.lookup_cons, hx'] at h
      obtain ⟨k, e, hk⟩ := ih h
      refine ⟨k, ?_, hk⟩
      rw [List.map_cons]
      by_cases hc : (j == NameKind.free && env.scope.kind == .function && env.kindOf n == some .cell) = true
      · simp only [hc, if_true, List.lookup_cons, hx']
        exact e
      · show List.lookup x ((if (j == NameKind.free && env.scope.kind == .function && env.kindOf n == some .cell) = true then (n, NameKind.cell) else (n, j)) :: _) = _
        rw [if_neg hc, List.lookup_cons, hx']
        exact e

def Cx.comp (X : Cx) (scope : Scope) (C : Addr) (s₀ : Shared) (H₀ : Hp) (fp : List Addr) (N' : List Str) (E' : Value → Shared → Prop) : Cx :=
  { X with N := N', s₀ := s₀, H₀ := H₀, env := compEnvC scope (clOf scope X.env) C X.env, outer := X.stack, ex := fp, fn := fun _ => false, pn := [], xe := E' }
def caps (cap : List Nat) (σ : St) : St := cap.map fun j => (σ[j]?).join
def capOk (X : Cx) (scope : Scope) (N' : List Str) (nt : Nat) (cap : List Nat) : Bool :=
  (N'.length == nt + cap.length) && ((List.range cap.length).all fun j => match cap[j]?, N'[nt + j]? with
    | some i, some x => X.N[i]? == some x && scope.names.lookup x == some .free
    | _, _ => false)
section
variable {X : Cx}
theorem capOk_get {scope : Scope} {N' : List Str} {nt : Nat} {cap : List Nat} (h : capOk X scope N' nt cap = true) : N'.length = nt + cap.length ∧ ∀ j i, cap[j]? = some i → ∃ x, N'[nt + j]? = some x ∧ X.N[i]? = some x ∧ scope.names.lookup x = some .free := by
  unfold capOk at h
  simp only [Bool.and_eq_true, List.all_eq_true, beq_iff_eq] at h
  refine ⟨h.1, fun j i e => ?_⟩
  have hj : j < cap.length := (List.getElem?_eq_some_iff.mp e).1
  have q := h.2 j (List.mem_range.mpr hj)
  rw [e] at q
  cases q2 : N'[nt + j]? with
  | none => rw [q2] at q; simp at q
  | some x =>
    rw [q2] at q
    simp only [Bool.and_eq_true, beq_iff_eq] at q
    exact ⟨x, rfl, q.1, q.2⟩
/-- the block's context, at its entry -/
theorem comp_start {pins : List (Addr × Obj)} {σ : St} {H : Hp} {s3 : Shared} {scope : Scope} {fp : List Addr} {N' : List Str} {nt : Nat} {cap : List Nat} {h4 : Heap} {t4 : Nat} {E' : Value → Shared → Prop} {m : Str → Option Value}
    (I : Inv X pins σ H s3) (hk : scope.kind = .function) (hb : compOk scope X.env = true) (hc : capOk X scope N' nt cap = true) (hf : ∀ b ∈ fp, FpOk X pins H b) (hfl : ∀ b ∈ fp, b < s3.heap.objs.size)
    (hn : h4.Ns s3.heap.objs.size m) (kp : ∀ b o, s3.heap.get? b = some o → h4.get? b = some o) :
    Inv (X.comp scope s3.heap.objs.size s3 H fp N' E') [] (List.replicate nt none ++ caps cap σ) H { s3 with heap := h4, toks := t4 } := by
  obtain ⟨hlen, hcap⟩ := capOk_get hc
  have cin : ∀ x c, (clOf scope X.env).lookup x = some c → X.env.cells.lookup x = some c := fun x c e => cl_in scope.names [] (fun y d q => by simp at q) e
  have kin : ∀ x, ((X.comp scope s3.heap.objs.size s3 H fp N' E').env.kindOf x = some .cell ∨ (X.comp scope s3.heap.objs.size s3 H fp N' E').env.kindOf x = some .free) → scope.names.lookup x = some .free := fun x hx => by
    have one : ∀ k, (k = NameKind.cell ∨ k = NameKind.free) → (X.comp scope s3.heap.objs.size s3 H fp N' E').env.kindOf x = some k → scope.names.lookup x = some .free := fun k hk' e => by
      rcases lookup_relabel (env := X.env) (names := scope.names) (x := x) (k := k) e with z | z
      · rcases hk' with rfl | rfl
        · exact absurd rfl (compOk_cell hb _ (PySem.mem_of_lookup z))
        · exact z
      · exact z.1
    rcases hx with hx | hx
    · exact one _ (.inl rfl) hx
    · exact one _ (.inr rfl) hx
  have has : ∀ x, scope.names.lookup x = some .free → ∃ c, X.env.cells.lookup x = some c ∧ (clOf scope X.env).lookup x = some c := fun x hx => by
    have hm := PySem.mem_of_lookup hx
    obtain ⟨c, e⟩ := I.ok.has x (compOk_free hb _ hm rfl)
    exact ⟨c, e, cl_has e _ _ hm⟩
  refine ⟨⟨I.ok.mod, hk, I.ok.glob, I.ok.blt, Nat.le_refl _, fun x y c e1 e2 => I.ok.inj x y c (cin x c e1) (cin y c e2), fun x hx => ?_, fun x c z _ => absurd z Bool.false_ne_true, I.ok.hd, I.ok.frames, .inl rfl, fun b hb' => ⟨Nat.ne_of_lt (hfl b hb'), fun x c e => (hf b hb').2.2.2.2.1 x c (cin x c e)⟩,
    I.bs, Nat.le_trans I.ok.bsz I.sz, fun b o e hb' => ?_, fun b hb' hs => ?_, I.stack, I.stkFree⟩, rfl, I.bare, Un.kept kp, ⟨m, hn, fun i x v h1 h2 h3 => ?_⟩, fun x c e => ?_, I.hok.fresh (Nat.le_refl _), fun x c e => I.freeC x c (cin x c e), fun p hp => absurd hp (by simp [Cx.comp]), I.hok.kept kp, ?_⟩
  · obtain ⟨c, _, e⟩ := has x (kin x hx)
    exact ⟨c, e⟩
  · rcases (hf b hb').2.2.2.1 with z | z
    · exact I.ok.noex b o e z
    · exact absurd (Nat.lt_of_lt_of_le (Heap.lt_size e) (Nat.le_trans I.ok.bsz z)) (Nat.lt_irrefl _)
  · rcases List.mem_cons.mp (I.stkSub b hs) with z | z
    · exact (hf b hb').2.1 z
    · exact (hf b hb').2.2.1 z
  · have hge : nt ≤ i := by
      by_cases hlt : i < nt
      · rw [List.getElem?_append_left (by simpa using hlt), List.getElem?_replicate] at h2
        split at h2 <;> cases h2
      · omega
    obtain ⟨j, rfl⟩ : ∃ j, i = nt + j := ⟨i - nt, by omega⟩
    rw [List.getElem?_append_right (by simp), List.length_replicate, Nat.add_sub_cancel_left] at h2
    unfold caps at h2
    rw [List.getElem?_map] at h2
    cases ej : cap[j]? with
    | none => rw [ej] at h2; cases h2
    | some i' =>
      rw [ej] at h2
      have h2' : (σ[i']?).join = some v := Option.some.inj h2
      obtain ⟨x', e1, e2, e3⟩ := hcap j i' ej
      have : x' = x := by
        have h1' : N'[nt + j]? = some x := h1
        rw [e1] at h1'; exact Option.some.inj h1'
      subst this
      have hσ : σ[i']? = some (some v) := by
        cases q : σ[i']? with
        | none => rw [q] at h2'; cases h2'
        | some o => rw [q] at h2'; exact congrArg some h2'
      have hkx := compOk_free hb _ (PySem.mem_of_lookup e3) rfl
      obtain ⟨m', hn', hl'⟩ := I.loc
      obtain ⟨u, ru, lk⟩ := hl' i' x' v e2 hσ (hkx.elim (fun z => .inr (.inl z)) fun z => .inr (.inr z))
      refine ⟨u, ru, .inr ⟨?_, ?_⟩⟩
      · obtain ⟨k, ek, hk'⟩ := relabel_free (env := X.env) e3
        rcases hk' with rfl | rfl
        · exact .inl ek
        · exact .inr ek
      · rcases lk with ⟨kl, _⟩ | ⟨_, c, ec, icell⟩
        · rcases hkx with z | z <;> (rw [kl] at z; cases z)
        · exact ⟨c, cl_has ec _ _ (PySem.mem_of_lookup e3), icell.keeps kp⟩
  · obtain ⟨v, z⟩ := I.cell x c (cin x c e)
    exact ⟨v, z.keeps kp⟩
  · show (List.replicate nt none ++ caps cap σ).length = N'.length
    rw [hlen]
    simp [caps]
end
end L2

namespace L2
open PySem PySem.Spec PyProof.Rows
section
variable {prog : Program} {w : World} {A : Around} {E : Value → Shared → Prop} {R : Result → Shared → Prop} {s : Shared}
theorem compLoop_gen {elt target iter : Expr} {ifs : List Expr} {scope : Scope} {pos : Pos} {it acc : Value} {env : Env} (I : Nat → Shared → Prop)
    (turn : ∀ n s, I n s → wpAny (model prog w) A (pyNext it) (fun r s₁ => match r with
      | none => R (.ok .next) s₁
      | some v => wpAny (model prog w) A (letOwnedTupleGo target it v) (fun _ s₁' => wpAny (model prog w) A (assign target env v) (fun _ s₂ =>
          wpAny (model prog w) A (forIn ifs true fun c r => if r = true then do let ok ← isTrue c env (eval c env); pure (ForInStep.yield ok) else pure (ForInStep.yield r)) (fun ok s₃ =>
            if ok = true then wpAny (model prog w) A (eval elt env) (fun x s₄ =>
              wpAny (model prog w) A (call (.builtin "list.append") [acc, x]) (fun _ s₅ => ∃ m, m < n ∧ I m s₅) (notedBy (model prog w) A env fun e s' => R (.error e) s') s₄) (notedBy (model prog w) A env fun e s' => R (.error e) s') s₃
            else ∃ m, m < n ∧ I m s₃) (notedBy (model prog w) A env fun e s' => R (.error e) s') s₂) (notedBy (model prog w) A env fun e s' => R (.error e) s') s₁') (notedBy (model prog w) A env fun e s' => R (.error e) s') s₁) (notedBy (model prog w) A env fun e s' => R (.error e) s') s)
    (n : Nat) (h : I n s) : codeAny (model prog w) A (.compLoop (.ListComp elt [⟨target, iter, ifs, 0⟩] scope pos) 0 it acc env) R s := by
  refine codeAny_loop rfl I (fun n s hI => ?_) n h
  show wpAny _ A ((compTurn (.ListComp elt [⟨target, iter, ifs, 0⟩] scope pos) 0 it acc env).onRaise (fun x => do noteFrame x env; theTreesLotGoes x)) _ _ s
  refine wpAny_noted ?_
  rw [compTurn_list]
  refine wpAny_bind (wpAny_standAt (wpAny_bind (wpAny_mono (turn n s hI) (fun r s₁ h₁ => ?_) fun _ _ h' => h')))
  cases r with
  | none => exact wpAny_pure h₁
  | some v =>
    refine wpAny_bind (wpAny_mono h₁ (fun _ s₁' h₁' => ?_) fun _ _ h' => h')
    refine wpAny_bind (wpAny_mono h₁' (fun _ s₂ h₂ => wpAny_bind (wpAny_mono h₂ (fun ok s₃ h₃ => ?_) fun _ _ h' => h')) fun _ _ h' => h')
    cases ok with
    | false => exact wpAny_pure ⟨rfl, h₃⟩
    | true =>
      exact wpAny_bind (wpAny_bind (wpAny_mono h₃ (fun x s₄ h₄ => wpAny_bind (wpAny_mono h₄ (fun _ s₅ h₅ => wpAny_pure (wpAny_pure ⟨rfl, h₅⟩)) fun _ _ h' => h')) fun _ _ h' => h'))
end
/-- the tests of a clause -/
structure PIf (X : Cx) (ifs : List Expr) (t : TT) : Prop where
  run :
  ∀ (pins : List (Addr × Obj)) (s : Shared) (σ : St) (H : Hp) (Q : Bool → Hp → Prop), Inv X pins σ H s → t σ H Q →
    wpAny (model X.prog X.w) X.A (forIn ifs true fun c r => if r = true then do let ok ← isTrue c X.env (eval c X.env); pure (ForInStep.yield ok) else pure (ForInStep.yield r)) (TP X pins σ Q) X.xe s
instance {X : Cx} {ifs : List Expr} {t : TT} : CoeFun (PIf X ifs t) (fun _ =>
  ∀ (pins : List (Addr × Obj)) (s : Shared) (σ : St) (H : Hp) (Q : Bool → Hp → Prop), Inv X pins σ H s → t σ H Q →
    wpAny (model X.prog X.w) X.A (forIn ifs true fun c r => if r = true then do let ok ← isTrue c X.env (eval c X.env); pure (ForInStep.yield ok) else pure (ForInStep.yield r)) (TP X pins σ Q) X.xe s
  ) := ⟨fun h => h.run⟩
def tYes : TT := fun _ H Q => Q true H
def CompW (J : It) (D : Addr) (nt : Nat) (cap : List Nat) (g : TG) (ti : TT) (te : TE) (σ : St) (H1 : Hp) (Q : VK) : Prop := ∃ W : Nat → Nat → List V → Hp → Prop, (∃ m, W 0 m [] (upd H1 D (.lst []))) ∧
  ∀ i m ys H2, W i m ys H2 → H2 D = some (.lst ys) ∧ ((J.stop i H2 ∧ Q (.ref D) H2) ∨ (J.go i H2 ∧ ys.length < sizeLine ∧ ∀ x H3, J.yld i H2 x H3 → g x (List.replicate nt none ++ caps cap σ) H3 fun σ4 H4 => ti σ4 H4 fun b H5 =>
    if b = true then te σ4 H5 fun y H6 => H6 D = some (.lst ys) ∧ ∃ m', m' < m ∧ W (i + 1) m' (ys ++ [y]) (upd H6 D (.lst (ys ++ [y]))) else ∃ m', m' < m ∧ W (i + 1) m' ys H5))
def tComp (wi : TI) (nt : Nat) (cap : List Nat) (g : TG) (ti : TT) (te : TE) : TE := fun σ H Q => wi σ H fun J H1 => ∀ D, H1 D = none → CompW J D nt cap g ti te σ H1 Q
/-- the targets' slots stand first, and are the only ones stored -/
def GKeeps (nt : Nat) (g : TG) : Prop := ∀ (x : V) (c : St) (H : Hp) (Q : St → Hp → Prop), g x (List.replicate nt none ++ c) H Q →
  g x (List.replicate nt none ++ c) H fun σ' H' => Q σ' H' ∧ ∀ (j : Nat) v, (List.replicate nt none ++ c)[j]? = some (some v) → σ'[j]? = some (some v)
theorem gk1 : GKeeps 1 (gName 0) := fun x c H Q h => ⟨h, fun j v e => by
  cases j with
  | zero => simp at e
  | succ j => simpa using e⟩
theorem gk2 {K : PySem.W.Frag} : GKeeps 2 (gTup K 2 (gCons (gName 0) (gCons (gName 1) gNil))) := fun x c H Q h => by
  obtain ⟨a, xs, e1, hq, hl, v, r, e2, v', r', e3, e4, h⟩ := h
  refine ⟨a, xs, e1, hq, hl, v, r, e2, v', r', e3, e4, h, fun j v e => ?_⟩
  match j, e with
  | 0, e => simp [List.replicate] at e
  | 1, e => simp [List.replicate] at e
  | j + 2, e => simpa [List.replicate, List.set] using e
section
variable {X : Cx}
theorem pif_nil : PIf X [] tYes := .mk <| fun _ _ _ H _ I h => wpAny_tests_nil ⟨H, I, h⟩
theorem pif_one {c : Expr} {t : TT} (h : PT X c t) : PIf X [c] t := .mk <| fun pins s σ H Q I hw => wpAny_tests_one (h pins s σ H Q I hw)

theorem comp_back {pins pins' : List (Addr × Obj)} {σ σ' : St} {H H' : Hp} {s3 s' : Shared} {scope : Scope} {fp : List Addr} {N' : List Str} {E' : Value → Shared → Prop}
    (I3 : Inv X pins σ H s3) (hf : ∀ b ∈ fp, FpOk X pins H b) (I' : Inv (X.comp scope s3.heap.objs.size s3 H fp N' E') pins' σ' H' s') : Inv X pins σ H' s' := by
  refine I3.call' (ch := fp) I'.os I'.base I'.hok I'.bare fun b hb => ?_
  obtain ⟨f0, f1, f2, f3, f4, f5⟩ := hf b hb
  exact ⟨f3, f1, f4, f5⟩

theorem comp_core {elt tg iter : Expr} {ifs : List Expr} {scope : Scope} {pos : Pos} {N' : List Str} {nt : Nat} {cap : List Nat} {wi : TI} {g : TG} {ti : TT} {te : TE}
    (EK : Addr → Shared → Hp → List Addr → (Value → Shared → Prop) → Prop)
    (hE : ∀ (pins : List (Addr × Obj)) (σ : St) (s3 : Shared) (H3 : Hp) (fp : List Addr) (Q : VK) (D : Addr), Inv X pins σ H3 s3 → (∀ b ∈ fp, FpOk X pins H3 b) →
      EK s3.heap.objs.size s3 H3 fp (notedBy (model X.prog X.w) X.A (compEnvC scope (clOf scope X.env) s3.heap.objs.size X.env) fun e s' => compPost (model X.prog X.w) X.A X.xe none (EP X pins σ Q) (.ref D) s3.heap.objs.size (.error e) s'))
    (hc : X.calm = true) (hi : PI X tg iter wi)
    (hg : ∀ C s₀ H₀ fp E', EK C s₀ H₀ fp E' → PG (X.comp scope C s₀ H₀ fp N' E') tg g)
    (hif : ∀ C s₀ H₀ fp E', EK C s₀ H₀ fp E' → PIf (X.comp scope C s₀ H₀ fp N' E') ifs ti)
    (he : ∀ C s₀ H₀ fp E', EK C s₀ H₀ fp E' → PE (X.comp scope C s₀ H₀ fp N' E') elt te)
    (hk : scope.kind = .function) (hb : compOk scope X.env = true) (hcap : capOk X scope N' nt cap = true)
    (hgk : GKeeps nt g) (hs : ∀ x, foldedSetIterable iter X.env x = pure x) : PE X (.ListComp elt [⟨tg, iter, ifs, 0⟩] scope pos) (tComp wi nt cap g ti te) := .mk <| by
  intro pins s σ H Q I h
  rw [eval_ListComp]
  have hclos : closureFor scope X.env = pure (clOf scope X.env) := closure_is fun p hp e => I.ok.has p.1 (compOk_free hb p hp e)
  refine wpAny_comprehension_free (use := none) rfl hs hclos hk (compOk_local hb) (thn (hi pins s σ H _ I h) fun v s1 h1 => thn h1 fun itv s2 h2 => ?_)
  obtain ⟨it, fp, tn, J, H2, e, I2, T, st2, f2, q2⟩ := h2
  subst e
  refine wpAny_newObj_type (wpAny_newFunctionEnv (compOk_cell hb) (by intro y hy; simp at hy) (fun h₁ hns₁ hsb₁ => ?_) hk)
  have I3 := I2.lnew (ys := []) (its := []) (t' := s2.toks) .nil (Nat.zero_le _)
  have hfl : ∀ b ∈ fp, b < s2.heap.objs.size := fun b hb' => let ⟨o, e, _⟩ := T.obj 0 _ st2 b hb'; Heap.lt_size e
  obtain ⟨W, ⟨m0, w0⟩, turn⟩ := q2 s2.heap.objs.size (I2.hok.fresh (Nat.le_refl _))
  have nD : ∀ b ∈ fp, b ≠ s2.heap.objs.size := fun b hb' => Nat.ne_of_lt (hfl b hb')
  have f3 : ∀ b ∈ fp, FpOk X pins (upd H2 s2.heap.objs.size (.lst [])) b := fun b hb' => ⟨by rw [upd_ne (nD b hb')]; exact (f2 b hb').1, (f2 b hb').2⟩
  obtain ⟨s3, hs3⟩ : ∃ s3 : Shared, s3 = { s2 with heap := s2.heap.push { cls := .type "list", data := .seq ([] : List Value).toArray }, toks := s2.toks } := ⟨_, rfl⟩
  have hs3' : s3.heap = s2.heap.push { cls := .type "list", data := .seq ([] : List Value).toArray } := by rw [hs3]
  rw [← hs3] at I3
  have hsz : s3.heap.objs.size = s2.heap.objs.size + 1 := by rw [hs3', Heap.size_push]
  have hfl3 : ∀ b ∈ fp, b < s3.heap.objs.size := fun b hb' => by rw [hsz]; exact Nat.lt_succ_of_lt (hfl b hb')
  have hC : (s2.heap.push { cls := Value.type "list", dict := none, data := Data.seq ([] : List Value).toArray }).objs.size = s3.heap.objs.size := by rw [hs3']
  dsimp only at hns₁ hsb₁ ⊢
  rw [hC] at hns₁ hsb₁ ⊢
  rw [← hs3'] at hsb₁
  have kp : ∀ b o, s3.heap.get? b = some o → h₁.get? b = some o := fun b o e => hsb₁.extBut b o (Nat.ne_of_lt (Heap.lt_size e)) (Heap.get?_push_of_some _ e)
  have hEE := hE pins σ s3 _ fp Q s2.heap.objs.size I3 f3
  generalize hE' : (notedBy (model X.prog X.w) X.A (compEnvC scope (clOf scope X.env) s3.heap.objs.size X.env) fun e s' => compPost (model X.prog X.w) X.A X.xe none (EP X pins σ Q) (.ref s2.heap.objs.size) s3.heap.objs.size (.error e) s') = E' at hEE
  have I4 := comp_start (t4 := s2.toks + ([] : List (Str × Value)).length) (E' := E') I3 hk hb hcap f3 hfl3 hns₁ kp
  have st4 : tn 0 h₁ := T.keep 0 _ _ st2 fun b hb' o e => kp b o (by rw [hs3']; exact Heap.get?_push_of_some _ e)
  obtain ⟨s4, hs4⟩ : ∃ s4 : Shared, s4 = { s3 with heap := h₁, toks := s2.toks + ([] : List (Str × Value)).length } := ⟨_, rfl⟩
  rw [← hs4] at I4
  have st4' : tn 0 s4.heap := by rw [hs4]; exact st4
  have cin : ∀ x c, (clOf scope X.env).lookup x = some c → X.env.cells.lookup x = some c := fun x c e => cl_in scope.names [] (fun y d q => by simp at q) e
  have stat : ∀ {H' : Hp}, (∀ b ∈ fp, H' b = none) → ∀ b ∈ fp, FpOk (X.comp scope s3.heap.objs.size s3 (upd H2 s2.heap.objs.size (.lst [])) fp N' E') [] H' b := fun hn b hb' => by
    refine ⟨hn b hb', Nat.ne_of_lt (hfl3 b hb'), fun z => ?_, .inl hb', fun x c e => (f3 b hb').2.2.2.2.1 x c (cin x c e), fun p hp => absurd hp (by simp [Cx.comp])⟩
    rcases List.mem_cons.mp (I3.stkSub b z) with z | z
    · exact (f3 b hb').2.1 z
    · exact (f3 b hb').2.2.1 z
  have loop : codeAny (model X.prog X.w) X.A (.compLoop (.ListComp elt [⟨tg, iter, ifs, 0⟩] scope pos) 0 (.ref it) (.ref s2.heap.objs.size) (compEnvC scope (clOf scope X.env) s3.heap.objs.size X.env))
      (compPost (model X.prog X.w) X.A X.xe none (EP X pins σ Q) (.ref s2.heap.objs.size) s3.heap.objs.size) s4 := by
    refine compLoop_gen (fun n s' => ∃ i ys H', Inv (X.comp scope s3.heap.objs.size s3 (upd H2 s2.heap.objs.size (.lst [])) fp N' E') [] (List.replicate nt none ++ caps cap σ) H' s' ∧ tn i s'.heap ∧ (∀ b ∈ fp, H' b = none) ∧ W i n ys H') ?_ m0
      ⟨0, [], _, I4, st4', fun b hb' => (f3 b hb').1, w0⟩
    rintro n s5 ⟨i, ys, H5, I5, st5, fr5, w5⟩
    rw [hE']
    obtain ⟨hD5, alt⟩ := turn i n ys H5 w5
    rcases alt with ⟨stop, qn⟩ | ⟨go, hyl, step⟩
    · refine thn (T.done (X.comp scope s3.heap.objs.size s3 (upd H2 s2.heap.objs.size (.lst [])) fp N' E') rfl rfl rfl hc i [] s5 _ H5 E' I5 (stat fr5) st5 stop) fun r s6 ⟨hr, I6⟩ => ?_
      subst hr
      obtain ⟨m6, hn6, _⟩ := I6.loc
      refine ⟨m6, hn6, fun h' hsb' => ?_⟩
      have I7 := comp_back I3 f3 I6
      refine ⟨.ref s2.heap.objs.size, H5, ?_, rfl, qn⟩
      refine I7.turnedL (ch := [s3.heap.objs.size]) (t' := s6.toks) (fun b hb' => ?_) fun b u hb' e => (hsb'.2 b fun z => hb' (by simp [z])).trans e
      have eb : b = s3.heap.objs.size := by simpa using hb'
      subst eb
      exact I3.fpOk (Nat.le_refl _) I6.free
    · refine thn (T.item (X.comp scope s3.heap.objs.size s3 (upd H2 s2.heap.objs.size (.lst [])) fp N' E') rfl rfl rfl hc i [] s5 _ H5 E' I5 (stat fr5) st5 go) fun r s6 ⟨u, hr, h6⟩ => ?_
      subst hr
      refine thn h6 fun _ s7 ⟨x, H7, I7, r7, y7, st7, fr7⟩ => ?_
      have I7' := I7.pinned (stat fr7) (T.obj _ _ st7)
      have again : ∀ {σ8 : St} {H8 : Hp} {ys' : List V} {s8 : Shared}, Inv (X.comp scope s3.heap.objs.size s3 (upd H2 s2.heap.objs.size (.lst [])) fp N' E') ([] ++ pinsAt fp s7.heap) σ8 H8 s8 → (∃ m', m' < n ∧ W (i + 1) m' ys' H8) → (∀ (j : Nat) v, (List.replicate nt none ++ caps cap σ)[j]? = some (some v) → σ8[j]? = some (some v)) →
          ∃ m, m < n ∧ ∃ i ys H', Inv (X.comp scope s3.heap.objs.size s3 (upd H2 s2.heap.objs.size (.lst [])) fp N' E') [] (List.replicate nt none ++ caps cap σ) H' s8 ∧ tn i s8.heap ∧ (∀ b ∈ fp, H' b = none) ∧ W i m ys H' := fun {σ8 H8 ys' s8} I8 ⟨m', hm, w8⟩ hσ => by
        refine ⟨m', hm, i + 1, ys', H8, I8.unpinned.weak (by rw [I8.len, I5.len]) hσ, T.keep _ _ _ st7 fun b hb o e => (I8.pin (b, o) (List.mem_append_right _ (List.mem_append_right _ (mem_pinsAt hb e)))).1, fun b hb => ?_, w8⟩
        obtain ⟨o, e, d⟩ := T.obj _ _ st7 b hb
        exact (I8.pin (b, o) (List.mem_append_right _ (List.mem_append_right _ (mem_pinsAt hb e)))).2.1
      refine thn (hg _ _ _ _ _ hEE _ s7 _ H7 x u _ I7' r7 (hgk x _ H7 _ (step x H7 y7))) fun _ s8 ⟨σ8, H8, I8, q8, hσ⟩ => ?_
      refine thn (hif _ _ _ _ _ hEE _ s8 σ8 H8 _ I8 q8) fun ok s9 ⟨H9, I9, q9⟩ => ?_
      cases ok with
      | false =>
        rw [if_neg Bool.false_ne_true] at q9 ⊢
        exact again I9 q9 hσ
      | true =>
        rw [if_pos rfl] at q9 ⊢
        refine thn (he _ _ _ _ _ hEE _ s9 σ8 H9 _ I9 q9) fun y s10 ⟨vy, H10, I10, r10, hD10, hm10⟩ => ?_
        exact thn (mt_append (X := X.comp scope s3.heap.objs.size s3 (upd H2 s2.heap.objs.size (.lst [])) fp N' E') _ s10 σ8 H10 (.ref s2.heap.objs.size) [vy] (.ref s2.heap.objs.size) [y] (fun _ H' => H' = upd H10 s2.heap.objs.size (.lst (ys ++ [vy]))) I10 rfl (.cons r10 .nil) ⟨_, _, _, rfl, rfl, hD10, hyl, rfl⟩) fun _ s11 ⟨_, H11, I11, _, e11⟩ => by
          subst e11
          exact again I11 hm10 hσ
  have e4 : ({ s2 with heap := h₁, toks := s2.toks + ([] : List (Str × Value)).length } : Shared) = s4 := by rw [hs4, hs3]
  show codeAny _ _ _ _ { s2 with heap := h₁, toks := s2.toks + ([] : List (Str × Value)).length }
  rw [e4]
  exact codeAny_compStart_list loop (T.self X.A 0 s4 _ _ st4' loop)
/-- a comprehension of one clause, nothing raised in it -/
theorem pe_comp {elt tg iter : Expr} {ifs : List Expr} {scope : Scope} {pos : Pos} {wi : TI} {g : TG} {ti : TT} {te : TE} (N' : List Str) (nt : Nat) (cap : List Nat)
    (hc : X.calm = true) (hi : PI X tg iter wi) (hgk : GKeeps nt g)
    (hg : ∀ C s₀ H₀ fp E', PG (X.comp scope C s₀ H₀ fp N' E') tg g)
    (hif : ∀ C s₀ H₀ fp E', PIf (X.comp scope C s₀ H₀ fp N' E') ifs ti)
    (he : ∀ C s₀ H₀ fp E', PE (X.comp scope C s₀ H₀ fp N' E') elt te)
    (hk : scope.kind = .function := by rfl) (hb : compOk scope X.env = true := by rfl) (hcap : capOk X scope N' nt cap = true := by rfl)
    (hs : ∀ x, foldedSetIterable iter X.env x = pure x := by intro _; rfl) : PE X (.ListComp elt [⟨tg, iter, ifs, 0⟩] scope pos) (tComp wi nt cap g ti te) :=
  comp_core (fun _ _ _ _ _ => True) (fun _ _ _ _ _ _ _ _ _ => trivial) hc hi (fun C s₀ H₀ fp E' _ => hg C s₀ H₀ fp E') (fun C s₀ H₀ fp E' _ => hif C s₀ H₀ fp E') (fun C s₀ H₀ fp E' _ => he C s₀ H₀ fp E') hk hb hcap hgk hs
end
/-! ### the forms one uses: what a comprehension makes, item by item -/
theorem comp_range {lo : Int} {n : Nat} {nt : Nat} {cap : List Nat} {g : TG} {te : TE} {σ : St} {H1 : Hp} {Q : VK} {D : Addr} (f : Nat → V) (hx : n ≤ sizeLine)
    (step : ∀ (i : Nat) H2 (R : VK), i < n → (∀ y, y = f i → R y H2) → g (.int (lo + i)) (List.replicate nt none ++ caps cap σ) H2 fun σ4 H4 => te σ4 H4 R)
    (fin : Q (.ref D) (upd H1 D (.lst ((List.range n).map f)))) :
    CompW (Itr lo n) D nt cap g tYes te σ H1 Q := by
  refine ⟨fun i m ys H2 => m = n - i ∧ i ≤ n ∧ ys = (List.range i).map f ∧ H2 = upd H1 D (.lst ys), ⟨_, rfl, Nat.zero_le _, rfl, rfl⟩, ?_⟩
  rintro i m ys H2 ⟨rfl, hi, rfl, rfl⟩
  refine ⟨upd_same, ?_⟩
  by_cases hlt : i < n
  · refine .inr ⟨hlt, by simp; omega, fun v H3 ⟨e, ev⟩ => ?_⟩
    subst e ev
    have hst := step i _ (fun y H6 => H6 D = some (.lst ((List.range i).map f)) ∧ ∃ m', m' < n - i ∧ (m' = n - (i + 1) ∧ i + 1 ≤ n ∧ (List.range i).map f ++ [y] = (List.range (i + 1)).map f ∧ upd H6 D (.lst ((List.range i).map f ++ [y])) = upd H1 D (.lst ((List.range i).map f ++ [y])))) hlt
      (fun y ey => ⟨upd_same, _, by omega, rfl, hlt, by rw [List.range_succ, List.map_append, ey]; rfl, upd_upd⟩)
    simp only [tYes, if_true]
    exact hst
  · have e : i = n := by omega
    subst e
    exact .inl ⟨Nat.le_refl _, fin⟩
end L2

namespace L2
open PySem PySem.Spec PyProof.Rows
section
variable {X : Cx}
/-! ### texts: a slice, join, upper -/
theorem strsAre_of : ∀ {ys : List Str} {us : List Value}, Vals (ys.map V.str) us → StrsAre us ys := by
  intro ys
  induction ys with
  | nil => intro us r; cases r; exact .nil
  | cons y ys ih =>
    intro us r
    cases r with
    | cons h t =>
      obtain ⟨k, rfl⟩ := h
      exact .cons y k (ih t)
def rJoin (K : PySem.W.Frag) : V → List V → Hp → VK → Prop := fun x xs H Q => ∃ z p ys, x = .str z ∧ xs = [.ref p] ∧ SqL K H p (ys.map V.str) ∧ (ys.map (·.length)).sum + ys.length * z.length ≤ 16777216 ∧ Q (.str (Txt.join z ys)) H
theorem mt_join : MtR X "str.join" (rJoin X.K) := by
  intro pins s σ H x xs v us Q I rx rv h
  obtain ⟨z, p, ys, rfl, rfl, hq, hl, q⟩ := h
  obtain ⟨t, rfl⟩ := rx
  obtain ⟨u, rfl, ru⟩ := rv.one
  cases ru
  obtain ⟨its, r, pl, _⟩ := I.list hq
  exact join_list pl.isList (strsAre_of r) hl fun t' k => ⟨.str (Txt.join z ys), H, I.tok k, ⟨t', rfl⟩, q⟩
def rUpper : V → List V → Hp → VK → Prop := fun x xs H Q => ∃ z, x = .str z ∧ xs = [] ∧ Builtin.Str.tooLong (Txt.upper z).length = false ∧ Q (.str (Txt.upper z)) H
theorem mt_upper : MtR X "str.upper" rUpper := by
  intro pins s σ H x xs v us Q I rx rv h
  obtain ⟨z, rfl, rfl, hl, q⟩ := h
  obtain ⟨t, rfl⟩ := rx
  cases rv.zero
  exact SC.upper hl ⟨.str (Txt.upper z), H, I.tok _, ⟨_, rfl⟩, q⟩
/-! ### all of a list of bools -/
/-! ### isinstance of plain values -/
end
end L2

namespace L2
open PySem PySem.Spec PyProof.Rows
/-! ### heaps without what leans on other things -/
def okHO : HO → Prop
  | .dT _ => False
  | .frz _ (.lst _) => True
  | .frz _ _ => False
  | _ => True
def Plain (H : Hp) : Prop := ∀ a o, H a = some o → okHO o
theorem Plain.upd {H : Hp} {l : Addr} {o : HO} (p : Plain H) (h : okHO o) : Plain (upd H l o) := fun a u e => by
  by_cases ha : a = l
  · subst ha; rw [upd_same] at e; cases e; exact h
  · rw [upd_ne ha] at e; exact p a u e
theorem Plain.lst {H : Hp} {l : Addr} {xs : List V} (p : Plain H) : Plain (L2.upd H l (.lst xs)) := p.upd trivial
theorem Plain.tup {H : Hp} {l : Addr} {xs : List V} (p : Plain H) : Plain (L2.upd H l (.tup xs)) := p.upd trivial
theorem Only.plain {H : Hp} (h : Only H) : Plain H := fun a o e => by
  rcases h a with z | ⟨o', xs, z⟩
  · rw [z] at e; cases e
  · rw [z] at e; cases e; exact trivial
/-- H'' is H' with some of the newer things forgotten -/
structure Cut (H H' H'' : Hp) : Prop where
  sub : ∀ b o, H'' b = some o → H' b = some o
  old : ∀ b o, H b = some o → H'' b = H' b
  ins : ∀ a C dx fs, H'' a = some (.ins C dx fs) → H'' dx = some (.own a)
  plain : Plain H''
theorem Cut.un {fs : List Addr} {H H' H'' : Hp} {h h' : Heap} (c : Cut H H' H'') (u : Un fs [] H H' h h') : Un fs [] H H'' h h' where
  keep := u.keep
  slot := u.slot
  free := fun b o e n hx => by
    have := u.free b o e n hx
    cases q : H'' b with
    | none => rfl
    | some z => rw [c.sub b z q] at this; cases this
  there := u.there
  tups := fun b xs e => by rw [c.old b _ e]; exact u.tups b xs e
  frzs := fun b o z e => by rw [c.old b _ e]; exact u.frzs b o z e
  tbls := fun b ps e => by rw [c.old b _ e]; exact u.tbls b ps e
theorem Cut.hok {P : Program} {w : World} {H H' H'' : Hp} {h : Heap} (c : Cut H H' H'') (k : HOk P w H' h) : HOk P w H'' h := fun a o e => by
  have q := k a o (c.sub a o e)
  cases o with
  | ins C dx fs =>
    obtain ⟨d, r⟩ := q
    exact ⟨c.ins a C dx fs e, r⟩
  | dT kvs => exact (c.plain a _ e).elim
  | frz ob u =>
    have z := c.plain a _ e
    cases u with
    | lst xs => exact q
    | _ => exact z.elim
  | lst xs => exact q
  | tup xs => exact q
  | dK kvs => exact q
  | set S n => exact q
  | own x => exact q
  | xd fs => exact q
  | met f x => exact q
  | rng lo hi => exact q
  | tbl ps => exact q
  | ext φ => exact q
section
variable {P : Program} {w : World} {K : PySem.W.Frag} {mg : Str → Option Value} {base : Heap} {CX : CXT} {k : Nat} {f : Addr} {fd : FuncData} {ps : List Str}
/-- a promise whose end may be cut -/
theorem FnOk.cut {sp : Sp} (F : FnOk P w K mg base CX k f fd ps sp) :
    FnOk P w K mg base CX k f fd ps (fun vs H Q E => sp vs H (fun v H' => ∃ H'', ((∀ a C dx fs, H a = some (.ins C dx fs) → H dx = some (.own a)) → Cut H H' H'') ∧ Q v H'') E) :=
  ⟨fun vs H Q E h => F.len vs H _ E h, fun A outer s H args us vs Q E hr he hb hv h => by
    refine codeAny_mono (F.run A outer s H args us vs _ E hr he hb hv h) fun r s' q => ?_
    cases r with
    | error e => exact q
    | ok fl =>
      cases fl with
      | ret u =>
        obtain ⟨v, H', os, bare, un, hok, rv, H'', hc, q⟩ := q
        have c := hc fun a C dx fs e => (he.hok a _ e).1
        exact ⟨v, H'', os, bare, c.un un, c.hok hok, rv, q⟩
      | _ => exact q⟩
/-- a promise that speaks of values alone -/
def pureSp {α : Type} (Pre : α → List V → Prop) (Post : α → V → Prop) : Sp := fun vs H Q _ => Plain H ∧ ∃ a, Pre a vs ∧ ∀ v, Post a v → Q v H
def rawSp {α : Type} (Pre : α → List V → Prop) (Post : α → V → Prop) : Sp := fun vs H Q _ => Plain H ∧ ∃ a, Pre a vs ∧ ∀ v H', Post a v → Same H H' → Q v H'
theorem FnOk.pure {α : Type} {Pre : α → List V → Prop} {Post : α → V → Prop} (F : FnOk P w K mg base CX k f fd ps (rawSp Pre Post)) : FnOk P w K mg base CX k f fd ps (pureSp Pre Post) :=
  F.cut.imp fun vs H Q E ⟨hp, a, ha, q⟩ => ⟨hp, a, ha, fun v H' hv hs => ⟨H, fun hi => ⟨hs, fun b o e => by rw [e, hs b o e], hi, hp⟩, q v hv⟩⟩
/-- a promise that hands back one new list or tuple of values -/
def newSp {α : Type} (Pre : α → List V → Prop) (Post : α → HO → Prop) : Sp := fun vs H Q _ => Plain H ∧ ∃ a, Pre a vs ∧ ∀ l o, H l = none → Post a o → Q (.ref l) (upd H l o)
def newRaw {α : Type} (Pre : α → List V → Prop) (Post : α → HO → Prop) : Sp := fun vs H Q _ => Plain H ∧ ∃ a, Pre a vs ∧ ∀ l o H', H l = none → H' l = some o → Post a o → Same H H' → Q (.ref l) H'
theorem FnOk.new {α : Type} {Pre : α → List V → Prop} {Post : α → HO → Prop} (hP : ∀ a o, Post a o → (∃ xs, o = .lst xs) ∨ ∃ xs, o = .tup xs) (F : FnOk P w K mg base CX k f fd ps (newRaw Pre Post)) : FnOk P w K mg base CX k f fd ps (newSp Pre Post) :=
  F.cut.imp fun vs H Q E ⟨hp, a, ha, q⟩ => ⟨hp, a, ha, fun l o H' hl hl' ho hs => ⟨upd H l o, fun hi => by
    have ne : ∀ b z, H b = some z → b ≠ l := fun b z e => ne_of_none e hl
    refine ⟨fun b z e => ?_, fun b z e => by rw [upd_ne (ne b z e), e, hs b z e], fun b C dx fs e => ?_, hp.upd ?_⟩
    · by_cases hb : b = l
      · subst hb; rw [upd_same] at e; rw [← e]; exact hl'
      · rw [upd_ne hb] at e; exact hs b z e
    · by_cases hb : b = l
      · subst hb; rw [upd_same] at e
        have e := Option.some.inj e
        rcases hP a o ho with ⟨xs, z⟩ | ⟨xs, z⟩ <;> (rw [z] at e; cases e)
      · rw [upd_ne hb] at e
        have d := hi b C dx fs e
        rw [upd_ne (ne dx _ d)]; exact d
    · rcases hP a o ho with ⟨xs, z⟩ | ⟨xs, z⟩ <;> (rw [z]; exact trivial), q l o hl ho⟩⟩
end
theorem Same.upd {H H' : Hp} {l : Addr} {o : HO} (s : Same H H') (hl : H l = none) : Same H (L2.upd H' l o) := fun b z e => by
  rw [upd_ne (ne_of_none e hl)]; exact s b z e
theorem same_upd {H : Hp} {l : Addr} {o : HO} (hl : H l = none) : Same H (upd H l o) := (Same.refl H).upd hl
theorem ite2d {p : Prop} [Decidable p] {A B : Prop} (h1 : p → A) (h2 : ¬ p → B) : if decide p = true then A else B := by
  by_cases h : p
  · rw [if_pos (decide_eq_true h)]; exact h1 h
  · rw [if_neg (by simpa using h)]; exact h2 h
theorem atI_in {xs : List Nat} {i : Int} (h0 : 0 ≤ i) (h1 : i < xs.length) : atI xs i = some (xs.getD i.toNat 0) := by
  obtain ⟨j, rfl⟩ : ∃ j : Nat, i = j := ⟨i.toNat, by omega⟩
  have hj : j < xs.length := by omega
  exact atI_nat (by simp [List.getElem?_eq_getElem hj])
theorem len_join0 (ys : List Str) : (Txt.join (⟨#[]⟩ : Str) ys).length ≤ (ys.map (·.length)).sum := by
  have e : Txt.join (⟨#[]⟩ : Str) ys = Str.join ⟨#[]⟩ ys := by simpa using join_plain_closes (⟨#[]⟩ : Str) ys
  rw [e]
  have := StrLaws.join_length_le (⟨#[]⟩ : Str) ys
  simpa [Str.length] using this
theorem sum_ones {n : Nat} {f : Nat → Str} (h : ∀ i, (f i).length = 1) : (((List.range n).map f).map (·.length)).sum = n := by
  induction n with
  | zero => rfl
  | succ n ih => rw [List.range_succ, List.map_append, List.map_append, List.sum_append, ih]; simp [h]
theorem cut_int {ns : List Int} {lo hi : Option Int} {i : Nat} {x : V} (h : (cutV (ns.map V.int) lo hi)[i]? = some x) : ∃ n, x = V.int n := by
  have hm := List.mem_of_getElem? h
  unfold cutV at hm
  have hm := List.mem_of_mem_drop (List.mem_of_mem_take hm)
  obtain ⟨n, _, e⟩ := List.mem_map.mp hm
  exact ⟨n, e.symm⟩
def Dig (d : Int) : Prop := 0 ≤ d ∧ d < 10000
theorem dig_mod (x : Int) : Dig (x % 10000) := ⟨Int.emod_nonneg _ (by decide), Int.emod_lt_of_pos _ (by decide)⟩
end L2

namespace L2
open PySem PySem.Spec PyProof.Rows
/-! ### an exception of an own class, in flight -/
/-- new: what the exception's own records may be -/
structure Fly (new : Addr → Prop) (H : Hp) (x C : Addr) (h : Heap) : Prop where
  ob : ∃ oe vs, h.get? x = some oe ∧ oe.cls = .ref C ∧ oe.dict = none ∧ oe.data = .fields vs ∧ 1 < vs.size ∧
    (vs[1]? = some .none ∨ ∃ T oT ts, vs[1]? = some (.ref T) ∧ T ≠ x ∧ h.get? T = some oT ∧ oT.data = .fields ts ∧ 3 < ts.size ∧ new T ∧ H T = none)
  new : new x
  free : H x = none
theorem Fly.imp {n n' : Addr → Prop} {H : Hp} {x C : Addr} {h : Heap} (f : Fly n H x C h) (k : ∀ b, n b → n' b) : Fly n' H x C h := by
  obtain ⟨⟨oe, vs, a, b, c, d, e, g⟩, hn, hf⟩ := f
  refine ⟨⟨oe, vs, a, b, c, d, e, g.imp id ?_⟩, k _ hn, hf⟩
  rintro ⟨T, oT, ts, a, b, c, d, e, f, g⟩
  exact ⟨T, oT, ts, a, b, c, d, e, k _ f, g⟩
theorem mapF_dict (o : Obj) (f : Array Value → Array Value) : (o.mapFields f).dict = o.dict := by
  obtain ⟨c, d, dt, sl⟩ := o
  cases dt <;> rfl
section
variable {M : Model} {A : Around} {E : Value → Shared → Prop} {s : Shared}
theorem frameOf_same {env env' : Env} (h : env.frame = env'.frame) : PySem.frameOf env = PySem.frameOf env' := by
  unfold PySem.frameOf
  rw [h]
theorem noteFrame_same {env env' : Env} {e : Value} (h : env.frame = env'.frame) : noteFrame e env = noteFrame e env' := by
  unfold noteFrame
  rw [frameOf_same h, h]
/-- what noting a frame, or setting the flight, leaves of the heap -/
structure Kept (x T : Addr) (frames : List Addr) (h h' : Heap) : Prop where
  keep : ∀ b o, b ≠ x → b ≠ T → b ∉ frames → h.get? b = some o → h'.get? b = some o
  slot : ∀ b o, b ≠ x → b ≠ T → h.get? b = some o → ∃ sl, h'.get? b = some { o with slots := sl }
/-- the entry of the frame at hand, made and hung on -/
theorem entry_fly {base : Heap} {env : Env} {outer : List Env} {L x : Addr} {oe : Obj} {vs : Array Value} {head : Value} {hadNext : Bool} {Q : Unit → Shared → Prop}
    (hfr : A.frames = some (env :: outer)) (hl : s.heap.FunFrames base (env :: outer)) (hf : env.frame = some L)
    (he : s.heap.get? x = some oe) (hd : oe.data = .fields vs) (hz : 1 < vs.size)
    (h : ∀ h' T, (∃ oe' vs', h'.get? x = some oe' ∧ oe'.cls = oe.cls ∧ oe'.dict = oe.dict ∧ oe'.data = .fields vs' ∧ 1 < vs'.size ∧ vs'[1]? = some (.ref T)) → (∃ oT ts, h'.get? T = some oT ∧ oT.data = .fields ts ∧ 3 < ts.size) → s.heap.objs.size ≤ T →
      Kept x x (frs (env :: outer)) s.heap h' → Q () { s with heap := h' }) :
    wpAny M A (do let a ← PySem.frameOf env; let pl ← entryPlaceOf L hadNext; let b ← EntryCells.newEntry head a .none (rawInt L) .none pl; setField (.ref x) 1 b) Q E s := by
  have xnf : x ∉ (env :: outer).filterMap (·.frame) := fun hm => by
    obtain ⟨_, o, ho, hnf⟩ := hl.mem hm
    rw [he] at ho
    cases ho
    exact hnf vs hd
  refine wpAny_bind (wpAny_frameOf_fun hfr hl hf fun h1 g1 => ?_)
  refine wpAny_bind (wpAny_entryPlaceOf fun pl hpl => ?_)
  unfold EntryCells.newEntry newFields
  refine wpAny_bind (wpAny_newObj_type ?_ (hpl.sizeOk5 _ _ _ _ _))
  have e1 : h1.get? x = some oe := (g1.2.1 x xnf).trans he
  have lt1 : x < h1.objs.size := Heap.lt_size e1
  have e2 := Heap.get?_push_of_some (h := h1) { cls := .type "traceback", dict := none, data := .fields ([head, .ref L, .none, rawInt L, .none] ++ (if pl.isEmpty then List.replicate 6 Value.none else pl)).toArray } e1
  have dm := Obj.data_mapFields hd (·.setIfInBounds 1 (Value.ref h1.objs.size))
  refine wpAny_setField e2 hd hz (h _ h1.objs.size ⟨_, _, Heap.get?_update_self _ e2 (Obj.isFreed_of_fields dm), Obj.cls_mapFields _ _, mapF_dict _ _, dm, by simpa using hz, by simp [hz]⟩
    ⟨_, _, (Heap.get?_update_other _ _ (Nat.ne_of_lt lt1)).trans (Heap.get?_push_size _ rfl), rfl, by simp only [List.size_toArray, List.length_append, List.length_cons]; omega⟩ (by rw [g1.1]; exact Nat.le_refl _) ⟨fun b o bx _ bf eb => ?_, fun b o bx _ eb => ?_⟩)
  · rw [Heap.get?_update_other _ _ (Ne.symm bx)]
    exact Heap.get?_push_of_some _ ((g1.2.1 b bf).trans eb)
  · obtain ⟨sl, q⟩ := g1.2.2 b o eb
    exact ⟨sl, by rw [Heap.get?_update_other _ _ (Ne.symm bx)]; exact Heap.get?_push_of_some _ q⟩
end
section
variable {X : Cx} {σ : St} {H : Hp} {s : Shared} {x C : Addr}
/-- what is new to a context -/
def Cx.new (X : Cx) (b : Addr) : Prop := (∀ o, X.s₀.heap.get? b = some o → b ∈ X.ex) ∧ ∀ p ∈ X.pn, p.1 ≠ b
theorem Inv.stepN {h' : Heap} {t' : Nat} {ch : List Addr} (I : Inv X [] σ H s) (hch : ∀ b ∈ ch, X.new b ∧ H b = none ∧ b ≠ X.env.locals ∧ ∀ y c, X.env.cells.lookup y = some c → c ≠ b)
    (keep : ∀ b o, b ∉ ch → b ∉ frs X.stack → s.heap.get? b = some o → h'.get? b = some o) (slot : ∀ b o, b ∉ ch → s.heap.get? b = some o → ∃ sl, h'.get? b = some { o with slots := sl }) :
    Inv X [] σ H { s with heap := h', toks := t' } := by
  have old : ∀ b o, X.s₀.heap.get? b = some o → b ∉ X.ex → b ∉ ch := fun b o e hx hb => hx ((hch b hb).1.1 o e)
  have neL : ∀ b o, X.s₀.heap.get? b = some o → b ≠ X.env.locals := fun b o e => Nat.ne_of_lt (Nat.lt_of_lt_of_le (Heap.lt_size e) I.ok.above)
  have trk : ∀ b u, H b = some u → b ∉ ch := fun b u e hb => by have := (hch b hb).2.1; rw [e] at this; cases this
  have trs : ∀ b u, H b = some u → b ∉ frs X.stack := fun b u e hb => by have := I.stkFree b hb; rw [e] at this; cases this
  have nfs : ∀ b, b ≠ X.env.locals → b ∉ X.fs → b ∉ frs X.stack := fun b h1 h2 z => (List.mem_cons.mp (I.stkSub b z)).elim h1 h2
  have cellK : ∀ y c, X.env.cells.lookup y = some c → ∀ v, s.heap.IsCell c v → h'.IsCell c v := fun y c e v ⟨o, ho, hd⟩ => by
    obtain ⟨sl, q⟩ := slot c o (fun z => (hch c z).2.2.2 y c e rfl) ho
    exact ⟨_, q, hd⟩
  refine ⟨I.ok, I.os, I.bare, ⟨fun b o e n hb hx => ?_, fun b o e n hb hx => ?_, I.base.free, fun b o e hx => ?_, I.base.tups, I.base.frzs, I.base.tbls⟩, ?_, fun y c e => ?_, I.free, I.freeC, fun p hp => ?_, fun b u e => ?_, I.len⟩
  · exact keep b o (old b o e hx) (nfs b (neL b o e) hb) (I.base.keep b o e n hb hx)
  · obtain ⟨sl, q⟩ := I.base.slot b o e n hb hx
    obtain ⟨sl', q'⟩ := slot b _ (old b o e hx) q
    exact ⟨sl', q'⟩
  · obtain ⟨o', q⟩ := I.base.there b o e hx
    obtain ⟨sl, q'⟩ := slot b o' (old b o e hx) q
    exact ⟨_, q'⟩
  · obtain ⟨m, ⟨o, es, ep, ho, r⟩, hl⟩ := I.loc
    obtain ⟨sl, q⟩ := slot _ o (fun z => (hch _ z).2.2.1 rfl) ho
    refine ⟨m, ⟨_, es, ep, q, r⟩, fun i y v e1 e2 e3 => ?_⟩
    obtain ⟨u, ru, lk⟩ := hl i y v e1 e2 e3
    exact ⟨u, ru, lk.imp id fun ⟨k, c, e, z⟩ => ⟨k, c, e, cellK y c e _ z⟩⟩
  · obtain ⟨v, z⟩ := I.cell y c e
    exact ⟨v, cellK y c e v z⟩
  · obtain ⟨e, n, ne, nf, d⟩ := I.pin p hp
    have hp' : p ∈ X.pn := by simpa using hp
    exact ⟨keep p.1 p.2 (fun z => (hch p.1 z).1.2 p hp' rfl) (nfs p.1 ne nf) e, n, ne, nf, d⟩
  · refine (I.hok b u e).stay (fun c v hc q => ?_) (fun _ q => q) fun _ _ q => q
    rcases hc with rfl | hc
    · exact keep c v (trk c u e) (trs c u e) q
    · exact keep c v (trk c _ hc) (trs c _ hc) q
/-- records (fields) are no frame, no cell, not the frame's own -/
theorem Inv.fieldsNe (I : Inv X [] σ H s) {b : Addr} {o : Obj} {vs : Array Value} (e : s.heap.get? b = some o) (d : o.data = .fields vs) : b ≠ X.env.locals ∧ (∀ y c, X.env.cells.lookup y = some c → c ≠ b) ∧ b ∉ frs X.stack := by
  refine ⟨fun z => ?_, fun y c ec z => ?_, fun z => ?_⟩
  · obtain ⟨m, ⟨o', es, ep, ho, r, _⟩, _⟩ := I.loc
    rw [← z, e] at ho
    cases ho
    rw [d] at r
    cases r
  · obtain ⟨v, o', ho, hd⟩ := I.cell y c ec
    rw [z, e] at ho
    cases ho
    rw [d] at hd
    cases hd
  · obtain ⟨_, o', ho, hnf⟩ := I.stack.mem z
    rw [e] at ho
    cases ho
    exact hnf vs d
theorem Inv.kept2 {h' : Heap} {T : Addr} (I : Inv X [] σ H s) (F : Fly X.new H x C s.heap) (hT : T = x ∨ ∃ oe vs oT ts, s.heap.get? x = some oe ∧ oe.data = .fields vs ∧ vs[1]? = some (.ref T) ∧ s.heap.get? T = some oT ∧ oT.data = .fields ts)
    (k : Kept x T (frs X.stack) s.heap h') : Inv X [] σ H { s with heap := h' } := by
  obtain ⟨oe, vs, e, _, _, d, _, tb⟩ := F.ob
  have one : X.new x ∧ H x = none ∧ x ≠ X.env.locals ∧ ∀ y c, X.env.cells.lookup y = some c → c ≠ x := ⟨F.new, F.free, (I.fieldsNe e d).1, (I.fieldsNe e d).2.1⟩
  have two : X.new T ∧ H T = none ∧ T ≠ X.env.locals ∧ ∀ y c, X.env.cells.lookup y = some c → c ≠ T := by
    rcases hT with rfl | ⟨oe', vs', oT, ts, e', d', v', eT, dT⟩
    · exact one
    · rw [e] at e'
      cases e'
      rw [d] at d'
      cases d'
      rcases tb with z | ⟨T', oT', ts', v, _, _, _, _, hn, hf⟩
      · rw [z] at v'; cases v'
      · rw [v] at v'
        cases v'
        exact ⟨hn, hf, (I.fieldsNe eT dT).1, (I.fieldsNe eT dT).2.1⟩
  refine I.stepN (ch := [x, T]) (fun b hb => ?_) (fun b o hb hs q => k.keep b o (fun z => hb (by simp [z])) (fun z => hb (by simp [z])) hs q) fun b o hb q => k.slot b o (fun z => hb (by simp [z])) (fun z => hb (by simp [z])) q
  have : b = x ∨ b = T := by simpa using hb
  rcases this with rfl | rfl
  · exact one
  · exact two
/-- the context's own frame heads the frames -/
structure Cx.Top (X : Cx) : Prop where
  top : ∃ env outer L, X.stack = env :: outer ∧ env.frame = some L ∧ X.env.frame = some L
theorem Cx.newAt {X : Cx} {σ : St} {H : Hp} {s : Shared} (I : Inv X [] σ H s) {T : Addr} (h : s.heap.objs.size ≤ T) : X.new T := by
  refine ⟨fun o q => ?_, fun p hp z => ?_⟩
  · exact absurd (Nat.lt_of_lt_of_le (Heap.lt_size q) (Nat.le_trans I.sz h)) (Nat.lt_irrefl _)
  · have := Heap.lt_size (I.pin p (List.mem_append_left _ hp)).1
    rw [z] at this
    exact absurd (Nat.lt_of_lt_of_le this h) (Nat.lt_irrefl _)
/-- noteFrame: the exception stays in flight -/
theorem note_fly {E : Value → Shared → Prop} {Q : Unit → Shared → Prop} (I : Inv X [] σ H s) (tp : X.Top) (F : Fly X.new H x C s.heap)
    (h : ∀ h', Inv X [] σ H { s with heap := h' } → Fly X.new H x C h' → (∃ oe vs T, h'.get? x = some oe ∧ oe.data = .fields vs ∧ vs[1]? = some (.ref T)) → Q () { s with heap := h' }) :
    wpAny (model X.prog X.w) X.A (noteFrame (.ref x) X.env) Q E s := by
  obtain ⟨env, outer, L, hst, hf, hfe⟩ := tp.top
  have hfr : X.A.frames = some (env :: outer) := by rw [I.ok.frames, hst]
  have hl : s.heap.FunFrames X.base (env :: outer) := by rw [← hst]; exact I.stack
  obtain ⟨oe, vs, e, ec, ed, d, z, tb⟩ := id F.ob
  rw [noteFrame_same (show X.env.frame = env.frame by rw [hfe, hf])]
  unfold noteFrame
  simp only [hf]
  rcases tb with v | ⟨T, oT, ts, v, nx, eT, dT, zT, hn, hfT⟩
  · refine wpAny_bind (wpAny_field e d v ?_)
    rw [if_neg (by decide)]
    refine entry_fly hfr hl hf e d z fun h' T ⟨oe', vs', a1, a2, a3, a4, a5, a6⟩ ⟨oT, ts, b1, b2, b3⟩ hz k => ?_
    rw [← hst] at k
    refine h h' (I.kept2 F (.inl rfl) k) ⟨⟨oe', vs', a1, a2.trans ec, a3.trans ed, a4, a5, .inr ⟨T, oT, ts, a6, ?_, b1, b2, b3, Cx.newAt I hz, I.hok.fresh hz⟩⟩, F.new, F.free⟩ ⟨_, _, _, a1, a4, a6⟩
    exact Nat.ne_of_gt (Nat.lt_of_lt_of_le (Heap.lt_size e) hz)
  · refine wpAny_bind (wpAny_field e d v ?_)
    rw [if_pos (show (Value.ref T != Value.none) = true from by simp)]
    have v3 : ts[3]? = some ts[3] := by simp [zT]
    refine wpAny_bind (wpAny_field eT dT v3 ?_)
    by_cases hq : (ts[3] == rawInt L) = true
    · rw [if_pos hq]
      exact wpAny_pure (h s.heap I F ⟨_, _, _, e, d, v⟩)
    · rw [if_neg hq]
      refine wpAny_bind (wpAny_setField eT dT zT ?_)
      have oth : ∀ b, b ≠ T → (s.heap.update T (Obj.mapFields (·.setIfInBounds 3 Value.none))).get? b = s.heap.get? b := fun b hb => Heap.get?_update_other _ _ (Ne.symm hb)
      have e2 : (s.heap.update T (Obj.mapFields (·.setIfInBounds 3 Value.none))).get? x = some oe := (oth x (Ne.symm nx)).trans e
      have hl2 : (s.heap.update T (Obj.mapFields (·.setIfInBounds 3 Value.none))).FunFrames X.base (env :: outer) := hl.of_keeps fun b o ho hnf => ⟨o, (oth b fun q => by rw [q, eT] at ho; cases ho; exact hnf ts dT).trans ho, rfl⟩
      refine entry_fly (s := { s with heap := s.heap.update T (Obj.mapFields (·.setIfInBounds 3 Value.none)) }) hfr hl2 hf e2 d z fun h' T' ⟨oe', vs', a1, a2, a3, a4, a5, a6⟩ ⟨oT', ts', b1, b2, b3⟩ hz k => ?_
      rw [← hst] at k
      have hz' : s.heap.objs.size ≤ T' := by
        have e3 : (s.heap.update T (Obj.mapFields (·.setIfInBounds 3 Value.none))).objs.size = s.heap.objs.size := Heap.size_after_update ..
        have hz2 : (s.heap.update T (Obj.mapFields (·.setIfInBounds 3 Value.none))).objs.size ≤ T' := hz
        omega
      have k' : Kept x T (frs X.stack) s.heap h' := ⟨fun b o b1 b2 b3 q => k.keep b o b1 b1 b3 ((oth b b2).trans q), fun b o b1 b2 q => k.slot b o b1 b1 ((oth b b2).trans q)⟩
      refine h h' (I.kept2 F (.inr ⟨_, _, _, _, e, d, v, eT, dT⟩) k') ⟨⟨oe', vs', a1, a2.trans ec, a3.trans ed, a4, a5, .inr ⟨T', oT', ts', a6, ?_, b1, b2, b3, Cx.newAt I hz', I.hok.fresh hz'⟩⟩, F.new, F.free⟩ ⟨_, _, _, a1, a4, a6⟩
      exact Nat.ne_of_gt (Nat.lt_of_lt_of_le (Heap.lt_size e) hz')
/-- setFlight, where there is a traceback -/
theorem flight_fly {A : Around} {E : Value → Shared → Prop} {Q : Unit → Shared → Prop} {f : Option Addr} (I : Inv X [] σ H s) (F : Fly X.new H x C s.heap) (ht : ∃ oe vs T, s.heap.get? x = some oe ∧ oe.data = .fields vs ∧ vs[1]? = some (.ref T))
    (h : ∀ h', Inv X [] σ H { s with heap := h' } → Fly X.new H x C h' → (∃ oe vs T, h'.get? x = some oe ∧ oe.data = .fields vs ∧ vs[1]? = some (.ref T)) → Q () { s with heap := h' }) :
    wpAny (model X.prog X.w) A (setFlight (.ref x) f) Q E s := by
  obtain ⟨oe, vs, e, ec, ed, d, z, tb⟩ := id F.ob
  obtain ⟨oe', vs', T, e', d', v⟩ := ht
  rw [e] at e'
  cases e'
  rw [d] at d'
  cases d'
  rcases tb with v' | ⟨T', oT, ts, v', nx, eT, dT, zT, hn, hfT⟩
  · rw [v'] at v; cases v
  rw [v'] at v
  cases v
  unfold setFlight
  refine wpAny_bind (wpAny_field e d v' ?_)
  rw [if_pos (show (Value.ref T != Value.none) = true from by simp)]
  refine wpAny_setField eT dT zT ?_
  have oth : ∀ b, b ≠ T → (s.heap.update T (Obj.mapFields (·.setIfInBounds 3 (f.elim Value.none fun f => rawInt f)))).get? b = s.heap.get? b := fun b hb => Heap.get?_update_other _ _ (Ne.symm hb)
  have dm := Obj.data_mapFields dT (·.setIfInBounds 3 (f.elim Value.none fun f => rawInt f))
  have e2 := (oth x (Ne.symm nx)).trans e
  refine h _ (I.kept2 F (.inr ⟨_, _, _, _, e, d, v', eT, dT⟩) ⟨fun b o _ b2 _ q => (oth b b2).trans q, fun b o _ b2 q => ⟨o.slots, (oth b b2).trans q⟩⟩)
    ⟨⟨oe, vs, e2, ec, ed, d, z, .inr ⟨T, _, _, v', nx, Heap.get?_update_self _ eT (Obj.isFreed_of_fields dm), dm, by simpa using zT, hn, hfT⟩⟩, F.new, F.free⟩ ⟨_, _, _, e2, d, v'⟩
end
end L2

namespace L2
open PySem PySem.Spec PyProof.Rows
/-! ### how an exception lies behind a call -/
def CX1 (P : Program) (w : World) (base : Heap) : CXT := fun outer H s E e s' => ∃ (x C : Addr) (H' : Hp), e = .ref x ∧ s'.os = s.os ∧ AllBare s'.gens ∧ Un (frs outer) [] H H' s.heap s'.heap ∧ HOk P w H' s'.heap ∧
  Fly (fun b => s.heap.get? b = none) H' x C s'.heap ∧ E (.ref C) none H'
/-- the context takes an exception that is as E says -/
def Wants (X : Cx) (E : XK) : Prop := ∀ (σ : St) (H' : Hp) (s' : Shared) (x C : Addr), Inv X [] σ H' s' → Fly X.new H' x C s'.heap → E (.ref C) none H' → X.xe (.ref x) s'
theorem newOf {X : Cx} {pins : List (Addr × Obj)} {σ : St} {H : Hp} {s : Shared} (I : Inv X pins σ H s) {b : Addr} (h : s.heap.get? b = none) : X.new b := by
  refine ⟨fun o e => ?_, fun p hp z => ?_⟩
  · by_cases hx : b ∈ X.ex
    · exact hx
    · obtain ⟨o', q⟩ := I.base.there b o e hx
      rw [h] at q
      cases q
  · have := (I.pin p (List.mem_append_left _ hp)).1
    rw [z, h] at this
    cases this
theorem Inv.nopins {X : Cx} {pins : List (Addr × Obj)} {σ : St} {H : Hp} {s : Shared} (I : Inv X pins σ H s) : Inv X [] σ H s := I.pins_of fun p hp => absurd hp (by simp)
theorem Wants.passes {X : Cx} {E : XK} (W : Wants X E) : Passes (CX1 X.prog X.w X.base) X E := fun pins σ H s e s' I ⟨x, C, H', ee, os, bare, un, hok, F, q⟩ => by
  subst ee
  have J : Inv X pins σ H' s' := I.call' (ch := []) os un hok bare fun b z => absurd z (by simp)
  exact W σ H' s' x C J.nopins (F.imp fun b hb => newOf I hb) q
theorem pass1 {P : Program} {w : World} {base : Heap} {X : Cx} : Passes (CX1 P w base) X E0 := fun _ _ _ _ _ _ _ ⟨_, _, _, _, _, _, _, _, _, q⟩ => q.elim
theorem wants_fn {P : Program} {w : World} {K : PySem.W.Frag} {mg : Str → Option Value} {base : Heap} {N : List Str} {qual : Str} {scope : Scope} {f : Addr} {cd : Value} {A : Around} {outer : List Env} {s : Shared} {H : Hp} {E : XK} :
    Wants (cxOf (CX1 P w base) P w K mg base N qual scope f cd A outer s H E) E := fun σ H' s' x C I F q => by
  refine wpAny_bind (note_fly I ⟨⟨_, _, _, rfl, rfl, rfl⟩⟩ F fun h1 I1 F1 t1 => ?_)
  refine flight_fly I1 F1 t1 fun h2 I2 F2 _ => ?_
  refine ⟨x, C, H', rfl, I2.os, I2.bare, I2.base, I2.hok, F2.imp fun b hb => ?_, q⟩
  cases e : s.heap.get? b with
  | none => rfl
  | some o => exact absurd (hb.1 o e) (by simp [cxOf])
section
variable {P : Program} {w : World} {K : PySem.W.Frag} {mg : Str → Option Value} {base : Heap}
theorem Fun.okX {x qual : Str} {st : Stmt} {f : Addr} {fd : FuncData} {N ps : List Str} {k : Nat} {sp : Sp} (F : Fun K x qual st f fd) (S : FnScope N ps (defScope st)) (len : ∀ vs H Q E, sp vs H Q E → vs.length = ps.length)
    (hbody : ∀ (cdv : Value) (A : Around) (outer : List Env) (s : Shared) (H : Hp) (vs : List V) (Q : VK) (E : XK), Room k (A.deeper (envOfC qual (defScope st) s.heap.objs.size f cdv)) → sp vs H Q E →
      ∃ t, PSs (cxOf (CX1 P w base) P w K mg base N qual (defScope st) f cdv A outer s H E) (defBody st) t ∧ t { nx := fun _ H' => Q .non H', rt := Q } (start N vs) H) : FnOk P w K mg base (CX1 P w base) (k + 1) f fd ps sp := by
  obtain ⟨oc, od, kV, doc, pm, an, cdv, ct, osl, rfl, lk, hcd⟩ := F.ex
  exact fn_of lk hcd S len fun A outer s H vs Q E hr hsp => hbody cdv A outer s H vs Q E hr hsp
/-- a def that raises nothing -/
theorem Fun.okN {x qual : Str} {st : Stmt} {f : Addr} {fd : FuncData} {N ps : List Str} {k : Nat} {sp : Sp} (F : Fun K x qual st f fd) (S : FnScope N ps (defScope st)) (len : ∀ vs H Q E, sp vs H Q E → vs.length = ps.length)
    (hbody : ∀ (cdv : Value) (A : Around) (outer : List Env) (s : Shared) (H : Hp) (vs : List V) (Q : VK) (E : XK), Room k (A.deeper (envOfC qual (defScope st) s.heap.objs.size f cdv)) → sp vs H Q E →
      ∃ t, PSs (cxOf (CX1 P w base) P w K mg base N qual (defScope st) f cdv A outer s H E).nox (defBody st) t ∧ t { nx := fun _ H' => Q .non H', rt := Q } (start N vs) H) : FnOk P w K mg base (CX1 P w base) (k + 1) f fd ps sp :=
  F.okX S len fun cdv A outer s H vs Q E hr hsp => let ⟨t, h, q⟩ := hbody cdv A outer s H vs Q E hr hsp; ⟨t, h.nox, q⟩
end
/-! ### classes of exceptions, as the top has made them -/
abbrev bmV : List Value := [.type "ValueError", .type "Exception", .type "BaseException", .type "object"]
structure XCls (K : PySem.W.Frag) (C : Addr) : Prop where
  ex : PySem.W.excIn K C bmV "ValueError.__new__" = true
  ga : PySem.W.findIn K (.ref C) "__getattribute__" = some (some (.builtin "BaseException.__getattribute__"))
  gn : PySem.W.findIn K (.ref C) "__getattr__" = some none
  be : PySem.W.subIn K (.ref C) (.type "BaseException") = some true
  hd : PySem.W.hasDictIn K C = true
  ca : PySem.W.findIn K (.ref C) "__class__" = some (some (.builtin "object.__class__"))
  mo : PySem.W.mroIn K C (.type "object") = some true
  gs : PySem.W.specialIn K (.builtin "object.__class__") "__get__" = some (some (.builtin "getset_descriptor.__get__"))
  tk : PySem.W.takesIn K (.builtin "object.__class__") = some true
theorem XCls.obj {K : PySem.W.Frag} {C : Addr} {h : Heap} (c : XCls K C) (X : K.In h) : ∃ bm N nm q bs hdct sn sub ab col dd k0 k1 k2 k3 k5 mN,
    h.get? C = some (excClassObj nm q C N bs bm hdct sn sub ab col dd k0 k1 k2 k3 k5 "ValueError.__new__") ∧ h.Ns N mN ∧ mN "__init__" = none ∧ OwnTail h bmV bm ∧
    ∀ b r, PySem.W.mroIn K C b = some r → (Value.ref C :: bm).contains b = r := by
  have q := c.ex
  unfold PySem.W.excIn at q
  split at q
  · rename_i dd cd sl ho
    split at q
    · rename_i C' bm k0 k1 k2 k3 n k5 hm hs
      simp only [Bool.and_eq_true, beq_iff_eq, Bool.not_eq_true'] at q
      obtain ⟨⟨⟨⟨⟨rfl, rfl⟩, hdel⟩, ht⟩, hok⟩, hni⟩ := q
      have hmro : ∀ b r, PySem.W.mroIn K C' b = some r → (Value.ref C' :: bm).contains b = r := fun b r e => by
        unfold PySem.W.mroIn PySem.W.clsIn at e
        rw [ho] at e
        simp only [Option.bind_some, hm] at e
        simpa using e
      obtain ⟨nm, bs, mro, ns, qn, hd, sn, sub, ab, col, del⟩ := cd
      dsimp only at hm hdel hok hni
      subst hm hdel
      have hsl : sl = #[k0, k1, k2, k3, some (.builtin "ValueError.__new__"), k5] := by
        obtain ⟨l⟩ := sl
        simp only at hs
        rw [hs]
      subst hsl
      exact ⟨bm, ns, nm, qn, bs, hd, sn, sub, ab, col, dd, k0, k1, k2, k3, k5, _, X _ _ ho, .of_isNs (PySem.W.isNs_of_in X hok), PySem.W.nsMap_none_of_in X hok hni, PySem.W.tail_of_in X ht, hmro⟩
    · cases q
  · cases q
/-! ### raise -/
section
variable {X : Cx}
def tRaise (C : Addr) (E : XK) (ta : TA) : TS := fun _ σ H => ta σ H fun vs H1 => vs.length ≤ sizeLine ∧ E (.ref C) none H1
theorem ps_raise {C : Addr} {E : XK} {n : Str} {e : Expr} {es : List Expr} {ta : TA} {np cpos pos : Pos} (xc : XCls X.K C) (W : Wants X E) (hc : X.calm = true) (hg : Gl X n) (hm : X.mg n = some (.ref C)) (ha : PA X (e :: es) ta)
    (hs : starEach (e :: es) X.env = (false, eval e X.env) :: starEach es X.env := by rfl) (hp : (backTo cpos (starEach es X.env)).any (·.1) = false := by rfl) (hdb : (n == ("__debug__" : Str)) = false := by decide) :
    PS X (.Raise (some (.Call (.Name n np) (e :: es) [] cpos)) none pos) (tRaise C E ta) := .mk <| by
  intro pins s σ H D I h
  obtain ⟨bm, N, nm, q, bs, hdct, sn, sub, ab, col, dd, k0, k1, k2, k3, k5, mN, hC, hN, hni, T, _⟩ := xc.obj I.mod.kin
  refine wpAny_Raise_call_subT (C := C) (nm := nm) (q := q) (N := N) (bs := bs) (bm := bm) (hdct := hdct) (sn := sn) (sub := sub) (ab := ab) (col := col) (dd := dd) (k0 := k0) (k1 := k1) (k2 := k2) (k3 := k3) (k5 := k5)
    PySem.F.excBase_ValueError (mN := mN) (T.hasType (by decide)) (I.ok.hd hc) (by rw [hs]; show (false || (backTo cpos (starEach es X.env)).any (·.1)) = false; rw [hp]; rfl) hni (ld_glob I hg hm ⟨rfl, ?_⟩ hdb)
  have hA := ha cpos pins s σ H _ I h
  rw [hs] at hA ⊢
  refine Calls.evalArgs_plain (thn hA fun us s1 ⟨vs, H1, I1, r1, hl, hE⟩ => ⟨rfl, by rw [← r1.length]; exact hl, I1.bk _ _ hC, hN.keeps I1.bk, T.keeps I1.bk, fun h' x mk => ?_⟩)
  obtain ⟨t, e1, _, _⟩ := mk.there
  have J : Inv X [] σ H1 { s1 with heap := h' } := (I1.kept (t' := s1.toks) mk.keeps).nopins
  refine W σ H1 _ x C J ⟨⟨_, _, e1, rfl, rfl, rfl, by simp, .inl rfl⟩, newOf I1 mk.new, ?_⟩ hE
  cases z : H1 x with
  | none => rfl
  | some o =>
    have := (I1.hok x o z)
    have lt : ∃ ob, s1.heap.get? x = some ob := by
      cases o with
      | lst xs => obtain ⟨_, _, _, _, e⟩ := this; exact ⟨_, e⟩
      | tup xs => obtain ⟨_, _, _, p⟩ := this; obtain ⟨ob, e, _⟩ := p; exact ⟨_, e⟩
      | dK kvs => obtain ⟨_, _, _, _, o, _, _, e, _⟩ := this; exact ⟨_, e⟩
      | dT kvs => obtain ⟨_, _, _, _, o, _, _, e, _⟩ := this; exact ⟨_, e⟩
      | set S n => obtain ⟨o, _, _, _, e, _⟩ := this; exact ⟨_, e⟩
      | ins C dx fs => obtain ⟨_, _, _, e, _⟩ := this; exact ⟨_, e⟩
      | own y => exact this
      | xd fs => obtain ⟨_, ⟨_, _, _, e, _⟩, _⟩ := this; exact ⟨_, e⟩
      | rng lo hi => obtain ⟨_, _, _, e⟩ := this; exact ⟨_, e⟩
      | frz ob u => obtain ⟨e, _⟩ := this; exact ⟨_, e⟩
      | tbl ps => exact ⟨_, (show s1.heap.get? x = some _ from this)⟩
      | met f y => exact ⟨_, (show s1.heap.get? x = some _ from this)⟩
      | ext φ => obtain ⟨_, e, _⟩ := this; exact e
    obtain ⟨ob, e⟩ := lt
    rw [mk.new] at e
    cases e
end
end L2

namespace L2
open PySem PySem.Spec PyProof.Rows
/-- an exception that is held by a name -/
def excO (x C : Addr) : HO := .ext fun h => ∃ o, h.get? x = some o ∧ o.cls = .ref C ∧ o.dict = none ∧ PySem.W.notCls o = true
def Cx.tryC (X : Cx) (E' : Value → Shared → Prop) (pn' : List (Addr × Obj)) : Cx := { X with xe := E', pn := X.pn ++ pn' }
def Cx.hand (X : Cx) (x : Addr) : Cx := { X with A := X.A.mark (some (.ref x)), calm := false, xe := fun _ _ => False }
section
variable {X : Cx} {pins : List (Addr × Obj)} {σ : St} {H : Hp} {s : Shared} {x C D : Addr}
theorem Inv.toTry (I : Inv X pins σ H s) (E' : Value → Shared → Prop) : Inv (X.tryC E' pins) [] σ H s :=
  ⟨⟨I.ok.mod, I.ok.kind, I.ok.glob, I.ok.blt, I.ok.above, I.ok.inj, I.ok.has, I.ok.cab, I.ok.hd, I.ok.frames, I.ok.stk, I.ok.exf, I.ok.bs, I.ok.bsz, I.ok.noex, I.ok.exfs, I.ok.funs, I.ok.frf⟩, I.os, I.bare, I.base, I.loc, I.cell, I.free, I.freeC, fun p hp => I.pin p (by simpa [Cx.tryC] using hp), I.hok, I.len⟩
theorem Inv.ofTry {E' : Value → Shared → Prop} (I : Inv (X.tryC E' pins) [] σ H s) : Inv X pins σ H s :=
  ⟨⟨I.ok.mod, I.ok.kind, I.ok.glob, I.ok.blt, I.ok.above, I.ok.inj, I.ok.has, I.ok.cab, I.ok.hd, I.ok.frames, I.ok.stk, I.ok.exf, I.ok.bs, I.ok.bsz, I.ok.noex, I.ok.exfs, I.ok.funs, I.ok.frf⟩, I.os, I.bare, I.base, I.loc, I.cell, I.free, I.freeC, fun p hp => I.pin p (by simpa [Cx.tryC] using hp), I.hok, I.len⟩
theorem Inv.toHand (I : Inv X pins σ H s) (x : Addr) : Inv (X.hand x) pins σ H s :=
  ⟨⟨I.ok.mod, I.ok.kind, I.ok.glob, I.ok.blt, I.ok.above, I.ok.inj, I.ok.has, I.ok.cab, fun z => absurd z Bool.false_ne_true, I.ok.frames, I.ok.stk, I.ok.exf, I.ok.bs, I.ok.bsz, I.ok.noex, I.ok.exfs, I.ok.funs, I.ok.frf⟩, I.os, I.bare, I.base, I.loc, I.cell, I.free, I.freeC, I.pin, I.hok, I.len⟩
theorem Inv.ofHand {y : Addr} (I : Inv (X.hand y) pins σ H s) (hd : X.calm = true → X.A.handled = none) : Inv X pins σ H s :=
  ⟨⟨I.ok.mod, I.ok.kind, I.ok.glob, I.ok.blt, I.ok.above, I.ok.inj, I.ok.has, I.ok.cab, hd, I.ok.frames, I.ok.stk, I.ok.exf, I.ok.bs, I.ok.bsz, I.ok.noex, I.ok.exfs, I.ok.funs, I.ok.frf⟩, I.os, I.bare, I.base, I.loc, I.cell, I.free, I.freeC, I.pin, I.hok, I.len⟩
/-- the exception is tracked from here on -/
theorem Inv.track (I : Inv X pins σ H s) (hn : ∀ o, X.s₀.heap.get? x = some o → x ∈ X.ex) (hp : ∀ p ∈ X.pn ++ pins, p.1 ≠ x) (hf : H x = none)
    (ob : ∃ oe vs, s.heap.get? x = some oe ∧ oe.cls = .ref C ∧ oe.dict = none ∧ oe.data = .fields vs) : Inv X pins σ (upd H x (excO x C)) s := by
  obtain ⟨oe, vs, e, ec, ed, d⟩ := ob
  obtain ⟨n1, n2, n3⟩ := I.nopins.fieldsNe e d
  have ne : ∀ b u, H b = some u → b ≠ x := fun b u q => ne_of_none q hf
  refine ⟨I.ok, I.os, I.bare, ⟨I.base.keep, I.base.slot, fun b o q n hx => ?_, I.base.there, fun b xs q => ?_, fun b o u q => ?_, fun b ps q => ?_⟩, I.loc, I.cell, ?_, fun y c q => ?_, fun p hp' => ?_, fun b u q => ?_, I.len⟩
  · rw [upd_ne (fun z => hx (by subst z; exact hn o q))]; exact I.base.free b o q n hx
  · have := I.base.tups b xs q; rw [upd_ne (ne b _ this)]; exact this
  · have := I.base.frzs b o u q; rw [upd_ne (ne b _ this)]; exact this
  · obtain ⟨m, q'⟩ := I.base.tbls b ps q; exact ⟨m, by rw [upd_ne (ne b _ q')]; exact q'⟩
  · rw [upd_ne (Ne.symm n1)]; exact I.free
  · rw [upd_ne (n2 y c q)]; exact I.freeC y c q
  · obtain ⟨a, b, c⟩ := I.pin p hp'
    exact ⟨a, by rw [upd_ne (hp p hp')]; exact b, c⟩
  · by_cases hb : b = x
    · subst hb
      rw [upd_same] at q
      cases q
      refine ⟨⟨oe, e, ec, ed, ?_⟩, ⟨oe, e⟩, fun h1 h2 ⟨o, a1, a2⟩ k => ⟨o, k o a1, a2⟩⟩
      unfold PySem.W.notCls
      rw [d]
    · rw [upd_ne hb] at q
      exact (I.hok b u q).stay (fun _ _ _ z => z) (fun c z => by rw [upd_ne (ne c _ z)]; exact z) fun c xs z => by rw [upd_ne (ne c _ z)]; exact z
/-- a local name goes -/
theorem Inv.goes {i : Nat} {n : Str} {h' : Heap} {t' : Nat} {v : Option Value} {m : Str → Option Value} (I : Inv X pins σ H s) (hN : X.N.Nodup) (hi : X.N[i]? = some n) (hm : s.heap.Ns X.env.locals m)
    (hl : ∀ (j : Nat) (y : Str) (u : V), X.N[j]? = some y → σ[j]? = some (some u) → Vis X.env.scope y → ∃ w, RelV u w ∧ Look X.env s.heap m y w)
    (hn : h'.Ns X.env.locals (fun y => if y = n then v else m y)) (hs : Heap.SameBut X.env.locals s.heap h') : Inv X pins (σ.set i none) H { s with heap := h', toks := t' } := by
  have neL : ∀ b o, X.s₀.heap.get? b = some o → b ≠ X.env.locals := fun b o e => Nat.ne_of_lt (Nat.lt_of_lt_of_le (Heap.lt_size e) I.ok.above)
  have cl : ∀ y c, X.env.cells.lookup y = some c → ∀ w, s.heap.IsCell c w → h'.IsCell c w := fun y c e w z => z.sameBut hs (I.cne y c e)
  refine ⟨I.ok, I.os, I.bare, ⟨fun b o e k hb hx => (hs.2 b (neL b o e)).trans (I.base.keep b o e k hb hx), fun b o e k hb hx => ?_, I.base.free, fun b o e hx => ?_, I.base.tups, I.base.frzs, I.base.tbls⟩, ⟨_, hn, fun j y u e1 e2 e3 => ?_⟩, fun y c e => ?_, I.free, I.freeC, fun p hp => ?_, fun b u e => ?_, by rw [List.length_set]; exact I.len⟩
  · obtain ⟨sl, q⟩ := I.base.slot b o e k hb hx; exact ⟨sl, (hs.2 b (neL b o e)).trans q⟩
  · obtain ⟨o', q⟩ := I.base.there b o e hx; exact ⟨o', (hs.2 b (neL b o e)).trans q⟩
  · by_cases hj : j = i
    · subst hj
      rw [List.getElem?_set] at e2
      simp at e2
    · rw [List.getElem?_set_ne (Ne.symm hj)] at e2
      obtain ⟨w, r, q⟩ := hl j y u e1 e2 e3
      refine ⟨w, r, ?_⟩
      rcases q with ⟨k, e⟩ | ⟨k, c, e, z⟩
      · have ny : y ≠ n := fun z => hj (nodup_ix hN e1 (by rw [z]; exact hi))
        exact .inl ⟨k, by simp only [if_neg ny]; exact e⟩
      · exact .inr ⟨k, c, e, cl y c e _ z⟩
  · obtain ⟨w, z⟩ := I.cell y c e; exact ⟨w, cl y c e w z⟩
  · obtain ⟨e, k, ne, nf, d⟩ := I.pin p hp
    exact ⟨(hs.2 p.1 ne).trans e, k, ne, nf, d⟩
  · refine (I.hok b u e).stay (fun c w hc q => (hs.2 c ?_).trans q) (fun _ q => q) fun _ _ q => q
    rintro rfl
    rcases hc with rfl | hc
    · rw [I.free] at e; cases e
    · rw [I.free] at hc; cases hc
/-- except D: an exception of class C -/
theorem match_own {M : Model} {A : Around} {E : Value → Shared → Prop} {K : PySem.W.Frag} {oe : Obj} {b : Bool} {Q : Bool → Shared → Prop} (X : K.In s.heap) (xd : XCls K D) (xc : XCls K C) (hs : PySem.W.mroIn K C (.ref D) = some b)
    (he : s.heap.get? x = some oe) (hcls : oe.cls = .ref C) (hq : Q b s) : wpAny M A (excMatches (.ref x) (.ref D)) Q E s := by
  obtain ⟨bm, N, nm, q, bs, hdct, sn, sub, ab, col, dd, k0, k1, k2, k3, k5, mN, hD, _, _, T, _⟩ := xd.obj X
  obtain ⟨bm', N', nm', q', bs', hdct', sn', sub', ab', col', dd', l0, l1, l2, l3, l5, mN', hC, _, _, T', hmC⟩ := xc.obj X
  have hcB : (Value.ref D :: bm).contains (.type "BaseException") = true := by rw [List.contains_cons, T.hasType (b := true) (by decide), Bool.or_true]
  have hcC := hmC _ _ hs
  have f := tc_notTuple
  obtain ⟨h, g, d, t, os⟩ := s
  unfold excMatches
  repeat (first | (with_reducible refine wpAny_loadPart_at he ?_; rw [hcls]) | with_reducible refine wpAny_loadPart_at hD ?_ | (with_reducible refine wpAny_isSubtype_exc hD ?_; rw [hcB]) | (with_reducible refine wpAny_isSubtype_exc hC ?_; rw [hcC]) | wp_step)
  cases b <;> (wp_walk; exact hq)
/-! ### a call whose exception is caught here: the frame's slots are as they were -/
def PassesS (CX : CXT) (X : Cx) (σ : St) (E : XK) : Prop := ∀ (pins : List (Addr × Obj)) (H : Hp) (s : Shared) (e : Value) (s' : Shared), Inv X pins σ H s → CX X.stack H s E e s' → X.xe e s'
/-! ### try: y = e, except D as n: .. -/
end
end L2

namespace L2
open PySem PySem.Spec PyProof.Rows
/-! ### isinstance of an exception that is held -/
def ExcAt (x C : Addr) (h : Heap) : Prop := ∃ o, h.get? x = some o ∧ o.cls = .ref C ∧ o.dict = none ∧ PySem.W.notCls o = true
theorem ExcAt.inst {x C : Addr} {h : Heap} (p : ExcAt x C h) : ∃ ox, PySem.W.InstAt h x ox C none := by
  obtain ⟨o, a, b, c, d⟩ := p
  refine ⟨o, a, b, d, ?_⟩
  rw [c]
  trivial
theorem exc_check {M : Model} {A : Around} {E : Value → Shared → Prop} {s : Shared} {K : PySem.W.Frag} {x C : Addr} {ox : Obj} {nameV : Value} {Q : Unit → Shared → Prop} (X : K.In s.heap) (I : PySem.W.InstAt s.heap x ox C none)
    (be : PySem.W.subIn K (.ref C) (.type "BaseException") = some true) (h : Q () s) : wpAny M A (checkBuiltinCall "BaseException.__getattribute__" ⟨[.ref x, nameV], []⟩) Q E s := by
  have hk : builtinKind "BaseException.__getattribute__" = some .slot := by decide +kernel
  have hsplit : splitId "BaseException.__getattribute__" = some ("BaseException", "__getattribute__") := by decide +kernel
  have ha := F.args_bexc_ga (.ref x) nameV
  have L0 := I.type (M := M)
  have L1 := PySem.W.looks_subIn (M := M) X be
  simp only [checkBuiltinCall, hk, hsplit]
  refine wpAny_bind ?_
  unfold isInstance
  refine wpAny_bind (L0.at (L1.at ?_))
  repeat wp_step
  exact h
theorem exc_entry {prog : Program} {w : World} {A : Around} {E : Value → Shared → Prop} {s : Shared} {K : PySem.W.Frag} {x C : Addr} {ox : Obj} {tk : Tok} {P : Fin → Shared → Prop} (X : K.In s.heap) (I : PySem.W.InstAt s.heap x ox C none)
    (hf : PySem.W.findObj K C none "__class__" = some (.bind (.builtin "getset_descriptor.__get__") (.builtin "object.__class__"))) (mo : PySem.W.mroIn K C (.type "object") = some true) (h : P (.done (.ret (.ref C))) s) :
    wpAny (model prog w) A (Builtin.«object.__getattribute__» ⟨[.ref x, .str "__class__" tk], []⟩) P E s := by
  have L0 := I.type (M := model prog w)
  have L1 := PySem.W.looks_find (M := model prog w) X I hf
  refine wpAny_bind (wpAny_pure (wpAny_bind (wpAny_pure (wpAny_bind (L0.at (wpAny_bind (L1.at ?_)))))))
  show wpAny _ _ (holding [Value.builtin "object.__class__"] (call (.builtin "getset_descriptor.__get__") [.builtin "object.__class__", .ref x, .ref C]) >>= ret) _ _ _
  exact wpAny_bind (wpAny_holding (wpAny_call (PySem.W.class_get (ox := ox) (od := none) X I mo (wpAny_pure h))))
theorem exc_class {prog : Program} {w : World} {A : Around} {E : Value → Shared → Prop} {s : Shared} {K : PySem.W.Frag} {x C : Addr} {ox : Obj} {Q : Option Value → Shared → Prop} (xc : XCls K C) (X : K.In s.heap) (I : PySem.W.InstAt s.heap x ox C none)
    (h : Q (some (.ref C)) { s with toks := s.toks + 1 }) : wpAny (model prog w) A (getAttr? (.ref x) "__class__") Q E s := by
  have hf : PySem.W.findObj K C none "__class__" = some (.bind (.builtin "getset_descriptor.__get__") (.builtin "object.__class__")) := by
    obtain ⟨cd, hc, _⟩ := PySem.W.any_some xc.hd
    unfold PySem.W.findObj
    rw [hc, Option.bind_some, xc.ca, Option.bind_some]
    simp only [xc.gs, xc.tk, Option.bind_some]
  obtain ⟨hh, g, d, t, os⟩ := s
  have L0 := I.type (M := model prog w)
  have L1 := PySem.W.looks_findIn (M := model prog w) X xc.ga
  have L2 := PySem.W.looks_findIn (M := model prog w) X xc.gn
  have f3 := F.attr_ValueError.ga.bind (.ref x)
  unfold getAttr? getAttrBy? getAttrBy
  refine wpAny_bind (wpAny_mkText (wpAny_bind (wpAny_attempt (wpAny_holding (wpAny_bind (L0.at (wpAny_bind (L1.at ?_))))))))
  show wpAny _ _ (getAttrByItsOwn _ _ _ _ _ _) _ _ _
  unfold getAttrByItsOwn
  refine wpAny_bind ?_
  show wpAny _ _ (typeLookup (.ref C) "__getattr__") _ _ _
  refine L2.at (wpAny_bind (wpAny_attempt (wpAny_holding ?_)))
  show wpAny _ _ (boundAndCalled _ _ _) _ _ _
  unfold boundAndCalled
  rw [f3]
  refine wpAny_bind (wpAny_pure ?_)
  exact wpAny_call (codeAny_call_builtin F.attr_ValueError.ga.plain F.entry_bexc_ga (exc_check (s := ⟨hh, g, d, t + 1, os⟩) X I xc.be (exc_entry (s := ⟨hh, g, d, t + 1, os⟩) X I hf xc.mo (PySem.W.handed_on rfl (wpAny_pure h)))))
theorem kitx_exc {K : PySem.W.Frag} {x C : Addr} (xc : XCls K C) : PySem.W.KitX K (.ref x) (.ref C) (ExcAt x C) where
  ty := fun _ _ _ p => let ⟨_, I⟩ := p.inst; I.type
  it := fun M h X _ => by
    obtain ⟨cdD, hcD, _⟩ := PySem.W.any_some xc.hd
    unfold PySem.W.clsIn at hcD
    split at hcD
    · rename_i c' d' cd' sl' ho
      intro A' Q' E' s' k q
      unfold isType loadHead
      exact wpAny_bind (wpAny_loadPart (k _ _ (X _ _ ho)) (wpAny_pure q))
    · cases hcD
  ne := fun h tp dd its n sl X htp => by
    obtain ⟨cdD, hcD, _⟩ := PySem.W.any_some xc.hd
    refine Bool.eq_false_iff.mpr fun q => ?_
    have e : C = tp := Value.ref.inj (beq_iff_eq.mp q)
    subst e
    unfold PySem.W.clsIn at hcD
    split at hcD
    · rename_i c' d' cd' sl' ho
      cases (X _ _ ho).symm.trans htp
    · cases hcD
  ca := fun {prog w A E Q s} X p h => by
    obtain ⟨ox, I⟩ := p.inst
    exact exc_class xc X I h
/-- a class as an argument -/
def clsV : V → Option Value
  | .ref a => some (.ref a)
  | .ty n => some (.type n)
  | _ => none
theorem clsV_rel {v : V} {u c : Value} (r : RelV v u) (e : clsV v = some c) : u = c := by
  cases v with
  | ref a => cases e; exact r
  | ty n => cases e; exact r
  | _ => cases e
section
variable {X : Cx}
theorem call_isExc : CallR X (.builtin "isinstance") (fun xs H Q => ∃ x C v c b, xs = [.ref x, v] ∧ H x = some (excO x C) ∧ XCls X.K C ∧ clsV v = some c ∧ PySem.W.kitOne X.K (.ref C) c = some b ∧ Q (.bl b) H) := by
  intro pins s σ H xs us Q I rv h
  obtain ⟨x, C, v, c, b, rfl, hx, xc, hv, hk, q⟩ := h
  obtain ⟨u, u', rfl, ru, rv'⟩ := rv.two
  cases (show u = Value.ref x from ru)
  have e := clsV_rel rv' hv
  subst e
  have p : ExcAt x C s.heap := (show ObjOk X.prog X.w H s.heap x (excO x C) from I.hok x _ hx).1
  exact PySem.W.kia_one (kitx_exc xc) I.kIn p hk (fun z => nomatch z) fun tk => ⟨.bl b, H, I.tok tk, rfl, q⟩
theorem vals_cls : ∀ {vs : List V} {cs us : List Value}, vs.map clsV = cs.map some → Vals vs us → us = cs
  | [], cs, us, e, r => by
    cases r
    cases cs with
    | nil => rfl
    | cons c cs => cases e
  | v :: vs, cs, us, e, r => by
    cases r with
    | cons h t =>
      cases cs with
      | nil => cases e
      | cons c cs =>
        simp only [List.map_cons, List.cons.injEq] at e
        rw [clsV_rel h e.1, vals_cls e.2 t]
theorem call_isExcT : CallR X (.builtin "isinstance") (fun xs H Q => ∃ x C tp vs cs b, xs = [.ref x, .ref tp] ∧ H x = some (excO x C) ∧ XCls X.K C ∧ H tp = some (.tup vs) ∧ vs.map clsV = cs.map some ∧ PySem.W.kitAny X.K (.ref C) cs = some b ∧ Q (.bl b) H) := by
  intro pins s σ H xs us Q I rv h
  obtain ⟨x, C, tp, vs, cs, b, rfl, hx, xc, ht, hv, hk, q⟩ := h
  obtain ⟨u, u', rfl, ru, rv'⟩ := rv.two
  cases (show u = Value.ref x from ru)
  cases (show u' = Value.ref tp from rv')
  have p : ExcAt x C s.heap := (show ObjOk X.prog X.w H s.heap x (excO x C) from I.hok x _ hx).1
  obtain ⟨_, its, r, o, e, ec, n, ed⟩ := (show ObjOk X.prog X.w H s.heap tp (.tup vs) from I.hok tp _ ht)
  have ei := vals_cls hv r
  subst ei
  obtain ⟨c, d, dt, sl⟩ := o
  dsimp only at ec ed
  subst ec ed
  exact PySem.W.kia_tup (kitx_exc xc) I.kIn p e hk (fun z => nomatch z) fun tk => ⟨.bl b, H, I.tok tk, rfl, q⟩
end
/-! ### a comprehension in which a call may raise -/
section
variable {X : Cx}
end
/-! ### the law's own head, where exceptions are caught within -/
theorem walk_ofX {l : PySem.W.OpenLaw} {n k : Nat} {q : Program} {loose : List Str} {XP : (Str → Option Value) → Heap → Prop} {YP : World → Heap → Prop} {d : DefRec} {K : Params → PySem.W.Frag} {sp : World → Sp} {x : Str}
    (hn : l.most = some n) (hn2 : n ≤ sizeLine) (hdf : d.params.defaults = []) (hr : Room k callerA) (hY : ∀ (w : World) (h : Heap), YP w h → (K w.params).In h)
    (F : ∀ (w : World) (mg : Str → Option Value) (fa : Addr) (h : Heap), (K w.params).In h → h.Ns mainGlobals mg → mg d.name = some (.ref fa) →
      ∃ fd : FuncData, (∀ (s : Shared) (u : Value), BindsTo s fd ⟨[u], []⟩ [(x, u)]) ∧ ∀ base : Heap, (K w.params).In base → base.Ns mainGlobals mg → FnOk l.prog w (K w.params) mg base (CX1 l.prog w base) k fa fd [x] (sp w))
    (hsp : ∀ (w : World) (H : Hp) (a : Addr) (ns : List Int), ns.length ≤ n → Only H → SqL (K w.params) H a (ns.map V.int) → sp w [.ref a] H (fun v _ => v = .bl true) fun _ _ _ => False) :
    PySem.W.WalkO q loose XP YP l.row.toRowW d [] (fun f vs => PySem.call f vs) := by
  refine walk_of (x := x) (K := K) (CX := fun _ _ _ _ _ _ _ => False) (sp := fun w vs H Q E => sp w vs H Q fun _ _ _ => False) hn hn2 hdf hr hY (fun w mg fa h a b c => ?_) (fun w H a ns h1 h2 h3 => hsp w H a ns h1 h2 h3) fun _ _ _ _ _ z => z
  obtain ⟨fd, hb, hF⟩ := F w mg fa h a b c
  refine ⟨fd, hb, fun base h1 h2 => ?_⟩
  have G := hF base h1 h2
  refine ⟨fun vs H Q E h => G.len vs H Q _ h, fun A outer s H args us vs Q E hr he hbi hv h => codeAny_mono (G.run A outer s H args us vs Q _ hr he hbi hv h) fun r s' z => ?_⟩
  cases r with
  | error e => obtain ⟨_, _, _, _, _, _, _, _, _, z⟩ := z; exact z
  | ok fl => cases fl <;> exact z
end L2

namespace L2
open PySem PySem.Spec PyProof.Rows PySem.NumText
/-! ### promises whose premise speaks of the heap -/
section
variable {P : Program} {w : World} {K : PySem.W.Frag} {mg : Str → Option Value} {base : Heap} {CX : CXT} {k : Nat} {f : Addr} {fd : FuncData} {ps : List Str}
end
/-! ### texts by their codes -/
/-! ### figures -/
section
variable {X : Cx}
end
end L2

namespace L2
open PySem PySem.Spec PyProof.Rows PySem.NumText
/-! ### a text cut at a sign -/
section
variable {X : Cx}
/-! ### the greatest of a tuple of ints -/
end

/-! ### comprehensions over a list, a tuple -/
theorem Same.seqT {K : PySem.W.Frag} {H H' : Hp} {a : Addr} {xs : List V} (e : Same H H') (h : SqT K H a xs) : SqT K H' a xs := by
  rcases h with h | h
  · rcases h with h | ⟨o, h⟩
    · exact .inl (.inl (e _ _ h))
    · exact .inl (.inr ⟨o, e _ _ h⟩)
  · exact .inr h
/-! ### == of plain data, however deep -/
mutual
def DV (K : PySem.W.Frag) (H : Hp) : PyData → V → Prop
  | .none, v => v = .non
  | .bool b, v => v = .bl b
  | .int i, v => v = .int i
  | .str x, v => v = .str x
  | .list xs, v => ∃ a vs, v = .ref a ∧ SqL K H a vs ∧ DVs K H xs vs
  | .tuple xs, v => ∃ a vs, v = .ref a ∧ SqT K H a vs ∧ DVs K H xs vs
  | .dict _, _ => False
def DVs (K : PySem.W.Frag) (H : Hp) : List PyData → List V → Prop
  | [], vs => vs = []
  | d :: ds, vs => ∃ v r, vs = v :: r ∧ DV K H d v ∧ DVs K H ds r
end
mutual
theorem DV.same {K : PySem.W.Frag} {H H' : Hp} (e : Same H H') : ∀ (d : PyData) (v : V), DV K H d v → DV K H' d v
  | .none, v, h => h
  | .bool b, v, h => h
  | .int i, v, h => h
  | .str x, v, h => h
  | .list xs, v, ⟨a, vs, h1, h2, h3⟩ => ⟨a, vs, h1, e.seq h2, DVs.same e xs vs h3⟩
  | .tuple xs, v, ⟨a, vs, h1, h2, h3⟩ => ⟨a, vs, h1, e.seqT h2, DVs.same e xs vs h3⟩
  | .dict _, v, h => h.elim
theorem DVs.same {K : PySem.W.Frag} {H H' : Hp} (e : Same H H') : ∀ (ds : List PyData) (vs : List V), DVs K H ds vs → DVs K H' ds vs
  | [], vs, h => h
  | d :: ds, vs, ⟨v, r, h1, h2, h3⟩ => ⟨v, r, h1, DV.same e d v h2, DVs.same e ds r h3⟩
end
section
variable {X : Cx} {pins : List (Addr × Obj)} {σ : St} {H : Hp} {s : Shared}
mutual
theorem DV.reads (I : Inv X pins σ H s) : ∀ (d : PyData) (v : V) (u : Value), DV X.K H d v → RelV v u → ∃ as, Reads s.heap u d as
  | .none, v, u, h, r => by cases (show v = V.non from h); cases r; exact ⟨_, .none⟩
  | .bool b, v, u, h, r => by cases (show v = V.bl b from h); cases r; exact ⟨_, .bool b⟩
  | .int i, v, u, h, r => by cases (show v = V.int i from h); obtain ⟨t, rfl⟩ := r; exact ⟨_, .int i t⟩
  | .str x, v, u, h, r => by cases (show v = V.str x from h); obtain ⟨t, rfl⟩ := r; exact ⟨_, .str x t⟩
  | .list xs, v, u, h, r => by
    obtain ⟨a, vs, rfl, h2, h3⟩ := h
    cases r
    obtain ⟨its, rv, pl, _⟩ := I.list h2
    obtain ⟨o, ho, hc, n, hd⟩ := pl.isList
    obtain ⟨as, ra⟩ := DVs.reads I xs vs its h3 rv
    exact ⟨_, .list ho hc hd (by simpa using ra)⟩
  | .tuple xs, v, u, h, r => by
    obtain ⟨a, vs, rfl, h2, h3⟩ := h
    cases r
    obtain ⟨its, rv, pl, _⟩ := I.tuple h2
    obtain ⟨o, ho, hc, n, hd⟩ := pl
    obtain ⟨as, ra⟩ := DVs.reads I xs vs its h3 rv
    exact ⟨_, .tuple ho hc hd (by simpa using ra)⟩
  | .dict _, v, u, h, r => h.elim
theorem DVs.reads (I : Inv X pins σ H s) : ∀ (ds : List PyData) (vs : List V) (us : List Value), DVs X.K H ds vs → Vals vs us → ∃ as, ReadsAll s.heap us ds as
  | [], vs, us, h, r => by cases (show vs = [] from h); cases r; exact ⟨_, .nil⟩
  | d :: ds, vs, us, h, r => by
    obtain ⟨v, rest, rfl, h2, h3⟩ := h
    cases r with
    | cons r rr =>
      obtain ⟨as, ra⟩ := DV.reads I d _ _ h2 r
      obtain ⟨bs, rb⟩ := DVs.reads I ds _ _ h3 rr
      exact ⟨_, .cons ra rb⟩
end
end
section
variable {X : Cx}
def rEqD (K : PySem.W.Frag) : R2 := fun x y H Q => ∃ d e, DV K H d x ∧ DV K H e y ∧ SeqAt.shaped d = true ∧ SeqAt.shaped e = true ∧ Q (.bl (PyData.eqv d e)) H
def rNeD (K : PySem.W.Frag) : R2 := fun x y H Q => ∃ d e, DV K H d x ∧ DV K H e y ∧ SeqAt.shaped d = true ∧ SeqAt.shaped e = true ∧ Q (.bl (!PyData.eqv d e)) H
theorem op_eqD (hu : X.A.units + 64 < cLine) : OpR X (compareOp .Eq) (rEqD X.K) := by
  intro pins s σ H x y v u Q I rx ry h
  obtain ⟨d, e, hd, he, sd, se, q⟩ := h
  obtain ⟨as, ra⟩ := DV.reads I d x v hd rx
  obtain ⟨bs, rb⟩ := DV.reads I e y u he ry
  exact SeqAt.compareEq_shaped ra rb sd se hu ⟨.bl _, H, I, rfl, q⟩
theorem op_neD (hu : X.A.units + 64 < cLine) : OpR X (compareOp .NotEq) (rNeD X.K) := by
  intro pins s σ H x y v u Q I rx ry h
  obtain ⟨d, e, hd, he, sd, se, q⟩ := h
  obtain ⟨as, ra⟩ := DV.reads I d x v hd rx
  obtain ⟨bs, rb⟩ := DV.reads I e y u he ry
  exact SeqAt.compareNe_shaped ra rb sd se hu ⟨.bl _, H, I, rfl, q⟩
end
/-! ### a promise of any kind -/
def genSp {α : Type} (Pre : α → List V → Hp → Prop) (Post : α → V → Hp → Prop) (Exc : α → Addr → Prop) : Sp := fun vs H Q E => Plain H ∧ ∃ a, Pre a vs H ∧ (∀ v H', Post a v H' → Same H H' → Plain H' → Q v H') ∧ (∀ C H', Exc a C → Same H H' → Plain H' → E (.ref C) none H')

end L2

namespace L2
open PySem PySem.Spec PyProof.Rows PySem.NumText
/-! ### a comprehension that is given to a name: the name is stored ahead of the variables' end -/
section
variable {X : Cx}
theorem comp_coreU {use : Option (Value → Sem Unit)} {QQ : Value → Shared → Prop} {p0 : Pos} {pins : List (Addr × Obj)} {s : Shared} {σ : St} {H : Hp} {Q : VK} {elt tg iter : Expr} {ifs : List Expr} {scope : Scope} {pos : Pos} {N' : List Str} {nt : Nat} {cap : List Nat} {wi : TI} {g : TG} {ti : TT} {te : TE}
    (EK : Addr → Shared → Hp → List Addr → (Value → Shared → Prop) → Prop)
    (hE : ∀ (pins : List (Addr × Obj)) (σ : St) (s3 : Shared) (H3 : Hp) (fp : List Addr) (Q : VK) (D : Addr), Inv X pins σ H3 s3 → (∀ b ∈ fp, FpOk X pins H3 b) →
      EK s3.heap.objs.size s3 H3 fp (notedBy (model X.prog X.w) X.A (compEnvC scope (clOf scope X.env) s3.heap.objs.size X.env) fun e s' => compPost (model X.prog X.w) X.A X.xe none (EP X pins σ Q) (.ref D) s3.heap.objs.size (.error e) s'))
    (hc : X.calm = true) (hi : PI X tg iter wi)
    (hg : ∀ C s₀ H₀ fp E', EK C s₀ H₀ fp E' → PG (X.comp scope C s₀ H₀ fp N' E') tg g)
    (hif : ∀ C s₀ H₀ fp E', EK C s₀ H₀ fp E' → PIf (X.comp scope C s₀ H₀ fp N' E') ifs ti)
    (he : ∀ C s₀ H₀ fp E', EK C s₀ H₀ fp E' → PE (X.comp scope C s₀ H₀ fp N' E') elt te)
    (hk : scope.kind = .function) (hb : compOk scope X.env = true) (hcap : capOk X scope N' nt cap = true)
    (hgk : GKeeps nt g) (hs : ∀ x, foldedSetIterable iter X.env x = pure x) (I : Inv X pins σ H s) (h : tComp wi nt cap g ti te σ H Q)
    (fin : ∀ (D C : Addr) (m : Str → Option Value) (H5 : Hp) (s6 : Shared), Inv X pins σ H5 s6 → Q (.ref D) H5 → s6.heap.Ns C m → C ≠ X.env.locals → (∀ x c, X.env.cells.lookup x = some c → c ≠ C) → (∀ H', H' C = none → FpOk X pins H' C) → H5 C = none →
      compPost (model X.prog X.w) X.A X.xe use QQ (.ref D) C (.ok .next) s6) :
    wpAny (model X.prog X.w) X.A (comprehension (.ListComp elt [⟨tg, iter, ifs, 0⟩] scope pos) scope X.env p0 (newList []) false (eval iter X.env) use) QQ X.xe s := by
  have hclos : closureFor scope X.env = pure (clOf scope X.env) := closure_is fun p hp e => I.ok.has p.1 (compOk_free hb p hp e)
  refine wpAny_comprehension_free (use := use) rfl hs hclos hk (compOk_local hb) (thn (hi pins s σ H _ I h) fun v s1 h1 => thn h1 fun itv s2 h2 => ?_)
  obtain ⟨it, fp, tn, J, H2, e, I2, T, st2, f2, q2⟩ := h2
  subst e
  refine wpAny_newObj_type (wpAny_newFunctionEnv (compOk_cell hb) (by intro y hy; simp at hy) (fun h₁ hns₁ hsb₁ => ?_) hk)
  have I3 := I2.lnew (ys := []) (its := []) (t' := s2.toks) .nil (Nat.zero_le _)
  have hfl : ∀ b ∈ fp, b < s2.heap.objs.size := fun b hb' => let ⟨o, e, _⟩ := T.obj 0 _ st2 b hb'; Heap.lt_size e
  obtain ⟨W, ⟨m0, w0⟩, turn⟩ := q2 s2.heap.objs.size (I2.hok.fresh (Nat.le_refl _))
  have nD : ∀ b ∈ fp, b ≠ s2.heap.objs.size := fun b hb' => Nat.ne_of_lt (hfl b hb')
  have f3 : ∀ b ∈ fp, FpOk X pins (upd H2 s2.heap.objs.size (.lst [])) b := fun b hb' => ⟨by rw [upd_ne (nD b hb')]; exact (f2 b hb').1, (f2 b hb').2⟩
  obtain ⟨s3, hs3⟩ : ∃ s3 : Shared, s3 = { s2 with heap := s2.heap.push { cls := .type "list", data := .seq ([] : List Value).toArray }, toks := s2.toks } := ⟨_, rfl⟩
  have hs3' : s3.heap = s2.heap.push { cls := .type "list", data := .seq ([] : List Value).toArray } := by rw [hs3]
  rw [← hs3] at I3
  have hsz : s3.heap.objs.size = s2.heap.objs.size + 1 := by rw [hs3', Heap.size_push]
  have hfl3 : ∀ b ∈ fp, b < s3.heap.objs.size := fun b hb' => by rw [hsz]; exact Nat.lt_succ_of_lt (hfl b hb')
  have hC : (s2.heap.push { cls := Value.type "list", dict := none, data := Data.seq ([] : List Value).toArray }).objs.size = s3.heap.objs.size := by rw [hs3']
  dsimp only at hns₁ hsb₁ ⊢
  rw [hC] at hns₁ hsb₁ ⊢
  rw [← hs3'] at hsb₁
  have kp : ∀ b o, s3.heap.get? b = some o → h₁.get? b = some o := fun b o e => hsb₁.extBut b o (Nat.ne_of_lt (Heap.lt_size e)) (Heap.get?_push_of_some _ e)
  have hEE := hE pins σ s3 _ fp Q s2.heap.objs.size I3 f3
  generalize hE' : (notedBy (model X.prog X.w) X.A (compEnvC scope (clOf scope X.env) s3.heap.objs.size X.env) fun e s' => compPost (model X.prog X.w) X.A X.xe none (EP X pins σ Q) (.ref s2.heap.objs.size) s3.heap.objs.size (.error e) s') = E' at hEE
  have hE2 : (notedBy (model X.prog X.w) X.A (compEnvC scope (clOf scope X.env) s3.heap.objs.size X.env) fun e s' => compPost (model X.prog X.w) X.A X.xe use QQ (.ref s2.heap.objs.size) s3.heap.objs.size (.error e) s') = E' := hE'
  have I4 := comp_start (t4 := s2.toks + ([] : List (Str × Value)).length) (E' := E') I3 hk hb hcap f3 hfl3 hns₁ kp
  have st4 : tn 0 h₁ := T.keep 0 _ _ st2 fun b hb' o e => kp b o (by rw [hs3']; exact Heap.get?_push_of_some _ e)
  obtain ⟨s4, hs4⟩ : ∃ s4 : Shared, s4 = { s3 with heap := h₁, toks := s2.toks + ([] : List (Str × Value)).length } := ⟨_, rfl⟩
  rw [← hs4] at I4
  have st4' : tn 0 s4.heap := by rw [hs4]; exact st4
  have cin : ∀ x c, (clOf scope X.env).lookup x = some c → X.env.cells.lookup x = some c := fun x c e => cl_in scope.names [] (fun y d q => by simp at q) e
  have stat : ∀ {H' : Hp}, (∀ b ∈ fp, H' b = none) → ∀ b ∈ fp, FpOk (X.comp scope s3.heap.objs.size s3 (upd H2 s2.heap.objs.size (.lst [])) fp N' E') [] H' b := fun hn b hb' => by
    refine ⟨hn b hb', Nat.ne_of_lt (hfl3 b hb'), fun z => ?_, .inl hb', fun x c e => (f3 b hb').2.2.2.2.1 x c (cin x c e), fun p hp => absurd hp (by simp [Cx.comp])⟩
    rcases List.mem_cons.mp (I3.stkSub b z) with z | z
    · exact (f3 b hb').2.1 z
    · exact (f3 b hb').2.2.1 z
  have loop : codeAny (model X.prog X.w) X.A (.compLoop (.ListComp elt [⟨tg, iter, ifs, 0⟩] scope pos) 0 (.ref it) (.ref s2.heap.objs.size) (compEnvC scope (clOf scope X.env) s3.heap.objs.size X.env))
      (compPost (model X.prog X.w) X.A X.xe use QQ (.ref s2.heap.objs.size) s3.heap.objs.size) s4 := by
    refine compLoop_gen (fun n s' => ∃ i ys H', Inv (X.comp scope s3.heap.objs.size s3 (upd H2 s2.heap.objs.size (.lst [])) fp N' E') [] (List.replicate nt none ++ caps cap σ) H' s' ∧ tn i s'.heap ∧ (∀ b ∈ fp, H' b = none) ∧ W i n ys H') ?_ m0
      ⟨0, [], _, I4, st4', fun b hb' => (f3 b hb').1, w0⟩
    rintro n s5 ⟨i, ys, H5, I5, st5, fr5, w5⟩
    rw [hE2]
    obtain ⟨hD5, alt⟩ := turn i n ys H5 w5
    rcases alt with ⟨stop, qn⟩ | ⟨go, hyl, step⟩
    · refine thn (T.done (X.comp scope s3.heap.objs.size s3 (upd H2 s2.heap.objs.size (.lst [])) fp N' E') rfl rfl rfl hc i [] s5 _ H5 E' I5 (stat fr5) st5 stop) fun r s6 ⟨hr, I6⟩ => ?_
      subst hr
      obtain ⟨m6, hn6, _⟩ := I6.loc
      have I7 := comp_back I3 f3 I6
      refine fin _ _ m6 H5 s6 I7 qn hn6 ?_ ?_ (fun H' hn => I3.fpOk (Nat.le_refl _) hn) I6.free
      · intro z
        exact absurd (Nat.lt_of_lt_of_le I3.lt (Nat.le_of_eq z)) (Nat.lt_irrefl _)
      · intro x c e z
        obtain ⟨v, q⟩ := I3.cell x c e
        exact absurd (Nat.lt_of_lt_of_le q.lt (by rw [z]; exact Nat.le_refl _)) (Nat.lt_irrefl _)
    · refine thn (T.item (X.comp scope s3.heap.objs.size s3 (upd H2 s2.heap.objs.size (.lst [])) fp N' E') rfl rfl rfl hc i [] s5 _ H5 E' I5 (stat fr5) st5 go) fun r s6 ⟨u, hr, h6⟩ => ?_
      subst hr
      refine thn h6 fun _ s7 ⟨x, H7, I7, r7, y7, st7, fr7⟩ => ?_
      have I7' := I7.pinned (stat fr7) (T.obj _ _ st7)
      have again : ∀ {σ8 : St} {H8 : Hp} {ys' : List V} {s8 : Shared}, Inv (X.comp scope s3.heap.objs.size s3 (upd H2 s2.heap.objs.size (.lst [])) fp N' E') ([] ++ pinsAt fp s7.heap) σ8 H8 s8 → (∃ m', m' < n ∧ W (i + 1) m' ys' H8) → (∀ (j : Nat) v, (List.replicate nt none ++ caps cap σ)[j]? = some (some v) → σ8[j]? = some (some v)) →
          ∃ m, m < n ∧ ∃ i ys H', Inv (X.comp scope s3.heap.objs.size s3 (upd H2 s2.heap.objs.size (.lst [])) fp N' E') [] (List.replicate nt none ++ caps cap σ) H' s8 ∧ tn i s8.heap ∧ (∀ b ∈ fp, H' b = none) ∧ W i m ys H' := fun {σ8 H8 ys' s8} I8 ⟨m', hm, w8⟩ hσ => by
        refine ⟨m', hm, i + 1, ys', H8, I8.unpinned.weak (by rw [I8.len, I5.len]) hσ, T.keep _ _ _ st7 fun b hb o e => (I8.pin (b, o) (List.mem_append_right _ (List.mem_append_right _ (mem_pinsAt hb e)))).1, fun b hb => ?_, w8⟩
        obtain ⟨o, e, d⟩ := T.obj _ _ st7 b hb
        exact (I8.pin (b, o) (List.mem_append_right _ (List.mem_append_right _ (mem_pinsAt hb e)))).2.1
      refine thn (hg _ _ _ _ _ hEE _ s7 _ H7 x u _ I7' r7 (hgk x _ H7 _ (step x H7 y7))) fun _ s8 ⟨σ8, H8, I8, q8, hσ⟩ => ?_
      refine thn (hif _ _ _ _ _ hEE _ s8 σ8 H8 _ I8 q8) fun ok s9 ⟨H9, I9, q9⟩ => ?_
      cases ok with
      | false =>
        rw [if_neg Bool.false_ne_true] at q9 ⊢
        exact again I9 q9 hσ
      | true =>
        rw [if_pos rfl] at q9 ⊢
        refine thn (he _ _ _ _ _ hEE _ s9 σ8 H9 _ I9 q9) fun y s10 ⟨vy, H10, I10, r10, hD10, hm10⟩ => ?_
        exact thn (mt_append (X := X.comp scope s3.heap.objs.size s3 (upd H2 s2.heap.objs.size (.lst [])) fp N' E') _ s10 σ8 H10 (.ref s2.heap.objs.size) [vy] (.ref s2.heap.objs.size) [y] (fun _ H' => H' = upd H10 s2.heap.objs.size (.lst (ys ++ [vy]))) I10 rfl (.cons r10 .nil) ⟨_, _, _, rfl, rfl, hD10, hyl, rfl⟩) fun _ s11 ⟨_, H11, I11, _, e11⟩ => by
          subst e11
          exact again I11 hm10 hσ
  have e4 : ({ s2 with heap := h₁, toks := s2.toks + ([] : List (Str × Value)).length } : Shared) = s4 := by rw [hs4, hs3]
  show codeAny _ _ _ _ { s2 with heap := h₁, toks := s2.toks + ([] : List (Str × Value)).length }
  rw [e4]
  exact codeAny_compStart_list loop (T.self X.A 0 s4 _ _ st4' loop)

theorem set_core {elt tg iter : Expr} {ifs : List Expr} {scope : Scope} {cpos pos pos' : Pos} {N' : List Str} {nt : Nat} {cap : List Nat} {wi : TI} {g : TG} {ti : TT} {te : TE} {i : Nat} {x : Str}
    (EK : Addr → Shared → Hp → List Addr → (Value → Shared → Prop) → Prop)
    (hE : ∀ (pins : List (Addr × Obj)) (σ : St) (s3 : Shared) (H3 : Hp) (fp : List Addr) (Q : VK) (D : Addr), Inv X pins σ H3 s3 → (∀ b ∈ fp, FpOk X pins H3 b) →
      EK s3.heap.objs.size s3 H3 fp (notedBy (model X.prog X.w) X.A (compEnvC scope (clOf scope X.env) s3.heap.objs.size X.env) fun e s' => compPost (model X.prog X.w) X.A X.xe none (EP X pins σ Q) (.ref D) s3.heap.objs.size (.error e) s'))
    (hc : X.calm = true) (hi : PI X tg iter wi)
    (hg : ∀ C s₀ H₀ fp E', EK C s₀ H₀ fp E' → PG (X.comp scope C s₀ H₀ fp N' E') tg g)
    (hif : ∀ C s₀ H₀ fp E', EK C s₀ H₀ fp E' → PIf (X.comp scope C s₀ H₀ fp N' E') ifs ti)
    (he : ∀ C s₀ H₀ fp E', EK C s₀ H₀ fp E' → PE (X.comp scope C s₀ H₀ fp N' E') elt te)
    (hk : scope.kind = .function) (hb : compOk scope X.env = true) (hcap : capOk X scope N' nt cap = true)
    (hgk : GKeeps nt g) (hs : ∀ x, foldedSetIterable iter X.env x = pure x)
    (hN : X.N.Nodup) (hix : X.N[i]? = some x) (hx : Loc X.env.scope x) (hf : X.fn x = true ∨ X.env.scope.names.lookup x = some .local)
    (hsw : swapsWith (.ListComp elt [⟨tg, iter, ifs, 0⟩] scope cpos) (some (.Name x pos')) pos.line X.env = pure true) :
    PS X (.Assign [.Name x pos'] (.ListComp elt [⟨tg, iter, ifs, 0⟩] scope cpos) pos) (tAsg (tComp wi nt cap g ti te) (gName i)) := .mk <| by
  intro pins s σ H D I h
  rw [exec_Assign_Name_used _ _ _ _ hsw]
  refine wpAny_bind (wpAny_standAt (wpAny_bind ?_))
  show wpAny _ X.A (do let _ ← comprehension (.ListComp elt [⟨tg, iter, ifs, 0⟩] scope cpos) scope X.env _ (newList []) false (eval iter X.env) (some (assign (.Name x pos') X.env))) _ _ s
  refine wpAny_bind (thn (comp_coreU (use := some (assign (.Name x pos') X.env)) (QQ := fun _ s' => SP X pins D .next s') EK hE hc hi hg hif he hk hb hcap hgk hs I h ?_) fun _ s' hq => wpAny_pure (wpAny_pure hq))
  intro Da C m H5 s6 I6 q6 hn hC hcell hfp h5
  show wpAny _ _ (assign (.Name x pos') X.env (.ref Da)) _ _ s6
  refine wpAny_assign_Name (store_ok2 I6 hN hix hx (v := .ref Da) rfl (fun s7 I7 ⟨a, hsb, ha⟩ => ?_) hf)
  have hCa : C ≠ a := by
    rcases ha with rfl | ha
    · exact hC
    · exact fun z => hcell x a ha z.symm
  refine ⟨m, hn.sameBut hsb hCa, fun h' hsb' => ⟨_, H5, ?_, q6⟩⟩
  refine I7.turnedL (ch := [C]) (t' := s7.toks) (fun b hb' => ?_) fun b u hb' e => (hsb'.2 b fun z => hb' (by simp [z])).trans e
  have eb : b = C := by simpa using hb'
  subst eb
  exact hfp _ h5
theorem ps_setC {elt tg iter : Expr} {ifs : List Expr} {scope : Scope} {cpos pos pos' : Pos} {wi : TI} {g : TG} {ti : TT} {te : TE} {i : Nat} {x : Str} (N' : List Str) (nt : Nat) (cap : List Nat)
    (hN : X.N.Nodup) (hix : X.N[i]? = some x) (hx : Loc X.env.scope x)
    (hc : X.calm = true) (hi : PI X tg iter wi) (hgk : GKeeps nt g)
    (hg : ∀ C s₀ H₀ fp E', PG (X.comp scope C s₀ H₀ fp N' E') tg g)
    (hif : ∀ C s₀ H₀ fp E', PIf (X.comp scope C s₀ H₀ fp N' E') ifs ti)
    (he : ∀ C s₀ H₀ fp E', PE (X.comp scope C s₀ H₀ fp N' E') elt te)
    (hk : scope.kind = .function := by rfl) (hb : compOk scope X.env = true := by rfl) (hcap : capOk X scope N' nt cap = true := by rfl)
    (hs : ∀ x, foldedSetIterable iter X.env x = pure x := by intro _; rfl) (hf : X.fn x = true ∨ X.env.scope.names.lookup x = some .local := by first | exact .inl rfl | exact .inr rfl | assumption)
    (hsw : swapsWith (.ListComp elt [⟨tg, iter, ifs, 0⟩] scope cpos) (some (.Name x pos')) pos.line X.env = pure true := by rfl) :
    PS X (.Assign [.Name x pos'] (.ListComp elt [⟨tg, iter, ifs, 0⟩] scope cpos) pos) (tAsg (tComp wi nt cap g ti te) (gName i)) :=
  set_core (fun _ _ _ _ _ => True) (fun _ _ _ _ _ _ _ _ _ => trivial) hc hi (fun C s₀ H₀ fp E' _ => hg C s₀ H₀ fp E') (fun C s₀ H₀ fp E' _ => hif C s₀ H₀ fp E') (fun C s₀ H₀ fp E' _ => he C s₀ H₀ fp E') hk hb hcap hgk hs hN hix hx hf hsw
end
end L2

namespace HT
open PySem PySem.Spec PyProof.Rows
section
variable {prog : Program} {w : World} {A : Around} {E : Value → Shared → Prop} {s : Shared}
end
end HT
namespace L2
open PySem PySem.Spec PyProof.Rows PySem.NumText
section
variable {X : Cx}
end
/-! ### data without lists: what becomes of a list elsewhere is nothing to it -/
mutual
def noL : PyData → Bool
  | .list _ => false
  | .tuple xs => noLs xs
  | _ => true
def noLs : List PyData → Bool
  | [] => true
  | d :: ds => noL d && noLs ds
end
theorem SqT.mono {K : PySem.W.Frag} {H H' : Hp} {a D : Addr} {xs : List V} (k : ∀ b o, b ≠ D → H b = some o → H' b = some o) (hd : ∃ zs, H D = some (.lst zs)) (h : SqT K H a xs) : SqT K H' a xs := by
  obtain ⟨zs, hd⟩ := hd
  rcases h with h | h
  · rcases h with h | ⟨o, h⟩
    · exact .inl (.inl (k _ _ (ne_of h hd (fun e => nomatch e)) h))
    · exact .inl (.inr ⟨o, k _ _ (ne_of h hd (fun e => nomatch e)) h⟩)
  · exact .inr h
mutual
theorem DV.mono {K : PySem.W.Frag} {H H' : Hp} {D : Addr} (k : ∀ b o, b ≠ D → H b = some o → H' b = some o) (hd : ∃ zs, H D = some (.lst zs)) : ∀ (d : PyData) (v : V), noL d = true → DV K H d v → DV K H' d v
  | .none, v, _, h => h
  | .bool b, v, _, h => h
  | .int i, v, _, h => h
  | .str x, v, _, h => h
  | .list xs, v, n, _ => by cases n
  | .tuple xs, v, n, ⟨a, vs, h1, h2, h3⟩ => ⟨a, vs, h1, h2.mono k hd, DVs.mono k hd xs vs n h3⟩
  | .dict _, v, _, h => h.elim
theorem DVs.mono {K : PySem.W.Frag} {H H' : Hp} {D : Addr} (k : ∀ b o, b ≠ D → H b = some o → H' b = some o) (hd : ∃ zs, H D = some (.lst zs)) : ∀ (ds : List PyData) (vs : List V), noLs ds = true → DVs K H ds vs → DVs K H' ds vs
  | [], vs, _, h => h
  | d :: ds, vs, n, ⟨v, r, h1, h2, h3⟩ => by
    have n : noL d = true ∧ noLs ds = true := by rw [noLs, Bool.and_eq_true] at n; exact n
    exact ⟨v, r, h1, DV.mono k hd d v n.1 h2, DVs.mono k hd ds r n.2 h3⟩
end
theorem DVs.length {K : PySem.W.Frag} {H : Hp} : ∀ {ds : List PyData} {vs : List V}, DVs K H ds vs → vs.length = ds.length
  | [], vs, h => by cases (show vs = [] from h); rfl
  | d :: ds, vs, ⟨v, r, h1, h2, h3⟩ => by subst h1; simp [DVs.length h3]
theorem DVs.get {K : PySem.W.Frag} {H : Hp} : ∀ {ds : List PyData} {vs : List V} {i : Nat} {d : PyData}, DVs K H ds vs → ds[i]? = some d → ∃ v, vs[i]? = some v ∧ DV K H d v
  | [], vs, i, d, h, e => by simp at e
  | d :: ds, vs, 0, e', ⟨v, r, h1, h2, h3⟩, e => by subst h1; simp at e; subst e; exact ⟨v, rfl, h2⟩
  | d :: ds, vs, i + 1, e', ⟨v, r, h1, h2, h3⟩, e => by subst h1; simp at e; obtain ⟨u, hu, q⟩ := DVs.get h3 e; exact ⟨u, by simpa using hu, q⟩
theorem DVs.append {K : PySem.W.Frag} {H : Hp} : ∀ {ds es : List PyData} {vs us : List V}, DVs K H ds vs → DVs K H es us → DVs K H (ds ++ es) (vs ++ us)
  | [], es, vs, us, h, h' => by cases (show vs = [] from h); exact h'
  | d :: ds, es, vs, us, ⟨v, r, h1, h2, h3⟩, h' => by subst h1; exact ⟨v, r ++ us, rfl, h2, DVs.append h3 h'⟩
/-! ### the same rules, the module's objects named -/
section
variable {X : Cx} {K : PySem.W.Frag}
theorem ix_tupK (h : X.K = K) : IxR X (rIxT K) := h ▸ ix_tup
end
end L2

namespace L2
open PySem PySem.Spec PyProof.Rows PySem.NumText
/-! ### steps and places, as data -/
abbrev Stp := Int × Int × Int
def stp (s : Stp) : PyData := .tuple [.int s.1, .int s.2.1, .int s.2.2]
def plc (ss : List Stp) : PyData := .tuple (ss.map stp)
abbrev sV (s : Stp) : List V := [.int s.1, .int s.2.1, .int s.2.2]
theorem stp_mk {K : PySem.W.Frag} {H : Hp} {s : Stp} {t : Addr} (h : SqT K H t (sV s)) : DV K H (stp s) (.ref t) := ⟨t, _, rfl, h, _, _, rfl, rfl, _, _, rfl, rfl, _, _, rfl, rfl, rfl⟩
theorem noL_stp (s : Stp) : noL (stp s) = true := rfl
theorem noLs_stp : ∀ ss : List Stp, noLs (ss.map stp) = true
  | [] => rfl
  | s :: ss => by rw [List.map_cons, noLs, noL_stp, noLs_stp ss]; rfl
theorem noL_plc (ss : List Stp) : noL (plc ss) = true := noLs_stp ss
theorem canLay_stps : ∀ ss : List Stp, PyData.canLayAll0 (ss.map stp) = true
  | [] => rfl
  | s :: ss => by
    rw [List.map_cons, PyData.canLayAll0, canLay_stps ss]
    rfl
theorem depth_stps : ∀ ss : List Stp, PyData.depthAll (ss.map stp) ≤ 1
  | [] => Nat.zero_le _
  | s :: ss => by
    rw [List.map_cons, PyData.depthAll]
    have h1 : PyData.depth (stp s) = 1 := rfl
    have h2 := depth_stps ss
    rw [h1]
    omega
theorem plc_lay (ss : List Stp) : PyData.canLay0 (plc ss) = true := canLay_stps ss
theorem plc_shaped (ss : List Stp) : SeqAt.shaped (plc ss) = true := by
  unfold SeqAt.shaped
  rw [plc_lay, Bool.true_and]
  have h : PyData.depth (plc ss) = PyData.depthAll (ss.map stp) + 1 := rfl
  have := depth_stps ss
  exact decide_eq_true (by omega)
theorem stp_eqv (a b : Stp) : PyData.eqv (stp a) (stp b) = decide (a = b) := by
  obtain ⟨a1, a2, a3⟩ := a
  obtain ⟨b1, b2, b3⟩ := b
  have e : PyData.eqv (stp (a1, a2, a3)) (stp (b1, b2, b3)) = (a1 == b1 && (a2 == b2 && (a3 == b3 && true))) := rfl
  rw [e, Bool.eq_iff_iff]
  simp
theorem stps_eqv : ∀ a b : List Stp, PyData.eqvAll (a.map stp) (b.map stp) = decide (a = b)
  | [], [] => rfl
  | [], _ :: _ => rfl
  | _ :: _, [] => rfl
  | x :: a, y :: b => by
    rw [List.map_cons, List.map_cons, PyData.eqvAll, stp_eqv, stps_eqv a b, Bool.eq_iff_iff]
    simp
theorem plc_eqv (a b : List Stp) : PyData.eqv (plc a) (plc b) = decide (a = b) := stps_eqv a b
/-! ### readings in short -/
end L2

namespace L2
open PySem PySem.Spec PyProof.Rows PySem.NumText
/-! ### tuples compared: the first two items that are not alike tell it -/
def lexD (e r : Nat → Bool) (d : Bool) : List Nat → Bool
  | [] => d
  | j :: js => if e j = true then lexD e r d js else r j
def CmpAt (op : CmpOp) (A : Around) (s : Shared) (y x : Value) (b : Bool) : Prop :=
  ∀ (prog : Program) (w : World) (E : Value → Shared → Prop) (Q : Value → Shared → Prop), Q (.bool b) s → wpAny (model prog w) A (richCompare op y x) Q E s
section
open PySem.SeqAt
open PySem.AutoSeq1 (wpAny_loadPart')
open PySem.MeetsSeq PySem.MeetsSeq2 PySem.MeetsSeq3

end

/-- the order of lists, item by item -/
def lexG {α : Type} [DecidableEq α] (lt : α → α → Bool) : List α → List α → Bool
  | [], [] => false
  | [], _ :: _ => true
  | _ :: _, [] => false
  | x :: xs, y :: ys => if x = y then lexG lt xs ys else lt x y
theorem lexD_map (e r : Nat → Bool) (d : Bool) : ∀ js : List Nat, lexD e r d (js.map Nat.succ) = lexD (fun j => e (j + 1)) (fun j => r (j + 1)) d js
  | [] => rfl
  | j :: js => by
    rw [List.map_cons, lexD, lexD, lexD_map e r d js]
abbrev iLt (a b : Int) : Bool := decide (a < b)
def sI (s : Stp) : List Int := [s.1, s.2.1, s.2.2]
theorem sI_inj {a b : Stp} : sI a = sI b ↔ a = b := by
  obtain ⟨a1, a2, a3⟩ := a
  obtain ⟨b1, b2, b3⟩ := b
  simp [sI]
abbrev sLt (a b : Stp) : Bool := lexG iLt (sI a) (sI b)
abbrev pLt (a b : List Stp) : Bool := lexG sLt a b
section
variable {X : Cx} {pins : List (Addr × Obj)} {σ : St} {H : Hp} {s : Shared} {A : Around}
end
section
variable {X : Cx} {K : PySem.W.Frag}
end
theorem Room.u100 {k : Nat} {A : Around} (r : Room k A) : A.units + 100 < cLine := by have := r.un; omega
end L2

namespace L2
open PySem PySem.Spec PyProof.Rows PySem.NumText
section
open PySem.SeqAt
open PySem.AutoSeq1 (wpAny_loadPart')
open PySem.MeetsSeq PySem.MeetsSeq2 PySem.MeetsSeq3
theorem tuple_ltAt1 (l b : Addr) (items items2 : Array Value) (n n2 : Nat) (dd dd2 : Option Addr) (sl sl2 : Array (Option Value)) (e r : Nat → Bool) :
    Meets (Builtin.«tuple.__lt__» ⟨[.ref l, .ref b], []⟩)
      (fun A R s => s.heap.get? l = some { cls := .type "tuple", dict := dd, data := .seq items n, slots := sl } ∧ s.heap.get? b = some { cls := .type "tuple", dict := dd2, data := .seq items2 n2, slots := sl2 } ∧
        (∀ j (h1 : j < items.size) (h2 : j < items2.size), EqAt A.in1 s items[j] items2[j] (e j)) ∧
        (∀ j (h1 : j < items.size) (h2 : j < items2.size), (∀ i, i < j → e i = true) → e j = false → CmpAt .Lt A.in1 s items[j] items2[j] (r j)) ∧
        R (.ok (.ret (.bool (lexD e r (decide (items.size < items2.size)) (List.range (min items.size items2.size)))))) s) :=
  .of_wp fun prog w A R s h => by
    obtain ⟨hp, g, d, tk, os⟩ := s; obtain ⟨hl, hb, he, hc, h⟩ := h
    have f2 := AutoSeq1.sub_tuple_tuple
    have hZ : (items.toList.zip items2.toList).length = min items.size items2.size := by simp
    wp_walk using wpAny_loadPart' hl, wpAny_loadPart' hb, wpAny_forIn_list _ (fun rest b s' => b.1 = none ∧ s' = ⟨hp, g, d, tk, os⟩ ∧ ∃ i, rest = (items.toList.zip items2.toList).drop i ∧ (∀ k, k < i → e k = true) ∧
      R (.ok (.ret (.bool (lexD e r (decide (items.size < items2.size)) ((List.range (min items.size items2.size)).drop i))))) ⟨hp, g, d, tk, os⟩) _
    case turn =>
      rintro ⟨y, x⟩ rest b s' ⟨hb', rfl, i, hz, hall, hR⟩
      have hlt : i < (items.toList.zip items2.toList).length := by
        rcases Nat.lt_or_ge i (items.toList.zip items2.toList).length with h' | h'
        · exact h'
        · rw [List.drop_of_length_le h'] at hz; cases hz
      have hm : i < min items.size items2.size := hZ ▸ hlt
      have h1 : i < items.size := Nat.lt_of_lt_of_le hm (Nat.min_le_left _ _)
      have h2 : i < items2.size := Nat.lt_of_lt_of_le hm (Nat.min_le_right _ _)
      rw [List.drop_eq_getElem_cons hlt] at hz
      injection hz with hyx hrest
      have hy : y = items[i] := by have := congrArg Prod.fst hyx; simpa using this
      have hx : x = items2[i] := by have := congrArg Prod.snd hyx; simpa using this
      subst hy hx
      have hd : (List.range (min items.size items2.size)).drop i = i :: (List.range (min items.size items2.size)).drop (i + 1) := by simp [List.drop_eq_getElem_cons, hm]
      rw [hd, lexD] at hR
      refine wpAny_bind (he i h1 h2 prog w _ _ ?_)
      cases hy : e i with
      | true =>
        rw [hy, if_pos rfl] at hR
        wp_walk
        exact ⟨rfl, rfl, i + 1, hrest, fun k hk => by
          rcases Nat.lt_or_ge k i with h' | h'
          · exact hall k h'
          · have : k = i := by omega
            rw [this]; exact hy, hR⟩
      | false =>
        rw [hy, if_neg Bool.false_ne_true] at hR
        have hri := hc i h1 h2 hall hy prog w
        wp_walk using hri
        exact ⟨_, rfl, by simpa using hR⟩
    case fin =>
      rintro ⟨b1, b2⟩ s' ⟨hb', rfl, i, hz, hall, hR⟩
      simp only at hb'
      subst hb'
      have hge : min items.size items2.size ≤ i := by
        rw [← hZ]
        rcases Nat.lt_or_ge i (items.toList.zip items2.toList).length with h' | h'
        · rw [List.drop_eq_getElem_cons h'] at hz; cases hz
        · exact h'
      rw [List.drop_of_length_le (by simpa using hge), lexD] at hR
      wp_walk
      exact ⟨_, rfl, by simpa [Builtin.Tuple.tupleCompareSizes] using hR⟩
    case h =>
      exact ⟨rfl, rfl, 0, rfl, fun k hk => absurd hk (Nat.not_lt_zero _), h⟩
theorem lt_tupAt1 {prog : Program} {w : World} {A : Around} {E : Value → Shared → Prop} {s : Shared} {l b : Addr} {items items2 : Array Value} {e r : Nat → Bool} {Q : Value → Shared → Prop} (hl : IsTup s.heap l items) (hb : IsTup s.heap b items2)
    (he : ∀ j (h1 : j < items.size) (h2 : j < items2.size), EqAt A.in1 s items[j] items2[j] (e j)) (hc : ∀ j (h1 : j < items.size) (h2 : j < items2.size), (∀ i, i < j → e i = true) → e j = false → CmpAt .Lt A.in1 s items[j] items2[j] (r j))
    (hu : A.units < cLine) (h : Q (.bool (lexD e r (decide (items.size < items2.size)) (List.range (min items.size items2.size)))) s) : wpAny (model prog w) A (compareOp .Lt (.ref l) (.ref b)) Q E s := by
  obtain ⟨⟨cls, dd, data, sl⟩, ho, hc1, n, hd⟩ := id hl
  obtain ⟨⟨cls2, dd2, data2, sl2⟩, ho2, hc2, n2, hd2⟩ := id hb
  simp only at hc1 hd hc2 hd2
  subst hc1 hd hc2 hd2
  refine richCompare_meets_room (op := .Lt) ⟨_, ho, rfl⟩ ⟨_, ho2, rfl⟩ PySem.F.slot_tuple_lt PySem.F.entry_tuple_lt (PySem.F.args_tuple_lt_2 _ _) (tuple_ltAt1 l b items items2 n n2 dd dd2 sl sl2 e r) ⟨ho, ho2, he, hc, ?_⟩ hu
  exact (show Value.bool _ ≠ Value.notImplemented ∧ Q (.bool _) s from ⟨(fun x => nomatch x), h⟩)

theorem tuple_geAt1 (l b : Addr) (items items2 : Array Value) (n n2 : Nat) (dd dd2 : Option Addr) (sl sl2 : Array (Option Value)) (e r : Nat → Bool) :
    Meets (Builtin.«tuple.__ge__» ⟨[.ref l, .ref b], []⟩)
      (fun A R s => s.heap.get? l = some { cls := .type "tuple", dict := dd, data := .seq items n, slots := sl } ∧ s.heap.get? b = some { cls := .type "tuple", dict := dd2, data := .seq items2 n2, slots := sl2 } ∧
        (∀ j (h1 : j < items.size) (h2 : j < items2.size), EqAt A.in1 s items[j] items2[j] (e j)) ∧
        (∀ j (h1 : j < items.size) (h2 : j < items2.size), (∀ i, i < j → e i = true) → e j = false → CmpAt .GtE A.in1 s items[j] items2[j] (r j)) ∧
        R (.ok (.ret (.bool (lexD e r (decide (items2.size ≤ items.size)) (List.range (min items.size items2.size)))))) s) :=
  .of_wp fun prog w A R s h => by
    obtain ⟨hp, g, d, tk, os⟩ := s; obtain ⟨hl, hb, he, hc, h⟩ := h
    have f2 := AutoSeq1.sub_tuple_tuple
    have hZ : (items.toList.zip items2.toList).length = min items.size items2.size := by simp
    wp_walk using wpAny_loadPart' hl, wpAny_loadPart' hb, wpAny_forIn_list _ (fun rest b s' => b.1 = none ∧ s' = ⟨hp, g, d, tk, os⟩ ∧ ∃ i, rest = (items.toList.zip items2.toList).drop i ∧ (∀ k, k < i → e k = true) ∧
      R (.ok (.ret (.bool (lexD e r (decide (items2.size ≤ items.size)) ((List.range (min items.size items2.size)).drop i))))) ⟨hp, g, d, tk, os⟩) _
    case turn =>
      rintro ⟨y, x⟩ rest b s' ⟨hb', rfl, i, hz, hall, hR⟩
      have hlt : i < (items.toList.zip items2.toList).length := by
        rcases Nat.lt_or_ge i (items.toList.zip items2.toList).length with h' | h'
        · exact h'
        · rw [List.drop_of_length_le h'] at hz; cases hz
      have hm : i < min items.size items2.size := hZ ▸ hlt
      have h1 : i < items.size := Nat.lt_of_lt_of_le hm (Nat.min_le_left _ _)
      have h2 : i < items2.size := Nat.lt_of_lt_of_le hm (Nat.min_le_right _ _)
      rw [List.drop_eq_getElem_cons hlt] at hz
      injection hz with hyx hrest
      have hy : y = items[i] := by have := congrArg Prod.fst hyx; simpa using this
      have hx : x = items2[i] := by have := congrArg Prod.snd hyx; simpa using this
      subst hy hx
      have hd : (List.range (min items.size items2.size)).drop i = i :: (List.range (min items.size items2.size)).drop (i + 1) := by simp [List.drop_eq_getElem_cons, hm]
      rw [hd, lexD] at hR
      refine wpAny_bind (he i h1 h2 prog w _ _ ?_)
      cases hy : e i with
      | true =>
        rw [hy, if_pos rfl] at hR
        wp_walk
        exact ⟨rfl, rfl, i + 1, hrest, fun k hk => by
          rcases Nat.lt_or_ge k i with h' | h'
          · exact hall k h'
          · have : k = i := by omega
            rw [this]; exact hy, hR⟩
      | false =>
        rw [hy, if_neg Bool.false_ne_true] at hR
        have hri := hc i h1 h2 hall hy prog w
        wp_walk using hri
        exact ⟨_, rfl, by simpa using hR⟩
    case fin =>
      rintro ⟨b1, b2⟩ s' ⟨hb', rfl, i, hz, hall, hR⟩
      simp only at hb'
      subst hb'
      have hge : min items.size items2.size ≤ i := by
        rw [← hZ]
        rcases Nat.lt_or_ge i (items.toList.zip items2.toList).length with h' | h'
        · rw [List.drop_eq_getElem_cons h'] at hz; cases hz
        · exact h'
      rw [List.drop_of_length_le (by simpa using hge), lexD] at hR
      wp_walk
      exact ⟨_, rfl, by simpa [Builtin.Tuple.tupleCompareSizes] using hR⟩
    case h =>
      exact ⟨rfl, rfl, 0, rfl, fun k hk => absurd hk (Nat.not_lt_zero _), h⟩
theorem ge_tupAt1 {prog : Program} {w : World} {A : Around} {E : Value → Shared → Prop} {s : Shared} {l b : Addr} {items items2 : Array Value} {e r : Nat → Bool} {Q : Value → Shared → Prop} (hl : IsTup s.heap l items) (hb : IsTup s.heap b items2)
    (he : ∀ j (h1 : j < items.size) (h2 : j < items2.size), EqAt A.in1 s items[j] items2[j] (e j)) (hc : ∀ j (h1 : j < items.size) (h2 : j < items2.size), (∀ i, i < j → e i = true) → e j = false → CmpAt .GtE A.in1 s items[j] items2[j] (r j))
    (hu : A.units < cLine) (h : Q (.bool (lexD e r (decide (items2.size ≤ items.size)) (List.range (min items.size items2.size)))) s) : wpAny (model prog w) A (compareOp .GtE (.ref l) (.ref b)) Q E s := by
  obtain ⟨⟨cls, dd, data, sl⟩, ho, hc1, n, hd⟩ := id hl
  obtain ⟨⟨cls2, dd2, data2, sl2⟩, ho2, hc2, n2, hd2⟩ := id hb
  simp only at hc1 hd hc2 hd2
  subst hc1 hd hc2 hd2
  refine richCompare_meets_room (op := .GtE) ⟨_, ho, rfl⟩ ⟨_, ho2, rfl⟩ PySem.F.slot_tuple_ge PySem.F.entry_tuple_ge (PySem.F.args_tuple_ge_2 _ _) (tuple_geAt1 l b items items2 n n2 dd dd2 sl sl2 e r) ⟨ho, ho2, he, hc, ?_⟩ hu
  exact (show Value.bool _ ≠ Value.notImplemented ∧ Q (.bool _) s from ⟨(fun x => nomatch x), h⟩)

theorem tuple_gtAt1 (l b : Addr) (items items2 : Array Value) (n n2 : Nat) (dd dd2 : Option Addr) (sl sl2 : Array (Option Value)) (e r : Nat → Bool) :
    Meets (Builtin.«tuple.__gt__» ⟨[.ref l, .ref b], []⟩)
      (fun A R s => s.heap.get? l = some { cls := .type "tuple", dict := dd, data := .seq items n, slots := sl } ∧ s.heap.get? b = some { cls := .type "tuple", dict := dd2, data := .seq items2 n2, slots := sl2 } ∧
        (∀ j (h1 : j < items.size) (h2 : j < items2.size), EqAt A.in1 s items[j] items2[j] (e j)) ∧
        (∀ j (h1 : j < items.size) (h2 : j < items2.size), (∀ i, i < j → e i = true) → e j = false → CmpAt .Gt A.in1 s items[j] items2[j] (r j)) ∧
        R (.ok (.ret (.bool (lexD e r (decide (items2.size < items.size)) (List.range (min items.size items2.size)))))) s) :=
  .of_wp fun prog w A R s h => by
    obtain ⟨hp, g, d, tk, os⟩ := s; obtain ⟨hl, hb, he, hc, h⟩ := h
    have f2 := AutoSeq1.sub_tuple_tuple
    have hZ : (items.toList.zip items2.toList).length = min items.size items2.size := by simp
    wp_walk using wpAny_loadPart' hl, wpAny_loadPart' hb, wpAny_forIn_list _ (fun rest b s' => b.1 = none ∧ s' = ⟨hp, g, d, tk, os⟩ ∧ ∃ i, rest = (items.toList.zip items2.toList).drop i ∧ (∀ k, k < i → e k = true) ∧
      R (.ok (.ret (.bool (lexD e r (decide (items2.size < items.size)) ((List.range (min items.size items2.size)).drop i))))) ⟨hp, g, d, tk, os⟩) _
    case turn =>
      rintro ⟨y, x⟩ rest b s' ⟨hb', rfl, i, hz, hall, hR⟩
      have hlt : i < (items.toList.zip items2.toList).length := by
        rcases Nat.lt_or_ge i (items.toList.zip items2.toList).length with h' | h'
        · exact h'
        · rw [List.drop_of_length_le h'] at hz; cases hz
      have hm : i < min items.size items2.size := hZ ▸ hlt
      have h1 : i < items.size := Nat.lt_of_lt_of_le hm (Nat.min_le_left _ _)
      have h2 : i < items2.size := Nat.lt_of_lt_of_le hm (Nat.min_le_right _ _)
      rw [List.drop_eq_getElem_cons hlt] at hz
      injection hz with hyx hrest
      have hy : y = items[i] := by have := congrArg Prod.fst hyx; simpa using this
      have hx : x = items2[i] := by have := congrArg Prod.snd hyx; simpa using this
      subst hy hx
      have hd : (List.range (min items.size items2.size)).drop i = i :: (List.range (min items.size items2.size)).drop (i + 1) := by simp [List.drop_eq_getElem_cons, hm]
      rw [hd, lexD] at hR
      refine wpAny_bind (he i h1 h2 prog w _ _ ?_)
      cases hy : e i with
      | true =>
        rw [hy, if_pos rfl] at hR
        wp_walk
        exact ⟨rfl, rfl, i + 1, hrest, fun k hk => by
          rcases Nat.lt_or_ge k i with h' | h'
          · exact hall k h'
          · have : k = i := by omega
            rw [this]; exact hy, hR⟩
      | false =>
        rw [hy, if_neg Bool.false_ne_true] at hR
        have hri := hc i h1 h2 hall hy prog w
        wp_walk using hri
        exact ⟨_, rfl, by simpa using hR⟩
    case fin =>
      rintro ⟨b1, b2⟩ s' ⟨hb', rfl, i, hz, hall, hR⟩
      simp only at hb'
      subst hb'
      have hge : min items.size items2.size ≤ i := by
        rw [← hZ]
        rcases Nat.lt_or_ge i (items.toList.zip items2.toList).length with h' | h'
        · rw [List.drop_eq_getElem_cons h'] at hz; cases hz
        · exact h'
      rw [List.drop_of_length_le (by simpa using hge), lexD] at hR
      wp_walk
      exact ⟨_, rfl, by simpa [Builtin.Tuple.tupleCompareSizes] using hR⟩
    case h =>
      exact ⟨rfl, rfl, 0, rfl, fun k hk => absurd hk (Nat.not_lt_zero _), h⟩
theorem gt_tupAt1 {prog : Program} {w : World} {A : Around} {E : Value → Shared → Prop} {s : Shared} {l b : Addr} {items items2 : Array Value} {e r : Nat → Bool} {Q : Value → Shared → Prop} (hl : IsTup s.heap l items) (hb : IsTup s.heap b items2)
    (he : ∀ j (h1 : j < items.size) (h2 : j < items2.size), EqAt A.in1 s items[j] items2[j] (e j)) (hc : ∀ j (h1 : j < items.size) (h2 : j < items2.size), (∀ i, i < j → e i = true) → e j = false → CmpAt .Gt A.in1 s items[j] items2[j] (r j))
    (hu : A.units < cLine) (h : Q (.bool (lexD e r (decide (items2.size < items.size)) (List.range (min items.size items2.size)))) s) : wpAny (model prog w) A (compareOp .Gt (.ref l) (.ref b)) Q E s := by
  obtain ⟨⟨cls, dd, data, sl⟩, ho, hc1, n, hd⟩ := id hl
  obtain ⟨⟨cls2, dd2, data2, sl2⟩, ho2, hc2, n2, hd2⟩ := id hb
  simp only at hc1 hd hc2 hd2
  subst hc1 hd hc2 hd2
  refine richCompare_meets_room (op := .Gt) ⟨_, ho, rfl⟩ ⟨_, ho2, rfl⟩ PySem.F.slot_tuple_gt PySem.F.entry_tuple_gt (PySem.F.args_tuple_gt_2 _ _) (tuple_gtAt1 l b items items2 n n2 dd dd2 sl sl2 e r) ⟨ho, ho2, he, hc, ?_⟩ hu
  exact (show Value.bool _ ≠ Value.notImplemented ∧ Q (.bool _) s from ⟨(fun x => nomatch x), h⟩)

end
/-! ### < of plain data: ints, texts, tuples of these, however deep -/
mutual
def ltD : PyData → PyData → Option Bool
  | .int a, .int b => some (decide (a < b))
  | .str a, .str b => some (decide (a.cps.toList < b.cps.toList))
  | .tuple xs, .tuple ys => ltDs xs ys
  | _, _ => none
def ltDs : List PyData → List PyData → Option Bool
  | [], [] => some false
  | [], _ :: _ => some true
  | _ :: _, [] => some false
  | x :: xs, y :: ys => if PyData.eqv x y = true then ltDs xs ys else ltD x y
end
/-- the first two that are not alike -/
theorem lexD_ltDs {e r : Nat → Bool} : ∀ {xs ys : List PyData} {b : Bool}, ltDs xs ys = some b → (∀ (j : Nat) x y, xs[j]? = some x → ys[j]? = some y → e j = PyData.eqv x y) →
    (∀ (j : Nat) x y c, xs[j]? = some x → ys[j]? = some y → (∀ i, i < j → e i = true) → e j = false → ltD x y = some c → r j = c) →
    lexD e r (decide (xs.length < ys.length)) (List.range (min xs.length ys.length)) = b := by
  intro xs
  induction xs generalizing e r with
  | nil =>
    intro ys b h _ _
    cases ys with
    | nil => cases h; rfl
    | cons y ys => cases h; rw [List.length_nil, Nat.zero_min]; exact decide_eq_true (Nat.succ_pos _)
  | cons x xs ih =>
    intro ys b h he hr
    cases ys with
    | nil => cases h; rw [List.length_nil, Nat.min_zero]; exact decide_eq_false (Nat.not_lt_zero _)
    | cons y ys =>
      have h0 := he 0 x y rfl rfl
      rw [List.length_cons, List.length_cons, Nat.succ_min_succ, List.range_succ_eq_map, lexD]
      rw [ltDs] at h
      by_cases hxy : PyData.eqv x y = true
      · rw [if_pos hxy] at h
        rw [if_pos (h0.trans hxy), lexD_map]
        have := ih (ys := ys) (e := fun j => e (j + 1)) (r := fun j => r (j + 1)) h (fun j a b h1 h2 => he (j + 1) a b (by simpa using h1) (by simpa using h2))
          (fun j a b c h1 h2 h3 h4 h5 => hr (j + 1) a b c (by simpa using h1) (by simpa using h2) (fun i hi => by
            cases i with
            | zero => exact h0.trans hxy
            | succ i => exact h3 i (by omega)) h4 h5)
        rw [← this]
        congr 1
        exact decide_eq_decide.mpr (by omega)
      · rw [if_neg hxy] at h
        have hf : e 0 = false := by rw [h0]; simpa using hxy
        rw [if_neg (by rw [hf]; exact Bool.false_ne_true)]
        exact hr 0 x y b rfl rfl (fun i hi => absurd hi (Nat.not_lt_zero _)) hf h
theorem lexD_not {e r : Nat → Bool} {d : Bool} : ∀ js : List Nat, lexD e (fun j => !r j) (!d) js = !lexD e r d js
  | [] => rfl
  | j :: js => by
    rw [lexD, lexD, lexD_not js]
    split <;> rfl
theorem readsAll_at {h : Heap} : ∀ {xs : List PyData} {vs : List Value} {as : List Addr} {j : Nat} {v : Value}, ReadsAll h vs xs as → vs[j]? = some v → ∃ d bs, xs[j]? = some d ∧ Reads h v d bs ∧ d ∈ xs
  | _, _, _, 0, v, .cons (v := u) (d := d) r rr, e => by
    have : u = v := by simpa using e
    subst this
    exact ⟨_, _, rfl, r, List.mem_cons_self⟩
  | _, _, _, j + 1, v, .cons r rr, e => by
    obtain ⟨d, bs, h1, h2, h3⟩ := readsAll_at rr (j := j) (by simpa using e)
    exact ⟨d, bs, by simpa using h1, h2, List.mem_cons_of_mem _ h3⟩
theorem canLay_mem : ∀ {xs : List PyData} {d : PyData}, d ∈ xs → PyData.canLayAll0 xs = true → PyData.canLay0 d = true
  | x :: xs, d, h, c => by
    rw [PyData.canLayAll0, Bool.and_eq_true] at c
    rcases List.mem_cons.mp h with rfl | h
    · exact c.1
    · exact canLay_mem h c.2
theorem depth_mem : ∀ {xs : List PyData} {d : PyData}, d ∈ xs → PyData.depth d ≤ PyData.depthAll xs
  | x :: xs, d, h => by
    rw [PyData.depthAll]
    rcases List.mem_cons.mp h with rfl | h
    · omega
    · have := depth_mem h
      omega
theorem cmpAt_data : ∀ (n : Nat) (da db : PyData) (c : Bool) (A : Around) (s : Shared) (a b : Value) (as bs : List Addr), PyData.depth da ≤ n → Reads s.heap a da as → Reads s.heap b db bs → da.canLay0 = true → db.canLay0 = true → ltD da db = some c →
    A.units + n + 2 < cLine → CmpAt .Lt A s a b c ∧ CmpAt .GtE A s a b (!c) := by
  intro n
  induction n with
  | zero =>
    intro da db c A s a b as bs hd ra rb _ _ hc hu
    cases ra with
    | int i t =>
      cases rb with
      | int j u =>
        have hc : decide (i < j) = c := by simpa [ltD] using hc
        subst hc
        refine ⟨fun prog w E Q hq => (PyProof.Rows.lt_int hq : wpAny (model prog w) A (compareOp .Lt (.int i t) (.int j u)) Q E s), fun prog w E Q hq => ?_⟩
        have e : (!decide (i < j)) = decide (j ≤ i) := by rw [← decide_not]; exact decide_eq_decide.mpr (by omega)
        rw [e] at hq
        exact (PyProof.Rows.ge_int hq : wpAny (model prog w) A (compareOp .GtE (.int i t) (.int j u)) Q E s)
      | _ => simp [ltD] at hc
    | str x t =>
      cases rb with
      | str y u =>
        have hc : decide (x.cps.toList < y.cps.toList) = c := by simpa [ltD] using hc
        subst hc
        exact ⟨fun prog w E Q hq => (PyProof.Rows.lt_str hq : wpAny (model prog w) A (compareOp .Lt (.str x t) (.str y u)) Q E s), fun prog w E Q hq => (PySem.P.ge_str hq : wpAny (model prog w) A (compareOp .GtE (.str x t) (.str y u)) Q E s)⟩
      | _ => simp [ltD] at hc
    | tuple h1 h2 h3 h4 => simp [PyData.depth] at hd
    | _ => simp [ltD] at hc
  | succ n ih =>
    intro da db c A s a b as bs hd ra rb la lb hc hu
    cases ra with
    | int i t =>
      cases rb with
      | int j u =>
        have hc : decide (i < j) = c := by simpa [ltD] using hc
        subst hc
        refine ⟨fun prog w E Q hq => (PyProof.Rows.lt_int hq : wpAny (model prog w) A (compareOp .Lt (.int i t) (.int j u)) Q E s), fun prog w E Q hq => ?_⟩
        have e : (!decide (i < j)) = decide (j ≤ i) := by rw [← decide_not]; exact decide_eq_decide.mpr (by omega)
        rw [e] at hq
        exact (PyProof.Rows.ge_int hq : wpAny (model prog w) A (compareOp .GtE (.int i t) (.int j u)) Q E s)
      | _ => simp [ltD] at hc
    | str x t =>
      cases rb with
      | str y u =>
        have hc : decide (x.cps.toList < y.cps.toList) = c := by simpa [ltD] using hc
        subst hc
        exact ⟨fun prog w E Q hq => (PyProof.Rows.lt_str hq : wpAny (model prog w) A (compareOp .Lt (.str x t) (.str y u)) Q E s), fun prog w E Q hq => (PySem.P.ge_str hq : wpAny (model prog w) A (compareOp .GtE (.str x t) (.str y u)) Q E s)⟩
      | _ => simp [ltD] at hc
    | @tuple l o vs m xs as h1 h2 h3 h4 =>
      cases rb with
      | @tuple l2 o2 vs2 m2 ys bs g1 g2 g3 g4 =>
        have hc : ltDs xs ys = some c := by simpa [ltD] using hc
        have z1 : vs.size = xs.length := by have := SeqAt.ReadsAll.length _ _ _ h4; simpa using this
        have z2 : vs2.size = ys.length := by have := SeqAt.ReadsAll.length _ _ _ g4; simpa using this
        have la' : PyData.canLayAll0 xs = true := la
        have lb' : PyData.canLayAll0 ys = true := lb
        have hd' : PyData.depthAll xs ≤ n := by have : PyData.depth (.tuple xs) = PyData.depthAll xs + 1 := rfl; omega
        have at1 : ∀ j (h : j < vs.size), ∃ d bs, xs[j]? = some d ∧ Reads s.heap vs[j] d bs ∧ d ∈ xs := fun j h => readsAll_at h4 (by simp [h])
        have at2 : ∀ j (h : j < vs2.size), ∃ d bs, ys[j]? = some d ∧ Reads s.heap vs2[j] d bs ∧ d ∈ ys := fun j h => readsAll_at g4 (by simp [h])
        have he : ∀ j (k1 : j < vs.size) (k2 : j < vs2.size), SeqAt.EqAt A.in1 s vs[j] vs2[j] (PyData.eqv ((xs[j]?).getD .none) ((ys[j]?).getD .none)) := fun j k1 k2 => by
          obtain ⟨d, b1, e1, r1, m1⟩ := at1 j k1
          obtain ⟨d2, b2, e2, r2, m2⟩ := at2 j k2
          rw [e1, e2]
          refine SeqAt.eqAt_reads d d2 A.in1 s _ _ b1 b2 r1 r2 (canLay_mem m1 la') (canLay_mem m2 lb') ?_
          have := depth_mem m1
          have : min d.depth d2.depth ≤ d.depth := Nat.min_le_left _ _
          show A.units + 1 + min d.depth d2.depth < cLine
          omega
        have hl : IsTup s.heap l vs := ⟨o, h1, h2, m, h3⟩
        have hr : IsTup s.heap l2 vs2 := ⟨o2, g1, g2, m2, g3⟩
        have e0 : ∀ (j : Nat) x y, xs[j]? = some x → ys[j]? = some y → PyData.eqv ((xs[j]?).getD .none) ((ys[j]?).getD .none) = PyData.eqv x y := fun j x y e1 e2 => by rw [e1, e2]; rfl
        have lexlt := lexD_ltDs (e := fun j => PyData.eqv ((xs[j]?).getD .none) ((ys[j]?).getD .none)) (r := fun j => (ltD ((xs[j]?).getD .none) ((ys[j]?).getD .none)).getD false) hc e0 (fun j x y c' e1 e2 _ _ e3 => by rw [e1, e2]; simp only [Option.getD_some]; rw [e3]; rfl)
        -- at the first two that are not alike < has an answer
        have ans : ∀ (xs ys : List PyData) (c : Bool), ltDs xs ys = some c → ∀ (j : Nat) x y, xs[j]? = some x → ys[j]? = some y → (∀ i x y, i < j → xs[i]? = some x → ys[i]? = some y → PyData.eqv x y = true) → PyData.eqv x y = false → ∃ c', ltD x y = some c' := by
          intro xs
          induction xs with
          | nil => intro ys c _ j x y e1; simp at e1
          | cons x0 xs ih2 =>
            intro ys c h j x y e1 e2 hall hne
            cases ys with
            | nil => simp at e2
            | cons y0 ys =>
              rw [ltDs] at h
              cases j with
              | zero =>
                simp at e1 e2
                subst e1 e2
                rw [if_neg (by rw [hne]; exact Bool.false_ne_true)] at h
                exact ⟨c, h⟩
              | succ j =>
                rw [if_pos (hall 0 x0 y0 (Nat.succ_pos _) rfl rfl)] at h
                exact ih2 ys c h j x y (by simpa using e1) (by simpa using e2) (fun i a b hi h1 h2 => hall (i + 1) a b (by omega) (by simpa using h1) (by simpa using h2)) hne
        have hu1 : A.in1.units + n + 2 < cLine := by show A.units + 1 + n + 2 < cLine; omega
        have cmp : ∀ j (k1 : j < vs.size) (k2 : j < vs2.size), (∀ i, i < j → PyData.eqv ((xs[i]?).getD .none) ((ys[i]?).getD .none) = true) → PyData.eqv ((xs[j]?).getD .none) ((ys[j]?).getD .none) = false →
            CmpAt .Lt A.in1 s vs[j] vs2[j] ((ltD ((xs[j]?).getD .none) ((ys[j]?).getD .none)).getD false) ∧ CmpAt .GtE A.in1 s vs[j] vs2[j] (!(ltD ((xs[j]?).getD .none) ((ys[j]?).getD .none)).getD false) := fun j k1 k2 hall hne => by
          obtain ⟨d, b1, e1, r1, m1⟩ := at1 j k1
          obtain ⟨d2, b2, e2, r2, m2⟩ := at2 j k2
          rw [e1, e2] at hne ⊢
          obtain ⟨c', hc'⟩ := ans xs ys c hc j d d2 e1 e2 (fun i x y hi h1 h2 => by have := hall i hi; rw [h1, h2] at this; exact this) hne
          simp only [Option.getD_some]
          rw [hc']
          exact ih d d2 c' A.in1 s _ _ b1 b2 (Nat.le_trans (depth_mem m1) hd') r1 r2 (canLay_mem m1 la') (canLay_mem m2 lb') hc' hu1
        refine ⟨fun prog w E Q hq => ?_, fun prog w E Q hq => ?_⟩
        · refine (lt_tupAt1 hl hr he (fun j k1 k2 h3 h4 => (cmp j k1 k2 h3 h4).1) (by omega) ?_ : wpAny (model prog w) A (compareOp .Lt (.ref l) (.ref l2)) Q E s)
          rw [z1, z2, lexlt]
          exact hq
        · refine (ge_tupAt1 hl hr he (fun j k1 k2 h3 h4 => (cmp j k1 k2 h3 h4).2) (by omega) ?_ : wpAny (model prog w) A (compareOp .GtE (.ref l) (.ref l2)) Q E s)
          have e : decide (vs2.size ≤ vs.size) = !decide (vs.size < vs2.size) := by rw [← decide_not]; exact decide_eq_decide.mpr (by omega)
          rw [e, lexD_not, z1, z2, lexlt]
          exact hq
      | _ => simp [ltD] at hc
    | _ => simp [ltD] at hc
section
variable {X : Cx}
def rLtG (K : PySem.W.Frag) : R2 := fun x y H Q => ∃ d e c, DV K H d x ∧ DV K H e y ∧ SeqAt.shaped d = true ∧ SeqAt.shaped e = true ∧ ltD d e = some c ∧ Q (.bl c) H
theorem op_ltG (hu : X.A.units + 100 < cLine) : OpR X (compareOp .Lt) (rLtG X.K) := by
  intro pins s σ H x y v u Q I rx ry h
  obtain ⟨d, e, c, hd, he, sd, se, hc, q⟩ := h
  obtain ⟨as, ra⟩ := DV.reads I d x v hd rx
  obtain ⟨bs, rb⟩ := DV.reads I e y u he ry
  exact (cmpAt_data 64 d e c X.A s v u as bs (SeqAt.depth_of_shaped sd) ra rb (SeqAt.canLay_of_shaped sd) (SeqAt.canLay_of_shaped se) hc (by omega)).1 _ _ _ _ ⟨.bl _, H, I, rfl, q⟩
end
end L2

namespace L2
open PySem
/-! ### the search of a set's table: an empty slot is always met -/
abbrev ST := SetTable
/-- a table that no element has left, its places rising and within it -/
structure Fit (t : ST) : Prop where
  dum : t.dummies = #[]
  sz : t.place.size ≤ t.mask
  msk : t.mask = 7 ∨ t.mask = 31 ∨ t.mask = 127 ∨ t.mask = 511
def lcg (m i : Nat) : Nat := (i * 5 + 1) % m
def orb (m : Nat) : Nat → Nat → Nat
  | 0, i => i
  | n + 1, i => orb m n (lcg m i)
theorem orb_add (m : Nat) : ∀ (a b i : Nat), orb m (a + b) i = orb m b (orb m a i)
  | 0, b, i => by rw [Nat.zero_add]; rfl
  | a + 1, b, i => by rw [Nat.succ_add]; exact orb_add m a b (lcg m i)
def orbList (m : Nat) : Nat → Nat → List Nat
  | 0, _ => []
  | n + 1, i => i :: orbList m n (lcg m i)
theorem mem_orbList {m : Nat} : ∀ {n i j : Nat}, j ∈ orbList m n i → ∃ k, k < n ∧ orb m k i = j
  | n + 1, i, j, h => by
    rcases List.mem_cons.mp h with rfl | h
    · exact ⟨0, Nat.succ_pos _, rfl⟩
    · obtain ⟨k, hk, e⟩ := mem_orbList h
      exact ⟨k + 1, by omega, e⟩
def covers (m : Nat) : Bool := (List.range m).all (fun j => (orbList m m 0).contains j) && (orb m m 0 == 0)
theorem cov8 : covers 8 = true := by decide +kernel
theorem cov32 : covers 32 = true := by decide +kernel
theorem cov128 : covers 128 = true := by decide +kernel
theorem cov512 : covers 512 = true := by decide +kernel
theorem covers_of {t : ST} (f : Fit t) : covers (t.mask + 1) = true := by
  rcases f.msk with e | e | e | e <;> rw [e]
  · exact cov8
  · exact cov32
  · exact cov128
  · exact cov512
theorem reach0 {m j : Nat} (c : covers m = true) (hj : j < m) : ∃ k, k < m ∧ orb m k 0 = j := by
  unfold covers at c
  rw [Bool.and_eq_true] at c
  have := List.all_eq_true.mp c.1 j (List.mem_range.mpr hj)
  exact mem_orbList (by simpa using this)
theorem period {m : Nat} (c : covers m = true) : orb m m 0 = 0 := by
  unfold covers at c
  rw [Bool.and_eq_true] at c
  exact eq_of_beq c.2
/-- from any place each place is come to -/
theorem reach {m i j : Nat} (c : covers m = true) (hi : i < m) (hj : j < m) : ∃ k, k < m ∧ orb m k i = j := by
  obtain ⟨a, ha, ea⟩ := reach0 c hi
  obtain ⟨b, hb, eb⟩ := reach0 c hj
  rcases Nat.lt_or_ge b a with h | h
  · refine ⟨m - a + b, by omega, ?_⟩
    rw [← ea, ← orb_add, show a + (m - a + b) = m + b by omega, orb_add, period c, eb]
  · refine ⟨b - a, by omega, ?_⟩
    rw [← ea, ← orb_add, show a + (b - a) = b by omega, eb]
/-! ### the leaps -/
abbrev leap2 (mask : Nat) (p : Nat × Nat) : Nat × Nat := SetTable.leap mask p.1 p.2
def leaps (mask : Nat) : Nat → Nat × Nat → Nat × Nat
  | 0, p => p
  | n + 1, p => leaps mask n (leap2 mask p)
theorem leaps_add (mask : Nat) : ∀ (a b : Nat) (p : Nat × Nat), leaps mask (a + b) p = leaps mask b (leaps mask a p)
  | 0, b, p => by rw [Nat.zero_add]; rfl
  | a + 1, b, p => by rw [Nat.succ_add]; exact leaps_add mask a b (leap2 mask p)
theorem leaps_perturb (mask : Nat) : ∀ (n : Nat) (p : Nat × Nat), (leaps mask n p).2 = p.2 / 32 ^ n
  | 0, p => by simp [leaps]
  | n + 1, p => by
    show (leaps mask n (leap2 mask p)).2 = _
    rw [leaps_perturb mask n]
    show p.2 / 32 / 32 ^ n = _
    rw [Nat.div_div_eq_div_mul, Nat.pow_succ, Nat.mul_comm]
theorem leaps_zero (mask : Nat) : ∀ (n i : Nat), leaps mask n (i, 0) = (orb (mask + 1) n i, 0)
  | 0, i => rfl
  | n + 1, i => by
    show leaps mask n ((i * 5 + 1 + 0 / 32) % (mask + 1), 0 / 32) = _
    rw [Nat.zero_div, Nat.add_zero, leaps_zero mask n]
    rfl
theorem leaps_lt (mask : Nat) : ∀ (n : Nat) (p : Nat × Nat), p.1 < mask + 1 → (leaps mask n p).1 < mask + 1
  | 0, p, h => h
  | n + 1, p, h => leaps_lt mask n _ (Nat.mod_lt _ (Nat.succ_pos _))
/-- behind thirteen leaps and as many as there are slots, each slot has been a start -/
theorem all_starts {mask i perturb j : Nat} (c : covers (mask + 1) = true) (hi : i < mask + 1) (hp : perturb < 2 ^ 64) (hj : j < mask + 1) : ∃ k, k < mask + 14 ∧ (leaps mask k (i, perturb)).1 = j := by
  have h13 : (leaps mask 13 (i, perturb)).2 = 0 := by
    rw [leaps_perturb]
    exact Nat.div_eq_of_lt (Nat.lt_of_lt_of_le hp (by decide))
  have hl := leaps_lt mask 13 (i, perturb) hi
  generalize hq : leaps mask 13 (i, perturb) = q at h13 hl
  obtain ⟨qi, qp⟩ := q
  dsimp only at h13 hl
  subst h13
  obtain ⟨k, hk, e⟩ := reach c hl hj
  refine ⟨13 + k, by omega, ?_⟩
  rw [leaps_add, hq, leaps_zero]
  exact e

/-! ### the path of a search -/
open SetTable in
def path (t : ST) : Nat → Probe → Probe
  | 0, p => p
  | n + 1, p => path t n (t.advance p)
theorem path_add (t : ST) : ∀ (a b : Nat) (p : SetTable.Probe), path t (a + b) p = path t b (path t a p)
  | 0, b, p => by rw [Nat.zero_add]; rfl
  | a + 1, b, p => by rw [Nat.succ_add]; exact path_add t a b (t.advance p)
theorem path_succ (t : ST) (n : Nat) (p : SetTable.Probe) : path t (n + 1) p = t.advance (path t n p) := by
  rw [path_add]; rfl
theorem adv_dummy (t : ST) (p : SetTable.Probe) : (t.advance p).dummy = p.dummy := by
  unfold SetTable.advance
  split <;> rfl
theorem path_dummy (t : ST) : ∀ (n : Nat) (p : SetTable.Probe), (path t n p).dummy = p.dummy
  | 0, p => rfl
  | n + 1, p => by show (path t n (t.advance p)).dummy = _; rw [path_dummy t n, adv_dummy]
/-- to the end of a run -/
theorem run_end (t : ST) : ∀ (m : Nat) (p : SetTable.Probe), p.more = m → path t (m + 1) p = { p with j := (SetTable.leap t.mask p.i p.perturb).1, more := SetTable.runEnd t.mask (SetTable.leap t.mask p.i p.perturb).1 - (SetTable.leap t.mask p.i p.perturb).1, i := (SetTable.leap t.mask p.i p.perturb).1, perturb := (SetTable.leap t.mask p.i p.perturb).2 }
  | 0, p, h => by
    show t.advance p = _
    unfold SetTable.advance
    rw [if_neg (by omega)]
  | m + 1, p, h => by
    show path t (m + 1) (t.advance p) = _
    have e : t.advance p = { p with j := p.j + 1, more := p.more - 1 } := by
      unfold SetTable.advance
      rw [if_pos (by omega)]
    rw [e, run_end t m _ (by show p.more - 1 = m; omega)]
theorem run_len (mask i : Nat) : SetTable.runEnd mask i - i ≤ 9 := by
  unfold SetTable.runEnd
  split <;> omega
/-- the start of each run is come to in time -/
theorem run_starts (t : ST) : ∀ (k : Nat) (p : SetTable.Probe), p.more ≤ 9 → ∃ n, n ≤ 10 + 10 * k ∧ (path t n p).j = (leaps t.mask (k + 1) (p.i, p.perturb)).1
  | 0, p, h => by
    refine ⟨p.more + 1, by omega, ?_⟩
    rw [run_end t p.more p rfl]
    rfl
  | k + 1, p, h => by
    have e := run_end t p.more p rfl
    obtain ⟨n, hn, e2⟩ := run_starts t k (path t (p.more + 1) p) (by rw [e]; exact run_len _ _)
    refine ⟨(p.more + 1) + n, by omega, ?_⟩
    rw [path_add, e2, e]
    rfl
/-- each slot is come to in time -/
theorem met {t : ST} (f : Fit t) {p : SetTable.Probe} {j : Nat} (h9 : p.more ≤ 9) (hp : p.perturb < 2 ^ 64) (hj : j < t.mask + 1) : ∃ n, n < 10 * SetTable.turns t.mask ∧ (path t n p).j = j := by
  have hl : (SetTable.leap t.mask p.i p.perturb).1 < t.mask + 1 := Nat.mod_lt _ (Nat.succ_pos _)
  have hp2 : (SetTable.leap t.mask p.i p.perturb).2 < 2 ^ 64 := Nat.lt_of_le_of_lt (Nat.div_le_self _ _) hp
  obtain ⟨k, hk, e⟩ := all_starts (covers_of f) hl hp2 hj
  obtain ⟨n, hn, e2⟩ := run_starts t k p h9
  refine ⟨n, ?_, ?_⟩
  · unfold SetTable.turns
    omega
  · rw [e2]; exact e
theorem slot_empty {t : ST} (f : Fit t) (j : Nat) : t.slot j = .empty ∨ ∃ i, t.slot j = .live i ∧ t.place[i]? = some j := by
  unfold SetTable.slot
  dsimp only
  by_cases h : (t.place[SetTable.below t.place j]? == some j) = true
  · rw [if_pos h]
    exact .inr ⟨_, rfl, eq_of_beq h⟩
  · rw [if_neg h]
    have hd : SetTable.has t.dummies j = false := by rw [f.dum]; unfold SetTable.has; simp
    rw [hd, if_neg Bool.false_ne_true]
    exact .inl rfl
theorem pigeon : ∀ (n : Nat) (g : Nat → Nat) (m : Nat), (∀ j, j < n → g j < m) → (∀ i j, i < n → j < n → g i = g j → i = j) → n ≤ m := by
  intro n g m hm hi
  have h1 : ((List.range n).map g).Nodup := by
    unfold List.Nodup
    rw [List.pairwise_map]
    refine List.Pairwise.imp_of_mem (fun ha hb hab e => ?_) (List.nodup_range (n := n))
    exact hab (hi _ _ (List.mem_range.mp ha) (List.mem_range.mp hb) e)
  have h2 : ((List.range n).map g).length ≤ (List.range m).length := List.Nodup.length_le_of_subset h1 (fun x hx => by
    obtain ⟨j, hj, rfl⟩ := List.mem_map.mp hx
    exact List.mem_range.mpr (hm j (List.mem_range.mp hj)))
  simpa using h2
theorem some_empty {t : ST} (f : Fit t) : ∃ j, j < t.mask + 1 ∧ t.slot j = .empty := by
  refine Classical.byContradiction fun hn => ?_
  have h : ∀ j, j < t.mask + 1 → t.place[SetTable.below t.place j]? = some j := fun j hj => by
    rcases slot_empty f j with e | ⟨i, e, e2⟩
    · exact absurd ⟨j, hj, e⟩ hn
    · unfold SetTable.slot at e
      dsimp only at e
      by_cases h : (t.place[SetTable.below t.place j]? == some j) = true
      · exact eq_of_beq h
      · rw [if_neg h] at e
        split at e <;> cases e
  have := pigeon (t.mask + 1) (fun j => SetTable.below t.place j) t.place.size (fun j hj => (Array.getElem?_eq_some_iff.mp (h j hj)).1) (fun i j hi hj e => by
    have h1 := h i hi
    have h2 := h j hj
    have e : SetTable.below t.place i = SetTable.below t.place j := e
    rw [e, h2] at h1
    exact (Option.some.inj h1).symm)
  have := f.sz
  omega
/-- the search ends: behind N steps, all of them at elements, stands an empty slot -/
theorem search_ends {t : ST} (f : Fit t) {p : SetTable.Probe} (h9 : p.more ≤ 9) (hp : p.perturb < 2 ^ 64) : ∃ N, N < 10 * SetTable.turns t.mask ∧ t.slot (path t N p).j = .empty ∧ ∀ k, k < N → ∃ i, t.slot (path t k p).j = .live i ∧ t.place[i]? = some (path t k p).j := by
  obtain ⟨j, hj, he⟩ := some_empty f
  obtain ⟨n, hn, e⟩ := met f h9 hp hj
  have hex : ∃ n, t.slot (path t n p).j = .empty := ⟨n, by rw [e]; exact he⟩
  have hfirst : ∀ m, t.slot (path t m p).j = .empty → ∃ N, N ≤ m ∧ t.slot (path t N p).j = .empty ∧ ∀ k, k < N → t.slot (path t k p).j ≠ .empty := by
    intro m
    induction m using Nat.strongRecOn with
    | ind m ih =>
      intro hm
      by_cases h : ∃ k, k < m ∧ t.slot (path t k p).j = .empty
      · obtain ⟨k, hk, hk2⟩ := h
        obtain ⟨N, h1, h2, h3⟩ := ih k hk hk2
        exact ⟨N, by omega, h2, h3⟩
      · exact ⟨m, Nat.le_refl _, hm, fun k hk hk2 => h ⟨k, hk, hk2⟩⟩
  obtain ⟨N, h1, h2, h3⟩ := hfirst n (by rw [e]; exact he)
  refine ⟨N, by omega, h2, fun k hk => ?_⟩
  rcases slot_empty f (path t k p).j with e | e
  · exact absurd e (h3 k hk)
  · exact e
theorem go_spec {t : ST} {hashAt : Nat → Int} {h : Int} {p : SetTable.Probe} {N : Nat} (hd : p.dummy = none) (he : t.slot (path t N p).j = .empty) (hl : ∀ k, k < N → ∃ i, t.slot (path t k p).j = .live i ∧ t.place[i]? = some (path t k p).j) :
    ∀ (d m fuel : Nat), d = N - m → m ≤ N → d < fuel →
      (∃ k i, m ≤ k ∧ k < N ∧ t.slot (path t k p).j = .live i ∧ (hashAt i == h) = true ∧ SetTable.probe.go t hashAt h fuel (path t m p) = some (.candidate (path t k p).j i (path t (k + 1) p))) ∨ SetTable.probe.go t hashAt h fuel (path t m p) = some (.empty (path t N p).j none) := by
  intro d
  induction d with
  | zero =>
    intro m fuel hdm hm hf
    have e : m = N := by omega
    subst e
    cases fuel with
    | zero => omega
    | succ fuel =>
      right
      unfold SetTable.probe.go
      rw [he, path_dummy, hd]
  | succ d ih =>
    intro m fuel hdm hm hf
    cases fuel with
    | zero => omega
    | succ fuel =>
      obtain ⟨i, hi, _⟩ := hl m (by omega)
      unfold SetTable.probe.go
      rw [hi]
      dsimp only
      by_cases hh : (hashAt i == h) = true
      · left
        refine ⟨m, i, Nat.le_refl _, by omega, hi, hh, ?_⟩
        rw [if_pos hh, path_succ]
      · rw [if_neg hh, ← path_succ]
        rcases ih (m + 1) fuel (by omega) (by omega) (by omega) with ⟨k, i', h1, h2, h3, h4, h5⟩ | h5
        · exact .inl ⟨k, i', by omega, h2, h3, h4, h5⟩
        · exact .inr h5
end L2

namespace L2
open PySem
/-! ### a set's table laid anew -/
abbrev own (o : Array (Option Nat)) (j : Nat) : Option Nat := o.getD j none
theorem free_some {mask : Nat} {owner : Array (Option Nat)} (hs : owner.size = mask + 1) {j0 : Nat} (hj : j0 < mask + 1) (he : own owner j0 = none) :
    ∀ (k fuel i perturb : Nat), k < fuel → i < mask + 1 → (leaps mask k (i, perturb)).1 = j0 → ∃ j, SetTable.layClean.free mask owner fuel i perturb = some j ∧ j < mask + 1 ∧ own owner j = none := by
  have get0 : ∀ j, (owner.getD j (some 0)).isNone = true → j < mask + 1 ∧ own owner j = none := fun j h => by
    rcases Nat.lt_or_ge j owner.size with hj | hj
    · rw [Array.getD_eq_getD_getElem?, Array.getElem?_eq_getElem hj] at h
      refine ⟨by omega, ?_⟩
      show owner.getD j none = none
      rw [Array.getD_eq_getD_getElem?, Array.getElem?_eq_getElem hj]
      cases e : owner[j] with
      | none => rfl
      | some v => rw [e] at h; cases h
    · rw [Array.getD_eq_getD_getElem?, Array.getElem?_eq_none hj] at h
      cases h
  intro k
  induction k with
  | zero =>
    intro fuel i perturb hf hi e
    cases fuel with
    | zero => omega
    | succ fuel =>
      have e : i = j0 := e
      subst e
      unfold SetTable.layClean.free
      cases hfd : (List.range (SetTable.runEnd mask i + 1 - i)).find? fun k => (owner.getD (i + k) (some 0)).isNone with
      | some q =>
        have := List.find?_some hfd
        obtain ⟨h1, h2⟩ := get0 _ this
        exact ⟨_, rfl, h1, h2⟩
      | none =>
        exfalso
        have hr : 0 ∈ List.range (SetTable.runEnd mask i + 1 - i) := by
          rw [List.mem_range]
          unfold SetTable.runEnd
          split <;> omega
        have := List.find?_eq_none.mp hfd 0 hr
        apply this
        rw [Nat.add_zero, Array.getD_eq_getD_getElem?, Array.getElem?_eq_getElem (by omega)]
        have he2 : owner.getD i none = none := he
        rw [Array.getD_eq_getD_getElem?, Array.getElem?_eq_getElem (by omega)] at he2
        have he3 : owner[i] = none := he2
        rw [Option.getD_some, he3]
        rfl
  | succ k ih =>
    intro fuel i perturb hf hi e
    cases fuel with
    | zero => omega
    | succ fuel =>
      unfold SetTable.layClean.free
      cases hfd : (List.range (SetTable.runEnd mask i + 1 - i)).find? fun k => (owner.getD (i + k) (some 0)).isNone with
      | some q =>
        have := List.find?_some hfd
        obtain ⟨h1, h2⟩ := get0 _ this
        exact ⟨_, rfl, h1, h2⟩
      | none => exact ih fuel _ _ (by omega) (Nat.mod_lt _ (Nat.succ_pos _)) e
def lives (M : Nat) (o : Array (Option Nat)) : List (Nat × Nat) := (List.range M).filterMap fun j => (own o j).map (j, ·)
theorem fm_congr {β : Type} {f g : Nat → Option β} : ∀ {l : List Nat}, (∀ x ∈ l, g x = f x) → l.filterMap g = l.filterMap f := by
  intro l
  induction l with
  | nil => intro _; rfl
  | cons x l ih =>
    intro h
    have h1 := ih fun y hy => h y (List.mem_cons_of_mem _ hy)
    have h2 := h x List.mem_cons_self
    rw [List.filterMap_cons, List.filterMap_cons, h2, h1]
theorem filterMap_one {β : Type} {f g : Nat → Option β} {y : β} {j : Nat} : ∀ {l : List Nat}, l.Nodup → j ∈ l → f j = none → g j = some y → (∀ x, x ≠ j → g x = f x) → (l.filterMap g).Perm (y :: l.filterMap f) := by
  intro l hn hj hf hg he
  obtain ⟨a, b, rfl⟩ := List.append_of_mem hj
  have hna : ∀ x ∈ a, x ≠ j := fun x hx e => by
    subst e
    have := List.nodup_append.mp hn
    exact this.2.2 x hx x List.mem_cons_self rfl
  have hnb : ∀ x ∈ b, x ≠ j := fun x hx e => by
    subst e
    have := (List.nodup_append.mp hn).2.1
    exact (List.nodup_cons.mp this).1 hx
  have ea : a.filterMap g = a.filterMap f := by
    refine fm_congr fun x hx => he x (hna x hx)
  have eb : b.filterMap g = b.filterMap f := by
    refine fm_congr fun x hx => he x (hnb x hx)
  rw [List.filterMap_append, List.filterMap_append, List.filterMap_cons_some hg, List.filterMap_cons_none hf, ea, eb]
  exact List.perm_middle
theorem lives_set {M j k : Nat} {o : Array (Option Nat)} (hs : o.size = M) (hj : j < M) (he : own o j = none) : (lives M (o.setIfInBounds j (some k))).Perm ((j, k) :: lives M o) := by
  refine filterMap_one List.nodup_range (List.mem_range.mpr hj) (by rw [he]; rfl) ?_ fun x hx => ?_
  · have : own (o.setIfInBounds j (some k)) j = some k := by
      show (o.setIfInBounds j (some k)).getD j none = some k
      rw [Array.getD_eq_getD_getElem?, Array.getElem?_setIfInBounds_self_of_lt (by omega)]
      rfl
    rw [this]
    rfl
  · have : own (o.setIfInBounds j (some k)) x = own o x := by
      show (o.setIfInBounds j (some k)).getD x none = o.getD x none
      rw [Array.getD_eq_getD_getElem?, Array.getD_eq_getD_getElem?, Array.getElem?_setIfInBounds_ne (fun e => hx e.symm)]
    rw [this]
theorem some_free {M n : Nat} {o : Array (Option Nat)} (h : ((lives M o).map (·.2)).Perm (List.range n)) (hn : n < M) : ∃ j, j < M ∧ own o j = none := by
  refine Classical.byContradiction fun hno => ?_
  have hl : (lives M o).length = M := by
    have : ∀ l : List Nat, (∀ x ∈ l, x < M) → (l.filterMap fun j => (own o j).map (j, ·)).length = l.length := by
      intro l
      induction l with
      | nil => intro _; rfl
      | cons x l ih =>
        intro hx
        have h1 := ih fun y hy => hx y (List.mem_cons_of_mem _ hy)
        cases e : own o x with
        | none => exact absurd ⟨x, hx x List.mem_cons_self, e⟩ hno
        | some v => rw [List.filterMap_cons_some (by rw [e]; rfl), List.length_cons, List.length_cons, h1]
    have h2 := this (List.range M) fun x hx => List.mem_range.mp hx
    rw [List.length_range] at h2
    exact h2
  have := h.length_eq
  rw [List.length_map, hl, List.length_range] at this
  omega
end L2

namespace L2
open PySem PySem.Spec PyProof.Rows PySem.NumText
mutual
def onlyI : PyData → Bool
  | .int _ => true
  | .tuple xs => onlyIs xs
  | _ => false
def onlyIs : List PyData → Bool
  | [] => true
  | x :: xs => onlyI x && onlyIs xs
end
section
variable {prog : Program} {w : World}
theorem quiet_data : ∀ (n : Nat) (d : PyData) (A : Around) (E : Value → Shared → Prop) (s : Shared) (v : Value) (as : List Addr), d.depth ≤ n → Reads s.heap v d as → onlyI d = true → ∀ (k : Nat) (Q : Bool → Shared → Prop), n ≤ k → Q true s → wpAny (model prog w) A (eqIsQuiet k v) Q E s := by
  intro n
  induction n with
  | zero =>
    intro d A E s v as hd r ho k Q hk h
    cases r with
    | int i t => rw [eqIsQuiet_byValue _ rfl]; exact wpAny_pure h
    | tuple => simp [PyData.depth] at hd
    | _ => simp [onlyI] at ho
  | succ n ih =>
    intro d A E s v as hd r ho k Q hk h
    cases r with
    | int i t => rw [eqIsQuiet_byValue _ rfl]; exact wpAny_pure h
    | @tuple a o vs m xs as h1 h2 h3 h4 =>
      have hT : s.TypeIs (.ref a) "tuple" := ⟨o, h1, h2⟩
      have hdx : PyData.depthAll xs ≤ n := by have : PyData.depth (.tuple xs) = PyData.depthAll xs + 1 := rfl; omega
      have hox : onlyIs xs = true := ho
      obtain ⟨k, rfl⟩ : ∃ k', k = k' + 1 := ⟨k - 1, by omega⟩
      unfold eqIsQuiet
      refine wpAny_bind (wpAny_specialOf hT F.slot_tuple_eq.lookup ?_)
      show wpAny _ _ (isInstance (.ref a) (.type "tuple") >>= _) _ _ s
      refine wpAny_bind (wpAny_isInstance hT isSubtype_tuple_tuple ?_)
      simp only [Bool.not_true, Bool.false_eq_true, if_false]
      refine wpAny_bind (wpAny_seqItems h1 h3 ?_)
      refine wpAny_bind ?_
      show wpAny _ _ (forIn vs _ _) _ _ s
      rw [← Array.forIn_toList]
      refine wpAny_forIn_list _ (fun rest r s' => r.1 = none ∧ s' = s ∧ ∃ ds bs, ReadsAll s.heap rest ds bs ∧ PyData.depthAll ds ≤ n ∧ onlyIs ds = true) _ ?_ ?_ _ _ ⟨rfl, rfl, xs, as, h4, hdx, hox⟩
      · rintro x rest r s' ⟨hr, rfl, ds, bs, hrd, hd', ho'⟩
        cases hrd with
        | @cons _ _ d1 ds1 as1 bs1 r1 rr =>
          rw [PyData.depthAll] at hd'
          rw [onlyIs, Bool.and_eq_true] at ho'
          refine wpAny_bind (ih d1 _ _ _ x as1 (by omega) r1 ho'.1 k _ (by omega) ?_)
          simp only [Bool.not_true, Bool.false_eq_true, if_false]
          exact wpAny_pure ⟨rfl, rfl, ds1, bs1, rr, by omega, ho'.2⟩
      · rintro ⟨r1, r2⟩ s' ⟨hr, rfl, _⟩
        simp only at hr
        subst hr
        exact wpAny_pure h
    | _ => simp [onlyI] at ho
end
end L2

namespace L2
open PySem PySem.Spec PyProof.Rows PySem.NumText
mutual
theorem rd_kept {h h' : Heap} (k : ∀ b o, h.get? b = some o → h'.get? b = some o) : ∀ (d : PyData) (v : Value) (as : List Addr), onlyI d = true → Reads h v d as → Reads h' v d as
  | .int i, _, _, _, .int _ t => .int i t
  | .tuple xs, _, _, ho, .tuple h1 h2 h3 h4 => .tuple (k _ _ h1) h2 h3 (rds_kept k xs _ _ ho h4)
theorem rds_kept {h h' : Heap} (k : ∀ b o, h.get? b = some o → h'.get? b = some o) : ∀ (ds : List PyData) (vs : List Value) (as : List Addr), onlyIs ds = true → ReadsAll h vs ds as → ReadsAll h' vs ds as
  | [], _, _, _, .nil => .nil
  | d :: ds, _, _, ho, .cons r rr => by
    rw [onlyIs, Bool.and_eq_true] at ho
    exact .cons (rd_kept k d _ _ ho.1 r) (rds_kept k ds _ _ ho.2 rr)
end
section
variable {prog : Program} {w : World}
theorem cls_data : ∀ (n : Nat) (d : PyData) (A : Around) (E : Value → Shared → Prop) (s : Shared) (v : Value) (as : List Addr), d.depth ≤ n → Reads s.heap v d as → onlyI d = true → ∀ (k : Nat) (Q : Bool → Shared → Prop), n ≤ k → Q false s → wpAny (model prog w) A (ofAClassStatement k v) Q E s := by
  intro n
  induction n with
  | zero =>
    intro d A E s v as hd r ho k Q hk h
    cases r with
    | int i t => unfold ofAClassStatement; exact wpAny_pure h
    | tuple => simp [PyData.depth] at hd
    | _ => simp [onlyI] at ho
  | succ n ih =>
    intro d A E s v as hd r ho k Q hk h
    cases r with
    | int i t => unfold ofAClassStatement; exact wpAny_pure h
    | @tuple a o vs m xs as h1 h2 h3 h4 =>
      have hT : s.TypeIs (.ref a) "tuple" := ⟨o, h1, h2⟩
      have hdx : PyData.depthAll xs ≤ n := by have : PyData.depth (.tuple xs) = PyData.depthAll xs + 1 := rfl; omega
      have hox : onlyIs xs = true := ho
      obtain ⟨k, rfl⟩ : ∃ k', k = k' + 1 := ⟨k - 1, by omega⟩
      unfold ofAClassStatement
      refine wpAny_bind (wpAny_typeOf hT ?_)
      dsimp only
      rw [if_pos (by decide)]
      refine wpAny_bind (wpAny_pure ?_)
      simp only [Bool.not_true, Bool.false_eq_true, if_false]
      refine wpAny_bind (wpAny_seqItems h1 h3 ?_)
      dsimp only
      refine wpAny_bind ?_
      rw [← Array.forIn_toList]
      refine wpAny_forIn_list _ (fun rest r s' => r.1 = none ∧ s' = s ∧ ∃ ds bs, ReadsAll s.heap rest ds bs ∧ PyData.depthAll ds ≤ n ∧ onlyIs ds = true) _ ?_ ?_ _ _ ⟨rfl, rfl, xs, as, h4, hdx, hox⟩
      · rintro x rest r s' ⟨hr, rfl, ds, bs, hrd, hd', ho'⟩
        cases hrd with
        | @cons _ _ d1 ds1 as1 bs1 r1 rr =>
          rw [PyData.depthAll] at hd'
          rw [onlyIs, Bool.and_eq_true] at ho'
          refine wpAny_bind (ih d1 _ _ _ x as1 (by omega) r1 ho'.1 k _ (by omega) ?_)
          simp only [Bool.false_eq_true, if_false]
          exact wpAny_pure ⟨rfl, rfl, ds1, bs1, rr, by omega, ho'.2⟩
      · rintro ⟨r1, r2⟩ s' ⟨hr, rfl, _⟩
        simp only at hr
        subst hr
        exact wpAny_pure h
    | _ => simp [onlyI] at ho
theorem byval_data : ∀ (n : Nat) (d : PyData) (A : Around) (E : Value → Shared → Prop) (s : Shared) (v : Value) (as : List Addr), d.depth ≤ n → Reads s.heap v d as → onlyI d = true → ∀ (k : Nat) (Q : Bool → Shared → Prop), n ≤ k → Q true s → wpAny (model prog w) A (hashByValue k v) Q E s := by
  intro n
  induction n with
  | zero =>
    intro d A E s v as hd r ho k Q hk h
    cases r with
    | int i t => cases k <;> exact wpAny_pure h
    | tuple => simp [PyData.depth] at hd
    | _ => simp [onlyI] at ho
  | succ n ih =>
    intro d A E s v as hd r ho k Q hk h
    cases r with
    | int i t => cases k <;> exact wpAny_pure h
    | @tuple a o vs m xs as h1 h2 h3 h4 =>
      have hT : s.TypeIs (.ref a) "tuple" := ⟨o, h1, h2⟩
      have hdx : PyData.depthAll xs ≤ n := by have : PyData.depth (.tuple xs) = PyData.depthAll xs + 1 := rfl; omega
      have hox : onlyIs xs = true := ho
      obtain ⟨k, rfl⟩ : ∃ k', k = k' + 1 := ⟨k - 1, by omega⟩
      unfold hashByValue
      refine wpAny_bind (wpAny_specialOf hT F.slot_tuple_hash.lookup ?_)
      dsimp only
      refine wpAny_bind (wpAny_seqItems h1 h3 ?_)
      refine wpAny_bind ?_
      show wpAny _ _ (forIn vs _ _) _ _ s
      rw [← Array.forIn_toList]
      refine wpAny_forIn_list _ (fun rest r s' => r.1 = none ∧ s' = s ∧ ∃ ds bs, ReadsAll s.heap rest ds bs ∧ PyData.depthAll ds ≤ n ∧ onlyIs ds = true) _ ?_ ?_ _ _ ⟨rfl, rfl, xs, as, h4, hdx, hox⟩
      · rintro x rest r s' ⟨hr, rfl, ds, bs, hrd, hd', ho'⟩
        cases hrd with
        | @cons _ _ d1 ds1 as1 bs1 r1 rr =>
          rw [PyData.depthAll] at hd'
          rw [onlyIs, Bool.and_eq_true] at ho'
          refine wpAny_bind (ih d1 _ _ _ x as1 (by omega) r1 ho'.1 k _ (by omega) ?_)
          simp only [Bool.not_true, Bool.false_eq_true, if_false]
          exact wpAny_pure ⟨rfl, rfl, ds1, bs1, rr, by omega, ho'.2⟩
      · rintro ⟨r1, r2⟩ s' ⟨hr, rfl, _⟩
        simp only at hr
        subst hr
        exact wpAny_pure h
    | _ => simp [onlyI] at ho
/-- what may lie in such a set -/
structure El (h : Heap) (v : Value) (d : PyData) : Prop where
  rd : ∃ as, Reads h v d as
  oi : onlyI d = true
  dp : d.depth ≤ 4
  rf : ∃ a, v = .ref a
theorem seen_no {s : Shared} {A : Around} {E : Value → Shared → Prop} {x : Value} {dx : PyData} (hx : El s.heap x dx) : ∀ (l : List Value) (Q : Bool → Shared → Prop), (∀ y ∈ l, ∃ d, El s.heap y d) → Q false s → wpAny (model prog w) A (searchCouldBeSeen x l) Q E s := by
  intro l Q hl h
  obtain ⟨as, rx⟩ := hx.rd
  unfold searchCouldBeSeen
  refine wpAny_bind ?_
  refine wpAny_forIn_list _ (fun rest r s' => r.1 = none ∧ s' = s ∧ ∀ y ∈ rest, ∃ d, El s.heap y d) _ ?_ ?_ _ _ ⟨rfl, rfl, hl⟩
  · rintro y rest r s' ⟨hr, rfl, hall⟩
    obtain ⟨d, hy⟩ := hall y List.mem_cons_self
    obtain ⟨bs, ry⟩ := hy.rd
    obtain ⟨a, rfl⟩ := hx.rf
    obtain ⟨b, rfl⟩ := hy.rf
    have nxt : (none : Option Bool) = none ∧ s' = s' ∧ ∀ y ∈ rest, ∃ d, El s'.heap y d := ⟨rfl, rfl, fun z hz => hall z (List.mem_cons_of_mem _ hz)⟩
    dsimp only
    split
    · exact wpAny_pure nxt
    · refine wpAny_bind (quiet_data 4 dx A _ _ _ as hx.dp rx hx.oi 8 _ (by decide) ?_)
      simp only [Bool.not_true, Bool.false_eq_true, if_false]
      refine wpAny_bind (quiet_data 4 d A _ _ _ bs hy.dp ry hy.oi 8 _ (by decide) ?_)
      simp only [Bool.not_true, Bool.false_eq_true, if_false]
      refine wpAny_bind (cls_data 4 dx A _ _ _ as hx.dp rx hx.oi 8 _ (by decide) ?_)
      simp only [Bool.false_eq_true, if_false]
      refine wpAny_bind (cls_data 4 d A _ _ _ bs hy.dp ry hy.oi 8 _ (by decide) ?_)
      simp only [Bool.false_eq_true, if_false]
      exact wpAny_pure nxt
  · rintro ⟨r1, r2⟩ s' ⟨hr, rfl, _⟩
    simp only at hr
    subst hr
    exact wpAny_pure h
end
end L2

namespace L2
open PySem PySem.Spec PyProof.Rows PySem.NumText
mutual
theorem lay_onlyI : ∀ (d : PyData), onlyI d = true → PyData.canLay0 d = true
  | .int _, _ => rfl
  | .tuple xs, h => lay_onlyIs xs h
  | .none, h => by cases h
  | .bool _, h => by cases h
  | .str _, h => by cases h
  | .list _, h => by cases h
  | .dict _, h => by cases h
theorem lay_onlyIs : ∀ (ds : List PyData), onlyIs ds = true → PyData.canLayAll0 ds = true
  | [], _ => rfl
  | d :: ds, h => by
    rw [onlyIs, Bool.and_eq_true] at h
    rw [PyData.canLayAll0, lay_onlyI d h.1, lay_onlyIs ds h.2]
    rfl
end
theorem start_ok (t : ST) (h : Int) : (t.probeStart h).more ≤ 9 ∧ (t.probeStart h).perturb < 2 ^ 64 ∧ (t.probeStart h).dummy = none := by
  refine ⟨run_len _ _, ?_, rfl⟩
  show SetTable.bits h < 2 ^ 64
  unfold SetTable.bits
  have := Int.emod_nonneg h (show (2 ^ 64 : Int) ≠ 0 by decide)
  have := Int.emod_lt_of_pos h (show (0 : Int) < 2 ^ 64 by decide)
  omega
section
variable {prog : Program} {w : World} {A : Around} {E : Value → Shared → Prop} {s : Shared}
end
end L2

namespace L2
open PySem PySem.Spec PyProof.Rows PySem.NumText
theorem ins_list {α : Type} (xs : Array α) (p : Nat) (x : α) : (SetTable.insertAt xs p x).toList = xs.toList.take p ++ x :: xs.toList.drop p := by
  unfold SetTable.insertAt
  simp [Array.toList_append, Array.toList_push, Array.toList_extract]
  rw [List.take_of_length_le (by rw [List.length_drop, Array.length_toList]; exact Nat.le_refl _)]
theorem ins_size {α : Type} (xs : Array α) (p : Nat) (x : α) : (SetTable.insertAt xs p x).size = xs.size + 1 := by
  rw [← Array.length_toList, ins_list, List.length_append, List.length_cons, List.length_take, List.length_drop, Array.length_toList]
  omega
theorem El.kept {h h' : Heap} {v : Value} {d : PyData} (e : El h v d) (k : ∀ b o, h.get? b = some o → h'.get? b = some o) : El h' v d :=
  ⟨let ⟨as, r⟩ := e.rd; ⟨as, rd_kept k d v as e.oi r⟩, e.oi, e.dp, e.rf⟩
section
variable {prog : Program} {w : World} {A : Around} {E : Value → Shared → Prop} {s : Shared}
end
end L2

namespace L2
open PySem PySem.Spec PyProof.Rows PySem.NumText
section
variable {prog : Program} {w : World} {A : Around} {R : Result → Shared → Prop} {I : Addr} {fp wr : List Addr} {G : Array GenState → Array GenState → Prop} {n : Nat} {P : Nat → Value → Prop} {St : Nat → Shared → Prop}
end
section
variable {prog : Program} {w : World} {A : Around} {E : Value → Shared → Prop} {s : Shared}
end
end L2

namespace L2
open PySem PySem.Spec PyProof.Rows PySem.NumText
section
variable {X : Cx}
end
end L2

namespace L2
open PySem PySem.Spec PyProof.Rows PySem.NumText
/-! ### hashes of data of ints -/
def redH (i : Int) : Int :=
  if (decide (-(2 : Int) ^ 63 ≤ i) && decide (i < 2 ^ 63)) = true then (if (i == -1) = true then -2 else i)
  else if ((if i < 0 then -((i.natAbs : Int) % (2 ^ 61 - 1)) else (i.natAbs : Int) % (2 ^ 61 - 1)) == -1) = true then -2 else (if i < 0 then -((i.natAbs : Int) % (2 ^ 61 - 1)) else (i.natAbs : Int) % (2 ^ 61 - 1))
mutual
def hashD : PyData → Int
  | .int i => hashInt i
  | .tuple xs => redH (Builtin.Tuple.tupleHashOf (hashDs xs))
  | _ => 0
def hashDs : List PyData → List Int
  | [] => []
  | x :: xs => hashD x :: hashDs xs
end
theorem hashDs_append : ∀ (xs ys : List PyData), hashDs (xs ++ ys) = hashDs xs ++ hashDs ys
  | [], ys => rfl
  | x :: xs, ys => by rw [List.cons_append, hashDs, hashDs, hashDs_append xs ys, List.cons_append]
section
variable {prog : Program} {w : World}
theorem hash_fun : ∀ (n : Nat) (d : PyData) (A : Around) (E : Value → Shared → Prop) (s : Shared) (v : Value) (as : List Addr), d.depth ≤ n → Reads s.heap v d as → onlyI d = true → A.units + n < cLine → ∀ (Q : Int → Shared → Prop), (∀ tk, s.toks ≤ tk → Q (hashD d) { s with toks := tk }) → wpAny (model prog w) A (pyHash v) Q E s := by
  intro n
  induction n with
  | zero =>
    intro d A E s v as hd r ho hu Q h
    cases r with
    | int i t => exact (intKind prog w).pyHash (k := i) (intKind_is _ _ _ _) (h _ (Nat.le_succ _))
    | tuple => simp [PyData.depth] at hd
    | _ => simp [onlyI] at ho
  | succ n ih =>
    intro d A E s v as hd r ho hu Q h
    cases r with
    | int i t => exact (intKind prog w).pyHash (k := i) (intKind_is _ _ _ _) (h _ (Nat.le_succ _))
    | @tuple a o vs m xs as h1 h2 h3 h4 =>
      have hT : s.TypeIs (.ref a) "tuple" := ⟨o, h1, h2⟩
      have hdx : PyData.depthAll xs ≤ n := by have : PyData.depth (.tuple xs) = PyData.depthAll xs + 1 := rfl; omega
      have hox : onlyIs xs = true := ho
      unfold pyHash
      first | unfold pyHashByItsType | skip
      first | refine wpAny_bind (wpAny_cRoomFor_or (.inr (by omega)) ?_) | skip
      refine wpAny_bind (wpAny_specialOf hT F.slot_tuple_hash.lookup ?_)
      show wpAny _ _ (if (some (Value.builtin "tuple.__hash__") == some Value.none) = true then _ else _) Q E s
      rw [if_neg (by rw [beq_builtin_none]; exact Bool.false_ne_true)]
      refine wpAny_bind (wpAny_specialOf hT F.slot_tuple_hash.lookup ?_)
      show wpAny _ _ (callSpecialIfBoundUnlessNone? (.ref a) "__hash__" _ >>= _) Q E s
      refine wpAny_bind (wpAny_callSpecialIfBoundUnlessNone?_slot hT F.slot_tuple_hash (wpAny_call_entry F.slot_tuple_hash hT F.entry_tuple_hash ?_ (F.args_tuple_hash_1 _)))
      show wpAny _ _ (Builtin.Tuple.tupleItemsOf (.ref a) >>= _) _ _ s
      refine wpAny_bind (wpAny_tupleItemsOf h1 h3 ?_)
      refine wpAny_bind ?_
      rw [← Array.forIn_toList]
      refine wpAny_forIn_list _ (fun rest (b : Array Int) s' => ∃ tk gone ds bs, s.toks ≤ tk ∧ s' = { s with toks := tk } ∧ ReadsAll s.heap rest ds bs ∧ PyData.depthAll ds ≤ n ∧ onlyIs ds = true ∧ xs = gone ++ ds ∧ b.toList = hashDs gone) _ ?_ ?_ _ _ ⟨s.toks, [], xs, as, Nat.le_refl _, rfl, h4, hdx, hox, rfl, rfl⟩
      · rintro x rest b s' ⟨tk, gone, ds, bs, htk, rfl, hr, hd', ho', hx, hb⟩
        cases hr with
        | @cons _ _ d1 ds1 as1 bs1 r1 rr =>
          rw [PyData.depthAll] at hd'
          rw [onlyIs, Bool.and_eq_true] at ho'
          refine wpAny_bind (ih d1 _ _ { s with toks := tk } x as1 (by omega) r1 ho'.1 (by show A.units + 1 + n < cLine; omega) _ fun tk' htk' => ?_)
          have e1 : xs = (gone ++ [d1]) ++ ds1 := by rw [hx, List.append_assoc]; rfl
          have e2 : (b.push (hashD d1)).toList = hashDs (gone ++ [d1]) := by rw [Array.toList_push, hb, hashDs_append]; rfl
          first
            | exact wpAny_pure ⟨tk', _, ds1, bs1, Nat.le_trans htk htk', rfl, rr, by omega, ho'.2, e1, e2⟩
            | exact wpAny_bind (wpAny_pure (wpAny_pure ⟨tk', _, ds1, bs1, Nat.le_trans htk htk', rfl, rr, by omega, ho'.2, e1, e2⟩))
      · rintro b s' ⟨tk, gone, ds, bs, htk, rfl, hr, hd', ho', hx, hb⟩
        cases hr
        rw [List.append_nil] at hx
        subst hx
        show wpAny _ _ (retInt (Builtin.Tuple.tupleHashOf b.toList)) _ _ _
        refine wpAny_ret_mkInt ?_
        rw [hb]
        have hq : ∀ tk, s.toks ≤ tk → Q (redH (Builtin.Tuple.tupleHashOf (hashDs xs))) { s with toks := tk } := h
        generalize Builtin.Tuple.tupleHashOf (hashDs xs) = hv at hq ⊢
        show wpAny _ _ (if (decide (-(2 : Int) ^ 63 ≤ hv) && decide (hv < 2 ^ 63)) = true then _ else _) Q E _
        unfold redH at hq
        by_cases hr : (decide (-(2 : Int) ^ 63 ≤ hv) && decide (hv < 2 ^ 63)) = true
        · rw [if_pos hr] at hq ⊢
          exact wpAny_pure (hq _ (Nat.le_succ_of_le htk))
        · rw [if_neg hr] at hq ⊢
          exact wpAny_bind (wpAny_rule (wpAny_pure (hq _ (Nat.le_succ_of_le htk))))
    | _ => simp [onlyI] at ho
end
mutual
theorem eqv_eq : ∀ (d e : PyData), onlyI d = true → onlyI e = true → PyData.eqv d e = true → d = e
  | .int a, .int b, _, _, h => by
    have h : (a == b) = true := by simpa [PyData.eqv] using h
    rw [eq_of_beq h]
  | .tuple xs, .tuple ys, h1, h2, h => by
    have h : PyData.eqvAll xs ys = true := h
    rw [eqvAll_eq xs ys h1 h2 h]
  | .int a, .tuple ys, _, _, h => by simp [PyData.eqv] at h
  | .tuple xs, .int b, _, _, h => by simp [PyData.eqv] at h
theorem eqvAll_eq : ∀ (ds es : List PyData), onlyIs ds = true → onlyIs es = true → PyData.eqvAll ds es = true → ds = es
  | [], [], _, _, _ => rfl
  | d :: ds, e :: es, h1, h2, h => by
    rw [onlyIs, Bool.and_eq_true] at h1 h2
    have h : (PyData.eqv d e && PyData.eqvAll ds es) = true := h
    rw [Bool.and_eq_true] at h
    rw [eqv_eq d e h1.1 h2.1 h.1, eqvAll_eq ds es h1.2 h2.2 h.2]
  | [], e :: es, _, _, h => by simp [PyData.eqvAll] at h
  | d :: ds, [], _, _, h => by simp [PyData.eqvAll] at h
end
theorem eqv_self {d : PyData} (h : onlyI d = true) : PyData.eqv d d = true := by
  cases d with
  | int i => simp [PyData.eqv]
  | tuple xs => exact SeqAt.eqvAll_refl xs (lay_onlyIs xs h)
  | _ => simp [onlyI] at h
/-! ### where a table's places lie -/
def Mono (xs : Array Nat) : Prop := ∀ (a b u v : Nat), a < b → xs[a]? = some u → xs[b]? = some v → u < v
theorem below_go {xs : Array Nat} {j : Nat} (hs : Mono xs) : ∀ (fuel lo hi : Nat), hi - lo ≤ fuel → lo ≤ hi → hi ≤ xs.size → (∀ i v, i < lo → xs[i]? = some v → v < j) → (∀ i v, hi ≤ i → xs[i]? = some v → j ≤ v) →
    SetTable.below.go xs j fuel lo hi ≤ xs.size ∧ (∀ i v, i < SetTable.below.go xs j fuel lo hi → xs[i]? = some v → v < j) ∧ (∀ i v, SetTable.below.go xs j fuel lo hi ≤ i → xs[i]? = some v → j ≤ v) := by
  intro fuel
  induction fuel with
  | zero =>
    intro lo hi h1 h2 h3 h4 h5
    have e : lo = hi := by omega
    subst e
    unfold SetTable.below.go
    exact ⟨h3, h4, h5⟩
  | succ fuel ih =>
    intro lo hi h1 h2 h3 h4 h5
    unfold SetTable.below.go
    by_cases hl : lo < hi
    · rw [if_pos hl]
      dsimp only
      have hm : (lo + hi) / 2 < xs.size := by omega
      have em : xs[(lo + hi) / 2]? = some (xs.getD ((lo + hi) / 2) j) := by rw [Array.getD_eq_getD_getElem?, Array.getElem?_eq_getElem hm]; rfl
      by_cases hx : xs.getD ((lo + hi) / 2) j < j
      · rw [if_pos hx]
        refine ih _ _ (by omega) (by omega) h3 (fun i v hi' e => ?_) h5
        rcases Nat.lt_or_ge i ((lo + hi) / 2) with hlt | hge
        · exact Nat.lt_trans (hs _ _ _ _ hlt e em) hx
        · have : i = (lo + hi) / 2 := by omega
          subst this
          rw [em] at e
          cases e
          exact hx
      · rw [if_neg hx]
        refine ih _ _ (by omega) (by omega) (by omega) h4 (fun i v hi' e => ?_)
        rcases Nat.lt_or_ge ((lo + hi) / 2) i with hlt | hge
        · exact Nat.le_of_lt (Nat.lt_of_le_of_lt (Nat.le_of_not_lt hx) (hs _ _ _ _ hlt em e))
        · have : i = (lo + hi) / 2 := by omega
          subst this
          rw [em] at e
          cases e
          exact Nat.le_of_not_lt hx
    · rw [if_neg hl]
      exact ⟨by omega, h4, fun i v hi' e => h5 i v (by omega) e⟩
theorem below_spec {xs : Array Nat} (hs : Mono xs) (j : Nat) : SetTable.below xs j ≤ xs.size ∧ (∀ i v, i < SetTable.below xs j → xs[i]? = some v → v < j) ∧ (∀ i v, SetTable.below xs j ≤ i → xs[i]? = some v → j ≤ v) := by
  unfold SetTable.below
  exact below_go hs _ _ _ (by omega) (Nat.zero_le _) (Nat.le_refl _) (fun i v h => by omega) (fun i v h e => by rw [Array.getElem?_eq_none h] at e; cases e)
theorem below_at {xs : Array Nat} (hs : Mono xs) {i j : Nat} (h : xs[i]? = some j) : SetTable.below xs j = i := by
  obtain ⟨h1, h2, h3⟩ := below_spec hs j
  rcases Nat.lt_trichotomy (SetTable.below xs j) i with hl | he | hg
  · have hb : SetTable.below xs j < xs.size := Nat.lt_trans hl (Array.getElem?_eq_some_iff.mp h).1
    have e := Array.getElem?_eq_getElem hb
    have a1 := h3 _ _ (Nat.le_refl _) e
    have a2 := hs _ _ _ _ hl e h
    omega
  · exact he
  · have := h2 _ _ hg h
    omega
theorem slot_at {t : ST} (hs : Mono t.place) {i j : Nat} (h : t.place[i]? = some j) : t.slot j = .live i := by
  unfold SetTable.slot
  dsimp only
  rw [below_at hs h, h, if_pos (beq_self_eq_true _)]
theorem ins_at {α : Type} {xs : Array α} {p : Nat} {x : α} (hp : p ≤ xs.size) (i : Nat) : (SetTable.insertAt xs p x)[i]? = if i < p then xs[i]? else if i = p then some x else xs[i - 1]? := by
  rw [← Array.getElem?_toList, ins_list]
  by_cases h1 : i < p
  · rw [if_pos h1, List.getElem?_append_left (by rw [List.length_take, Array.length_toList]; omega), List.getElem?_take, if_pos h1, Array.getElem?_toList]
  · rw [if_neg h1, List.getElem?_append_right (by rw [List.length_take, Array.length_toList]; omega), List.length_take, Array.length_toList, Nat.min_eq_left hp]
    by_cases h2 : i = p
    · subst h2
      rw [if_pos rfl, Nat.sub_self]
      rfl
    · rw [if_neg h2]
      obtain ⟨k, hk⟩ : ∃ k, i - p = k + 1 := ⟨i - p - 1, by omega⟩
      rw [hk, List.getElem?_cons_succ, List.getElem?_drop, Array.getElem?_toList]
      congr 1
      omega
theorem ins_mono {xs : Array Nat} (hs : Mono xs) {j : Nat} (hn : ∀ i : Nat, xs[i]? ≠ some j) : Mono (SetTable.insertAt xs (SetTable.below xs j) j) := by
  obtain ⟨h1, h2, h3⟩ := below_spec hs j
  have h3' : ∀ (i v : Nat), SetTable.below xs j ≤ i → xs[i]? = some v → j < v := fun i v hi e => by
    have := h3 i v hi e
    rcases Nat.lt_or_eq_of_le this with hl | he
    · exact hl
    · subst he; exact absurd e (hn i)
  intro a b u v hab ea eb
  rw [ins_at h1] at ea eb
  by_cases a1 : a < SetTable.below xs j
  · rw [if_pos a1] at ea
    have a2 := h2 _ _ a1 ea
    by_cases b1 : b < SetTable.below xs j
    · rw [if_pos b1] at eb
      exact hs _ _ _ _ hab ea eb
    · rw [if_neg b1] at eb
      by_cases b2 : b = SetTable.below xs j
      · rw [if_pos b2] at eb; cases eb; exact a2
      · rw [if_neg b2] at eb
        exact Nat.lt_trans a2 (h3' _ _ (by omega) eb)
  · rw [if_neg a1] at ea
    rw [if_neg (by omega : ¬ b < SetTable.below xs j)] at eb
    rw [if_neg (by omega : ¬ b = SetTable.below xs j)] at eb
    by_cases a2 : a = SetTable.below xs j
    · rw [if_pos a2] at ea; cases ea
      exact h3' _ _ (by omega) eb
    · rw [if_neg a2] at ea
      exact hs _ _ _ _ (by omega) ea eb
/-! ### each one is met on its own path -/
theorem adv_mask {t t' : ST} (h : t.mask = t'.mask) (p : SetTable.Probe) : t.advance p = t'.advance p := by
  unfold SetTable.advance
  rw [h]
theorem path_mask {t t' : ST} (h : t.mask = t'.mask) : ∀ (n : Nat) (p : SetTable.Probe), path t n p = path t' n p
  | 0, p => rfl
  | n + 1, p => by rw [path_succ, path_succ, path_mask h n p, adv_mask h]
theorem start_mask {t t' : ST} (h : t.mask = t'.mask) (x : Int) : t.probeStart x = t'.probeStart x := by
  unfold SetTable.probeStart
  rw [h]
structure Wp (t : ST) (es : Array (Int × Value)) : Prop where
  mono : Mono t.place
  rch : ∀ (i j : Nat) (e : Int × Value), t.place[i]? = some j → es[i]? = some e → ∃ n, (path t n (t.probeStart e.1)).j = j ∧ ∀ k, k < n → ∃ i' : Nat, t.place[i']? = some (path t k (t.probeStart e.1)).j
/-- one more, at the first free place of its path -/
theorem Wp.ins {t t1 : ST} {es : Array (Int × Value)} (h : Wp t es) (hz : t.place.size = es.size) {j N : Nat} {e : Int × Value} (he : (path t N (t.probeStart e.1)).j = j) (hf : ∀ i : Nat, t.place[i]? ≠ some j) (hl : ∀ k, k < N → ∃ i' : Nat, t.place[i']? = some (path t k (t.probeStart e.1)).j)
    (hm : t1.mask = t.mask) (hp : t1.place = SetTable.insertAt t.place (SetTable.below t.place j) j) : Wp t1 (SetTable.insertAt es (SetTable.below t.place j) e) := by
  obtain ⟨b1, b2, b3⟩ := below_spec h.mono j
  have grow : ∀ (i' v : Nat), t.place[i']? = some v → ∃ i'' : Nat, t1.place[i'']? = some v := fun i' v hv => by
    rw [hp]
    by_cases hi : i' < SetTable.below t.place j
    · exact ⟨i', by rw [ins_at b1, if_pos hi]; exact hv⟩
    · exact ⟨i' + 1, by rw [ins_at b1, if_neg (by omega), if_neg (by omega), Nat.add_sub_cancel]; exact hv⟩
  have mk : ∀ (e' : Int × Value) (j' : Nat), (∃ n, (path t n (t.probeStart e'.1)).j = j' ∧ ∀ k, k < n → ∃ i' : Nat, t.place[i']? = some (path t k (t.probeStart e'.1)).j) → ∃ n, (path t1 n (t1.probeStart e'.1)).j = j' ∧ ∀ k, k < n → ∃ i' : Nat, t1.place[i']? = some (path t1 k (t1.probeStart e'.1)).j := by
    rintro e' j' ⟨n, q1, q2⟩
    refine ⟨n, ?_, fun k hk => ?_⟩
    · rw [path_mask hm, start_mask hm]; exact q1
    · obtain ⟨i', hi'⟩ := q2 k hk
      rw [path_mask hm, start_mask hm]
      exact grow i' _ hi'
  refine ⟨by rw [hp]; exact ins_mono h.mono hf, fun i j' e' h1 h2 => mk e' j' ?_⟩
  rw [hp, ins_at b1] at h1
  rw [ins_at (by rw [← hz]; exact b1)] at h2
  by_cases i1 : i < SetTable.below t.place j
  · rw [if_pos i1] at h1 h2
    exact h.rch i j' e' h1 h2
  · rw [if_neg i1] at h1 h2
    by_cases i2 : i = SetTable.below t.place j
    · rw [if_pos i2] at h1 h2
      cases h1
      cases h2
      exact ⟨N, he, hl⟩
    · rw [if_neg i2] at h1 h2
      exact h.rch (i - 1) j' e' h1 h2
/-! ### a table laid anew -/
abbrev tm (mask : Nat) : ST := { mask, place := #[], dummies := #[], finger := 0, led := false, moves := 0, plain := false }
theorem run_steps (t : ST) : ∀ (q : Nat) (p : SetTable.Probe), q ≤ p.more → path t q p = { p with j := p.j + q, more := p.more - q }
  | 0, p, _ => rfl
  | q + 1, p, h => by
    rw [path_succ, run_steps t q p (by omega)]
    unfold SetTable.advance
    dsimp only
    rw [if_pos (by omega)]
    congr 1
theorem free_path {mask : Nat} {owner : Array (Option Nat)} (hs : owner.size = mask + 1) : ∀ (fuel i perturb j : Nat) (p : SetTable.Probe), i < mask + 1 → p.j = i → p.more = SetTable.runEnd mask i - i → p.i = i → p.perturb = perturb → SetTable.layClean.free mask owner fuel i perturb = some j →
    ∃ N, (path (tm mask) N p).j = j ∧ ∀ k, k < N → own owner (path (tm mask) k p).j ≠ none := by
  have occ : ∀ j, j < mask + 1 → ¬ (owner.getD j (some 0)).isNone = true → own owner j ≠ none := fun j hj h e => by
    apply h
    rw [Array.getD_eq_getD_getElem?, Array.getElem?_eq_getElem (by omega)]
    have e : owner.getD j none = none := e
    rw [Array.getD_eq_getD_getElem?, Array.getElem?_eq_getElem (by omega)] at e
    have e : owner[j] = none := e
    rw [e]
    rfl
  have rng : ∀ i k, i < mask + 1 → k < SetTable.runEnd mask i + 1 - i → i + k < mask + 1 := fun i k hi hk => by
    unfold SetTable.runEnd at hk
    split at hk <;> omega
  intro fuel
  induction fuel with
  | zero =>
    intro i perturb j p hi h1 h2 h3 h4 hf
    unfold SetTable.layClean.free at hf
    cases hf
  | succ fuel ih =>
    intro i perturb j p hi h1 h2 h3 h4 hf
    unfold SetTable.layClean.free at hf
    cases hfd : (List.range (SetTable.runEnd mask i + 1 - i)).find? fun k => (owner.getD (i + k) (some 0)).isNone with
    | some q =>
      rw [hfd] at hf
      have hf : some (i + q) = some j := hf
      cases hf
      have hq : q < SetTable.runEnd mask i + 1 - i := List.mem_range.mp (List.mem_of_find?_eq_some hfd)
      refine ⟨q, ?_, fun k hk => ?_⟩
      · rw [run_steps _ q p (by rw [h2]; omega)]
        show p.j + q = i + q
        rw [h1]
      · rw [run_steps _ k p (by rw [h2]; omega)]
        show own owner (p.j + k) ≠ none
        rw [h1]
        refine occ _ (rng i k hi (by omega)) ?_
        have := (List.find?_range_eq_some.mp hfd).2.2 k hk
        intro hc
        rw [hc] at this
        exact absurd this (by decide)
    | none =>
      rw [hfd] at hf
      have hall := List.find?_eq_none.mp hfd
      have hrun : ∀ k, k ≤ p.more → (path (tm mask) k p).j = i + k ∧ own owner (i + k) ≠ none := fun k hk => by
        have hk' : k < SetTable.runEnd mask i + 1 - i := by
          rw [h2] at hk
          have : i ≤ SetTable.runEnd mask i := by unfold SetTable.runEnd; split <;> omega
          omega
        refine ⟨?_, occ _ (rng i k hi hk') (hall k (List.mem_range.mpr hk'))⟩
        rw [run_steps _ k p hk]
        show p.j + k = i + k
        rw [h1]
      have he := run_end (tm mask) p.more p rfl
      obtain ⟨N, n1, n2⟩ := ih _ _ j (path (tm mask) (p.more + 1) p) (Nat.mod_lt _ (Nat.succ_pos mask)) (by rw [he]; show (SetTable.leap mask p.i p.perturb).1 = _; rw [h3, h4]; rfl) (by rw [he]; show SetTable.runEnd mask (SetTable.leap mask p.i p.perturb).1 - (SetTable.leap mask p.i p.perturb).1 = _; rw [h3, h4]; rfl) (by rw [he]; show (SetTable.leap mask p.i p.perturb).1 = _; rw [h3, h4]; rfl) (by rw [he]; show (SetTable.leap mask p.i p.perturb).2 = _; rw [h3, h4]; rfl) hf
      refine ⟨p.more + 1 + N, by rw [path_add]; exact n1, fun k hk => ?_⟩
      rcases Nat.lt_or_ge k (p.more + 1) with hl | hg
      · obtain ⟨e1, e2⟩ := hrun k (by omega)
        rw [e1]
        exact e2
      · obtain ⟨d, rfl⟩ : ∃ d, k = p.more + 1 + d := ⟨k - (p.more + 1), by omega⟩
        rw [path_add]
        exact n2 d (by omega)
end L2

namespace L2
open PySem PySem.Spec PyProof.Rows PySem.NumText
/-! ### > of plain data -/
mutual
theorem eqv_comm : ∀ a b : PyData, PyData.eqv a b = PyData.eqv b a
  | .list xs, .list ys => by rw [PyData.eqv, PyData.eqv]; exact eqvAll_comm xs ys
  | .tuple xs, .tuple ys => by rw [PyData.eqv, PyData.eqv]; exact eqvAll_comm xs ys
  | .bool a, .bool b => by rw [PyData.eqv, PyData.eqv]; exact Bool.beq_comm
  | .bool a, .int j => by rw [PyData.eqv, PyData.eqv]; exact Bool.beq_comm
  | .int i, .bool b => by rw [PyData.eqv, PyData.eqv]; exact Bool.beq_comm
  | .int i, .int j => by rw [PyData.eqv, PyData.eqv]; exact Bool.beq_comm
  | .str x, .str y => by rw [PyData.eqv, PyData.eqv]; exact Bool.beq_comm
  | .dict _, .dict _ => by rw [PyData.eqv, PyData.eqv]
  | .none, b => by cases b <;> simp [PyData.eqv]
  | .bool _, .none | .bool _, .str _ | .bool _, .list _ | .bool _, .tuple _ | .bool _, .dict _ => by simp [PyData.eqv]
  | .int _, .none | .int _, .str _ | .int _, .list _ | .int _, .tuple _ | .int _, .dict _ => by simp [PyData.eqv]
  | .str _, .none | .str _, .bool _ | .str _, .int _ | .str _, .list _ | .str _, .tuple _ | .str _, .dict _ => by simp [PyData.eqv]
  | .list _, .none | .list _, .bool _ | .list _, .int _ | .list _, .str _ | .list _, .tuple _ | .list _, .dict _ => by simp [PyData.eqv]
  | .tuple _, .none | .tuple _, .bool _ | .tuple _, .int _ | .tuple _, .str _ | .tuple _, .list _ | .tuple _, .dict _ => by simp [PyData.eqv]
  | .dict _, .none | .dict _, .bool _ | .dict _, .int _ | .dict _, .str _ | .dict _, .list _ | .dict _, .tuple _ => by simp [PyData.eqv]
theorem eqvAll_comm : ∀ a b : List PyData, PyData.eqvAll a b = PyData.eqvAll b a
  | [], [] => rfl
  | [], _ :: _ => by simp [PyData.eqvAll]
  | _ :: _, [] => by simp [PyData.eqvAll]
  | x :: xs, y :: ys => by rw [PyData.eqvAll, PyData.eqvAll, eqv_comm x y, eqvAll_comm xs ys]
end
/-- at the first two that are not alike < has an answer -/
theorem ltDs_ans : ∀ (xs ys : List PyData) (c : Bool), ltDs xs ys = some c → ∀ (j : Nat) x y, xs[j]? = some x → ys[j]? = some y → (∀ i x y, i < j → xs[i]? = some x → ys[i]? = some y → PyData.eqv x y = true) → PyData.eqv x y = false → ∃ c', ltD x y = some c' := by
  intro xs
  induction xs with
  | nil => intro ys c _ j x y e1; simp at e1
  | cons x0 xs ih2 =>
    intro ys c h j x y e1 e2 hall hne
    cases ys with
    | nil => simp at e2
    | cons y0 ys =>
      rw [ltDs] at h
      cases j with
      | zero =>
        simp at e1 e2
        subst e1 e2
        rw [if_neg (by rw [hne]; exact Bool.false_ne_true)] at h
        exact ⟨c, h⟩
      | succ j =>
        rw [if_pos (hall 0 x0 y0 (Nat.succ_pos _) rfl rfl)] at h
        exact ih2 ys c h j x y (by simpa using e1) (by simpa using e2) (fun i a b hi h1 h2 => hall (i + 1) a b (by omega) (by simpa using h1) (by simpa using h2)) hne
theorem cmpGt_data : ∀ (n : Nat) (da db : PyData) (c : Bool) (A : Around) (s : Shared) (a b : Value) (as bs : List Addr), PyData.depth da ≤ n → Reads s.heap a da as → Reads s.heap b db bs → da.canLay0 = true → db.canLay0 = true → ltD db da = some c →
    A.units + n + 2 < cLine → CmpAt .Gt A s a b c := by
  intro n
  induction n with
  | zero =>
    intro da db c A s a b as bs hd ra rb _ _ hc hu
    cases ra with
    | int i t =>
      cases rb with
      | int j u =>
        have hc : decide (j < i) = c := by simpa [ltD] using hc
        subst hc
        exact fun prog w E Q hq => (PyProof.Rows.gt_int hq : wpAny (model prog w) A (compareOp .Gt (.int i t) (.int j u)) Q E s)
      | _ => simp [ltD] at hc
    | str x t =>
      cases rb with
      | str y u =>
        have hc : decide (y.cps.toList < x.cps.toList) = c := by simpa [ltD] using hc
        subst hc
        exact fun prog w E Q hq => (PySem.P.gt_str hq : wpAny (model prog w) A (compareOp .Gt (.str x t) (.str y u)) Q E s)
      | _ => simp [ltD] at hc
    | tuple h1 h2 h3 h4 => simp [PyData.depth] at hd
    | _ => cases rb <;> simp [ltD] at hc
  | succ n ih =>
    intro da db c A s a b as bs hd ra rb la lb hc hu
    cases ra with
    | int i t =>
      cases rb with
      | int j u =>
        have hc : decide (j < i) = c := by simpa [ltD] using hc
        subst hc
        exact fun prog w E Q hq => (PyProof.Rows.gt_int hq : wpAny (model prog w) A (compareOp .Gt (.int i t) (.int j u)) Q E s)
      | _ => simp [ltD] at hc
    | str x t =>
      cases rb with
      | str y u =>
        have hc : decide (y.cps.toList < x.cps.toList) = c := by simpa [ltD] using hc
        subst hc
        exact fun prog w E Q hq => (PySem.P.gt_str hq : wpAny (model prog w) A (compareOp .Gt (.str x t) (.str y u)) Q E s)
      | _ => simp [ltD] at hc
    | @tuple l o vs m xs as h1 h2 h3 h4 =>
      cases rb with
      | @tuple l2 o2 vs2 m2 ys bs g1 g2 g3 g4 =>
        have hc : ltDs ys xs = some c := by simpa [ltD] using hc
        have z1 : vs.size = xs.length := by have := SeqAt.ReadsAll.length _ _ _ h4; simpa using this
        have z2 : vs2.size = ys.length := by have := SeqAt.ReadsAll.length _ _ _ g4; simpa using this
        have la' : PyData.canLayAll0 xs = true := la
        have lb' : PyData.canLayAll0 ys = true := lb
        have hd' : PyData.depthAll xs ≤ n := by have : PyData.depth (.tuple xs) = PyData.depthAll xs + 1 := rfl; omega
        have at1 : ∀ j (h : j < vs.size), ∃ d bs, xs[j]? = some d ∧ Reads s.heap vs[j] d bs ∧ d ∈ xs := fun j h => readsAll_at h4 (by simp [h])
        have at2 : ∀ j (h : j < vs2.size), ∃ d bs, ys[j]? = some d ∧ Reads s.heap vs2[j] d bs ∧ d ∈ ys := fun j h => readsAll_at g4 (by simp [h])
        have he : ∀ j (k1 : j < vs.size) (k2 : j < vs2.size), SeqAt.EqAt A.in1 s vs[j] vs2[j] (PyData.eqv ((ys[j]?).getD .none) ((xs[j]?).getD .none)) := fun j k1 k2 => by
          obtain ⟨d, b1, e1, r1, m1⟩ := at1 j k1
          obtain ⟨d2, b2, e2, r2, m2⟩ := at2 j k2
          rw [e1, e2, eqv_comm]
          refine SeqAt.eqAt_reads d d2 A.in1 s _ _ b1 b2 r1 r2 (canLay_mem m1 la') (canLay_mem m2 lb') ?_
          have := depth_mem m1
          have : min d.depth d2.depth ≤ d.depth := Nat.min_le_left _ _
          show A.units + 1 + min d.depth d2.depth < cLine
          omega
        have hl : IsTup s.heap l vs := ⟨o, h1, h2, m, h3⟩
        have hr : IsTup s.heap l2 vs2 := ⟨o2, g1, g2, m2, g3⟩
        have e0 : ∀ (j : Nat) x y, ys[j]? = some x → xs[j]? = some y → PyData.eqv ((ys[j]?).getD .none) ((xs[j]?).getD .none) = PyData.eqv x y := fun j x y e1 e2 => by rw [e1, e2]; rfl
        have lexlt := lexD_ltDs (e := fun j => PyData.eqv ((ys[j]?).getD .none) ((xs[j]?).getD .none)) (r := fun j => (ltD ((ys[j]?).getD .none) ((xs[j]?).getD .none)).getD false) hc e0 (fun j x y c' e1 e2 _ _ e3 => by rw [e1, e2]; simp only [Option.getD_some]; rw [e3]; rfl)
        have hu1 : A.in1.units + n + 2 < cLine := by show A.units + 1 + n + 2 < cLine; omega
        have cmp : ∀ j (k1 : j < vs.size) (k2 : j < vs2.size), (∀ i, i < j → PyData.eqv ((ys[i]?).getD .none) ((xs[i]?).getD .none) = true) → PyData.eqv ((ys[j]?).getD .none) ((xs[j]?).getD .none) = false →
            CmpAt .Gt A.in1 s vs[j] vs2[j] ((ltD ((ys[j]?).getD .none) ((xs[j]?).getD .none)).getD false) := fun j k1 k2 hall hne => by
          obtain ⟨d, b1, e1, r1, m1⟩ := at1 j k1
          obtain ⟨d2, b2, e2, r2, m2⟩ := at2 j k2
          rw [e1, e2] at hne ⊢
          obtain ⟨c', hc'⟩ := ltDs_ans ys xs c hc j d2 d e2 e1 (fun i x y hi h1 h2 => by have := hall i hi; rw [h1, h2] at this; exact this) hne
          simp only [Option.getD_some]
          rw [hc']
          exact ih d d2 c' A.in1 s _ _ b1 b2 (Nat.le_trans (depth_mem m1) hd') r1 r2 (canLay_mem m1 la') (canLay_mem m2 lb') hc' hu1
        intro prog w E Q hq
        refine (gt_tupAt1 hl hr he (fun j k1 k2 h3 h4 => cmp j k1 k2 h3 h4) (by omega) ?_ : wpAny (model prog w) A (compareOp .Gt (.ref l) (.ref l2)) Q E s)
        rw [z1, z2, Nat.min_comm, lexlt]
        exact hq
      | _ => simp [ltD] at hc
    | _ => cases rb <;> simp [ltD] at hc
section
variable {X : Cx}
def rGtG (K : PySem.W.Frag) : R2 := fun x y H Q => ∃ d e c, DV K H d x ∧ DV K H e y ∧ SeqAt.shaped d = true ∧ SeqAt.shaped e = true ∧ ltD e d = some c ∧ Q (.bl c) H
theorem op_gtG (hu : X.A.units + 100 < cLine) : OpR X (compareOp .Gt) (rGtG X.K) := by
  intro pins s σ H x y v u Q I rx ry h
  obtain ⟨d, e, c, hd, he, sd, se, hc, q⟩ := h
  obtain ⟨as, ra⟩ := DV.reads I d x v hd rx
  obtain ⟨bs, rb⟩ := DV.reads I e y u he ry
  exact cmpGt_data 64 d e c X.A s v u as bs (SeqAt.depth_of_shaped sd) ra rb (SeqAt.canLay_of_shaped sd) (SeqAt.canLay_of_shaped se) hc (by omega) _ _ _ _ ⟨.bl _, H, I, rfl, q⟩
end
/-! ### the best of some values: comparisons that read the heap -/
abbrev Ext (h h' : Heap) : Prop := ∀ b o, h.get? b = some o → h'.get? b = some o
def CmpIn (prog : Program) (w : World) (A : Around) (op : CmpOp) (h0 : Heap) (P : Nat → Value → Prop) (bt : Nat → Nat → Bool) : Prop :=
  ∀ (i j : Nat) (x y : Value) (s : Shared) (Q E : Value → Shared → Prop), j < i → Ext h0 s.heap → P i x → P j y → Q (.bool (bt i j)) s → wpAny (model prog w) A (richCompare op x y) Q E s
theorem argBest_le (bt : Nat → Nat → Bool) : ∀ k, argBest bt k ≤ k
  | 0 => Nat.le_refl _
  | k + 1 => by have := argBest_le bt k; rw [argBest]; split <;> omega
section
variable {prog : Program} {w : World} {A : Around} {R : Result → Shared → Prop} {I : Addr} {fp wr : List Addr} {n : Nat} {P : Nat → Value → Prop} {St : Nat → Heap → Prop} {h0 : Heap} {kw : List (Str × Value)}

theorem min_in (W : Walks prog w A.in1 I fp wr n P St) (bt : Nat → Nat → Bool) (cmp : CmpIn prog w A.in1 .Lt h0 P bt) (S : Addr) (S1 : S ∉ fp) (N1 : ∀ b ∈ wr, h0.get? b = none) (N2 : h0.get? S = none)
    (k : Nat) : ∀ (j : Nat) (s : Shared) (best : Value) (c : Nat), n - (j + 1) = k → j + 1 ≤ n → St (j + 1) s.heap → P (argBest bt j) best → Ext h0 s.heap →
      s.heap.get? S = some { cls := .type "list", dict := none, data := .seq #[best, best] c, slots := #[] } →
      (∀ v h' tk, P (argBest bt (n - 1)) v → Ext h0 h' → R (.ok (.ret v)) { s with heap := h', toks := tk }) →
      codeAny (model prog w) A (.builtin "min.loop" ⟨[.ref I, .none, .ref S], kw⟩) R s := by
  have S2 : S ∉ wr := fun z => S1 (W.sub _ z)
  have nm : (toString "min" ++ toString ".loop" : String) = "min.loop" := by decide
  have keep : ∀ {h h' : Heap}, Ext h0 h → (∀ b o, b ∉ wr → h.get? b = some o → h'.get? b = some o) → Ext h0 h' := fun {h h'} e1 e2 b o e => e2 b o (fun z => by rw [N1 b z] at e; cases e) (e1 b o e)
  have keepS : ∀ {h : Heap} {f : Obj → Obj}, Ext h0 h → Ext h0 (h.update S f) := fun {h f} e1 b o e => (Heap.get?_update_other _ _ (fun z : S = b => by rw [← z, N2] at e; cases e)).trans (e1 b o e)
  induction k with
  | zero =>
    intro j s best c hk hj st hP ex hS fin
    have jn : j + 1 = n := by omega
    refine codeAny_builtin F.entry_min_loop ?_
    rw [Around.under_plainId F.plain_min_loop _]
    show wpAny _ A.in1 (seqItems? (.ref S) >>= _) _ _ s
    refine wpAny_bind (wpAny_seqItems hS rfl ?_)
    show wpAny _ A.in1 (tryCatch (pyNext (.ref I)) _ >>= _) _ _ s
    refine wpAny_bind (wpAny_tryCatch (W.done s _ _ (jn ▸ st) fun h' tk kp => ?_))
    have hS' := kp S _ S2 hS
    show wpAny _ A.in1 (updateSeq S (fun _ => #[]) >>= _) _ _ _
    refine wpAny_bind (wpAny_updateSeq hS' rfl (wpAny_bind (wpAny_letGo (wpAny_pure ?_))))
    exact fin best _ tk (by rw [← jn]; exact hP) (keepS (keep ex kp))
  | succ k ih =>
    intro j s best c hk hj st hP ex hS fin
    have jl : j + 1 < n := by omega
    refine codeAny_builtin F.entry_min_loop ?_
    rw [Around.under_plainId F.plain_min_loop _]
    show wpAny _ A.in1 (seqItems? (.ref S) >>= _) _ _ s
    refine wpAny_bind (wpAny_seqItems hS rfl ?_)
    show wpAny _ A.in1 (tryCatch (pyNext (.ref I)) _ >>= _) _ _ s
    refine wpAny_bind (wpAny_tryCatch (W.item (j + 1) s _ _ jl st fun v h' tk pv st' kp => ?_))
    have hS' := kp S _ S2 hS
    have ex' := keep ex kp
    show wpAny _ A.in1 (tryCatch (holding [v, v] (richCompare .Lt v best >>= _)) _ >>= _) _ _ _
    refine wpAny_bind (wpAny_tryCatch (wpAny_holding (wpAny_bind (cmp (j + 1) (argBest bt j) v best _ _ _ (Nat.lt_succ_of_le (argBest_le bt j)) ex' pv hP ?_))))
    refine wpAny_bind (wpAny_holding (wpAny_truthy_bool (wpAny_bind (wpAny_letGo (wpAny_pure ?_)))))
    cases hb : bt (j + 1) (argBest bt j) with
    | true =>
      simp only [if_true]
      refine wpAny_bind (wpAny_updateSeq hS' rfl (wpAny_bind (wpAny_letGo ?_)))
      rw [nm]
      have st2 := W.frame _ _ (h'.update S (Obj.mapSeq fun _ => #[v, v])) st' fun b bf o e => (Heap.get?_update_other _ _ (fun z : S = b => S1 (by rw [z]; exact bf))).trans e
      exact wpAny_pure ⟨plainId_quiet F.plain_min_loop _, ih (j + 1) _ v _ (by omega) jl st2 (by simp only [argBest, hb, if_true]; exact pv) (keepS ex') (Heap.get?_update_self _ hS' rfl) fun v' h2 tk2 p2 e2 => fin v' h2 tk2 p2 e2⟩
    | false =>
      simp only [Bool.false_eq_true, if_false]
      refine wpAny_bind (wpAny_letGo ?_)
      rw [nm]
      exact wpAny_pure ⟨plainId_quiet F.plain_min_loop _, ih (j + 1) _ best c (by omega) jl st' (by simp only [argBest, hb, Bool.false_eq_true, if_false]; exact hP) ex' hS' fun v' h2 tk2 p2 e2 => fin v' h2 tk2 p2 e2⟩
theorem min_from (W : Walks prog w A.in1 I fp wr n P St) (bt : Nat → Nat → Bool) (cmp : CmpIn prog w A.in1 .Lt h0 P bt) (S : Addr) (S1 : S ∉ fp) (N1 : ∀ b ∈ wr, h0.get? b = none) (N2 : h0.get? S = none) (n0 : 0 < n)
    {s : Shared} {c : Nat} (st : St 0 s.heap) (ex : Ext h0 s.heap) (hS : s.heap.get? S = some { cls := .type "list", dict := none, data := .seq #[] c, slots := #[] })
    (fin : ∀ v h' tk, P (argBest bt (n - 1)) v → Ext h0 h' → R (.ok (.ret v)) { s with heap := h', toks := tk }) :
    codeAny (model prog w) A (.builtin "min.loop" ⟨[.ref I, .none, .ref S], kw⟩) R s := by
  have S2 : S ∉ wr := fun z => S1 (W.sub _ z)
  have nm : (toString "min" ++ toString ".loop" : String) = "min.loop" := by decide
  refine codeAny_builtin F.entry_min_loop ?_
  rw [Around.under_plainId F.plain_min_loop _]
  show wpAny _ A.in1 (seqItems? (.ref S) >>= _) _ _ s
  refine wpAny_bind (wpAny_seqItems hS rfl ?_)
  show wpAny _ A.in1 (tryCatch (pyNext (.ref I)) _ >>= _) _ _ s
  refine wpAny_bind (wpAny_tryCatch (W.item 0 s _ _ n0 st fun v h' tk pv st' kp => ?_))
  have hS' := kp S _ S2 hS
  have ex' : Ext h0 h' := fun b o e => kp b o (fun z => by rw [N1 b z] at e; cases e) (ex b o e)
  have ex2 : Ext h0 (h'.update S (Obj.mapSeq fun _ => #[v, v])) := fun b o e => (Heap.get?_update_other _ _ (fun z : S = b => by rw [← z, N2] at e; cases e)).trans (ex' b o e)
  show wpAny _ A.in1 (updateSeq S (fun _ => #[v, v]) >>= _) _ _ _
  refine wpAny_bind (wpAny_updateSeq hS' rfl ?_)
  rw [nm]
  have st2 := W.frame _ _ (h'.update S (Obj.mapSeq fun _ => #[v, v])) st' fun b bf o e => (Heap.get?_update_other _ _ (fun z : S = b => S1 (by rw [z]; exact bf))).trans e
  exact wpAny_pure ⟨plainId_quiet F.plain_min_loop _, min_in W bt cmp S S1 N1 N2 _ 0 _ v _ rfl n0 st2 pv ex2 (Heap.get?_update_self _ hS' rfl) fun v' h2 tk2 p2 e2 => fin v' h2 tk2 p2 e2⟩
end
section
variable {X : Cx}
mutual
theorem reads_ext {h h' : Heap} (e : Ext h h') : ∀ {v : Value} {d : PyData} {as : List Addr}, Reads h v d as → Reads h' v d as
  | _, _, _, .none => .none
  | _, _, _, .bool b => .bool b
  | _, _, _, .int i t => .int i t
  | _, _, _, .str x t => .str x t
  | _, _, _, .list a b c d => .list (e _ _ a) b c (readsAll_ext e d)
  | _, _, _, .tuple a b c d => .tuple (e _ _ a) b c (readsAll_ext e d)
  | _, _, _, .dict a b c d f => .dict (e _ _ a) b c (readsAll_ext e d) (readsAll_ext e f)
theorem readsAll_ext {h h' : Heap} (e : Ext h h') : ∀ {vs : List Value} {ds : List PyData} {as : List Addr}, ReadsAll h vs ds as → ReadsAll h' vs ds as
  | _, _, _, .nil => .nil
  | _, _, _, .cons a b => .cons (reads_ext e a) (readsAll_ext e b)
end
end
end L2

namespace L2
open PySem PySem.Spec PyProof.Rows
/-! ### calls whose exception is caught here, the frame's slots as they were: methods, makers -/
section
variable {X : Cx} {CX : CXT} {k : Nat} {f C D : Addr} {fd : FuncData} {ps : List Str} {sp : Sp} {dvs : List V} {ds : List Value} {EX : XK} {x m : Str} {p pos apos : Pos} {e o : Expr} {es : List Expr} {ta : TE} {t : TA} {σ₀ : St}
theorem run_fnS {pins : List (Addr × Obj)} {σ : St} {H : Hp} {s : Shared} {Q : VK} {us : List Value} {vs : List V} (F : FnOk X.prog X.w X.K X.mg X.base CX k f fd ps sp) (room : Room k X.A) (hb : Binds X.K fd ps ds) (hd : Vals dvs ds) (hx : PassesS CX X σ EX)
    (I : Inv X pins σ H s) (r : Vals vs us) (h : sp (vs ++ dvs) H Q EX) : wpAny (model X.prog X.w) X.A (call (.ref f) us) (EP X pins σ Q) X.xe s := by
  have r2 : Vals (vs ++ dvs) (us ++ ds) := r.append hd
  have ln : (us ++ ds).length = ps.length := by rw [← r2.length]; exact F.len _ _ _ _ h
  refine wpAny_call (codeAny_mono (F.run X.A X.stack s H ⟨us, []⟩ (us ++ ds) (vs ++ dvs) Q EX room I.env0 (hb s us I.kIn ln) r2 h) fun r s' hq => ?_)
  cases r with
  | error e => exact hx pins H s e s' I hq
  | ok fl =>
    cases fl with
    | ret u => exact I.after hq
    | next => exact hq.elim
    | brk => exact hq.elim
    | cont => exact hq.elim
theorem pe_methS {pl : Sem Bool} (he : PE X o ta) (c : Cls X.K C) (hm : Meth X.K C m f) (F : FnOk X.prog X.w X.K X.mg X.base CX k f fd ps sp) (room : Room k X.A) (hb : Binds X.K fd ps ds) (hd : Vals dvs ds) (hx : PassesS CX X σ₀ EX) (ha : PA X (e :: es) t)
    (hst : starEach (e :: es) X.env = (false, eval e X.env) :: starEach es X.env := by rfl) (hpl : (backTo pos (starEach es X.env)).any (·.1) = false := by rfl)
    (ht : eval (.Call (.Attribute o m apos) (e :: es) [] pos) X.env = (do
      let ov ← eval o X.env
      standAt apos.atName
      let (f, first) ← holding [ov] (getMethod ov m pl)
      callWith pos f first (backTo pos (starEach (e :: es) X.env)) (backToKw pos (keywordEach [] X.env))) := by rfl) :
    PE X (.Call (.Attribute o m apos) (e :: es) [] pos) (fun σ H Q => σ = σ₀ ∧ tMeth C m sp dvs EX ta t σ H Q) := .mk <| by
  rintro pins s σ H Q I ⟨rfl, h⟩
  refine PySem.W.methodCall_KW (pl := pl) (thn (he pins s σ H _ I h) fun u s1 ⟨x, H1, I1, rx, a, dx, fs, ex, ea, l, q⟩ => ?_) ht
  subst ex
  obtain rfl : u = Value.ref a := rx
  refine getmeth_ok I1 ea c hm l ?_
  refine PySem.W.callWith_K (first := [.ref a]) (h₀ := X.base) I.ok.mod.kin hm.kp (thn (ha pos pins s1 σ H1 _ I1 q) fun us s2 ⟨vs, H2, I2, r, q2⟩ => ⟨I2.kIn, ?_⟩) hst hpl
  exact run_fnS (us := .ref a :: us) (vs := .ref a :: vs) F room hb hd hx I2 (.cons rfl r) q2
/-! ### try: any suite -/
def tTryG (K : PySem.W.Frag) (i : Nat) (D : Addr) (tb : St → XK → TS) (th : TS) : TS := fun Dn σ H => ∃ E1 : XK, tb σ E1 Dn σ H ∧
  ∀ (C y : Addr) (H1 : Hp), E1 (.ref C) none H1 → H1 y = none → XCls K C ∧ PySem.W.mroIn K C (.ref D) = some true ∧
    th { nx := fun σ2 H2 => Dn.nx (σ2.set i none) H2, rt := fun v H2 => Dn.rt v H2, bk := fun σ2 H2 => Dn.bk (σ2.set i none) H2, ct := fun σ2 H2 => Dn.ct (σ2.set i none) H2 } (σ.set i (some (.ref y))) (upd H1 y (excO y C))
theorem ps_tryG {i : Nat} {n dn : Str} {body : List Stmt} {tb : St → XK → TS} {b₀ : Stmt} {suite : List Stmt} {th : TS} {p3 p4 pos : Pos} (nd : X.N.Nodup) (xd : XCls X.K D) (hg : Gl X dn) (hm : X.mg dn = some (.ref D)) (tp : X.Top)
    (hb : ∀ σ₀ E' pn' E1, PassesS (CX1 X.prog X.w X.base) (X.tryC E' pn') σ₀ E1 → PSs (X.tryC E' pn') body (tb σ₀ E1))
    (hh : ∀ x, PSs (X.hand x) (b₀ :: suite) th) (hi : X.N[i]? = some n := by rfl) (hn : X.env.scope.names.lookup n = some .local := by rfl) (hdb : (dn == ("__debug__" : Str)) = false := by decide) :
    PS X (.Try body [.ExceptHandler (some (.Name dn p3)) (some n) (b₀ :: suite) p4] [] [] pos) (tTryG X.K i D tb th) := .mk <| by
  intro pins s σ H Dn I h
  obtain ⟨E1, hte, hth⟩ := h
  show wpAny (model X.prog X.w) X.A (do standAt pos; tryStmt false (execs body X.env) [.ExceptHandler (some (.Name dn p3)) (some n) (b₀ :: suite) p4] (execs [] X.env) [] X.env) (SP X pins Dn) X.xe s
  refine wpAny_bind (wpAny_standAt (wpAny_tryStmt_except ?_))
  generalize hE : (fun (e : Value) (s₁ : Shared) => wpAny (model X.prog X.w) X.A (noteFrame e X.env) (fun _ s₂ => wpAny (model X.prog X.w) X.A (setFlight e none) (fun _ s₃ =>
    wpAny (model X.prog X.w) X.A (handleBy e X.env [.ExceptHandler (some (.Name dn p3)) (some n) (b₀ :: suite) p4]) (SP X pins Dn) X.xe s₃) X.xe s₂) X.xe s₁) = E'
  have hx : PassesS (CX1 X.prog X.w X.base) (X.tryC E' pins) σ E1 := by
    rintro pins' H1 s1 _ s' J1 ⟨x, C, H', rfl, os, bare, un, hok, F, q⟩
    have J : Inv (X.tryC E' pins) [] σ H' s' := (J1.call' (ch := []) os un hok bare fun b z => absurd z (by simp)).nopins
    have F' : Fly (X.tryC E' pins).new H' x C s'.heap := F.imp fun b hb => newOf J1 hb
    have tp' : (X.tryC E' pins).Top := ⟨tp.top⟩
    show E' (.ref x) s'
    rw [← hE]
    refine note_fly (X := X.tryC E' pins) J tp' F' fun h1 I1 F1 t1 => ?_
    refine flight_fly (X := X.tryC E' pins) (A := X.A) I1 F1 t1 fun h2 I2 F2 t2 => ?_
    obtain ⟨xc, hmro, hsuite⟩ := hth C x H' q F2.free
    obtain ⟨oe, vs, a1, a2, a3, a4, _, _⟩ := id F2.ob
    refine wpAny_handleBy_cons (codeAny_handlers_test ?_) (by intro q; cases q)
    refine ld_glob (X := X.hand x) (I2.ofTry.toHand x) hg hm ?_ hdb
    refine match_own (I2.kIn) xd xc hmro a1 a2 ?_
    refine codeAny_handlers_suite_as ?_
    refine flight_fly (X := X.tryC E' pins) (A := X.A.mark (some (.ref x))) I2 F2 t2 fun h3 I3 F3 _ => ?_
    obtain ⟨oe3, vs3, c1, c2, c3, c4, _, _⟩ := id F3.ob
    have I4 : Inv (X.hand x) pins σ (upd H' x (excO x C)) { s' with heap := h3 } := (I3.ofTry.toHand x).track (fun o e => F3.new.1 o e) (fun p hp => F3.new.2 p hp) F3.free ⟨_, _, c1, c2, c3, c4⟩
    refine store_ok (X := X.hand x) (v := .ref x) I4 nd hi (.inl hn) rfl (fun s5 I5 => ?_) (.inr hn)
    refine wpAny_mono (hh x pins s5 _ _ _ I5 hsuite) (fun fl s6 q6 => ?_) fun _ _ z => z.elim
    show wpAny (model X.prog X.w) X.A (do bindName X.env n .none; unbindBehindTheSuite X.env n p4) (fun _ s₃ => SP X pins Dn fl s₃) X.xe s6
    have hcls : (X.env.scope.kind == .class || (X.env.scope.kind == .module && X.env.locals != X.env.globals)) = false := by rw [I.ok.kind]; rfl
    have go : ∀ {σ6 : St} {H6 : Hp} {R : Unit → Shared → Prop}, Inv (X.hand x) pins σ6 H6 s6 → (∀ s7, Inv X pins (σ6.set i none) H6 s7 → R () s7) → wpAny (model X.prog X.w) X.A (do bindName X.env n .none; unbindBehindTheSuite X.env n p4) R X.xe s6 := fun {σ6 H6 R} I6 k => by
      have I6' : Inv X pins σ6 H6 s6 := I6.ofHand I.ok.hd
      obtain ⟨m, hm6, hl6⟩ := I6'.loc
      exact wpAny_nameGoes_keeps hn hm6 hcls fun h' v a b => k _ (I6'.goes nd hi hm6 hl6 a b)
    cases fl with
    | next => obtain ⟨σ6, H6, I6, r6⟩ := q6; exact go I6 fun s7 I7 => ⟨_, H6, I7, r6⟩
    | brk => obtain ⟨σ6, H6, I6, r6⟩ := q6; exact go I6 fun s7 I7 => ⟨_, H6, I7, r6⟩
    | cont => obtain ⟨σ6, H6, I6, r6⟩ := q6; exact go I6 fun s7 I7 => ⟨_, H6, I7, r6⟩
    | ret u => obtain ⟨v, σ6, H6, I6, rv, r6⟩ := q6; exact go I6 fun s7 I7 => ⟨v, _, H6, I7, rv, r6⟩
  refine thn (hb σ E' pins E1 hx [] s σ H Dn (I.toTry E') hte) fun fl s1 q1 => ?_
  cases fl with
  | next => obtain ⟨σ1, H1, I1, r1⟩ := q1; exact wpAny_execs_nil ⟨σ1, H1, I1.ofTry, r1⟩
  | brk => obtain ⟨σ1, H1, I1, r1⟩ := q1; exact ⟨σ1, H1, I1.ofTry, r1⟩
  | cont => obtain ⟨σ1, H1, I1, r1⟩ := q1; exact ⟨σ1, H1, I1.ofTry, r1⟩
  | ret u => obtain ⟨v, σ1, H1, I1, rv, r1⟩ := q1; exact ⟨v, σ1, H1, I1.ofTry, rv, r1⟩
end
end L2

namespace L2
open PySem PySem.Spec PyProof.Rows PySem.NumText
/-! ### a text cut at the first of a sign; how that meets split -/
section
variable {X : Cx}
/-! ### str.partition -/
/-! ### f-texts -/
/-! ### if a == n: return o.replace(y, z), y and z texts as written: their tokens are new and differ -/
end
end L2

namespace L2
open PySem PySem.Spec PyProof.Rows PySem.NumText
/-! ### texts whose signs are signs -/
theorem ok_iff {z : Str} : PyData.strOk z = true ↔ ∀ n ∈ z.cps.toList, n < 0x110000 := by
  unfold PyData.strOk
  rw [← Array.all_toList, List.all_eq_true]
  constructor
  · intro h n hn; exact of_decide_eq_true (h n hn)
  · intro h n hn; exact decide_eq_true (h n hn)
theorem ok_lit (s : String) : PyData.strOk (Str.ofString s) = true := by
  rw [ok_iff]
  intro n hn
  rw [signs_ofString] at hn
  obtain ⟨c, _, rfl⟩ := List.mem_map.mp hn
  have := c.valid
  unfold UInt32.isValidChar Nat.isValidChar at this
  show c.val.toNat < 1114112
  omega
end L2

namespace L2
open PySem PySem.Spec PyProof.Rows PySem.NumText
/-! ### strict orders in which any two are told apart -/
structure STO {α : Type} (lt : α → α → Bool) : Prop where
  irr : ∀ a, lt a a = false
  tr : ∀ a b c, lt a b = true → lt b c = true → lt a c = true
  tri : ∀ a b, a ≠ b → lt a b = false → lt b a = true
theorem STO.asym {α : Type} {lt : α → α → Bool} (h : STO lt) {a b : α} (x : lt a b = true) : lt b a = false := by
  cases e : lt b a with
  | false => rfl
  | true => have := h.tr a b a x e; rw [h.irr] at this; cases this
theorem iLt_sto : STO iLt where
  irr := fun a => decide_eq_false (by omega)
  tr := fun a b c h1 h2 => decide_eq_true (by have := of_decide_eq_true h1; have := of_decide_eq_true h2; omega)
  tri := fun a b h1 h2 => decide_eq_true (by have := of_decide_eq_false h2; omega)
theorem lexG_sto {α : Type} [DecidableEq α] {lt : α → α → Bool} (h : STO lt) : STO (lexG lt) where
  irr := fun a => by
    induction a with
    | nil => rfl
    | cons x xs ih => rw [lexG, if_pos rfl]; exact ih
  tr := fun a => by
    induction a with
    | nil =>
      intro b c h1 h2
      cases c with
      | nil => cases b <;> cases h2
      | cons z zs => rfl
    | cons x xs ih =>
      intro b c h1 h2
      cases b with
      | nil => cases h1
      | cons y ys =>
        cases c with
        | nil => cases h2
        | cons z zs =>
          rw [lexG] at h1 h2 ⊢
          by_cases e1 : x = y
          · rw [if_pos e1] at h1
            by_cases e2 : y = z
            · rw [if_pos e2] at h2
              rw [if_pos (e1.trans e2)]
              exact ih ys zs h1 h2
            · rw [if_neg e2] at h2
              rw [e1, if_neg e2]
              exact h2
          · rw [if_neg e1] at h1
            by_cases e2 : y = z
            · rw [if_pos e2] at h2
              subst e2
              rw [if_neg e1]
              exact h1
            · rw [if_neg e2] at h2
              have h3 := h.tr x y z h1 h2
              have e3 : x ≠ z := fun e => by rw [e, h.irr] at h3; cases h3
              rw [if_neg e3]
              exact h3
  tri := fun a => by
    induction a with
    | nil =>
      intro b h1 h2
      cases b with
      | nil => exact absurd rfl h1
      | cons y ys => cases h2
    | cons x xs ih =>
      intro b h1 h2
      cases b with
      | nil => rfl
      | cons y ys =>
        rw [lexG] at h2 ⊢
        by_cases e : x = y
        · rw [if_pos e] at h2
          rw [if_pos e.symm]
          exact ih ys (fun z => h1 (by rw [e, z])) h2
        · rw [if_neg e] at h2
          rw [if_neg (fun z => e z.symm)]
          exact h.tri x y e h2
theorem STO.map {α β : Type} {lt : β → β → Bool} (h : STO lt) {f : α → β} (inj : ∀ a b, f a = f b → a = b) : STO (fun a b => lt (f a) (f b)) where
  irr := fun a => h.irr _
  tr := fun a b c => h.tr _ _ _
  tri := fun a b hn => h.tri _ _ fun e => hn (inj a b e)
theorem sLt_sto : STO sLt := (lexG_sto iLt_sto).map (f := sI) fun a b e => sI_inj.mp e
theorem pLt_sto : STO pLt := lexG_sto sLt_sto
/-! ### versions -/
abbrev Ver := Int × List Stp × Str
def ver (v : Ver) : PyData := .tuple [.int v.1, plc v.2.1, .str v.2.2]
def vdat : Option Ver → PyData
  | none => .none
  | some v => ver v
def okV (v : Ver) : Prop := PySem.PyData.strOk v.2.2 = true
theorem ver_of {K : PySem.W.Frag} {H : Hp} {v : Ver} {x : V} (h : DV K H (ver v) x) : ∃ t pv, x = .ref t ∧ SqT K H t [.int v.1, pv, .str v.2.2] ∧ DV K H (plc v.2.1) pv := by
  obtain ⟨t, vs, rfl, hq, a, r, rfl, ha, b, r2, rfl, hb, c, r3, rfl, hc, h4⟩ := h
  cases (show a = V.int v.1 from ha)
  cases (show c = V.str v.2.2 from hc)
  cases (show r3 = [] from h4)
  exact ⟨t, b, rfl, hq, hb⟩
theorem ver_mk {K : PySem.W.Frag} {H : Hp} {v : Ver} {t : Addr} {pv : V} (h : SqT K H t [.int v.1, pv, .str v.2.2]) (hp : DV K H (plc v.2.1) pv) : DV K H (ver v) (.ref t) := ⟨t, _, rfl, h, _, _, rfl, rfl, _, _, rfl, hp, _, _, rfl, rfl, rfl⟩
theorem noL_vdat (o : Option Ver) : noL (vdat o) = true := by
  cases o with
  | none => rfl
  | some v =>
    show (noL (.int v.1) && (noL (plc v.2.1) && (noL (.str v.2.2) && true))) = true
    rw [noL_plc]
    rfl
theorem ltD_stp (a b : Stp) : ltD (stp a) (stp b) = some (sLt a b) := by
  obtain ⟨a1, a2, a3⟩ := a
  obtain ⟨b1, b2, b3⟩ := b
  show ltDs [.int a1, .int a2, .int a3] [.int b1, .int b2, .int b3] = some (lexG iLt [a1, a2, a3] [b1, b2, b3])
  have ie : ∀ x y : Int, PyData.eqv (.int x) (.int y) = decide (x = y) := fun x y => by rw [show PyData.eqv (.int x) (.int y) = (x == y) from rfl, Bool.eq_iff_iff]; simp
  rw [ltDs, ltDs, ltDs, ltDs, lexG, lexG, lexG, lexG, ie, ie, ie]
  by_cases e1 : a1 = b1
  · rw [if_pos (decide_eq_true e1), if_pos e1]
    by_cases e2 : a2 = b2
    · rw [if_pos (decide_eq_true e2), if_pos e2]
      by_cases e3 : a3 = b3
      · rw [if_pos (decide_eq_true e3), if_pos e3]
      · rw [if_neg (by simpa using e3), if_neg e3]; rfl
    · rw [if_neg (by simpa using e2), if_neg e2]; rfl
  · rw [if_neg (by simpa using e1), if_neg e1]; rfl
theorem ltD_stps : ∀ a b : List Stp, ltDs (a.map stp) (b.map stp) = some (pLt a b)
  | [], [] => rfl
  | [], _ :: _ => rfl
  | _ :: _, [] => rfl
  | x :: a, y :: b => by
    rw [List.map_cons, List.map_cons, ltDs, stp_eqv, ltD_stps a b, ltD_stp]
    show _ = some (if x = y then lexG sLt a b else sLt x y)
    by_cases e : x = y
    · rw [if_pos (decide_eq_true e), if_pos e]
    · rw [if_neg (by simpa using e), if_neg e]
theorem ltD_plc (a b : List Stp) : ltD (plc a) (plc b) = some (pLt a b) := ltD_stps a b
/-! ### the later of two -/
end L2

namespace L2
open PySem PySem.Spec PyProof.Rows PySem.NumText PySem.W
/-! ### sorting fewer than 64 that are unlike: what the asking tree comes to -/
section
variable {n : Nat} {s : Shared} {cmp : Nat → Nat → (Bool → Shared → Prop) → Shared → Prop} {lt : Nat → Nat → Bool}
end
end L2

namespace L2
open PySem PySem.Spec PyProof.Rows PySem.NumText PySem.W
section
variable {prog : Program} {w : World} {A : Around} {E : Value → Shared → Prop} {s : Shared} {a : Addr} {vs : List Value} {lt : Nat → Nat → Bool}
end
end L2

namespace L2
open PySem PySem.Spec PyProof.Rows PySem.NumText PySem.W
section
variable {prog : Program} {w : World} {A : Around} {E : Value → Shared → Prop} {s : Shared}
end
section
variable {α : Type} {as : List α} {enc : α → List PyData} {lt : α → α → Bool} {f : FirstTy}
end
end L2

namespace L2
open PySem PySem.Spec PyProof.Rows PySem.NumText PySem.W
section
variable {X : Cx}
end
end L2

namespace L2
open PySem PySem.Spec PyProof.Rows PySem.NumText
/-! ### dicts whose keys are marks: tuples of two ints. The dict stands for itself; its keys are known beside it -/
abbrev Mark := Int × Int
abbrev Ent := Mark × Addr × V
def mkK (m : Mark) : List Key := [.inl m.1, .inl m.2]
def mkV (m : Mark) : List V := [.int m.1, .int m.2]
theorem mkK_inj {a b : Mark} (h : mkK a = mkK b) : a = b := by
  unfold mkK at h
  have h1 := (List.cons.inj h).1
  have h2 := (List.cons.inj (List.cons.inj h).2).1
  exact Prod.ext (Sum.inl.inj h1) (Sum.inl.inj h2)
def EntR (e : Ent) (x : List Key × Addr × Value) : Prop := x.1 = mkK e.1 ∧ x.2.1 = e.2.1 ∧ RelV e.2.2 x.2.2
abbrev dK (P : Program) (w : World) := tupleKind (mixKind P w)
def dOk (P : Program) (w : World) (a : Addr) (es : List Ent) (o : Obj) (h : Heap) : Prop := es.length ≤ sizeLine ∧ (a == sysModules) = false ∧ h.get? a = some o ∧ ∃ xs, Paired EntR es xs ∧
  ∃ ds ep, o.ExactDict ∧ o.data = .dict ds ep ∧ ds.toList = xs.map (entryOfKey (dK P w)) ∧ (xs.map (·.1)).Nodup
/-- a dict that is just the object o -/
def dO (P : Program) (w : World) (a : Addr) (es : List Ent) (o : Obj) : HO := .ext (dOk P w a es o)
structure DM (P : Program) (w : World) (K : PySem.W.Frag) (H : Hp) (a : Addr) (es : List Ent) : Prop where
  ob : ∃ o, H a = some (dO P w a es o)
  ky : ∀ e ∈ es, SqT K H e.2.1 (mkV e.1)
theorem ent_keys {P : Program} {w : World} {h : Heap} : ∀ {es : List Ent} {xs : List (List Key × Addr × Value)}, Paired EntR es xs → (∀ e ∈ es, (dK P w).is h (mkK e.1) e.2.1) → ∀ x ∈ xs, (dK P w).is h x.1 x.2.1
  | _, _, .nil, _, x, hx => nomatch hx
  | _, _, .cons r rr, hk, x, hx => by
    rcases List.mem_cons.mp hx with rfl | hx
    · rw [r.1, r.2.1]; exact hk _ List.mem_cons_self
    · exact ent_keys rr (fun e he => hk e (List.mem_cons_of_mem _ he)) x hx
def findM : List Ent → Mark → Option V
  | [], _ => none
  | e :: es, m => if e.1 = m then some e.2.2 else findM es m
theorem find_rel : ∀ {es : List Ent} {xs : List (List Key × Addr × Value)}, Paired EntR es xs → ∀ m, RelO (findM es m) ((atKey xs (mkK m)).map (·.2))
  | _, _, .nil, m => trivial
  | e :: es, x :: xs, .cons r rr, m => by
    unfold findM atKey
    rw [List.find?_cons]
    by_cases h : e.1 = m
    · rw [if_pos h, show decide (x.1 = mkK m) = true from decide_eq_true (by rw [r.1, h])]
      exact r.2.2
    · rw [if_neg h, show decide (x.1 = mkK m) = false from decide_eq_false (by rw [r.1]; exact fun z => h (mkK_inj z))]
      exact find_rel rr m
theorem relO_is {a : Option V} {b : Option Value} (h : RelO a b) : a.isSome = b.isSome := by
  cases a <;> cases b <;> first | rfl | exact h.elim
theorem relO_getD {a : Option V} {b : Option Value} {d : V} {e : Value} (h : RelO a b) (hd : RelV d e) : RelV (a.getD d) (b.getD e) := by
  cases a <;> cases b <;> first | exact hd | exact h | exact h.elim
/-- d[m] = v -/
def putM (es : List Ent) (m : Mark) (q : Addr) (v : V) : List Ent := if (findM es m).isSome then es.map (fun e => if e.1 = m then (e.1, e.2.1, v) else e) else es ++ [(m, q, v)]
theorem put_rel {es : List Ent} {xs : List (List Key × Addr × Value)} (r : Paired EntR es xs) (m : Mark) {q : Addr} {v : V} {u : Value} (rv : RelV v u) : Paired EntR (putM es m q v) (storedH xs (mkK m) q u) := by
  have hi : (findM es m).isSome = (atKey xs (mkK m)).isSome := by rw [relO_is (find_rel r m), Option.isSome_map]
  unfold putM storedH
  rw [hi]
  by_cases h : (atKey xs (mkK m)).isSome = true
  · rw [if_pos h, if_pos h]
    clear hi h
    induction r with
    | nil => exact .nil
    | @cons e x es xs a b ih =>
      rw [List.map_cons, List.map_cons]
      refine .cons ?_ ih
      unfold putAt
      by_cases he : e.1 = m
      · rw [if_pos he, if_pos (by rw [a.1, he])]
        exact ⟨a.1, a.2.1, rv⟩
      · rw [if_neg he, if_neg (by rw [a.1]; exact fun z => he (mkK_inj z))]
        exact a
  · rw [if_neg h, if_neg h]
    exact Paired.snoc r ⟨rfl, rfl, rv⟩
theorem putM_len (es : List Ent) (m : Mark) (q : Addr) (v : V) : (putM es m q v).length ≤ es.length + 1 := by
  unfold putM
  split
  · rw [List.length_map]; omega
  · rw [List.length_append]; exact Nat.le_refl _
section
variable {X : Cx} {pins : List (Addr × Obj)} {σ : St} {H : Hp} {s : Shared} {a : Addr} {es : List Ent}
theorem mk_items {P : Program} {w : World} {m : Mark} {us : List Value} (r : Vals (mkV m) us) : ItemsAre (mixKind P w) (mkK m) us := by
  unfold mkV at r
  cases r with
  | cons r1 r2 =>
    cases r2 with
    | cons r3 r4 =>
      cases r4
      obtain ⟨t, rfl⟩ := r1
      obtain ⟨u, rfl⟩ := r3
      exact .cons (mixKind_int P w m.1 t) (.cons (mixKind_int P w m.2 u) .nil)
theorem Inv.mark (I : Inv X pins σ H s) {q : Addr} {m : Mark} (h : SqT X.K H q (mkV m)) : (dK X.prog X.w).is s.heap (mkK m) q := by
  obtain ⟨its, r, ⟨o, h1, h2, n, h3⟩, hz⟩ := I.tuple h
  exact ⟨o, its.toArray, n, h1, h2, h3, by simpa using mk_items r⟩
theorem Inv.dict (I : Inv X pins σ H s) (D : DM X.prog X.w X.K H a es) : es.length ≤ sizeLine ∧ (a == sysModules) = false ∧ ∃ xs, Paired EntR es xs ∧ s.heap.DictOfH (dK X.prog X.w) a xs := by
  obtain ⟨o, ob⟩ := D.ob
  obtain ⟨⟨z, y, h1, xs, r, ds, ep, h2, h3, h4, h5⟩, _, _⟩ := (show ObjOk X.prog X.w H s.heap a (dO X.prog X.w a es o) from I.hok a _ ob)
  exact ⟨z, y, xs, r, o, ds, ep, h1, h2, h3, h4, ent_keys r fun e he => I.mark (D.ky e he), h5⟩
theorem dO_ok {P : Program} {w : World} {H : Hp} {h : Heap} {a : Addr} {es : List Ent} {xs : List (List Key × Addr × Value)} (z : es.length ≤ sizeLine) (y : (a == sysModules) = false) (r : Paired EntR es xs) (d : h.DictOfH (dK P w) a xs) : ∃ o, ObjOk P w (upd H a (dO P w a es o)) h a (dO P w a es o) := by
  obtain ⟨o, ds, ep, h1, h2, h3, h4, _, h5⟩ := d
  exact ⟨o, ⟨z, y, h1, xs, r, ds, ep, h2, h3, h4, h5⟩, ⟨o, h1⟩, fun h1' h2' ⟨z, y, g1, g2⟩ k => ⟨z, y, k o g1, g2⟩⟩
theorem Inv.bigM (I : Inv X pins σ H s) : sysModules < s.heap.objs.size := Nat.lt_trans (by decide) (I.mod.glob.keeps I.bk).lt
/-! rules -/
variable {o i e value : Expr} {pos pos' : Pos} {td ty tv : TE}
def tMNew (P : Program) (w : World) : TE := fun _ H Q => ∀ p o, H p = none → Q (.ref p) (upd H p (dO P w p [] o))
theorem pe_mnew : PE X (.Dict [] [] pos) (tMNew X.prog X.w) := .mk <| fun pins s σ H Q I h => by
  obtain ⟨ob, hob⟩ := dO_ok (P := X.prog) (w := X.w) (H := H) (es := []) (Nat.zero_le _) (beq_eq_false_iff_ne.mpr (Ne.symm (Nat.ne_of_lt I.bigM))) .nil (Heap.DictOfH.new s.heap)
  exact wpAny_Dict_empty ⟨.ref s.heap.objs.size, _, I.laid (t' := s.toks) (fun _ _ q => Heap.get?_push_of_some _ q) (Nat.le_refl _) hob, rfl, h _ ob (I.hok.fresh (Nat.le_refl _))⟩
def rNotInM (P : Program) (w : World) (K : PySem.W.Frag) : R2 := fun x y H Q => ∃ q m a es, x = .ref q ∧ SqT K H q (mkV m) ∧ y = .ref a ∧ DM P w K H a es ∧ Q (.bl (!(findM es m).isSome)) H
theorem op_notInM (hu : X.A.units + 1 < cLine) : OpR X (compareOp .NotIn) (rNotInM X.prog X.w X.K) := by
  intro pins s σ H x y v u Q I rx ry h
  obtain ⟨q, m, a, es, rfl, hm, rfl, D, k⟩ := h
  cases rx
  cases ry
  obtain ⟨_, hd, xs, r, dd⟩ := I.dict D
  refine wpAny_notIn_heap (tupleKind_room_in1 hu) (I.mark hm) hd dd ?_
  rw [← Option.isSome_map (f := (·.2)), ← relO_is (find_rel r m)]
  exact ⟨.bl _, H, I.tok _, rfl, k⟩
/-- d[m] = v -/
def sMPut (P : Program) (w : World) (K : PySem.W.Frag) (td ty tv : TE) : TS := fun D σ H => tv σ H fun v H1 => td σ H1 fun x H2 => ty σ H2 fun y H3 => ∃ a es q m, x = .ref a ∧ DM P w K H3 a es ∧ y = .ref q ∧ SqT K H3 q (mkV m) ∧ es.length < sizeLine ∧ ∀ o, D.nx σ (upd H3 a (dO P w a (putM es m q v) o))
theorem ps_mput (hu : X.A.units + 1 < cLine) (ho : PE X o td) (hi : PE X i ty) (hv : PE X value tv) (hs : swapsWith value (some (.Subscript o i pos')) pos.line X.env = pure false) :
    PS X (.Assign [.Subscript o i pos'] value pos) (sMPut X.prog X.w X.K td ty tv) := .mk <| by
  intro pins s σ H D I h
  refine wpAny_Assign_Subscript (thn (hv pins s σ H _ I h) fun r s1 ⟨v, H1, I1, rv, q1⟩ => thn (ho pins s1 σ H1 _ I1 q1) fun u s2 ⟨x, H2, I2, rx, q2⟩ => thn (hi pins s2 σ H2 _ I2 q2) fun iv s3 ⟨y, H3, I3, ry, a, es, q, m, ex, DD, ey, hm, hl, k⟩ => ?_) hs
  subst ex ey
  cases rx
  cases ry
  obtain ⟨z, hd, xs, rr, dd⟩ := I3.dict DD
  refine wpAny_setItem_heap (hsz := by rw [← Paired.length rr]; exact z) (tupleKind_room_in1 hu) (I3.mark hm) dd fun h' dd' sb => ?_
  have he : ∃ ob, h'.get? a = some ob := let ⟨ob, _, _, hq, _⟩ := dd'; ⟨ob, hq⟩
  obtain ⟨o1, o2⟩ := DD.ob
  obtain ⟨ob, hob⟩ := dO_ok (P := X.prog) (w := X.w) (H := H3) (es := putM es m q v) (by have := putM_len es m q v; omega) hd (put_rel rr m rv) dd'
  exact ⟨σ, _, I3.write (t' := _) (x := a) (e := a) (by rw [o2]; exact True.intro) (.inl rfl) (fun b ob hb z => (sb.2 b hb).trans z) he hob, k ob⟩
/-- d.get(m) -/
def tMGet (P : Program) (w : World) (K : PySem.W.Frag) (td ty : TE) : TE := fun σ H Q => td σ H fun x H1 => ∃ a es, x = .ref a ∧ DM P w K H1 a es ∧ ty σ H1 fun y H2 => ∃ q m, y = .ref q ∧ DM P w K H2 a es ∧ SqT K H2 q (mkV m) ∧ Q ((findM es m).getD .non) H2
theorem pe_mget {apos cpos : Pos} (hu : X.A.units + 1 < cLine) (ho : PE X o td) (he : PE X e ty) (hbase : attributeBase o "get" X.env (eval o X.env) = eval o X.env := by rfl)
    (hfew : ((backTo cpos (starEach [e] X.env)).all (fun x => !x.1) && (backToKw cpos (keywordEach [] X.env)).all (fun x => x.1.isSome)
      && decide (([e] : List Expr).length + ([] : List Keyword).length + (if ([] : List Keyword).isEmpty then 0 else 1) < 30)) = true := by rfl)
    (hline : (apos.endLine == cpos.line) = true := by rfl) (htr : backTo cpos (starEach [e] X.env) = [(false, eval e X.env)] := by rfl) : PE X (.Call (.Attribute o "get" apos) [e] [] cpos) (tMGet X.prog X.w X.K td ty) := .mk <| by
  intro pins s σ H Q I h
  refine wpAny_Call_method hbase hfew hline PySem.F.plainAttrs_dict PySem.F.slot_dict_get PySem.F.type_dict_get (thn (ho pins s σ H _ I h) fun u s1 ⟨x, H1, I1, rx, a, es, ex, D, q1⟩ => ?_)
  subst ex
  cases rx
  obtain ⟨_, _, xs, _, dd⟩ := I1.dict D
  refine ⟨dd.typeIs, fun b q => ?_, ?_⟩
  · cases q
    obtain ⟨ob, _, _, h1, h2, _⟩ := dd
    exact ⟨ob, h1, h2.2.1⟩
  rw [htr]
  refine Calls.callWith_builtin rfl (Calls.evalArgs_plain (Calls.spliced_cons (thn (he pins s1 σ H1 _ I1 q1) fun iv s2 ⟨y, H2, I2, ry, q, m, ey, D2, hm, k⟩ => Calls.spliced_nil ?_)))
  subst ey
  cases ry
  obtain ⟨_, hd, xs, r, dd⟩ := I2.dict D2
  exact call_meetsIn PySem.F.slot_dict_get dd.typeIs PySem.F.entry_dict_get (PySem.F.args_dict_get_2 _ _) (meetsH_dict_get (dK X.prog X.w) a q hd) ⟨tupleKind_room_in1 hu, mkK m, xs, I2.mark hm, dd, ⟨_, H2, I2.tok _, relO_getD (d := .non) (find_rel r m) (show RelV .non Value.none from rfl), k⟩⟩
end
end L2

namespace L2
open PySem PySem.Spec PyProof.Rows PySem.NumText
/-! ### a dict's pairs walked, whatever its keys -/
def RawD (h : Heap) (d : Addr) (ds : Array DictEntry) (ep : Nat) : Prop := ∃ o, h.get? d = some o ∧ o.cls = .type "dict" ∧ o.data = .dict ds ep
def riObj (d : Addr) (i n ep : Nat) (first : Value) (f : Bool) (ok ov : Value) : Obj := { cls := .type "dict_itemiterator", data := .fields #[first, .bool f, .ref d, .int i 0, .int n 0, .int ep 0, ok, ov] }
section
variable {prog : Program} {w : World} {A : Around} {E : Value → Shared → Prop} {s : Shared} {d it v : Addr} {ds : Array DictEntry} {ep i : Nat} {ok ov : Value}
theorem owns_ii : Builtin.Dict_items.ownsTuple "dict_itemiterator" = true := by decide
theorem iter_items {Q : Value → Shared → Prop} (hv : s.heap.IsItemsView v d) (hd : RawD s.heap d ds ep)
    (k : Q (.ref s.heap.objs.size) { s with heap := s.heap.push (riObj d 0 ds.size ep .none false .none .none) }) :
    wpAny (model prog w) A (pyIter (.ref v)) Q E s := by
  obtain ⟨vo, v1, v2, v3⟩ := id hv
  obtain ⟨o, d1, d2, d3⟩ := hd
  refine wpAny_pyIter_slot hv.typeIs F.slot_dict_items_iter (wpAny_call_entry F.slot_dict_items_iter hv.typeIs F.entry_dict_items_iter ?_ (F.args_dict_items_iter_1 _))
  unfold Builtin.«dict_items.__iter__» Builtin.Dict_items.dictOf Builtin.Dict_items.newIterator
  refine wpAny_bind (wpAny_pure (wpAny_bind (wpAny_bind (wpAny_field v1 v3 (x := .ref d) rfl (wpAny_pure (wpAny_bind (wpAny_bind (wpAny_dictEntries d1 d3 (wpAny_bind (wpAny_dictEpoch d1 d3 ?_))))))))))
  simp only [owns_ii, if_true]
  refine wpAny_newObj_type (wpAny_pure ⟨_, rfl, "dict_itemiterator", _, ⟨_, Heap.get?_push_size _ rfl, rfl⟩, F.slot_dict_itemiterator_next.lookup, ?_⟩) ?_
  · simpa [rawInt, Builtin.Dict_items.ownedTupleFields, riObj] using k
  · simp only [sizeOk, Builtin.Dict_items.ownedTupleFields, List.size_toArray, List.length_append, List.length_cons, List.length_nil, sizeLine_eq]
    omega
theorem next_free {Q : Option Value → Shared → Prop} {e : DictEntry} (hi : s.heap.get? it = some (riObj d i ds.size ep .none false ok ov)) (hd : RawD s.heap d ds ep) (he : ds[i]? = some e)
    (k : ∀ h', h'.get? it = some (riObj d (i + 1) ds.size ep (rawInt s.heap.objs.size) false e.key e.val) → h'.get? s.heap.objs.size = some { cls := .type "tuple", data := .seq #[e.key, e.val] } → h'.objs.size = s.heap.objs.size + 1 →
      (∀ b o, b ≠ it → s.heap.get? b = some o → h'.get? b = some o) → Q (some (.ref s.heap.objs.size)) { s with heap := h' }) : wpAny (model prog w) A (pyNext (.ref it)) Q E s := by
  obtain ⟨o, d1, d2, d3⟩ := hd
  have ty : s.TypeIs (.ref it) "dict_itemiterator" := ⟨_, hi, rfl⟩
  unfold pyNext
  refine wpAny_bind (wpAny_attempt (wpAny_callSpecial?_slot ty F.slot_dict_itemiterator_next (wpAny_call_entry F.slot_dict_itemiterator_next ty F.entry_dict_itemiterator_next ?_ (F.args_dict_itemiterator_next_1 _))))
  unfold Builtin.«dict_itemiterator.__next__»
  refine wpAny_bind (wpAny_pure (wpAny_bind (wpAny_bind (wpAny_bind (wpAny_typeNameOfWhole_itemiter ty (wpAny_pure (wpAny_bind (wpAny_fieldsOf hi rfl ?_))))))))
  simp only [owns_ii, if_true]
  have e1 : (Value.ref d == Value.none) = false := rfl
  dsimp only [List.drop, List.take]
  rw [if_neg (by rw [e1]; exact Bool.false_ne_true)]
  refine wpAny_bind (wpAny_pure (wpAny_bind (wpAny_dictEntries d1 d3 ?_)))
  rw [if_neg (by simp)]
  refine wpAny_bind (wpAny_pure (wpAny_bind (wpAny_dictEpoch d1 d3 ?_)))
  rw [if_neg (by simp)]
  refine wpAny_pure ?_
  dsimp only
  rw [if_neg (by omega), Int.toNat_natCast, he]
  dsimp only
  refine wpAny_bind (wpAny_bind (wpAny_typeNameOfWhole_itemiter ty (wpAny_pure ?_)))
  refine wpAny_bind (wpAny_isOneOf_itemiter ty ?_)
  simp only [owns_ii, if_true]
  rw [if_neg (by decide)]
  refine wpAny_bind (wpAny_setField_rec (k := 3) hi (by show 3 < 8; decide) fun h1 g1 sb1 => ?_)
  have g1 : h1.get? it = some (riObj d (i + 1) ds.size ep .none false ok ov) := g1
  have ty1 : ({ s with heap := h1 } : Shared).TypeIs (.ref it) "dict_itemiterator" := ⟨_, g1, rfl⟩
  refine wpAny_bind (wpAny_holding (wpAny_bind (wpAny_isOneOf_itemiter ty1 ?_)))
  rw [if_neg (by decide)]
  refine wpAny_bind (wpAny_isOneOf_itemiter ty1 ?_)
  rw [if_neg (by decide)]
  unfold Builtin.Dict_items.pairFromOwner
  refine wpAny_bind (wpAny_newTuple ?_)
  have hz : h1.objs.size = s.heap.objs.size := sb1.1
  obtain ⟨h2, hh2⟩ : ∃ h2, h2 = h1.push { cls := .type "tuple", data := .seq [e.key, e.val].toArray } := ⟨_, rfl⟩
  dsimp only
  rw [← hh2]
  have g2 : h2.get? it = some (riObj d (i + 1) ds.size ep .none false ok ov) := by rw [hh2]; exact Heap.get?_push_of_some _ g1
  have t2 : h2.get? h1.objs.size = some { cls := .type "tuple", data := .seq [e.key, e.val].toArray } := by rw [hh2]; exact Heap.get?_push_size _ rfl
  have z2 : h2.objs.size = s.heap.objs.size + 1 := by rw [hh2, Heap.size_push, hz]
  have nit : h1.objs.size ≠ it := Nat.ne_of_gt (Heap.lt_size g1)
  unfold Builtin.Dict_items.ownedTupleIsFree
  refine wpAny_bind (wpAny_bind (wpAny_field g2 rfl (x := .none) rfl (wpAny_pure ?_)))
  rw [if_pos rfl]
  refine wpAny_bind (wpAny_field g2 rfl (x := ok) rfl (wpAny_bind (wpAny_field g2 rfl (x := ov) rfl ?_)))
  refine wpAny_bind (wpAny_setField_rec (k := 6) g2 (by show 6 < 8; decide) fun h3 g3 sb3 => ?_)
  refine wpAny_bind (wpAny_setField_rec (k := 7) g3 (by show 7 < 8; decide) fun h4 g4 sb4 => ?_)
  refine wpAny_bind (wpAny_setField_rec (k := 0) g4 (by show 0 < 8; decide) fun h5 g5 sb5 => ?_)
  refine wpAny_bind (wpAny_setField_rec (k := 1) g5 (by show 1 < 8; decide) fun h6 g6 sb6 => ?_)
  refine wpAny_bind (wpAny_letGo (wpAny_pure (wpAny_pure ⟨_, rfl, wpAny_pure ?_⟩)))
  have kp : ∀ b o, b ≠ it → h2.get? b = some o → h6.get? b = some o := fun b o hb q => (sb6.2 b hb).trans ((sb5.2 b hb).trans ((sb4.2 b hb).trans ((sb3.2 b hb).trans q)))
  rw [hz]
  refine k h6 ?_ ?_ ?_ fun b o hb q => kp b o hb ?_
  · rw [← hz]; exact g6
  · rw [← hz]; exact kp _ _ nit t2
  · rw [sb6.1, sb5.1, sb4.1, sb3.1]; exact z2
  · rw [hh2]; exact Heap.get?_push_of_some _ ((sb1.2 b hb).trans q)
theorem next_over {Q : Option Value → Shared → Prop} {first : Value} {f : Bool} (hh : A.handled = none) (hi : s.heap.get? it = some (riObj d i ds.size ep first f ok ov)) (hd : RawD s.heap d ds ep) (he : ds[i]? = none)
    (k : ∀ h', (∀ b o, b ≠ it → s.heap.get? b = some o → h'.get? b = some o) → Q none { s with heap := h' }) : wpAny (model prog w) A (pyNext (.ref it)) Q E s := by
  obtain ⟨o, d1, d2, d3⟩ := hd
  have ty : s.TypeIs (.ref it) "dict_itemiterator" := ⟨_, hi, rfl⟩
  unfold pyNext
  refine wpAny_bind (wpAny_attempt (wpAny_callSpecial?_slot ty F.slot_dict_itemiterator_next (wpAny_call_entry F.slot_dict_itemiterator_next ty F.entry_dict_itemiterator_next ?_ (F.args_dict_itemiterator_next_1 _))))
  unfold Builtin.«dict_itemiterator.__next__»
  refine wpAny_bind (wpAny_pure (wpAny_bind (wpAny_bind (wpAny_bind (wpAny_typeNameOfWhole_itemiter ty (wpAny_pure (wpAny_bind (wpAny_fieldsOf hi rfl ?_))))))))
  simp only [owns_ii, if_true]
  have e1 : (Value.ref d == Value.none) = false := rfl
  dsimp only [List.drop, List.take]
  rw [if_neg (by rw [e1]; exact Bool.false_ne_true)]
  refine wpAny_bind (wpAny_pure (wpAny_bind (wpAny_dictEntries d1 d3 ?_)))
  rw [if_neg (by simp)]
  refine wpAny_bind (wpAny_pure (wpAny_bind (wpAny_dictEpoch d1 d3 ?_)))
  rw [if_neg (by simp)]
  refine wpAny_pure ?_
  dsimp only
  rw [if_neg (by omega), Int.toNat_natCast, he]
  dsimp only
  refine wpAny_bind (wpAny_bind (wpAny_typeNameOfWhole_itemiter ty (wpAny_pure ?_)))
  simp only [owns_ii, if_true]
  refine wpAny_bind (wpAny_setField_rec (k := 2) hi (by show 2 < 8; decide) fun h1 g1 sb => ?_)
  unfold newExc raiseNew
  refine wpAny_bind (wpAny_bind (wpAny_newObj_type ?_))
  have fa : firstArgMember (.type "StopIteration") [] = pure Value.none := by
    rw [firstArgMember.eq_1]
    generalize (Manifest.find? "StopIteration").elim false (fun t => t.mro.contains "StopIteration" || t.mro.contains "SystemExit") = b
    cases b <;> rfl
  refine wpAny_bind (wpAny_of_eq fa (wpAny_newObj_type ?_ (sizeOk_excFields _ _ _ _ _ _ _ _)))
  refine wpAny_bind (wpAny_handled ?_)
  rw [show A.in1.handled = none from hh]
  refine wpAny_throw ?_
  refine wpAny_bind (wpAny_isInstance ⟨_, Heap.get?_push_size _ rfl, rfl⟩ isSubtype_stop ?_)
  rw [if_pos rfl]
  refine wpAny_pure (k _ fun b o hb e => ?_)
  exact Heap.get?_push_of_some _ (Heap.get?_push_of_some _ ((sb.2 b hb).trans e))
end
end L2

namespace L2
open PySem PySem.Spec PyProof.Rows PySem.NumText
/-! ### a dict's pairs collected -/
section
variable {prog : Program} {w : World} {A : Around} {E : Value → Shared → Prop} {s : Shared} {d it S r : Addr} {ds : Array DictEntry} {ep : Nat}
end
/-! ### many tuples laid at once -/
section
variable {X : Cx} {pins : List (Addr × Obj)} {σ : St} {H : Hp} {s : Shared} {h' : Heap}
end
end L2

namespace L2
open PySem PySem.Spec PyProof.Rows PySem.NumText
/-! ### dict of a list of pairs -/
section
variable {prog : Program} {w : World} {A : Around} {E : Value → Shared → Prop} {s : Shared} {l : Addr} {xs : Array Value} {c : Nat} {sl : Array (Option Value)}
theorem list_noKeys {Q : Option Value → Shared → Prop} (hh : A.handled = none) (ho : s.heap.get? l = some { cls := .type "list", data := .seq xs c, slots := sl })
    (k : ∀ h' tk, (∀ b o, s.heap.get? b = some o → h'.get? b = some o) → Q none { s with heap := h', toks := tk }) : wpAny (model prog w) A (getAttr? (.ref l) (Str.ofString "keys")) Q E s := by
  unfold getAttr? mkText
  refine wpAny_bind (wpAny_bind (wpAny_fresh' (wpAny_pure ?_)))
  unfold getAttrBy?
  have ty : ∀ tk, ({ s with toks := tk } : Shared).TypeIs (.ref l) "list" := fun tk => ⟨_, ho, rfl⟩
  refine wpAny_bind (wpAny_attempt ?_)
  unfold getAttrBy
  refine wpAny_holding (wpAny_bind (wpAny_typeOf (ty _) (wpAny_bind (wpAny_of_eq F.slot_list_getattribute.lookup ?_))))
  dsimp only
  rw [if_neg (by decide)]
  unfold getAttrByItsOwn hookBefore
  refine wpAny_bind (wpAny_of_eq (a := none) (if_neg (by decide)) (wpAny_bind (wpAny_attempt (wpAny_holding ?_))))
  unfold callGetattribute
  rw [if_neg (by decide)]
  unfold boundAndCalled
  refine wpAny_bind (wpAny_of_eq (F.slot_list_getattribute.bind (.ref l)) ?_)
  have hmiss : typeLookup (.type "list") (Str.ofString "keys") = pure none := am_miss_of_fast (by decide +kernel)
  refine call_meets F.slot_list_getattribute (ty _) am_entry_list_getattribute (F.args_list_getattribute_2 _ _) (meets_getattribute_miss_list l xs c sl _ _ hmiss (by decide +kernel) (by rw [sizeLine_eq]; decide +kernel)) ⟨ho, hh, fun h' tk e ne => ?_⟩
  show wpAny _ _ (getattributeRaised _ _ _ _ _ _ _) _ _ _
  obtain ⟨t, u, he⟩ := ne.there
  unfold getattributeRaised
  refine wpAny_bind (wpAny_isInstance ⟨_, he, rfl⟩ sub_AttributeError ?_)
  rw [if_pos rfl]
  unfold hookBehind
  rw [if_neg (by decide)]
  refine wpAny_bind (wpAny_of_eq am_list_getattr_none ?_)
  unfold hookOrError attributeErrorLeaves
  dsimp only
  rw [if_pos (by decide)]
  refine wpAny_bind (wpAny_throw ?_)
  refine wpAny_bind (wpAny_isInstance ⟨_, he, rfl⟩ sub_AttributeError ?_)
  rw [if_pos rfl]
  exact wpAny_pure (k h' tk ne.keeps)
end
/-! the pairs laid into the dict, one by one -/
theorem entry_upd_loop : entryFor table "dict.update.loop" = some Builtin.«dict.update.loop» := entryFor_of_tree (by rfl)
theorem plain_upd_loop : plainId "dict.update.loop" = true := by decide +kernel
abbrev Row := List Key × Addr × Value
def storeAll (xs : List Row) (ps : List Row) : List Row := ps.foldl (fun xs p => storedH xs p.1 p.2.1 p.2.2) xs
section
variable {prog : Program} {w : World} {A : Around} {E : Value → Shared → Prop} {s : Shared} {l d it : Addr}
theorem stored_len (xs : List Row) (k : List Key) (a : Addr) (v : Value) : (storedH xs k a v).length ≤ xs.length + 1 := by
  unfold storedH
  split
  · rw [List.length_map]; omega
  · rw [List.length_append]; exact Nat.le_refl _
theorem stored_mem {xs : List Row} {k : List Key} {a : Addr} {v : Value} {x : Row} (h : x ∈ storedH xs k a v) : x.2.1 = a ∨ ∃ y ∈ xs, y.2.1 = x.2.1 := by
  unfold storedH at h
  split at h
  · obtain ⟨y, hy, rfl⟩ := List.mem_map.mp h
    refine .inr ⟨y, hy, ?_⟩
    unfold putAt
    split <;> rfl
  · rcases List.mem_append.mp h with z | z
    · exact .inr ⟨x, z, rfl⟩
    · rw [List.mem_singleton.mp z]; exact .inl rfl
theorem is_keep {h h' : Heap} {k : List Key} {a : Addr} (hi : (dK prog w).is h k a) (q : ∀ o, h.get? a = some o → h'.get? a = some o) : (dK prog w).is h' k a := by
  obtain ⟨o, its, n, h1, r⟩ := hi
  exact ⟨o, its, n, q o h1, r⟩
theorem dictH_keep {h h' : Heap} {xs : List Row} (hd : h.DictOfH (dK prog w) d xs) (q : ∀ b o, b ≠ it → h.get? b = some o → h'.get? b = some o) (ndi : d ≠ it) (hn : ∀ x ∈ xs, x.2.1 ≠ it) : h'.DictOfH (dK prog w) d xs := by
  obtain ⟨o, ds, ep, a1, a2, a3, a4, a5, a6⟩ := hd
  exact ⟨o, ds, ep, q _ _ ndi a1, a2, a3, a4, fun x hx => is_keep (a5 x hx) fun o e => q _ _ (hn x hx) e, a6⟩
theorem storeAll_snoc (ps : List Row) (p : Row) : storeAll [] (ps ++ [p]) = storedH (storeAll [] ps) p.1 p.2.1 p.2.2 := by
  unfold storeAll
  rw [List.foldl_append]
  rfl
theorem storeAll_len : ∀ (ps : List Row) (xs : List Row), (storeAll xs ps).length ≤ xs.length + ps.length
  | [], xs => Nat.le_refl _
  | p :: ps, xs => by
    have h1 := storeAll_len ps (storedH xs p.1 p.2.1 p.2.2)
    have h2 := stored_len xs p.1 p.2.1 p.2.2
    show (storeAll (storedH xs p.1 p.2.1 p.2.2) ps).length ≤ xs.length + (ps.length + 1)
    omega
theorem loop_update {R : Result → Shared → Prop} {items : Array Value} {ps : List Row} (hh : A.handled = none) (room : (dK prog w).room A.in1) (ndl : d ≠ l) (ndi : d ≠ it) (nli : l ≠ it) {h1 : Heap} (res : Value) (hlen : items.size = ps.length) (hsz : ps.length ≤ 1000)
    (hps : ∀ (i : Nat) p, ps[i]? = some p → ∃ t, items[i]? = some (.ref t) ∧ t ≠ d ∧ t ≠ it ∧ p.2.1 ≠ d ∧ p.2.1 ≠ it ∧ IsTup h1 t #[.ref p.2.1, p.2.2] ∧ (dK prog w).is h1 p.1 p.2.1)
    (k : ∀ h' tk, (∀ b o, b ≠ d → b ≠ it → h1.get? b = some o → h'.get? b = some o) → h'.DictOfH (dK prog w) d (storeAll [] ps) → R (.ok (.ret res)) { s with heap := h', toks := tk }) :
    ∀ (n i : Nat) (h : Heap) (tk : Nat) (cnt : Int) (ct : Tok), ps.length - i = n → i ≤ ps.length → h.IsListIter it l i → h.IsList l items → (∀ b o, b ≠ d → b ≠ it → h1.get? b = some o → h.get? b = some o) → h.DictOfH (dK prog w) d (storeAll [] (ps.take i)) → (∀ x ∈ storeAll [] (ps.take i), x.2.1 ≠ it ∧ x.2.1 ≠ d) →
      codeAny (model prog w) A (.builtin "dict.update.loop" ⟨[.ref d, .ref it, .int cnt ct, res], []⟩) R { s with heap := h, toks := tk } := by
  intro n
  induction n with
  | zero =>
    intro i h tk cnt ct hni hi hit hl kp hd hx
    refine codeAny_builtin entry_upd_loop ?_
    rw [Around.under_plainId plain_upd_loop]
    refine wpAny_bind (wpAny_pyNext_list_end (s := { s with heap := h, toks := tk }) hh hit hl (by rw [Array.getElem?_eq_none]; omega) fun h' ex => ?_)
    refine wpAny_bind (wpAny_bind (wpAny_pure (wpAny_pure (wpAny_pure ?_))))
    refine k h' tk (fun b o h1' h2' e => ex b o h2' (kp b o h1' h2' e)) ?_
    have e : ps.take i = ps := List.take_of_length_le (by omega)
    rw [e] at hd hx
    exact dictH_keep hd ex ndi fun x q => (hx x q).1
  | succ n ih =>
    intro i h tk cnt ct hni hi hit hl kp hd hx
    obtain ⟨p, hp⟩ : ∃ p, ps[i]? = some p := ⟨_, List.getElem?_eq_getElem (by omega)⟩
    obtain ⟨t, ht, n1, n2, n3, n4, ht1, his⟩ := hps i p hp
    refine codeAny_builtin entry_upd_loop ?_
    rw [Around.under_plainId plain_upd_loop]
    refine wpAny_bind (wpAny_pyNext_list_item (s := { s with heap := h, toks := tk }) hit hl ht fun h2 hit2 sb => ?_)
    obtain ⟨to, tc1, tc2, tn, tc3⟩ := ht1
    have ht2 : h2.get? t = some to := (sb.2 t n2).trans (kp t _ n1 n2 tc1)
    have hd2 : h2.DictOfH (dK prog w) d (storeAll [] (ps.take i)) := dictH_keep hd (fun b o hb e => (sb.2 b hb).trans e) ndi fun x q => (hx x q).1
    have his2 : (dK prog w).is h2 p.1 p.2.1 := is_keep his fun o e => (sb.2 _ n4).trans (kp _ _ n3 n4 e)
    have hlt : (storeAll [] (ps.take i)).length ≤ sizeLine := by
      have := storeAll_len (ps.take i) []
      rw [List.length_take, List.length_nil] at this
      rw [sizeLine_eq]
      omega
    refine wpAny_bind (wpAny_holding (wpAny_bind ?_))
    rw [← Sem.tryCatch_eq]
    refine wpAny_tryCatch ?_
    unfold Builtin.Dict.pairItems
    refine wpAny_bind (wpAny_typeOf (T := "tuple") ⟨_, ht2, tc2⟩ ?_)
    rw [if_pos (by decide)]
    refine wpAny_bind (wpAny_seqItems ht2 tc3 (wpAny_pure ?_))
    show wpAny _ _ (holding [.ref p.2.1, p.2.2] (dictSet d (.ref p.2.1) p.2.2)) _ _ _
    refine wpAny_holding (wpAny_dictSet_heap (hsz := hlt) room his2 hd2 fun h3 hd3 sb3 => ?_)
    refine wpAny_pure ⟨plainId_quiet plain_upd_loop _, ?_⟩
    have e1 : ps.take (i + 1) = ps.take i ++ [p] := by
      obtain ⟨hlt', rfl⟩ := List.getElem?_eq_some_iff.mp hp
      exact List.take_succ_eq_append_getElem hlt'
    have keep3 : ∀ b o, b ≠ d → b ≠ it → h.get? b = some o → h3.get? b = some o := fun b o hb1 hb2 e => (sb3.2 b hb1).trans ((sb.2 b hb2).trans e)
    refine ih (i + 1) h3 _ (cnt + 1) 0 (by omega) (by omega) ?_ ?_ (fun b o hb1 hb2 e => keep3 b o hb1 hb2 (kp b o hb1 hb2 e)) ?_ ?_
    · obtain ⟨o, a1, a2⟩ := hit2
      exact ⟨o, (sb3.2 it ndi.symm).trans a1, a2⟩
    · obtain ⟨o, a1, a2⟩ := hl
      exact ⟨o, keep3 _ _ ndl.symm nli a1, a2⟩
    · rw [e1, storeAll_snoc]; exact hd3
    · rw [e1, storeAll_snoc]
      intro x hxm
      rcases stored_mem hxm with z | ⟨y, hy, z⟩
      · rw [z]; exact ⟨n4, n3⟩
      · rw [← z]; exact hx y hy
theorem call_dict_list {Q : Value → Shared → Prop} {items : Array Value} {ps : List Row} {sl : Array (Option Value)} {c : Nat} (hh : A.handled = none) (room : (dK prog w).room A.in1.in1) (ho : s.heap.get? l = some { cls := .type "list", data := .seq items c, slots := sl }) (hlen : items.size = ps.length) (hsz : ps.length ≤ 1000)
    (hps : ∀ (i : Nat) p, ps[i]? = some p → ∃ t, items[i]? = some (.ref t) ∧ IsTup s.heap t #[.ref p.2.1, p.2.2] ∧ (dK prog w).is s.heap p.1 p.2.1)
    (k : ∀ h' tk, (∀ b o, s.heap.get? b = some o → h'.get? b = some o) → h'.DictOfH (dK prog w) s.heap.objs.size (storeAll [] ps) → Q (.ref s.heap.objs.size) { s with heap := h', toks := tk }) : wpAny (model prog w) A (call (.type "dict") [.ref l]) Q E s := by
  obtain ⟨h1, hh1⟩ : ∃ h1, h1 = s.heap.push { cls := .type "dict", data := .dict (#[] : Array DictEntry) } := ⟨_, rfl⟩
  have kp1 : ∀ b o, s.heap.get? b = some o → h1.get? b = some o := fun b o e => by rw [hh1]; exact Heap.get?_push_of_some _ e
  have hd1 : h1.get? s.heap.objs.size = some { cls := .type "dict", data := .dict #[] } := by rw [hh1]; exact Heap.get?_push_size _ rfl
  refine callType_codes (Q₁ := fun obj s1 => obj = .ref s.heap.objs.size ∧ s1 = { s with heap := h1 }) F.kt_called_dict (F.kt_typeCall_dict_1 _) F.entry_dict_init (kt_code_dict_new _ ⟨rfl, by rw [hh1]⟩) fun obj s1 ⟨e1, e2⟩ => ?_
  subst e1 e2
  have td : ({ s with heap := h1 } : Shared).TypeIs (.ref s.heap.objs.size) "dict" := ⟨_, hd1, rfl⟩
  refine ⟨td, F.args_dict_init_2 _ _, ?_⟩
  unfold Builtin.«dict.__init__» Builtin.Dict.selfAndRest
  refine wpAny_bind (wpAny_bind (wpAny_notOrdered_dict td ?_))
  refine wpAny_bind (wpAny_pure (wpAny_pure ?_))
  show wpAny _ _ (Builtin.Dict.updateFrom "dict.__init__" s.heap.objs.size (.ref l) [] .none) _ _ _
  unfold Builtin.Dict.updateFrom
  have ho1 := kp1 _ _ ho
  refine wpAny_bind (wpAny_typeOf (T := "list") ⟨_, ho1, rfl⟩ ?_)
  rw [if_pos (by decide)]
  refine wpAny_bind (list_noKeys (s := { s with heap := h1 }) hh ho1 fun h2 tk kp2 => ?_)
  rw [if_pos (by decide)]
  refine wpAny_bind (wpAny_rule ?_)
  have hl2 : h2.IsList l items := ⟨_, kp2 _ _ ho1, rfl, c, rfl⟩
  refine wpAny_bind (wpAny_pyIter_list (s := { s with heap := h2, toks := tk }) hl2 ?_)
  refine wpAny_pure ⟨plainId_quiet plain_upd_loop _, ?_⟩
  obtain ⟨h3, hh3⟩ : ∃ h3, h3 = h2.push { cls := .type "list_iterator", data := .fields #[.ref l, .int 0 0] } := ⟨_, rfl⟩
  have kp3 : ∀ b o, h2.get? b = some o → h3.get? b = some o := fun b o e => by rw [hh3]; exact Heap.get?_push_of_some _ e
  have it3 : h3.IsListIter h2.objs.size l 0 := by rw [hh3]; exact ⟨_, Heap.get?_push_size _ rfl, rfl, rfl⟩
  show codeAny _ _ (.builtin "dict.update.loop" ⟨[.ref s.heap.objs.size, .ref h2.objs.size, .int 0 0, .none], []⟩) _ { s with heap := h2.push { cls := .type "list_iterator", data := .fields #[.ref l, .int 0 0] }, toks := tk }
  rw [← hh3]
  have old : ∀ b o, s.heap.get? b = some o → h3.get? b = some o ∧ b ≠ s.heap.objs.size ∧ b ≠ h2.objs.size := fun b o e => ⟨kp3 _ _ (kp2 _ _ (kp1 _ _ e)), Nat.ne_of_lt (Heap.lt_size e), Nat.ne_of_lt (Heap.lt_size (kp2 _ _ (kp1 _ _ e)))⟩
  have ndi : s.heap.objs.size ≠ h2.objs.size := Nat.ne_of_lt (Heap.lt_size (kp2 _ _ hd1))
  refine loop_update (A := A.in1) (h1 := h3) (items := items) (ps := ps) (l := l) (show A.in1.handled = none from hh) room (old _ _ ho).2.1.symm ndi (old _ _ ho).2.2 .none hlen hsz ?_ ?_ (ps.length - 0) 0 h3 tk 0 0 rfl (Nat.zero_le _) it3 ⟨_, (old _ _ ho).1, rfl, c, rfl⟩ (fun _ _ _ _ e => e) ?_ (fun x hx => by cases hx)
  · intro i p hp
    obtain ⟨t, q1, ⟨to, q2, q3⟩, q4⟩ := hps i p hp
    have ht := old _ _ q2
    have q4' := q4
    obtain ⟨po, _, _, r1, _⟩ := q4'
    have hq := old _ _ r1
    exact ⟨t, q1, ht.2.1, ht.2.2, hq.2.1, hq.2.2, ⟨to, ht.1, q3⟩, is_keep q4 fun o e => (old _ _ e).1⟩
  · intro h' tk' kp' hd'
    refine ⟨rfl, k h' tk' (fun b o e => ?_) hd'⟩
    obtain ⟨q1, q2, q3⟩ := old b o e
    exact kp' b o q2 q3 q1
  · exact ⟨_, #[], 0, kp3 _ _ (kp2 _ _ hd1), ⟨rfl, rfl, rfl⟩, rfl, rfl, (fun x hx => by cases hx), List.nodup_nil⟩
end
def putAll (es : List Ent) (ps : List Ent) : List Ent := ps.foldl (fun es p => putM es p.1 p.2.1 p.2.2) es
theorem putAll_rel : ∀ {ps : List Ent} {rs : List Row}, Paired EntR ps rs → ∀ {es : List Ent} {xs : List Row}, Paired EntR es xs → Paired EntR (putAll es ps) (storeAll xs rs)
  | _, _, .nil, _, _, h => h
  | p :: ps, r :: rs, .cons a b, es, xs, h => by
    show Paired EntR (putAll (putM es p.1 p.2.1 p.2.2) ps) (storeAll (storedH xs r.1 r.2.1 r.2.2) rs)
    refine putAll_rel b ?_
    rw [a.1, a.2.1]
    exact put_rel h p.1 a.2.2
theorem putAll_len : ∀ (ps : List Ent) (es : List Ent), (putAll es ps).length ≤ es.length + ps.length
  | [], es => Nat.le_refl _
  | p :: ps, es => by
    have h1 := putAll_len ps (putM es p.1 p.2.1 p.2.2)
    have h2 := putM_len es p.1 p.2.1 p.2.2
    show (putAll (putM es p.1 p.2.1 p.2.2) ps).length ≤ es.length + (ps.length + 1)
    omega
section
variable {X : Cx}
/-- pairs in a list: each a tuple (mark, value) -/
def PairsL (K : PySem.W.Frag) (H : Hp) (ps : List Ent) (vs : List V) : Prop := Paired (fun (p : Ent) (v : V) => ∃ t, v = .ref t ∧ SqT K H t [.ref p.2.1, p.2.2] ∧ SqT K H p.2.1 (mkV p.1)) ps vs
def rDictL (P : Program) (w : World) (K : PySem.W.Frag) : List V → Hp → VK → Prop := fun xs H Q => ∃ (p : Addr) (vs : List V) (ps : List Ent), xs = [.ref p] ∧ SqL K H p vs ∧ PairsL K H ps vs ∧ ps.length ≤ 1000 ∧ ∀ q o, H q = none → Q (.ref q) (upd H q (dO P w q (putAll [] ps) o))
theorem pairs_rows {pins : List (Addr × Obj)} {σ : St} {H : Hp} {s : Shared} (I : Inv X pins σ H s) : ∀ {ps : List Ent} {vs : List V} {us : List Value}, PairsL X.K H ps vs → Vals vs us → ∃ rs : List Row, Paired EntR ps rs ∧ us.length = rs.length ∧ ∀ (i : Nat) r, rs[i]? = some r → ∃ t, us[i]? = some (.ref t) ∧ IsTup s.heap t #[.ref r.2.1, r.2.2] ∧ (dK X.prog X.w).is s.heap r.1 r.2.1
  | _, _, _, .nil, .nil => ⟨[], .nil, rfl, fun i r e => by simp at e⟩
  | p :: ps, v :: vs, u :: us, .cons a b, .cons ra rb => by
    obtain ⟨rs, h1, h2, h3⟩ := pairs_rows I b rb
    obtain ⟨t, rfl, ht, hm⟩ := a
    cases ra
    obtain ⟨its, rv, tp, _⟩ := I.tuple ht
    cases rv with
    | cons r1 r2 =>
      cases r2 with
      | cons r3 r4 =>
        cases r4
        cases r1
        rename_i uv
        refine ⟨(mkK p.1, p.2.1, uv) :: rs, .cons ⟨rfl, rfl, r3⟩ h1, by rw [List.length_cons, List.length_cons, h2], fun i r e => ?_⟩
        cases i with
        | zero =>
          cases (Option.some.inj e)
          exact ⟨t, rfl, tp, I.mark hm⟩
        | succ i => exact h3 i r (by simpa using e)
theorem call_dictL (hc : X.calm = true) (hu : X.A.units + 100 < cLine) : CallR X (.type "dict") (rDictL X.prog X.w X.K) := by
  intro pins s σ H xs us Q I r h
  obtain ⟨p, vs, ps, rfl, hq, hp, hz, q⟩ := h
  obtain ⟨u, rfl, ru⟩ := vals1 r
  cases ru
  obtain ⟨its, rv, pl, hsz⟩ := I.list hq
  obtain ⟨rs, h1, h2, h3⟩ := pairs_rows I hp rv
  have hpl : ps.length = rs.length := Paired.length h1
  obtain ⟨o, n, ho, oc, od, odt⟩ := id pl
  obtain ⟨cls, dct, dat, sl⟩ := o
  cases oc
  cases od
  cases odt
  refine call_dict_list (ps := rs) (I.ok.hd hc) (tupleKind_room_in1 (A := X.A.in1) (by show X.A.units + 1 + 1 < cLine; omega)) ho (by rw [List.size_toArray]; exact h2) (by omega) (fun i r' e => by rw [List.getElem?_toArray]; exact h3 i r' e) fun h' tk kp dd => ?_
  have hb : (s.heap.objs.size == sysModules) = false := beq_eq_false_iff_ne.mpr (Ne.symm (Nat.ne_of_lt I.bigM))
  have hl := putAll_len ps []
  obtain ⟨ob, hob⟩ := dO_ok (P := X.prog) (w := X.w) (H := H) (es := putAll [] ps) (Nat.le_of_lt (small1000 (by rw [List.length_nil] at hl; omega))) hb (putAll_rel h1 .nil) dd
  exact ⟨.ref s.heap.objs.size, _, I.laid (t' := tk) kp (Nat.le_refl _) hob, rfl, q _ ob (I.hok.fresh (Nat.le_refl _))⟩
end
end L2

namespace L2
open PySem PySem.Spec PyProof.Rows PySem.NumText
/-! ### d.items(), walked -/
theorem entry_ii_iter : entryFor table "dict_itemiterator.__iter__" = some Builtin.«dict_keyiterator.__iter__» := entryFor_alias (id' := "dict_keyiterator.__iter__") (by rfl) (by rfl) (by decide +kernel) (by rfl)
def viewO (v d : Addr) : HO := .ext fun h => h.IsItemsView v d
structure Raw (P : Program) (w : World) (es : List Ent) (o : Obj) (ds : Array DictEntry) (ep : Nat) (rs : List Row) : Prop where
  rel : Paired EntR es rs
  cl : o.cls = .type "dict"
  dat : o.data = .dict ds ep
  lst : ds.toList = rs.map (entryOfKey (dK P w))
theorem Raw.size {P : Program} {w : World} {es : List Ent} {o : Obj} {ds : Array DictEntry} {ep : Nat} {rs : List Row} (R : Raw P w es o ds ep rs) : ds.size = es.length := by
  rw [← Array.length_toList, R.lst, List.length_map, ← Paired.length R.rel]
theorem ent_at : ∀ {es : List Ent} {rs : List Row}, Paired EntR es rs → ∀ {i : Nat} {e : Ent}, es[i]? = some e → ∃ r, rs[i]? = some r ∧ EntR e r
  | _, _, .nil, i, e, h => by simp at h
  | _, _, .cons a b, 0, e, h => by cases (Option.some.inj h); exact ⟨_, rfl, a⟩
  | _, _, .cons a b, i + 1, e, h => by
    obtain ⟨r, h1, h2⟩ := ent_at b (i := i) (by simpa using h)
    exact ⟨r, by simpa using h1, h2⟩
theorem Raw.at_ {P : Program} {w : World} {es : List Ent} {o : Obj} {ds : Array DictEntry} {ep : Nat} {rs : List Row} (R : Raw P w es o ds ep rs) {i : Nat} {e : Ent} (h : es[i]? = some e) : ∃ u q, ds[i]? = some u ∧ u.key = .ref e.2.1 ∧ u.val = q ∧ RelV e.2.2 q := by
  obtain ⟨r, h1, h2⟩ := ent_at R.rel h
  refine ⟨entryOfKey (dK P w) r, r.2.2, ?_, ?_, rfl, h2.2.2⟩
  · rw [← Array.getElem?_toList, R.lst, List.getElem?_map, h1]; rfl
  · show Value.ref r.2.1 = _
    rw [h2.2.1]
section
variable {X : Cx} {pins : List (Addr × Obj)} {σ : St} {H : Hp} {s : Shared} {a : Addr} {es : List Ent} {o : Obj}
theorem Inv.raw (I : Inv X pins σ H s) (ob : H a = some (dO X.prog X.w a es o)) : s.heap.get? a = some o ∧ (a == sysModules) = false ∧ es.length ≤ sizeLine ∧ ∃ ds ep rs, Raw X.prog X.w es o ds ep rs := by
  obtain ⟨⟨z, y, h1, xs, r, ds, ep, h2, h3, h4, h5⟩, _, _⟩ := (show ObjOk X.prog X.w H s.heap a (dO X.prog X.w a es o) from I.hok a _ ob)
  exact ⟨h1, y, z, ds, ep, xs, r, h2.1, h3, h4⟩
end
def Itm (P : Program) (w : World) (a : Addr) (es : List Ent) (o : Obj) : It :=
  ⟨fun i H => H a = some (dO P w a es o) ∧ i < es.length, fun i H v H' => ∃ T e, v = .ref T ∧ H T = none ∧ H' = upd H T (.tup [.ref e.2.1, e.2.2]) ∧ es[i]? = some e, fun i H => H a = some (dO P w a es o) ∧ es.length ≤ i⟩
theorem turn_items {P : Program} {w : World} {K : PySem.W.Frag} {elts : List Expr} {kk : Nat} {tp : Pos} (a it : Addr) (es : List Ent) (o : Obj) (ds : Array DictEntry) (ep : Nat) (hod : o.data = .dict ds ep) :
    Turn P w K (.Tuple elts kk tp) (Itm P w a es o) [it] it (fun i h => ∃ ok ov, h.get? it = some (riObj a i es.length ep .none false ok ov)) where
  mem := by simp
  obj := fun i h st b hb => by
    obtain ⟨ok, ov, he⟩ := st
    have : b = it := by simpa using hb
    subst this
    exact ⟨_, he, fun v z => nomatch z⟩
  keep := fun i h h' st k => let ⟨ok, ov, he⟩ := st; ⟨ok, ov, k it (by simp) _ he⟩
  item := by
    intro X hP hw hK hc i pins s σ H E I hf st hg
    subst hP hw hK
    obtain ⟨ok, ov, he⟩ := st
    obtain ⟨hob, hi⟩ := hg
    obtain ⟨h1, _, _, ds', ep', rs, R⟩ := I.raw hob
    have e0 := R.dat
    rw [hod] at e0
    cases e0
    obtain ⟨e, hei⟩ : ∃ e, es[i]? = some e := ⟨_, List.getElem?_eq_getElem hi⟩
    obtain ⟨u, q, hu, hk, hv, rq⟩ := R.at_ hei
    have helt : it < s.heap.objs.size := Heap.lt_size he
    rw [← R.size] at he
    refine next_free he ⟨o, h1, R.cl, R.dat⟩ hu fun h' g1 g2 g3 g4 => ?_
    refine ⟨_, rfl, wpAny_letOwnedTupleGo_items g1 fun h2 he2 hs2 => ?_⟩
    rw [hk, hv] at g2
    have hT2 : h2.get? s.heap.objs.size = some { cls := .type "tuple", data := .seq #[.ref e.2.1, q] } := (hs2.2 _ (Nat.ne_of_gt helt)).trans g2
    have I2 : Inv X pins σ (upd H s.heap.objs.size (.tup [.ref e.2.1, e.2.2])) { s with heap := h2, toks := s.toks } := by
      refine I.turnLay (ch := [it]) hf (fun b ob hb z => ?_) (Nat.le_refl _) ?_
      · have n1 : b ≠ it := fun z => hb (by simp [z])
        exact (hs2.2 b n1).trans (g4 b ob n1 z)
      · exact ⟨by show 2 ≤ sizeLine; decide, [.ref e.2.1, q], .cons rfl (.cons rq .nil), ⟨_, hT2, rfl, _, rfl⟩⟩
    have hn : H s.heap.objs.size = none := I.hok.fresh (Nat.le_refl _)
    refine ⟨.ref s.heap.objs.size, _, I2, rfl, ⟨_, e, rfl, hn, rfl, hei⟩, ⟨_, _, by rw [← R.size]; exact he2⟩, fun b hb => ?_⟩
    have hb' : b = it := by simpa using hb
    subst hb'
    rw [upd_ne (Nat.ne_of_lt helt)]
    exact (hf b hb).1
  done := by
    intro X hP hw hK hc i pins s σ H E I hf st hg
    subst hP hw hK
    obtain ⟨ok, ov, he⟩ := st
    obtain ⟨hob, hi⟩ := hg
    obtain ⟨h1, _, _, ds', ep', rs, R⟩ := I.raw hob
    have e0 := R.dat
    rw [hod] at e0
    cases e0
    rw [← R.size] at he
    exact next_over (I.ok.hd hc) he ⟨o, h1, R.cl, R.dat⟩ (by rw [Array.getElem?_eq_none]; rw [R.size]; exact hi) fun h' kp => ⟨rfl, I.turnedL (t' := s.toks) hf fun b ob hb q => kp b ob (fun z => hb (by simp [z])) q⟩
  self := fun A i s Q E st h => by
    obtain ⟨ok, ov, he⟩ := st
    have hT : s.TypeIs (.ref it) "dict_itemiterator" := ⟨_, he, rfl⟩
    exact wpAny_pyIter_slot hT F.slot_dict_itemiterator_iter (wpAny_call_entry F.slot_dict_itemiterator_iter hT entry_ii_iter (wpAny_pure ⟨_, rfl, "dict_itemiterator", _, hT, F.slot_dict_itemiterator_next.lookup, h⟩) (F.args_dict_itemiterator_iter_1 _))
section
variable {X : Cx} {o : Expr} {td : TE} {apos cpos : Pos}
theorem call_items {prog : Program} {w : World} {A : Around} {E : Value → Shared → Prop} {s : Shared} {d : Addr} {Q : Value → Shared → Prop} (hT : s.TypeIs (.ref d) "dict") (hd : (d == sysModules) = false) (h : Q (.ref s.heap.objs.size) { s with heap := s.heap.push { cls := .type "dict_items", data := .fields #[.ref d] } }) :
    wpAny (model prog w) A (call (.builtin "dict.items") [.ref d]) Q E s := by
  refine wpAny_call_entry F.slot_dict_items hT F.entry_dict_items ?_ (F.args_dict_items_1 _)
  unfold Builtin.«dict.items» Builtin.Dict.noArgs Builtin.Dict.showsAll Builtin.Dict.nameIsSure
  refine wpAny_bind (wpAny_bind (wpAny_notOrdered_dict hT (wpAny_bind (wpAny_of_eq (a := ()) (if_neg (by show ¬ (false || false) = true; decide)) (wpAny_bind (wpAny_pure (wpAny_pure ?_)))))))
  rw [hd]
  refine wpAny_bind (wpAny_of_eq (a := ()) (if_neg Bool.false_ne_true) (wpAny_bind (wpAny_newObj_type (wpAny_pure ⟨_, rfl, h⟩) ?_)))
  simp only [sizeOk, List.size_toArray, List.length_cons, List.length_nil, sizeLine_eq]
  omega
theorem Inv.isDict {pins : List (Addr × Obj)} {σ : St} {H : Hp} {s : Shared} {a : Addr} {es : List Ent} {ob : Obj} (I : Inv X pins σ H s) (h : H a = some (dO X.prog X.w a es ob)) : s.TypeIs (.ref a) "dict" ∧ ob.dict = none := by
  obtain ⟨⟨z, y, h1, xs, r, ds, ep, h2, h3, h4, h5⟩, _, _⟩ := (show ObjOk X.prog X.w H s.heap a (dO X.prog X.w a es ob) from I.hok a _ h)
  exact ⟨⟨_, h1, h2.1⟩, h2.2.1⟩
def iItems (P : Program) (w : World) (td : TE) : TI := fun σ H R => td σ H fun x H1 => ∃ a es o, x = .ref a ∧ H1 a = some (dO P w a es o) ∧ ∀ v, H1 v = none → R (Itm P w a es o) (upd H1 v (viewO v a))
theorem pi_items {elts : List Expr} {kk : Nat} {tp : Pos} (ho : PE X o td) (hbase : attributeBase o "items" X.env (eval o X.env) = eval o X.env := by rfl) (hline : (apos.endLine == cpos.line) = true := by rfl) :
    PI X (.Tuple elts kk tp) (.Call (.Attribute o "items" apos) [] [] cpos) (iItems X.prog X.w td) := .mk <| by
  intro pins s σ H R I h
  refine wpAny_Call_method0_late hbase hline (thn (ho pins s σ H _ I h) fun v s1 ⟨x, H1, I1, r1, a, es, ob, ex, hob, q1⟩ => ?_)
  subst ex
  cases r1
  obtain ⟨hT, hdn⟩ := I1.isDict hob
  obtain ⟨h1, hb, _⟩ := I1.raw hob
  refine ⟨"dict", "dict.items", PySem.F.plainAttrs_dict, PySem.F.slot_dict_items, PySem.F.type_dict_items, hT, fun b e => ?_, Calls.callWith_builtin rfl (PySem.evalArgs_none (call_items hT hb ?_))⟩
  · cases e
    exact ⟨ob, h1, hdn⟩
  · obtain ⟨h2, hh2⟩ : ∃ h2, h2 = s1.heap.push { cls := .type "dict_items", data := .fields #[.ref a] } := ⟨_, rfl⟩
    have kp2 : ∀ b u, s1.heap.get? b = some u → h2.get? b = some u := fun b u e => by rw [hh2]; exact Heap.get?_push_of_some _ e
    have hat : h2.get? s1.heap.objs.size = some { cls := .type "dict_items", data := .fields #[.ref a] } := by rw [hh2]; exact Heap.get?_push_size _ rfl
    have I2 : Inv X pins σ (upd H1 s1.heap.objs.size (viewO s1.heap.objs.size a)) { s1 with heap := h2, toks := s1.toks } := by
      refine I1.laid kp2 (Nat.le_refl _) (o := viewO s1.heap.objs.size a) ⟨⟨_, hat, rfl, rfl⟩, ⟨_, hat⟩, ?_⟩
      rintro g1 g2 ⟨vo, v1, v2⟩ k
      exact ⟨vo, k _ v1, v2⟩
    have hn := I1.hok.fresh (Nat.le_refl s1.heap.objs.size)
    have hob2 : (upd H1 s1.heap.objs.size (viewO s1.heap.objs.size a)) a = some (dO X.prog X.w a es ob) := same_upd hn _ _ hob
    obtain ⟨d1, _, _, ds, ep, rs, RR⟩ := I2.raw hob2
    show wpAny _ _ (pyIter _) _ _ { s1 with heap := s1.heap.push { cls := .type "dict_items", data := .fields #[.ref a] } }
    rw [← hh2]
    refine iter_items (s := { s1 with heap := h2 }) (d := a) ⟨_, hat, rfl, rfl⟩ ⟨ob, d1, RR.cl, RR.dat⟩ ?_
    have hit := Heap.get?_push_size h2 (o := riObj a 0 ds.size ep .none false .none .none) rfl
    have I3 : Inv X pins σ (upd H1 s1.heap.objs.size (viewO s1.heap.objs.size a)) { s1 with heap := h2.push (riObj a 0 ds.size ep .none false .none .none), toks := s1.toks } := I2.kept (t' := s1.toks) fun b u e => Heap.get?_push_of_some _ e
    refine ⟨h2.objs.size, [h2.objs.size], _, _, _, rfl, I3, turn_items a h2.objs.size es ob ds ep RR.dat, ⟨_, _, by rw [← RR.size]; exact hit⟩, fun c hc => ?_, q1 _ hn⟩
    have hc' : c = h2.objs.size := by simpa using hc
    subst hc'
    exact I2.fpOk (Nat.le_refl _) (I2.hok.fresh (Nat.le_refl _))
end
end L2

namespace L2
open PySem PySem.Spec PyProof.Rows PySem.NumText
/-! ### marks in order; sorted(d.items()); len(d) -/
def markD (m : Mark) : PyData := .tuple [.int m.1, .int m.2]
theorem mkV_dv {K : PySem.W.Frag} {H : Hp} {q : Addr} {m : Mark} (h : SqT K H q (mkV m)) : DV K H (markD m) (.ref q) := ⟨q, _, rfl, h, _, _, rfl, rfl, _, _, rfl, rfl, rfl⟩
theorem mark_of {K : PySem.W.Frag} {H : Hp} {m : Mark} {v : V} (h : DV K H (markD m) v) : ∃ q, v = .ref q ∧ SqT K H q (mkV m) := by
  obtain ⟨q, vs, rfl, h1, v1, r1, rfl, e1, v2, r2, rfl, e2, e3⟩ := h
  cases (show v1 = .int m.1 from e1)
  cases (show v2 = .int m.2 from e2)
  cases (show r2 = [] from e3)
  exact ⟨q, rfl, h1⟩
section
variable {X : Cx}
theorem call_lenM : CallR X (.builtin "len") (fun xs H Q => ∃ a es o, xs = [.ref a] ∧ H a = some (dO X.prog X.w a es o) ∧ Q (.int es.length) H) := by
  intro pins s σ H xs us Q I r h
  obtain ⟨a, es, o, rfl, ha, q⟩ := h
  obtain ⟨u, rfl, ru⟩ := vals1 r
  cases ru
  obtain ⟨hT, _⟩ := I.isDict ha
  obtain ⟨h1, hb, hz, ds, ep, rs, RR⟩ := I.raw ha
  have hz' : es.length ≤ 16777216 := by rw [← sizeLine_eq]; exact hz
  refine PyProof.Rows.call_len_slot (n := (es.length : Int)) hT F.slot_dict_len (fun Q' q' => ?_) (by omega) (by omega) ⟨.int es.length, H, I.tok _, ⟨_, rfl⟩, q⟩
  refine wpAny_call_entry F.slot_dict_len hT F.entry_dict_len ?_ (F.args_dict_len_1 _)
  unfold Builtin.«dict.__len__» Builtin.Dict.dictSlotNone
  unfold Builtin.Dict.pendingCount dictSize retInt
  refine wpAny_bind (wpAny_bind (wpAny_notOrdered_dict hT (wpAny_bind (wpAny_pure (wpAny_pure (wpAny_bind (wpAny_pure (wpAny_bind (wpAny_bind (wpAny_dictEntries h1 RR.dat (wpAny_pure ?_)))))))))))
  refine wpAny_bind (wpAny_of_eq (a := 0) (if_neg (by rw [hb]; exact Bool.false_ne_true)) (wpAny_bind (wpAny_mkInt (wpAny_pure ⟨_, rfl, ?_⟩))))
  rw [RR.size, show ((es.length : Nat) : Int) + ((0 : Nat) : Int) = (es.length : Int) by omega]
  exact q'
end
end L2

namespace L2
open PySem PySem.Spec PyProof.Rows PySem.NumText
/-! ### sheets -/
abbrev Sh := List (Mark × Ver)
def prD (m : Mark × Ver) : PyData := .tuple [markD m.1, ver m.2]
def look : Sh → Mark → Option Ver
  | [], _ => none
  | m :: ms, k => if m.1 = k then some m.2 else look ms k
def EnS (K : PySem.W.Frag) (H : Hp) : List Ent → Sh → Prop := Paired fun (e : Ent) (m : Mark × Ver) => e.1 = m.1 ∧ SqT K H e.2.1 (mkV m.1) ∧ DV K H (ver m.2) e.2.2
structure ShAt (P : Program) (w : World) (K : PySem.W.Frag) (C : Addr) (H : Hp) (p : Addr) (ms : Sh) : Prop where
  ex : ∃ dx d es o, H p = some (.ins C dx [("versions", .ref d)]) ∧ H d = some (dO P w d es o) ∧ EnS K H es ms
  nd : (ms.map (·.1)).Nodup
  ok : ∀ m ∈ ms, okV m.2
  few : ms.length < 64
theorem EnS.imp {K : PySem.W.Frag} {H H' : Hp} {es : List Ent} {ms : Sh} (h : EnS K H es ms) (f : ∀ (q : Addr) m, SqT K H q (mkV m) → SqT K H' q (mkV m)) (g : ∀ v x, DV K H (ver v) x → DV K H' (ver v) x) : EnS K H' es ms :=
  Paired.mapP h fun e m ⟨h1, h2, h3⟩ => ⟨h1, f _ _ h2, g _ _ h3⟩
theorem ShAt.same {P : Program} {w : World} {K : PySem.W.Frag} {C : Addr} {H H' : Hp} {p : Addr} {ms : Sh} (h : ShAt P w K C H p ms) (s : Same H H') : ShAt P w K C H' p ms := by
  obtain ⟨dx, d, es, o, h1, h2, h3⟩ := h.ex
  exact ⟨⟨dx, d, es, o, s _ _ h1, s _ _ h2, h3.imp (fun _ _ q => s.seqT q) fun _ _ q => DV.same s _ _ q⟩, h.nd, h.ok, h.few⟩
theorem noL_ver (v : Ver) : noL (ver v) = true := noL_vdat (some v)
theorem look_find {K : PySem.W.Frag} {H : Hp} : ∀ {es : List Ent} {ms : Sh}, EnS K H es ms → ∀ m, DV K H (vdat (look ms m)) ((findM es m).getD .non)
  | _, _, .nil, m => rfl
  | e :: es, n :: ms, .cons a b, m => by
    unfold findM look
    by_cases h : e.1 = m
    · rw [if_pos h, if_pos (a.1 ▸ h)]
      exact a.2.2
    · rw [if_neg h, if_neg (a.1 ▸ h)]
      exact look_find b m
theorem look_in {ms : Sh} (nd : (ms.map (·.1)).Nodup) : ∀ {m : Mark × Ver}, m ∈ ms → look ms m.1 = some m.2 := by
  induction ms with
  | nil => intro m h; cases h
  | cons a ms ih =>
    intro m h
    have hn := List.nodup_cons.mp nd
    unfold look
    rcases List.mem_cons.mp h with rfl | h
    · rw [if_pos rfl]
    · rw [if_neg (fun z => hn.1 (by show a.1 ∈ _; rw [z]; exact List.mem_map_of_mem (f := (·.1)) h))]
      exact ih hn.2 h
/-- putting pairs of unlike marks lays them as they are -/
theorem find_none : ∀ {es : List Ent} {m : Mark}, m ∉ es.map (·.1) → findM es m = none
  | [], _, _ => rfl
  | e :: es, m, h => by
    unfold findM
    rw [if_neg (fun z => h (by rw [← z]; exact List.mem_cons_self))]
    exact find_none fun z => h (List.mem_cons_of_mem _ z)
theorem find_some : ∀ {es : List Ent} {m : Mark}, m ∈ es.map (·.1) → (findM es m).isSome = true
  | e :: es, m, h => by
    unfold findM
    by_cases z : e.1 = m
    · rw [if_pos z]; rfl
    · rw [if_neg z]
      rcases List.mem_cons.mp h with q | q
      · exact absurd q.symm z
      · exact find_some q
theorem putAll_new : ∀ (ps : List Ent) (es : List Ent), ((es ++ ps).map (·.1)).Nodup → putAll es ps = es ++ ps
  | [], es, _ => by rw [List.append_nil]; rfl
  | p :: ps, es, h => by
    have hm : p.1 ∉ es.map (·.1) := by
      rw [List.map_append, List.map_cons] at h
      intro z
      exact (List.nodup_append.mp h).2.2 _ z _ List.mem_cons_self rfl
    show putAll (putM es p.1 p.2.1 p.2.2) ps = es ++ p :: ps
    have e : putM es p.1 p.2.1 p.2.2 = es ++ [p] := by
      unfold putM
      rw [find_none hm]
      rfl
    rw [e, putAll_new ps (es ++ [p]) (by rw [List.append_assoc]; exact h), List.append_assoc]
    rfl
theorem putAll_less : ∀ (ps : List Ent) (es : List Ent), (es.map (·.1)).Nodup → ¬ ((es ++ ps).map (·.1)).Nodup → (putAll es ps).length < es.length + ps.length
  | [], es, h1, h2 => absurd (by rw [List.append_nil]; exact h1) h2
  | p :: ps, es, h1, h2 => by
    show (putAll (putM es p.1 p.2.1 p.2.2) ps).length < es.length + (ps.length + 1)
    by_cases hm : p.1 ∈ es.map (·.1)
    · have hl : (putM es p.1 p.2.1 p.2.2).length = es.length := by
        unfold putM
        rw [if_pos (find_some hm), List.length_map]
      have := putAll_len ps (putM es p.1 p.2.1 p.2.2)
      omega
    · have e : putM es p.1 p.2.1 p.2.2 = es ++ [p] := by
        unfold putM
        rw [find_none hm]
        rfl
      rw [e]
      have := putAll_less ps (es ++ [p]) (by
        rw [List.map_append]
        exact List.nodup_append.mpr ⟨h1, List.nodup_cons.mpr ⟨by simp, List.nodup_nil⟩, fun x hx y hy z => hm ((show x = p.1 from z.trans (List.mem_singleton.mp hy)) ▸ hx)⟩) (by rw [List.append_assoc]; exact h2)
      rw [List.length_append, List.length_cons, List.length_nil] at this
      omega
/-- the pairs of a list -/
theorem pairs_of {K : PySem.W.Frag} {H : Hp} : ∀ {ms : Sh} {vs : List V}, DVs K H (ms.map prD) vs → ∃ ps : List Ent, PairsL K H ps vs ∧ EnS K H ps ms
  | [], vs, h => by cases (show vs = [] from h); exact ⟨[], .nil, .nil⟩
  | m :: ms, vs, h => by
    obtain ⟨v, r, rfl, hv, hr⟩ := h
    obtain ⟨ps, h1, h2⟩ := pairs_of hr
    obtain ⟨t, xs, rfl, ht, x1, r1, rfl, e1, x2, r2, rfl, e2, e3⟩ := hv
    cases (show r2 = [] from e3)
    obtain ⟨q, rfl, hq⟩ := mark_of e1
    exact ⟨(m.1, q, x2) :: ps, .cons ⟨t, rfl, ht, hq⟩ h1, .cons ⟨rfl, hq, e2⟩ h2⟩
theorem ens_marks {K : PySem.W.Frag} {H : Hp} : ∀ {es : List Ent} {ms : Sh}, EnS K H es ms → es.map (·.1) = ms.map (·.1)
  | _, _, .nil => rfl
  | _, _, .cons a b => by rw [List.map_cons, List.map_cons, a.1, ens_marks b]
theorem ens_val {K : PySem.W.Frag} {H : Hp} : ∀ {es : List Ent} {ms : Sh}, EnS K H es ms → ∀ e ∈ es, SqT K H e.2.1 (mkV e.1) ∧ ∃ v, (e.1, v) ∈ ms ∧ DV K H (ver v) e.2.2
  | _, _, .nil, e, h => nomatch h
  | _, m :: _, .cons a b, e, h => by
    rcases List.mem_cons.mp h with rfl | h
    · exact ⟨by rw [a.1]; exact a.2.1, m.2, by rw [a.1]; exact List.mem_cons_self, a.2.2⟩
    · obtain ⟨h1, v, h2, h3⟩ := ens_val b e h
      exact ⟨h1, v, List.mem_cons_of_mem _ h2, h3⟩
theorem prD_shaped {m : Mark × Ver} (h : okV m.2) : SeqAt.shaped (prD m) = true := by
  unfold SeqAt.shaped
  have h1 : PyData.canLay0 (prD m) = true := by
    show ((true && (true && true)) && ((true && (PyData.canLay0 (plc m.2.2.1) && (PyData.strOk m.2.2.2 && true))) && true)) = true
    rw [plc_lay, show PyData.strOk m.2.2.2 = true from h]
    rfl
  rw [h1, Bool.true_and]
  refine decide_eq_true ?_
  have h2 : PyData.depth (prD m) = max 1 (max (max 0 (max (PyData.depthAll (m.2.2.1.map stp) + 1) (max 0 0)) + 1) 0) + 1 := rfl
  have := depth_stps m.2.2.1
  rw [h2]
  omega
end L2

namespace L2
open PySem PySem.Spec PyProof.Rows PySem.NumText
/-! ### a comprehension over d.items() with a test -/
theorem comp_items {P : Program} {w : World} {a : Addr} {es : List Ent} {o : Obj} {nt : Nat} {cap : List Nat} {g : TG} {ti : TT} {te : TE} {σ : St} {H1 : Hp} {Q : VK} {D : Addr} (kb : Ent → Bool) (R : Ent → V → Hp → Prop) (hD : H1 D = none) (hP : Plain H1) (ha : H1 a = some (dO P w a es o)) (hx : es.length ≤ sizeLine)
    (mono : ∀ e y H H', R e y H → (∀ b o, b ≠ D → H b = some o → H' b = some o) → (∃ zs, H D = some (.lst zs)) → R e y H')
    (step : ∀ (i : Nat) e H2 T' (Tt : VK) (Tf : Hp → Prop), es[i]? = some e → Plain H2 → Same H1 H2 → H2 T' = none → (kb e = true → ∀ y H6, R e y H6 → Same H2 H6 → Plain H6 → Tt y H6) → (kb e = false → ∀ H6, Same H2 H6 → Plain H6 → Tf H6) →
      g (.ref T') (List.replicate nt none ++ caps cap σ) (upd H2 T' (.tup [.ref e.2.1, e.2.2])) fun σ4 H4 => ti σ4 H4 fun b H5 => if b = true then te σ4 H5 Tt else Tf H5)
    (fin : ∀ ys H2, Paired (fun e y => R e y H2) (es.filter kb) ys → H2 D = some (.lst ys) → Same H1 H2 → Plain H2 → Q (.ref D) H2) :
    CompW (Itm P w a es o) D nt cap g ti te σ H1 Q := by
  refine ⟨fun i m ys H2 => m = es.length - i ∧ i ≤ es.length ∧ ys.length ≤ i ∧ H2 D = some (.lst ys) ∧ Same H1 H2 ∧ Plain H2 ∧ Paired (fun e y => R e y H2) ((es.take i).filter kb) ys, ⟨_, rfl, Nat.zero_le _, Nat.le_refl _, upd_same, same_upd hD, hP.lst, .nil⟩, ?_⟩
  rintro i m ys H2 ⟨rfl, hi, hl, hd, hs, hp, hr⟩
  refine ⟨hd, ?_⟩
  by_cases hlt : i < es.length
  · refine .inr ⟨⟨hs _ _ ha, hlt⟩, by omega, fun v H3 hy => ?_⟩
    obtain ⟨T', e, rfl, hT, rfl, he⟩ := hy
    have e1 : es.take (i + 1) = es.take i ++ [e] := by
      obtain ⟨h', rfl⟩ := List.getElem?_eq_some_iff.mp he
      exact List.take_succ_eq_append_getElem h'
    refine step i e _ T' _ _ he hp hs hT (fun hk y H6 hR hs6 hp6 => ⟨hs6 _ _ hd, _, by omega, rfl, hlt, by simp; omega, upd_same, (hs.trans hs6).upd hD, hp6.lst, ?_⟩) (fun hk H6 hs6 hp6 => ⟨_, by omega, rfl, hlt, by omega, hs6 _ _ hd, hs.trans hs6, hp6, ?_⟩)
    · have up : ∀ b o, b ≠ D → H6 b = some o → (upd H6 D (.lst (ys ++ [y]))) b = some o := fun b o hb e => by rw [upd_ne hb]; exact e
      rw [e1, List.filter_append, show [e].filter kb = [e] by simp [hk]]
      refine Paired.snoc (Paired.mapP hr fun e' y' hr' => mono e' y' H6 _ (mono e' y' _ H6 hr' (fun b o _ q => hs6 b o q) ⟨_, hd⟩) up ⟨_, hs6 _ _ hd⟩) (mono e y H6 _ hR up ⟨_, hs6 _ _ hd⟩)
    · rw [e1, List.filter_append, show [e].filter kb = [] by simp [hk], List.append_nil]
      exact Paired.mapP hr fun e' y' hr' => mono e' y' _ H6 hr' (fun b o _ q => hs6 b o q) ⟨_, hd⟩
  · have e : i = es.length := by omega
    subst e
    rw [List.take_length] at hr
    exact .inl ⟨⟨hs _ _ ha, Nat.le_refl _⟩, fin ys H2 hr hd hs hp⟩
/-! ### lines -/
def vOf (ms : Sh) (m : Mark) : Ver := (look ms m).getD (0, [], "")
theorem paired_dvs {K : PySem.W.Frag} {H : Hp} {α : Type} {f : α → PyData} : ∀ {xs : List α} {ys : List V}, Paired (fun x y => DV K H (f x) y) xs ys → DVs K H (xs.map f) ys
  | _, _, .nil => rfl
  | _, _, .cons a b => ⟨_, _, rfl, a, paired_dvs b⟩
theorem vOf_in {ms : Sh} (nd : (ms.map (·.1)).Nodup) {m : Mark × Ver} (h : m ∈ ms) : vOf ms m.1 = m.2 := by
  unfold vOf
  rw [look_in nd h]
  rfl
end L2

namespace L2
open PySem PySem.Spec PyProof.Rows PySem.NumText
section
variable {X : Cx}
theorem fm_all {α β : Type} {f : α → Option β} {g : α → β} : ∀ {l : List α}, (∀ x ∈ l, f x = some (g x)) → l.filterMap f = l.map g
  | [], _ => rfl
  | x :: l, h => by
    rw [List.filterMap_cons, h x List.mem_cons_self, List.map_cons, fm_all fun y hy => h y (List.mem_cons_of_mem _ hy)]
end
/-! ### what is no tuple may be changed -/
def NoTup (o : HO) : Prop := (∀ xs, o ≠ .tup xs) ∧ ∀ ob u, o ≠ .frz ob u
theorem sqT_other {K : PySem.W.Frag} {H : Hp} {p : Addr} {o o' : HO} {a : Addr} {xs : List V} (hp : H p = some o) (n : NoTup o) (h : SqT K H a xs) : SqT K (upd H p o') a xs := by
  rcases h with (h | ⟨ob, h⟩) | h
  · exact .inl (.inl (by rw [upd_ne (ne_of h hp fun z => n.1 _ z.symm)]; exact h))
  · exact .inl (.inr ⟨ob, by rw [upd_ne (ne_of h hp fun z => n.2 _ _ z.symm)]; exact h⟩)
  · exact .inr h
mutual
theorem dv_other {K : PySem.W.Frag} {H : Hp} {p : Addr} {o o' : HO} (hp : H p = some o) (n : NoTup o) : ∀ (d : PyData) (v : V), noL d = true → DV K H d v → DV K (upd H p o') d v
  | .none, v, _, h => h
  | .bool b, v, _, h => h
  | .int i, v, _, h => h
  | .str x, v, _, h => h
  | .list xs, v, n', _ => by cases n'
  | .tuple xs, v, n', ⟨a, vs, h1, h2, h3⟩ => ⟨a, vs, h1, sqT_other hp n h2, dvs_other hp n xs vs n' h3⟩
  | .dict _, v, _, h => h.elim
theorem dvs_other {K : PySem.W.Frag} {H : Hp} {p : Addr} {o o' : HO} (hp : H p = some o) (n : NoTup o) : ∀ (ds : List PyData) (vs : List V), noLs ds = true → DVs K H ds vs → DVs K (upd H p o') ds vs
  | [], vs, _, h => h
  | d :: ds, vs, n', ⟨v, r, h1, h2, h3⟩ => by
    have n' : noL d = true ∧ noLs ds = true := by rw [noLs, Bool.and_eq_true] at n'; exact n'
    exact ⟨v, r, h1, dv_other hp n d v n'.1 h2, dvs_other hp n ds r n'.2 h3⟩
end
theorem noT_lst (xs : List V) : NoTup (.lst xs) := ⟨fun _ z => (by cases z), fun _ _ z => (by cases z)⟩
theorem noT_ext (φ : Heap → Prop) : NoTup (.ext φ) := ⟨fun _ z => (by cases z), fun _ _ z => (by cases z)⟩
theorem noLs_pr : ∀ ms : Sh, noLs (ms.map prD) = true
  | [] => rfl
  | m :: ms => by
    show (noL (prD m) && noLs (ms.map prD)) = true
    rw [noLs_pr ms, show noL (prD m) = true by show (noL (markD m.1) && (noL (ver m.2) && true)) = true; rw [noL_ver]; rfl]
    rfl
end L2

namespace L2
open PySem PySem.Spec PyProof.Rows PySem.NumText
/-! ### a table laid anew: each one is met on its own path -/
def Rc (mask : Nat) (o : Array (Option Nat)) (h : Int) (j : Nat) : Prop := ∃ N, (path (tm mask) N ((tm mask).probeStart h)).j = j ∧ ∀ i, i < N → own o (path (tm mask) i ((tm mask).probeStart h)).j ≠ none
theorem own_set {o : Array (Option Nat)} {j k x : Nat} (hj : j < o.size) : own (o.setIfInBounds j (some k)) x = if x = j then some k else own o x := by
  show (o.setIfInBounds j (some k)).getD x none = _
  rw [Array.getD_eq_getD_getElem?]
  by_cases h : x = j
  · subst h
    rw [if_pos rfl, Array.getElem?_setIfInBounds_self_of_lt hj]
    rfl
  · rw [if_neg h, Array.getElem?_setIfInBounds_ne (fun e => h e.symm)]
    show _ = o.getD x none
    rw [Array.getD_eq_getD_getElem?]
theorem lay_foldW {mask : Nat} (c : covers (mask + 1) = true) : ∀ (hs : List Int) (pre : List Int) (o : Array (Option Nat)) (n : Nat), o.size = mask + 1 → ((lives (mask + 1) o).map (·.2)).Perm (List.range n) → n + hs.length ≤ mask → pre.length = n → (∀ j k, own o j = some k → ∃ h, pre[k]? = some h ∧ Rc mask o h j) →
    ∃ o', hs.foldl (fun (acc : Option (Array (Option Nat) × Nat)) h => do
      let (owner, k) ← acc
      let j ← SetTable.layClean.free mask owner (SetTable.turns mask) (SetTable.bits h % (mask + 1)) (SetTable.bits h)
      pure (owner.setIfInBounds j (some k), k + 1)) (some (o, n)) = some (o', n + hs.length) ∧ o'.size = mask + 1 ∧ ((lives (mask + 1) o').map (·.2)).Perm (List.range (n + hs.length)) ∧ (∀ j k, own o' j = some k → ∃ h, (pre ++ hs)[k]? = some h ∧ Rc mask o' h j) := by
  intro hs
  induction hs with
  | nil => intro pre o n h1 h2 _ _ h5; exact ⟨o, rfl, h1, h2, by rw [List.append_nil]; exact h5⟩
  | cons h hs ih =>
    intro pre o n h1 h2 h3 h4 h5
    rw [List.length_cons] at h3
    obtain ⟨j0, hj0, he0⟩ := some_free h2 (by omega)
    have hb : SetTable.bits h < 2 ^ 64 := by
      unfold SetTable.bits
      have := Int.emod_nonneg h (show (2 ^ 64 : Int) ≠ 0 by decide)
      have := Int.emod_lt_of_pos h (show (0 : Int) < 2 ^ 64 by decide)
      omega
    obtain ⟨k, hk, e⟩ := all_starts c (Nat.mod_lt (SetTable.bits h) (Nat.succ_pos mask)) hb hj0
    obtain ⟨j, ej, hj, hje⟩ := free_some h1 hj0 he0 k (SetTable.turns mask) _ _ (by unfold SetTable.turns; omega) (Nat.mod_lt (SetTable.bits h) (Nat.succ_pos mask)) e
    obtain ⟨N, n1, n2⟩ := free_path h1 _ _ _ j ((tm mask).probeStart h) (Nat.mod_lt (SetTable.bits h) (Nat.succ_pos mask)) rfl rfl rfl rfl ej
    have hp := lives_set (k := n) h1 hj hje
    have grow : ∀ x, own o x ≠ none → own (o.setIfInBounds j (some n)) x ≠ none := fun x hx => by
      rw [own_set (by omega)]
      by_cases hxj : x = j
      · rw [if_pos hxj]; exact fun z => by cases z
      · rw [if_neg hxj]; exact hx
    obtain ⟨o', e1, e2, e3, e4⟩ := ih (pre ++ [h]) (o.setIfInBounds j (some n)) (n + 1) (by rw [Array.size_setIfInBounds]; exact h1) (by
      refine (hp.map _).trans ?_
      rw [List.map_cons, List.range_succ]
      exact ((List.Perm.cons n h2).trans (List.perm_append_singleton n (List.range n)).symm)) (by omega) (by rw [List.length_append, List.length_singleton, h4]) (fun x k hx => by
      rw [own_set (by omega)] at hx
      by_cases hxj : x = j
      · rw [if_pos hxj] at hx
        cases hx
        exact ⟨h, by rw [← h4, List.getElem?_concat_length], N, by rw [hxj]; exact n1, fun i hi => grow _ (n2 i hi)⟩
      · rw [if_neg hxj] at hx
        obtain ⟨h', q1, M, q2, q3⟩ := h5 x k hx
        have hkl := (List.getElem?_eq_some_iff.mp q1).1
        exact ⟨h', by rw [List.getElem?_append_left hkl]; exact q1, M, q2, fun i hi => grow _ (q3 i hi)⟩)
    refine ⟨o', ?_, e2, by rw [List.length_cons, show n + (hs.length + 1) = n + 1 + hs.length by omega]; exact e3, by rw [show pre ++ h :: hs = pre ++ [h] ++ hs by simp]; exact e4⟩
    rw [List.foldl_cons, List.length_cons, show n + (hs.length + 1) = n + 1 + hs.length by omega, ← e1]
    congr 1
    show (SetTable.layClean.free mask o (SetTable.turns mask) (SetTable.bits h % (mask + 1)) (SetTable.bits h)).bind _ = _
    rw [ej]
    rfl
theorem lay_cleanW {mask : Nat} (c : covers (mask + 1) = true) (hs : Array Int) (h : hs.size ≤ mask) : ∃ o, SetTable.layClean mask hs = some o ∧ o.size = mask + 1 ∧ ((lives (mask + 1) o).map (·.2)).Perm (List.range hs.size) ∧ (∀ j k, own o j = some k → ∃ h, hs[k]? = some h ∧ Rc mask o h j) := by
  have hn : ∀ j, own (Array.replicate (mask + 1) none) j = none := fun j => by
    show (Array.replicate (mask + 1) (none : Option Nat)).getD j none = none
    rw [Array.getD_eq_getD_getElem?, Array.getElem?_replicate]
    split <;> rfl
  have h0 : lives (mask + 1) (Array.replicate (mask + 1) none) = [] := by
    unfold lives
    refine List.filterMap_eq_nil_iff.mpr fun j hj => ?_
    rw [hn]
    rfl
  obtain ⟨o, e1, e2, e3, e4⟩ := lay_foldW c hs.toList [] (Array.replicate (mask + 1) none) 0 (by simp) (by rw [h0]; exact .nil) (by simpa using h) rfl (fun j k e => by rw [hn] at e; cases e)
  refine ⟨o, ?_, e2, by simpa using e3, fun j k e => ?_⟩
  · unfold SetTable.layClean
    rw [← Array.foldl_toList]
    exact congrArg (Option.map (·.1)) e1
  · obtain ⟨h', q1, q2⟩ := e4 j k e
    exact ⟨h', by rw [List.nil_append, Array.getElem?_toList] at q1; exact q1, q2⟩
theorem lives_fst (M : Nat) (o : Array (Option Nat)) : (lives M o).map (·.1) = (List.range M).filter fun j => (own o j).isSome := by
  unfold lives
  induction List.range M with
  | nil => rfl
  | cons j l ih =>
    cases e : own o j with
    | none => rw [List.filterMap_cons_none (by rw [e]; rfl), List.filter_cons_of_neg (by rw [e]; decide)]; exact ih
    | some k => rw [List.filterMap_cons_some (by rw [e]; rfl), List.map_cons, List.filter_cons_of_pos (by rw [e]; rfl), ih]
theorem lives_mem {M : Nat} {o : Array (Option Nat)} {j k : Nat} (h : (j, k) ∈ lives M o) : own o j = some k := by
  obtain ⟨x, _, hx⟩ := List.mem_filterMap.mp h
  cases e : own o x with
  | none => rw [e] at hx; cases hx
  | some v => rw [e] at hx; cases hx; exact e
theorem laid_okW {mask finger moves : Nat} {led plain : Bool} (c : covers (mask + 1) = true) (es : Array (Int × Value)) (h : es.size ≤ mask) : ∃ pl order, SetTable.laid mask finger moves led plain (es.map (·.1)) = some ({ mask, place := pl, dummies := #[], finger, led, moves, plain }, order) ∧ pl.size = es.size ∧ (order.filterMap (es[·]?)).toList.Perm es.toList ∧ ∀ t : ST, t.mask = mask → t.place = pl → Wp t (order.filterMap (es[·]?)) := by
  obtain ⟨o, e1, e2, e3, e4⟩ := lay_cleanW c (es.map (·.1)) (by simpa using h)
  have e3 : ((lives (mask + 1) o).map (·.2)).Perm (List.range es.size) := by simpa using e3
  refine ⟨((lives (mask + 1) o).map (·.1)).toArray, ((lives (mask + 1) o).map (·.2)).toArray, ?_, ?_, ?_, fun t hm hp => ?_⟩
  · unfold SetTable.laid
    rw [e1]
    rfl
  · have := e3.length_eq
    rw [List.length_map, List.length_range] at this
    simpa using this
  · rw [Array.toList_filterMap]
    refine (e3.filterMap _).trans ?_
    have : (List.range es.size).filterMap (fun x => es[x]?) = es.toList := by
      have go : ∀ (l : List (Int × Value)), (List.range l.length).filterMap (fun x => l[x]?) = l := by
        intro l
        induction l with
        | nil => rfl
        | cons a l ih =>
          rw [List.length_cons, List.range_succ_eq_map, List.filterMap_cons]
          show a :: List.filterMap _ (List.map Nat.succ (List.range l.length)) = a :: l
          rw [List.filterMap_map]
          exact congrArg (a :: ·) ih
      have := go es.toList
      simpa using this
    rw [this]
  · have hk : ∀ p ∈ lives (mask + 1) o, p.2 < es.size := fun p hp' => List.mem_range.mp (e3.mem_iff.mp (List.mem_map_of_mem hp'))
    have hes : (((lives (mask + 1) o).map (·.2)).toArray.filterMap (es[·]?)).toList = (lives (mask + 1) o).map fun p => es.getD p.2 (0, .none) := by
      rw [Array.toList_filterMap, List.filterMap_map]
      refine fm_all fun p hp' => ?_
      show es[p.2]? = some (es.getD p.2 (0, .none))
      rw [Array.getD_eq_getD_getElem?, Array.getElem?_eq_getElem (hk p hp')]
      rfl
    have srt : ((lives (mask + 1) o).map (·.1)).Pairwise (· < ·) := by
      rw [lives_fst]
      exact List.Pairwise.filter _ List.pairwise_lt_range
    refine ⟨?_, fun i j e h1 h2 => ?_⟩
    · rw [hp]
      intro a b u v hab ea eb
      rw [List.getElem?_toArray] at ea eb
      obtain ⟨ha, ea⟩ := List.getElem?_eq_some_iff.mp ea
      obtain ⟨hb, eb⟩ := List.getElem?_eq_some_iff.mp eb
      rw [← ea, ← eb]
      exact List.pairwise_iff_getElem.mp srt a b ha hb hab
    · rw [hp, List.getElem?_toArray, List.getElem?_map] at h1
      rw [← Array.getElem?_toList, hes, List.getElem?_map] at h2
      cases hL : (lives (mask + 1) o)[i]? with
      | none => rw [hL] at h1; cases h1
      | some p =>
        rw [hL] at h1 h2
        cases h1
        cases h2
        have hm' := List.mem_of_getElem? hL
        obtain ⟨h', q1, N, q2, q3⟩ := e4 p.1 p.2 (lives_mem hm')
        have eh : h' = (es.getD p.2 (0, .none)).1 := by
          rw [Array.getElem?_map, Array.getElem?_eq_getElem (hk p hm')] at q1
          cases q1
          rw [Array.getD_eq_getD_getElem?, Array.getElem?_eq_getElem (hk p hm')]
          rfl
        refine ⟨N, ?_, fun k hk' => ?_⟩
        · rw [path_mask (t' := tm mask) hm, start_mask (t' := tm mask) hm, ← eh]; exact q2
        · rw [path_mask (t' := tm mask) hm, start_mask (t' := tm mask) hm, ← eh]
          have q4 := q3 k hk'
          generalize (path (tm mask) k ((tm mask).probeStart h')).j = x at q4
          have hx : x < mask + 1 := by
            refine Classical.byContradiction fun hc => q4 ?_
            show o.getD x none = none
            rw [Array.getD_eq_getD_getElem?, Array.getElem?_eq_none (by omega)]
            rfl
          have hxm : x ∈ (lives (mask + 1) o).map (·.1) := by
            rw [lives_fst]
            refine List.mem_filter.mpr ⟨List.mem_range.mpr hx, ?_⟩
            cases e : own o x with
            | none => exact absurd e q4
            | some v => rfl
          obtain ⟨i', hi'⟩ := List.getElem?_of_mem hxm
          exact ⟨i', by rw [hp, List.getElem?_toArray]; exact hi'⟩
/-! ### searches -/
section
variable {prog : Program} {w : World} {A : Around} {E : Value → Shared → Prop} {s : Shared}
theorem search_newW {a : Addr} {o : Obj} {es : Array (Int × Value)} {ep : Nat} {t : ST} {x : Value} {dx : PyData} {h : Int} {Q : SetFound → Shared → Prop} (ho : s.heap.get? a = some o) (hd : o.data = .set es ep t) (hf : t.fits es.size = true) (f : Fit t)
    (hx : El s.heap x dx) (hes : ∀ e ∈ es.toList, ∃ d, El s.heap e.2 d ∧ PyData.eqv d dx = false) (hu : A.units + 10 < cLine) (b : Bool) (hQ : ∀ N, t.slot (path t N (t.probeStart h)).j = .empty → (∀ k, k < N → ∃ i : Nat, t.place[i]? = some (path t k (t.probeStart h)).j) → Q (.free (path t N (t.probeStart h)).j false) s) : wpAny (model prog w) A (setSearch a x h b) Q E s := by
  obtain ⟨s9, sp, sd⟩ := start_ok t h
  obtain ⟨N, hN, he, hl⟩ := search_ends f s9 sp
  have hmask : t.mask ≤ 511 := by rcases f.msk with e | e | e | e <;> omega
  have hN2 : N < 10 * (511 + 15) := by
    unfold SetTable.turns at hN
    omega
  have hgw : t.gaveWay = false := by
    unfold SetTable.gaveWay
    rcases f.msk with e | e | e | e <;> rw [e] <;> rfl
  have hpl : t.place.size = es.size := by
    unfold SetTable.fits at hf
    rw [Bool.and_eq_true] at hf
    exact eq_of_beq hf.1
  obtain ⟨as, rx⟩ := hx.rd
  -- from each place of the path
  have from_ : ∀ (d m fuel : Nat), d = N - m → m ≤ N → d < fuel → ∀ (stand : Option SetTable.Probe), stand.getD (t.probeStart h) = path t m (t.probeStart h) → wpAny (model prog w) A (setSearchFrom a x h b fuel stand) Q E s := by
    intro d
    induction d using Nat.strongRecOn with
    | ind d ih =>
      intro m fuel hdm hm hfu stand hst
      cases fuel with
      | zero => omega
      | succ fuel =>
        unfold setSearchFrom
        refine wpAny_bind (wpAny_setState_of ho hd hf ?_)
        dsimp only
        rw [hgw]
        simp only [Bool.false_eq_true, if_false]
        rw [hst]
        unfold SetTable.probe
        rcases go_spec (t := t) (h := h) sd he hl (N - m) m (10 * SetTable.turns t.mask) rfl hm (by omega) with ⟨k, i, k1, k2, k3, k4, k5⟩ | k5
        · rw [k5]
          dsimp only
          obtain ⟨i2, hi2, hpi⟩ := hl k k2
          rw [k3] at hi2
          cases hi2
          have hil : i < es.size := by rw [← hpl]; exact (Array.getElem?_eq_some_iff.mp hpi).1
          have hei : es[i]? = some es[i] := Array.getElem?_eq_getElem hil
          have hmem : es[i] ∈ es.toList := by rw [← Array.getElem_toList hil]; exact List.getElem_mem _
          obtain ⟨dy, hy, hne⟩ := hes _ hmem
          obtain ⟨bs, ry⟩ := hy.rd
          have go2 : wpAny (model prog w) A (do
              let some (_, y) := es[i]? | unsupported "internal:set-entry"
              let equal ← holding [y] (eqBool y x)
              let (es', _, t') ← setState a
              if b && equal then return .there none
              let some same := t'.sameMemory t.moves t.mask | unsupported "set.changed-during-lookup:is-the-new-block-at-the-old-address"
              let still ← match (if same then t'.slot (path t k (t.probeStart h)).j else .empty) with
                | .live i' => match es'[i']? with
                  | some (_, y') => do pure (if ← isSame y' y then some i' else none)
                  | none => pure none
                | _ => pure none
              match still with
              | none => rule "set.search.anew"; setSearchFrom a x h b fuel none
              | some i' => if equal then return .there (some i') else setSearchFrom a x h b fuel (some (path t (k + 1) (t.probeStart h)))) Q E s := by
            rw [hei]
            dsimp only
            refine wpAny_bind (wpAny_holding (SeqAt.eqAt_reads dy dx A s _ _ bs as ry rx (lay_onlyI dy hy.oi) (lay_onlyI dx hx.oi) (by have := hy.dp; have : min dy.depth dx.depth ≤ dy.depth := Nat.min_le_left _ _; omega) prog w _ _ ?_))
            rw [hne]
            refine wpAny_bind (wpAny_setState_of ho hd hf ?_)
            dsimp only
            simp only [Bool.and_false, Bool.false_eq_true, if_false]
            have hsm : t.sameMemory t.moves t.mask = some true := by unfold SetTable.sameMemory; rw [if_pos (beq_self_eq_true _)]
            rw [hsm]
            dsimp only
            simp only [if_true]
            rw [k3]
            dsimp only
            rw [hei]
            dsimp only
            obtain ⟨b, hb⟩ := hy.rf
            rw [hb]
            refine wpAny_bind (wpAny_isSame_ref_self (wpAny_bind (wpAny_pure ?_)))
            simp only [if_true]
            exact ih (N - (k + 1)) (by omega) (k + 1) fuel rfl (by omega) (by omega) (some _) rfl
          cases hled : t.led with
          | true =>
            simp only [Bool.not_true, Bool.false_eq_true, if_false]
            exact go2
          | false =>
            simp only [Bool.not_false, if_true]
            refine wpAny_bind (seen_no hx _ _ (fun y hy => ?_) ?_)
            · obtain ⟨e, he1, rfl⟩ := List.mem_map.mp hy
              have he2 : e ∈ es.toList := by
                have := Array.mem_toList_iff.mp he1
                exact Array.mem_toList_iff.mpr (Array.mem_filter.mp this).1
              obtain ⟨d', hd', _⟩ := hes e he2
              exact ⟨d', hd'⟩
            · simp only [Bool.false_eq_true, if_false]
              exact go2
        · rw [k5]
          dsimp only
          exact wpAny_pure (hQ N he fun k hk => let ⟨i, _, q⟩ := hl k hk; ⟨i, q⟩)
  unfold setSearch
  exact from_ N 0 100000 rfl (Nat.zero_le _) (by omega) none rfl
end
end L2

namespace L2
open PySem PySem.Spec PyProof.Rows PySem.NumText
theorem go_find {t : ST} {hashAt : Nat → Int} {h : Int} {p : SetTable.Probe} {n0 i0 : Nat} (hs : t.slot (path t n0 p).j = .live i0) (hh : (hashAt i0 == h) = true) (hl : ∀ k, k < n0 → ∃ i : Nat, t.slot (path t k p).j = .live i) :
    ∀ (d m fuel : Nat), d = n0 - m → m ≤ n0 → d < fuel → ∃ k i, m ≤ k ∧ k ≤ n0 ∧ t.slot (path t k p).j = .live i ∧ SetTable.probe.go t hashAt h fuel (path t m p) = some (.candidate (path t k p).j i (path t (k + 1) p)) := by
  intro d
  induction d with
  | zero =>
    intro m fuel hdm hm hf
    have e : m = n0 := by omega
    subst e
    cases fuel with
    | zero => omega
    | succ fuel =>
      refine ⟨m, i0, Nat.le_refl _, Nat.le_refl _, hs, ?_⟩
      unfold SetTable.probe.go
      rw [hs]
      dsimp only
      rw [if_pos hh, path_succ]
  | succ d ih =>
    intro m fuel hdm hm hf
    cases fuel with
    | zero => omega
    | succ fuel =>
      obtain ⟨i, hi⟩ := hl m (by omega)
      by_cases hh : (hashAt i == h) = true
      · refine ⟨m, i, Nat.le_refl _, by omega, hi, ?_⟩
        unfold SetTable.probe.go
        rw [hi]
        dsimp only
        rw [if_pos hh, path_succ]
      · obtain ⟨k, i', h1, h2, h3, h4⟩ := ih (m + 1) fuel (by omega) (by omega) (by omega)
        refine ⟨k, i', by omega, h2, h3, ?_⟩
        unfold SetTable.probe.go
        rw [hi]
        dsimp only
        rw [if_neg hh, ← path_succ]
        exact h4
section
variable {prog : Program} {w : World} {A : Around} {E : Value → Shared → Prop} {s : Shared}
theorem search_oldW {a : Addr} {o : Obj} {es : Array (Int × Value)} {ep : Nat} {t : ST} {x : Value} {dx : PyData} {h : Int} {Q : SetFound → Shared → Prop} (ho : s.heap.get? a = some o) (hd : o.data = .set es ep t) (hf : t.fits es.size = true) (f : Fit t)
    (hx : El s.heap x dx) (dat : Nat → PyData) (hes : ∀ (i : Nat) e, es[i]? = some e → El s.heap e.2 (dat i)) {i0 n0 : Nat} {y0 : Value} (hi0 : es[i0]? = some (h, y0)) (hd0 : PyData.eqv (dat i0) dx = true) (hs0 : t.slot (path t n0 (t.probeStart h)).j = .live i0) (hl0 : ∀ k, k < n0 → ∃ i : Nat, t.slot (path t k (t.probeStart h)).j = .live i)
    (hu : A.units + 10 < cLine) (b : Bool) (hQ : ∀ r : Option Nat, (b = false → r.isSome = true) → Q (.there r) s) : wpAny (model prog w) A (setSearch a x h b) Q E s := by
  obtain ⟨s9, sp, sd⟩ := start_ok t h
  obtain ⟨N, hN, he, hl⟩ := search_ends f s9 sp
  have hmask : t.mask ≤ 511 := by rcases f.msk with e | e | e | e <;> omega
  have hN2 : N < 10 * (511 + 15) := by
    unfold SetTable.turns at hN
    omega
  have hn0 : n0 < N := by
    refine Classical.byContradiction fun hc => ?_
    rcases Nat.lt_or_eq_of_le (Nat.le_of_not_lt hc) with hlt | heq
    · obtain ⟨i, hi⟩ := hl0 N hlt
      rw [he] at hi
      cases hi
    · rw [heq, hs0] at he
      cases he
  have hgw : t.gaveWay = false := by
    unfold SetTable.gaveWay
    rcases f.msk with e | e | e | e <;> rw [e] <;> rfl
  have hpl : t.place.size = es.size := by
    unfold SetTable.fits at hf
    rw [Bool.and_eq_true] at hf
    exact eq_of_beq hf.1
  obtain ⟨as, rx⟩ := hx.rd
  have from_ : ∀ (d m fuel : Nat), d = n0 - m → m ≤ n0 → d < fuel → ∀ (stand : Option SetTable.Probe), stand.getD (t.probeStart h) = path t m (t.probeStart h) → wpAny (model prog w) A (setSearchFrom a x h b fuel stand) Q E s := by
    intro d
    induction d using Nat.strongRecOn with
    | ind d ih =>
      intro m fuel hdm hm hfu stand hst
      cases fuel with
      | zero => omega
      | succ fuel =>
        unfold setSearchFrom
        refine wpAny_bind (wpAny_setState_of ho hd hf ?_)
        dsimp only
        rw [hgw]
        simp only [Bool.false_eq_true, if_false]
        rw [hst]
        unfold SetTable.probe
        obtain ⟨k, i, k1, k2, k3, k5⟩ := go_find (t := t) (h := h) (hashAt := fun i => (Option.map (fun (x : Int × Value) => x.1) es[i]?).getD 0) hs0 (by rw [hi0]; exact beq_self_eq_true h) hl0 (n0 - m) m (10 * SetTable.turns t.mask) rfl hm (by omega)
        have k5 : SetTable.probe.go t _ h (10 * SetTable.turns t.mask) (path t m (t.probeStart h)) = _ := k5
        erw [k5]
        dsimp only
        obtain ⟨i2, hi2, hpi⟩ := hl k (by omega)
        rw [k3] at hi2
        cases hi2
        have hil : i < es.size := by rw [← hpl]; exact (Array.getElem?_eq_some_iff.mp hpi).1
        have hei : es[i]? = some es[i] := Array.getElem?_eq_getElem hil
        have hmem : es[i] ∈ es.toList := by rw [← Array.getElem_toList hil]; exact List.getElem_mem _
        obtain ⟨dy, hdy⟩ : ∃ dy, dy = dat i := ⟨_, rfl⟩
        have hy := hes i _ hei
        rw [← hdy] at hy
        obtain ⟨bs, ry⟩ := hy.rd
        have go2 : wpAny (model prog w) A (do
            let some (_, y) := es[i]? | unsupported "internal:set-entry"
            let equal ← holding [y] (eqBool y x)
            let (es', _, t') ← setState a
            if b && equal then return .there none
            let some same := t'.sameMemory t.moves t.mask | unsupported "set.changed-during-lookup:is-the-new-block-at-the-old-address"
            let still ← match (if same then t'.slot (path t k (t.probeStart h)).j else .empty) with
              | .live i' => match es'[i']? with
                | some (_, y') => do pure (if ← isSame y' y then some i' else none)
                | none => pure none
              | _ => pure none
            match still with
            | none => rule "set.search.anew"; setSearchFrom a x h b fuel none
            | some i' => if equal then return .there (some i') else setSearchFrom a x h b fuel (some (path t (k + 1) (t.probeStart h)))) Q E s := by
          rw [hei]
          dsimp only
          refine wpAny_bind (wpAny_holding (SeqAt.eqAt_reads dy dx A s _ _ bs as ry rx (lay_onlyI dy hy.oi) (lay_onlyI dx hx.oi) (by have := hy.dp; have : min dy.depth dx.depth ≤ dy.depth := Nat.min_le_left _ _; omega) prog w _ _ ?_))
          have hsm : t.sameMemory t.moves t.mask = some true := by unfold SetTable.sameMemory; rw [if_pos (beq_self_eq_true _)]
          obtain ⟨b0, hb0⟩ := hy.rf
          cases hne : PyData.eqv dy dx with
          | true =>
            refine wpAny_bind (wpAny_setState_of ho hd hf ?_)
            dsimp only
            cases b with
            | true =>
              simp only [Bool.and_self, if_true]
              exact wpAny_pure (hQ none fun z => by cases z)
            | false =>
              simp only [Bool.false_and, Bool.false_eq_true, if_false]
              rw [hsm]
              dsimp only
              simp only [if_true]
              rw [k3]
              dsimp only
              rw [hei]
              dsimp only
              rw [hb0]
              refine wpAny_bind (wpAny_isSame_ref_self (wpAny_bind (wpAny_pure ?_)))
              simp only [if_true]
              exact wpAny_pure (hQ (some i) fun _ => rfl)
          | false =>
            refine wpAny_bind (wpAny_setState_of ho hd hf ?_)
            dsimp only
            simp only [Bool.and_false, Bool.false_eq_true, if_false]
            rw [hsm]
            dsimp only
            simp only [if_true]
            rw [k3]
            dsimp only
            rw [hei]
            dsimp only
            rw [hb0]
            refine wpAny_bind (wpAny_isSame_ref_self (wpAny_bind (wpAny_pure ?_)))
            simp only [if_true]
            have hk0 : k ≠ n0 := fun e => by
              rw [e, hs0] at k3
              cases k3
              rw [hdy, hd0] at hne
              cases hne
            exact ih (n0 - (k + 1)) (by omega) (k + 1) fuel rfl (by omega) (by omega) (some _) rfl
        cases hled : t.led with
        | true =>
          simp only [Bool.not_true, Bool.false_eq_true, if_false]
          exact go2
        | false =>
          simp only [Bool.not_false, if_true]
          refine wpAny_bind (seen_no hx _ _ (fun y hy => ?_) ?_)
          · obtain ⟨e, he1, rfl⟩ := List.mem_map.mp hy
            have he2 : e ∈ es.toList := by
              have := Array.mem_toList_iff.mp he1
              exact Array.mem_toList_iff.mpr (Array.mem_filter.mp this).1
            obtain ⟨j, hj⟩ := List.getElem?_of_mem he2
            rw [Array.getElem?_toList] at hj
            exact ⟨_, hes j e hj⟩
          · simp only [Bool.false_eq_true, if_false]
            exact go2
  unfold setSearch
  exact from_ n0 0 100000 rfl (Nat.zero_le _) (by omega) none rfl
theorem relay_newW {a : Addr} {o : Obj} {es : Array (Int × Value)} {ep : Nat} {t : ST} {wanted m' : Nat} {Q : Unit → Shared → Prop} (ho : s.heap.get? a = some o) (hd : o.data = .set es ep t) (hf : t.fits es.size = true)
    (hw : SetTable.sizeAbove wanted = m' + 1) (hm : m' = 7 ∨ m' = 31 ∨ m' = 127 ∨ m' = 511) (hs : es.size ≤ m')
    (h : ∀ es' t', es'.toList.Perm es.toList → t'.place.size = es.size → t'.dummies = #[] → t'.mask = m' → Wp t' es' → Q () { s with heap := s.heap.update a (Obj.putSet es' t') }) : wpAny (model prog w) A (setRelay a wanted) Q E s := by
  unfold setRelay
  refine wpAny_bind (wpAny_setState_of ho hd hf ?_)
  dsimp only
  have hc : covers (m' + 1) = true := by
    rcases hm with e | e | e | e <;> rw [e]
    · exact cov8
    · exact cov32
    · exact cov128
    · exact cov512
  obtain ⟨pl, order, e1, e2, e3, e4⟩ := laid_okW (mask := m') (finger := t.finger) (moves := t.movedTo m') (led := t.led) (plain := t.plain) hc es hs
  have hr : t.relaid (es.map (·.1)) wanted = some ({ mask := m', place := pl, dummies := #[], finger := t.finger, led := t.led, moves := t.movedTo m', plain := t.plain }, order) := by
    unfold SetTable.relaid
    rw [hw, Nat.add_sub_cancel]
    exact e1
  have hsz : (order.filterMap (es[·]?)).size = es.size := by rw [← Array.length_toList, e3.length_eq, Array.length_toList]
  rw [hw, hr]
  have hlt : ¬ (m' + 1 > sizeLine) := by rw [sizeLine_eq]; omega
  rw [if_neg hlt]
  refine wpAny_bind (wpAny_of_eq (a := (order.filterMap (es[·]?), ({ mask := m', place := pl, dummies := #[], finger := t.finger, led := t.led, moves := t.movedTo m', plain := t.plain } : SetTable))) ?_ ?_)
  · show (if ((order.filterMap (es[·]?)).size != es.size) = true then _ else _) = _
    rw [hsz, if_neg (by simp)]
  · dsimp only
    exact wpAny_storeSet_of ho hd (h _ _ e3 e2 rfl rfl (e4 _ rfl rfl)) (by rw [hsz, sizeLine_eq]; omega)
end
end L2

namespace L2
open PySem PySem.Spec PyProof.Rows PySem.NumText
theorem paired_ins {α β : Type} {R : α → β → Prop} {e : α} {d : β} (h : R e d) : ∀ (p : Nat) {l : List α} {m : List β}, Paired R l m → Paired R (l.take p ++ e :: l.drop p) (m.take p ++ d :: m.drop p)
  | 0, _, _, r => by
    rw [List.take_zero, List.take_zero, List.drop_zero, List.drop_zero]
    exact .cons h r
  | p + 1, _, _, .nil => by
    rw [List.take_nil, List.drop_nil, List.take_nil, List.drop_nil]
    exact .cons h .nil
  | p + 1, _, _, .cons a b => .cons a (paired_ins h p b)
theorem paired_perm {α β : Type} {R : α → β → Prop} {l' l : List α} (h : l'.Perm l) : ∀ {m : List β}, Paired R l m → ∃ m', m'.Perm m ∧ Paired R l' m' := by
  induction h with
  | nil => intro m r; exact ⟨m, .refl _, r⟩
  | cons x _ ih =>
    intro m r
    cases r with
    | cons a b =>
      obtain ⟨m', h1, h2⟩ := ih b
      exact ⟨_ :: m', h1.cons _, .cons a h2⟩
  | swap x y l =>
    intro m r
    cases r with
    | cons a b =>
      cases b with
      | cons c d => exact ⟨_ :: _ :: _, .swap _ _ _, .cons c (.cons a d)⟩
  | trans _ _ ih1 ih2 =>
    intro m r
    obtain ⟨m1, h1, h2⟩ := ih2 r
    obtain ⟨m2, h3, h4⟩ := ih1 h2
    exact ⟨m2, h3.trans h1, h4⟩
theorem paired_at {α β : Type} {R : α → β → Prop} : ∀ {l : List α} {m : List β}, Paired R l m → ∀ {i : Nat} {e : α}, l[i]? = some e → ∃ d, m[i]? = some d ∧ R e d
  | _, _, .nil, i, e, h => by simp at h
  | _, _, .cons a b, 0, e, h => by cases (Option.some.inj h); exact ⟨_, rfl, a⟩
  | _, _, .cons a b, i + 1, e, h => by
    obtain ⟨r, h1, h2⟩ := paired_at b (i := i) (by simpa using h)
    exact ⟨r, by simpa using h1, h2⟩
theorem paired_at2 {α β : Type} {R : α → β → Prop} : ∀ {l : List α} {m : List β}, Paired R l m → ∀ {i : Nat} {d : β}, m[i]? = some d → ∃ e, l[i]? = some e ∧ R e d
  | _, _, .nil, i, e, h => by simp at h
  | _, _, .cons a b, 0, e, h => by cases (Option.some.inj h); exact ⟨_, rfl, a⟩
  | _, _, .cons a b, i + 1, e, h => by
    obtain ⟨r, h1, h2⟩ := paired_at2 b (i := i) (by simpa using h)
    exact ⟨r, by simpa using h1, h2⟩
/-! ### a set of unlike data -/
abbrev Mem := Addr × PyData
def MemR (e : Int × Value) (q : Mem) : Prop := e.2 = .ref q.1 ∧ e.1 = hashD q.2
def SetO (o : Obj) (qs : List Mem) : Prop := ∃ es ep t qs', o.ExactSet ∧ o.data = .set es ep t ∧ t.fits es.size = true ∧ Fit t ∧ t.fill * 5 < t.mask * 3 ∧ Wp t es ∧ qs'.Perm qs ∧ Paired MemR es.toList qs'
def SetX (h : Heap) (a : Addr) (qs : List Mem) : Prop := ∃ o, h.get? a = some o ∧ SetO o qs
section
variable {prog : Program} {w : World} {A : Around} {E : Value → Shared → Prop} {s : Shared}
/-- a search that finds what is there -/
theorem search_there {a : Addr} {o : Obj} {es : Array (Int × Value)} {ep : Nat} {t : ST} {qs' : List Mem} {x : Value} {dx : PyData} {Q : SetFound → Shared → Prop} (ho : s.heap.get? a = some o) (hd : o.data = .set es ep t) (hf : t.fits es.size = true) (f : Fit t) (wp : Wp t es) (hp : Paired MemR es.toList qs')
    (hel : ∀ q ∈ qs', El s.heap (.ref q.1) q.2) (hx : El s.heap x dx) {q : Mem} (hq : q ∈ qs') (e : q.2 = dx) (hu : A.units + 10 < cLine) (b : Bool) (hQ : ∀ r : Option Nat, (b = false → r.isSome = true) → Q (.there r) s) : wpAny (model prog w) A (setSearch a x (hashD dx) b) Q E s := by
  obtain ⟨i0, hi0⟩ := List.getElem?_of_mem hq
  obtain ⟨e0, he0, hr0⟩ := paired_at2 hp hi0
  rw [Array.getElem?_toList] at he0
  have hpl : t.place.size = es.size := by
    have := hf
    unfold SetTable.fits at this
    rw [Bool.and_eq_true] at this
    exact eq_of_beq this.1
  have hil : i0 < t.place.size := by rw [hpl]; exact (Array.getElem?_eq_some_iff.mp he0).1
  have hpi := Array.getElem?_eq_getElem hil
  obtain ⟨n0, hn, hlv⟩ := wp.rch i0 _ e0 hpi he0
  have hh : e0.1 = hashD dx := by rw [hr0.2, e]
  rw [hh] at hn hlv
  refine search_oldW ho hd hf f hx (fun i => (qs'.getD i (0, .none)).2) (fun i e1 he1 => ?_) (i0 := i0) (n0 := n0) (y0 := e0.2) (by rw [he0, ← hh]) ?_ (by rw [hn]; exact slot_at wp.mono hpi) (fun k hk => let ⟨i', hi'⟩ := hlv k hk; ⟨i', slot_at wp.mono hi'⟩) hu b hQ
  · obtain ⟨q1, hq1, hr1⟩ := paired_at hp (i := i) (e := e1) (by rw [Array.getElem?_toList]; exact he1)
    rw [hr1.1, List.getD_eq_getElem?_getD, hq1]
    exact hel q1 (List.mem_of_getElem? hq1)
  · rw [List.getD_eq_getElem?_getD, hi0]
    show PyData.eqv q.2 dx = true
    rw [e]
    exact eqv_self hx.oi
theorem unlike_of {qs' : List Mem} {es : Array (Int × Value)} {dx : PyData} (hp : Paired MemR es.toList qs') (hel : ∀ q ∈ qs', El s.heap (.ref q.1) q.2) (hx : onlyI dx = true) (hn : ∀ q ∈ qs', q.2 ≠ dx) : ∀ e ∈ es.toList, ∃ d, El s.heap e.2 d ∧ PyData.eqv d dx = false := fun e he => by
  obtain ⟨i, hi⟩ := List.getElem?_of_mem he
  obtain ⟨q1, hq1, hr1⟩ := paired_at hp hi
  have hm := List.mem_of_getElem? hq1
  have hl := hel q1 hm
  refine ⟨q1.2, by rw [hr1.1]; exact hl, ?_⟩
  cases h : PyData.eqv q1.2 dx with
  | false => rfl
  | true => exact absurd (eqv_eq _ _ hl.oi hx h) (hn q1 hm)
theorem find_any {a : Addr} {qs : List Mem} {x : Value} {dx : PyData} {Q : Option Nat → Shared → Prop} (hS : SetX s.heap a qs) (hel : ∀ q ∈ qs, El s.heap (.ref q.1) q.2) (hx : El s.heap x dx) (hu : A.units + 10 < cLine)
    (h1 : (∃ q ∈ qs, q.2 = dx) → ∀ i, Q (some i) s) (h2 : (∀ q ∈ qs, q.2 ≠ dx) → Q none s) : wpAny (model prog w) A (setFind a x (hashD dx)) Q E s := by
  obtain ⟨o, ho, es, ep, t, qs', hex, hd, hf, f, hfull, wp, pm, hp⟩ := hS
  have hel' : ∀ q ∈ qs', El s.heap (.ref q.1) q.2 := fun q hq => hel q (pm.mem_iff.mp hq)
  unfold setFind
  show wpAny _ _ (setFindIn a x (hashD dx) (99999 + 1)) _ _ _
  unfold setFindIn
  refine wpAny_bind (wpAny_setState_of ho hd hf ?_)
  dsimp only
  have hbs : byScan x es = false := by
    obtain ⟨b, rfl⟩ := hx.rf
    rfl
  rw [hbs]
  simp only [Bool.false_eq_true, if_false]
  by_cases hq : ∃ q ∈ qs', q.2 = dx
  · obtain ⟨q, hqm, hqe⟩ := hq
    refine wpAny_bind (search_there ho hd hf f wp hp hel' hx hqm hqe hu false fun r hr => ?_)
    cases r with
    | none => exact absurd (hr rfl) (by decide)
    | some i => exact wpAny_pure (h1 ⟨q, pm.mem_iff.mp hqm, hqe⟩ i)
  · have hn : ∀ q ∈ qs', q.2 ≠ dx := fun q hqm e => hq ⟨q, hqm, e⟩
    refine wpAny_bind (search_newW ho hd hf f hx (unlike_of hp hel' hx.oi hn) hu false fun N _ _ => ?_)
    exact wpAny_pure (h2 fun q hqm => hn q (pm.mem_iff.mpr hqm))
theorem add_any {a : Addr} {qs : List Mem} {ax : Addr} {dx : PyData} {Q : Bool → Shared → Prop} (hS : SetX s.heap a qs) (hel : ∀ q ∈ qs, El s.heap (.ref q.1) q.2) (hx : El s.heap (.ref ax) dx) (hlen : qs.length < 300) (hu : A.units + 10 < cLine)
    (hold : (∃ q ∈ qs, q.2 = dx) → Q false s) (hq : (∀ q ∈ qs, q.2 ≠ dx) → ∀ h', Heap.SameBut a s.heap h' → SetX h' a ((ax, dx) :: qs) → Q true { s with heap := h' }) : wpAny (model prog w) A (setAddHashed a (.ref ax) (hashD dx)) Q E s := by
  obtain ⟨o, ho, es, ep, t, qs', hex, hd, hf, f, hfull, wp, pm, hp⟩ := hS
  have hel' : ∀ q ∈ qs', El s.heap (.ref q.1) q.2 := fun q hq => hel q (pm.mem_iff.mp hq)
  have hsz : es.size = qs.length := by rw [← Array.length_toList, Paired.length hp, pm.length_eq]
  obtain ⟨h, hhd⟩ : ∃ h, h = hashD dx := ⟨_, rfl⟩
  have hhd2 : h = hashD dx := hhd
  have hpl : t.place.size = es.size := by
    have := hf
    unfold SetTable.fits at this
    rw [Bool.and_eq_true] at this
    exact eq_of_beq this.1
  have hfill : t.fill = t.place.size := by unfold SetTable.fill; rw [f.dum]; rfl
  rw [hfill, hpl] at hfull
  unfold setAddHashed setAddHashedIn
  refine wpAny_holding (wpAny_bind (wpAny_setState_of ho hd hf ?_))
  dsimp only
  have hbs : byScan (.ref ax) es = false := rfl
  rw [hbs]
  simp only [Bool.false_eq_true, if_false]
  by_cases hqq : ∃ q ∈ qs', q.2 = dx
  · obtain ⟨q, hqm, hqe⟩ := hqq
    refine wpAny_bind (search_there ho hd hf f wp hp hel' hx hqm hqe hu true fun r _ => ?_)
    exact wpAny_pure (hold ⟨q, pm.mem_iff.mp hqm, hqe⟩)
  have hne : ∀ q ∈ qs', q.2 ≠ dx := fun q hqm e => hqq ⟨q, hqm, e⟩
  refine wpAny_bind (search_newW ho hd hf f hx (unlike_of hp hel' hx.oi hne) hu true fun N hemp hlv => ?_)
  obtain ⟨j, hj⟩ : ∃ j, j = (path t N (t.probeStart (hashD dx))).j := ⟨_, rfl⟩
  rw [← hj] at hemp ⊢
  have hfree : ∀ i : Nat, t.place[i]? ≠ some j := fun i e => by
    rw [slot_at wp.mono e] at hemp
    cases hemp
  rw [← hhd] at hj hlv ⊢
  dsimp only
  refine wpAny_bind (wpAny_setState_of ho hd hf ?_)
  dsimp only
  have hput : (t.put j).1 = { t with place := SetTable.insertAt t.place (SetTable.below t.place j) j } := by
    unfold SetTable.put
    dsimp only
    have : SetTable.has t.dummies j = false := by rw [f.dum]; unfold SetTable.has; simp
    rw [this, if_neg Bool.false_ne_true]
  have hput2 : (t.put j).2 = SetTable.below t.place j := rfl
  rw [hput, hput2]
  have h1sz : (SetTable.insertAt es (SetTable.below t.place j) (h, .ref ax)).size = es.size + 1 := ins_size _ _ _
  obtain ⟨qs1, hqs1⟩ : ∃ qs1, qs1 = qs'.take (SetTable.below t.place j) ++ (ax, dx) :: qs'.drop (SetTable.below t.place j) := ⟨_, rfl⟩
  have hpq1 : qs1.Perm ((ax, dx) :: qs) := by
    rw [hqs1]
    refine List.perm_middle.trans (.cons _ ?_)
    rw [List.take_append_drop]
    exact pm
  have hpr1 : Paired MemR (SetTable.insertAt es (SetTable.below t.place j) (h, .ref ax)).toList qs1 := by
    rw [ins_list, hqs1]
    exact paired_ins (R := MemR) ⟨rfl, hhd⟩ _ hp
  have hwp1 : ∀ t1 : ST, t1.mask = t.mask → t1.place = SetTable.insertAt t.place (SetTable.below t.place j) j → Wp t1 (SetTable.insertAt es (SetTable.below t.place j) (h, .ref ax)) := fun t1 e1 e2 => wp.ins hpl (N := N) (e := (h, .ref ax)) hj.symm hfree hlv e1 e2
  generalize SetTable.insertAt es (SetTable.below t.place j) (h, .ref ax) = es1 at h1sz hpr1 hwp1 ⊢
  have hmge : 7 ≤ t.mask := by rcases f.msk with e | e | e | e <;> omega
  have tail : ∀ pb : Bool, wpAny (model prog w) A (do
      storeSet a es1 { t with place := SetTable.insertAt t.place (SetTable.below t.place j) j, plain := pb }
      if (!false && ({ t with place := SetTable.insertAt t.place (SetTable.below t.place j) j, plain := pb } : SetTable).tooFull) = true then setRelay a (SetTable.grown (es.size + 1))
      return true) Q E s := by
    intro pb
    refine wpAny_bind (wpAny_storeSet_of ho hd ?_ (by rw [h1sz, sizeLine_eq]; omega))
    have p1 : (SetTable.insertAt t.place (SetTable.below t.place j) j).size = es.size + 1 := by rw [ins_size, hpl]
    generalize ht1 : ({ t with place := SetTable.insertAt t.place (SetTable.below t.place j) j, plain := pb } : SetTable) = t1
    have m1 : t1.mask = t.mask := by rw [← ht1]
    have q1 : t1.place.size = es.size + 1 := by rw [← ht1]; exact p1
    have d1 : t1.dummies = #[] := by rw [← ht1]; exact f.dum
    have fl1 : t1.fill = es.size + 1 := by unfold SetTable.fill; rw [d1, q1]; rfl
    have fits1 : t1.fits es1.size = true := by
      unfold SetTable.fits
      rw [q1, h1sz, fl1, m1, beq_self_eq_true, Bool.true_and]
      exact decide_eq_true (by omega)
    have fit1 : Fit t1 := ⟨d1, by rw [q1, m1]; omega, by rw [m1]; exact f.msk⟩
    have hg1 : (s.heap.update a (Obj.putSet es1 t1)).get? a = some { o with data := .set es1 (ep + 1) t1 } := by
      have := Heap.get?_update_self (Obj.putSet es1 t1) ho (by rw [putSet_of es1 t1 hd]; rfl)
      rw [putSet_of es1 t1 hd] at this; exact this
    have sb1 := Heap.SameBut.update s.heap a (Obj.putSet es1 t1)
    simp only [Bool.not_false, Bool.true_and]
    by_cases hfu : t1.tooFull = true
    · rw [if_pos hfu]
      have hfu' : t1.mask * 3 ≤ t1.fill * 5 := by unfold SetTable.tooFull at hfu; exact of_decide_eq_true hfu
      rw [fl1, m1] at hfu'
      obtain ⟨m', hm', hw, hlt⟩ : ∃ m', (m' = 7 ∨ m' = 31 ∨ m' = 127 ∨ m' = 511) ∧ SetTable.sizeAbove (SetTable.grown (es.size + 1)) = m' + 1 ∧ (es.size + 1) * 5 < m' * 3 := by
        rcases f.msk with e | e | e | e
        · have : es.size = 4 := by omega
          exact ⟨31, .inr (.inl rfl), by rw [this]; decide, by omega⟩
        · have : es.size = 18 := by omega
          exact ⟨127, .inr (.inr (.inl rfl)), by rw [this]; decide, by omega⟩
        · have : es.size = 76 := by omega
          exact ⟨511, .inr (.inr (.inr rfl)), by rw [this]; decide, by omega⟩
        · omega
      refine wpAny_bind (relay_newW (s := { s with heap := s.heap.update a (Obj.putSet es1 t1) }) hg1 rfl fits1 hw hm' (by rw [h1sz]; omega) fun es2 t2 hp2 hpl2 hd2 hm2 hwp2 => ?_)
      have hg2 : ((s.heap.update a (Obj.putSet es1 t1)).update a (Obj.putSet es2 t2)).get? a = some { o with data := .set es2 (ep + 1 + 1) t2 } := by
        have := Heap.get?_update_self (Obj.putSet es2 t2) hg1 (by rw [putSet_of es2 t2 rfl]; rfl)
        rw [putSet_of es2 t2 rfl] at this; exact this
      have hsz2 : es2.size = es.size + 1 := by rw [← Array.length_toList, hp2.length_eq, Array.length_toList, h1sz]
      have fl2 : t2.fill = es.size + 1 := by unfold SetTable.fill; rw [hd2, hpl2, h1sz]; rfl
      obtain ⟨qs2, hq2, hpr2⟩ := paired_perm hp2 hpr1
      refine wpAny_pure (hq (fun q hqm => hne q (pm.mem_iff.mpr hqm)) _ (sb1.trans (Heap.SameBut.update _ a _)) ⟨_, hg2, es2, ep + 1 + 1, t2, qs2, hex, rfl, ?_, ⟨hd2, by rw [hpl2, h1sz, hm2]; omega, by rw [hm2]; exact hm'⟩, by rw [fl2, hm2]; exact hlt, hwp2, hq2.trans hpq1, hpr2⟩)
      unfold SetTable.fits
      rw [hpl2, h1sz, hsz2, fl2, hm2, beq_self_eq_true, Bool.true_and]
      exact decide_eq_true (by omega)
    · rw [if_neg hfu]
      have hnf : t1.fill * 5 < t1.mask * 3 := by
        have : ¬ (t1.fill * 5 ≥ t1.mask * 3) := fun z => hfu (by unfold SetTable.tooFull; exact decide_eq_true z)
        omega
      exact wpAny_pure (hq (fun q hqm => hne q (pm.mem_iff.mpr hqm)) _ sb1 ⟨_, hg1, es1, ep + 1, t1, qs1, hex, rfl, fits1, fit1, hnf, hwp1 t1 m1 (by rw [← ht1]), hpq1, hpr1⟩)
  by_cases hpn : t.plain = true
  · simp only [hpn, if_true]
    obtain ⟨as, rx⟩ := hx.rd
    refine wpAny_bind (byval_data 4 dx A _ _ _ as hx.dp rx hx.oi 8 _ (by decide) ?_)
    simp only [if_true]
    exact tail true
  · simp only [hpn, if_false, Bool.false_eq_true]
    refine wpAny_bind (wpAny_pure ?_)
    simp only [if_true]
    exact tail false
end
end L2

namespace L2
open PySem PySem.Spec PyProof.Rows PySem.NumText
/-! ### set(a list), whatever stands twice in it -/
def SetQ (h : Heap) (a : Addr) (val : Nat → PyData) (P : Nat → Value → Prop) (n : Nat) : Prop := ∃ qs, SetX h a qs ∧ (∀ q ∈ qs, ∃ j, j < n ∧ P j (.ref q.1) ∧ q.2 = val j) ∧ (∀ j, j < n → ∃ q ∈ qs, q.2 = val j) ∧ (qs.map (·.2)).Nodup ∧ qs.length ≤ n
theorem SetQ.at {h h' : Heap} {a : Addr} {val : Nat → PyData} {P : Nat → Value → Prop} {n : Nat} (x : SetQ h a val P n) (k : ∀ o, h.get? a = some o → h'.get? a = some o) : SetQ h' a val P n := by
  obtain ⟨qs, ⟨o, ho, r⟩, r'⟩ := x
  exact ⟨qs, ⟨o, k o ho, r⟩, r'⟩
section
variable {prog : Program} {w : World} {A : Around} {R : Result → Shared → Prop} {I : Addr} {fp wr : List Addr} {G : Array GenState → Array GenState → Prop} {n : Nat} {P : Nat → Value → Prop} {St : Nat → Shared → Prop}
theorem set_loopX (W : WalksS prog w A.in1 I fp wr G n P St) (S : Addr) (hSf : S ∉ fp) (h0 : Heap) (val : Nat → PyData) (hval : ∀ i v, P i v → El h0 v (val i)) (hb : n < 300) (hu : A.units + 20 < cLine)
    (hS0 : h0.get? S = none) (hw0 : ∀ b ∈ wr, h0.get? b = none) :
    ∀ (k i : Nat) (s : Shared), n - i = k → i ≤ n → St i s → (∀ b o, h0.get? b = some o → s.heap.get? b = some o) → SetQ s.heap S val P i →
      (∀ s', Moved (S :: wr) G s s' → SetQ s'.heap S val P n → R (.ok (.ret .none)) s') →
      codeAny (model prog w) A (.builtin "set.update.loop" ⟨[.ref S, .ref I], []⟩) R s := by
  have hSw : S ∉ wr := fun h => hSf (W.sub _ h)
  have hsub : ∀ b ∈ wr, b ∈ S :: wr := fun b hb => List.mem_cons_of_mem _ hb
  have h0w : ∀ b o, h0.get? b = some o → b ∉ wr := fun b o e hb => by rw [hw0 b hb] at e; cases e
  have h0S : ∀ b o, h0.get? b = some o → b ≠ S := fun b o e hb => by rw [hb, hS0] at e; cases e
  intro k
  induction k with
  | zero =>
    intro i s hk hi hst hkept hS hR
    have hin : i = n := by omega
    subst hin
    refine codeAny_builtin F.entry_set_update_loop ?_
    rw [Around.under_plainId F.plain_set_update_loop _]
    show wpAny _ A.in1 (pyNext (.ref I) >>= _) _ _ s
    refine wpAny_bind (W.done s _ _ hst fun s' hm => ?_)
    show wpAny _ A.in1 (ret Value.none) _ _ s'
    exact wpAny_pure (hR s' (hm.mono hsub) (hS.at fun o e => hm.heap S _ hSw e))
  | succ k ih =>
    intro i s hk hi hst hkept hS hR
    have hlt : i < n := by omega
    refine codeAny_builtin F.entry_set_update_loop ?_
    rw [Around.under_plainId F.plain_set_update_loop _]
    show wpAny _ A.in1 (pyNext (.ref I) >>= _) _ _ s
    refine wpAny_bind (W.item i s _ _ hlt hst fun v s' hP hst' hm => ?_)
    have hv := hval i v hP
    have hS' : SetQ s'.heap S val P i := hS.at fun o e => hm.heap S _ hSw e
    have hkept' : ∀ b o, h0.get? b = some o → s'.heap.get? b = some o := fun b o e => hm.heap b o (h0w b o e) (hkept b o e)
    show wpAny _ A.in1 (holding [v] (setAdd S v) >>= _) _ _ s'
    refine wpAny_bind (wpAny_holding ?_)
    unfold setAdd
    refine wpAny_holding ?_
    have hv' := hv.kept hkept'
    obtain ⟨as, rx⟩ := hv'.rd
    obtain ⟨ax, rfl⟩ := hv.rf
    refine wpAny_bind (hash_fun 4 (val i) A.in1 _ s' (.ref ax) as hv.dp rx hv.oi (by show A.units + 1 + 4 < cLine; omega) _ fun tk htk => ?_)
    obtain ⟨qs, hX, hel, hmem, hnd, hle⟩ := hS'
    have go : ∀ h', Heap.SameBut S s'.heap h' → SetQ h' S val P (i + 1) → wpAny (model prog w) A.in1 (again (.builtin "set.update.loop" ⟨[.ref S, .ref I], []⟩))
        (fun fin s' => match fin with | .done f => R (.ok f) s' | .again c' => c'.quiet = true ∧ codeAny (model prog w) A c' R s') (fun e s' => R (.error e) s') { s' with heap := h', toks := tk } := by
      intro h' hsb hSi
      have hk2 : ∀ b o, h0.get? b = some o → h'.get? b = some o := fun b o e => by rw [hsb.2 b (h0S b o e)]; exact hkept' b o e
      refine wpAny_pure ⟨plainId_quiet F.plain_set_update_loop _, ih (i + 1) _ (by omega) hlt (W.frame _ s' _ _ hst' htk fun b hb o e => ?_) hk2 hSi fun s'' hm'' hS'' => ?_⟩
      · rw [hsb.2 b (fun h : b = S => hSf (by rw [← h]; exact hb))]; exact e
      · refine hR s'' (Moved.trans W.gtrans ((hm.mono hsub).then_heap htk fun b o hb e => ?_) hm'') hS''
        rw [hsb.2 b (fun h : b = S => hb (by rw [h]; exact List.mem_cons_self))]; exact e
    have hel' : ∀ q ∈ qs, El s'.heap (.ref q.1) q.2 := fun q hq => by
      obtain ⟨j, _, hPj, e⟩ := hel q hq
      rw [e]
      exact (hval j _ hPj).kept hkept'
    refine add_any (s := { s' with toks := tk }) hX hel' hv' (by omega) (by show A.units + 1 + 10 < cLine; omega) (fun hold => ?_) (fun hnew h' hsb hS2 => ?_)
    · refine go s'.heap ⟨rfl, fun _ _ => rfl⟩ ⟨qs, hX, fun q hq => let ⟨j, h1, h2⟩ := hel q hq; ⟨j, by omega, h2⟩, fun j hj => ?_, hnd, by omega⟩
      rcases Nat.lt_or_ge j i with hl | hg
      · exact hmem j hl
      · have : j = i := by omega
        subst this
        exact hold
    · refine go h' hsb ⟨(ax, val i) :: qs, hS2, fun q hq => ?_, fun j hj => ?_, ?_, by rw [List.length_cons]; omega⟩
      · rcases List.mem_cons.mp hq with rfl | hq
        · exact ⟨i, by omega, hP, rfl⟩
        · obtain ⟨j, h1, h2⟩ := hel q hq
          exact ⟨j, by omega, h2⟩
      · rcases Nat.lt_or_ge j i with hl | hg
        · obtain ⟨q, hq, e2⟩ := hmem j hl
          exact ⟨q, List.mem_cons_of_mem _ hq, e2⟩
        · have : j = i := by omega
          subst this
          exact ⟨_, List.mem_cons_self, rfl⟩
      · rw [List.map_cons]
        refine List.nodup_cons.mpr ⟨fun hm => ?_, hnd⟩
        obtain ⟨q, hq, e⟩ := List.mem_map.mp hm
        exact hnew q hq e
end
section
variable {prog : Program} {w : World} {A : Around} {E : Value → Shared → Prop} {s : Shared}
set_option maxRecDepth 100000 in
set_option maxHeartbeats 3200000 in
theorem call_set_any {l : Addr} {items : Array Value} {val : Nat → PyData} {Q : Value → Shared → Prop}
    (hh : A.handled = none) (hl : s.heap.IsList l items) (hi : ∀ i v, items[i]? = some v → El s.heap v (val i)) (hb : items.size < 300) (hu : A.units + 30 < cLine)
    (h : ∀ (h' : Heap) (tk : Nat), SetQ h' s.heap.objs.size val (fun i v => items[i]? = some v) items.size →
      (∀ b o, b < s.heap.objs.size → s.heap.get? b = some o → h'.get? b = some o) → Q (.ref s.heap.objs.size) { s with heap := h', toks := tk }) :
    wpAny (model prog w) A (call (.type "set") [.ref l]) Q E s := by
  obtain ⟨c, tl, hmro⟩ := F.called_set.mro
  have hmade := F.called_set.made
  have hsub := F.called_set.sub
  refine wpAny_call (codeAny_of_tree ?_)
  show wpAny _ _ (callAny (.type "set") _) _ _ _
  refine wpAny_pure ⟨Code.quiet_builtin _ (by decide +kernel), codeAny_builtin F.entry_type_call ?_⟩
  rw [Around.under_plain (weight_type_call_type "set" [.ref l] []) rfl]
  have h1 := F.called_set.notType
  have h2 := F.called_set.canCreate
  have hct := F.typeCall_set_1 (.ref l)
  repeat (any_goals (first | assumption | wp_step))

  refine codeAny_mono (code_set_new_1 (.ref l) (E := E) (Q₁ := fun obj s₁ => ∃ led : Bool, obj = .ref s.heap.objs.size ∧ s₁ = { s with heap := s.heap.push { cls := .type "set", dict := none, data := .set #[] 0 (.fresh 0 0 led) } }) fun led => ⟨led, rfl, rfl⟩) fun r s₁ hr => ?_
  cases r with
  | error e => exact hr
  | ok fl =>
    cases fl with
    | ret obj =>
      obtain ⟨led, rfl, rfl⟩ := hr
      have hS : (s.heap.push { cls := .type "set", dict := none, data := .set #[] 0 (.fresh 0 0 led) }).get? s.heap.objs.size = some { cls := .type "set", dict := none, data := .set #[] 0 (.fresh 0 0 led) } := Heap.get?_push_size _ rfl
      have hT : Shared.TypeIs { s with heap := s.heap.push { cls := .type "set", dict := none, data := .set #[] 0 (.fresh 0 0 led) } } (.ref s.heap.objs.size) "set" := ⟨_, hS, rfl⟩
      have hli := F.called_set.init.lookup
      have hbi := F.called_set.init.bind (.ref s.heap.objs.size)
      repeat (any_goals (first | assumption | wp_step))

      refine codeAny_mono (codeAny_call_builtin (R := wants (fun r s₂ => r = .none ∧ ∃ h' tk, s₂ = { s with heap := h', toks := tk } ∧
          SetQ h' s.heap.objs.size val (fun i v => items[i]? = some v) items.size ∧
          (∀ b o, b < s.heap.objs.size → s.heap.get? b = some o → h'.get? b = some o)) E) F.called_set.init.plain F.entry_set_init (check_set_init_1 hT ?_)) fun r₂ s₂ hr₂ => ?_
      · obtain ⟨ol, hol, hcl, nl, hdl⟩ := hl
        obtain ⟨ocls, odict, odata, oslots⟩ := ol
        simp only at hcl hdl
        subst hcl; subst hdl
        have hol' : (s.heap.push { cls := .type "set", dict := none, data := .set #[] 0 (.fresh 0 0 led) }).get? l = some { cls := .type "list", dict := odict, data := .seq items nl, slots := oslots } := Heap.get?_push_of_some _ hol
        have hsls := F.sub_list_set
        have hslf := F.sub_list_frozenset
        have hne : (Value.type "list" == Value.type "dict") = false := by decide
        have hl1 : (s.heap.push { cls := .type "set", dict := none, data := .set #[] 0 (.fresh 0 0 led) }).IsList l items := ⟨_, hol', rfl, nl, rfl⟩
        unfold Builtin.«set.__init__» noKeywords Builtin.Frozenset.updateFrom
        generalize hPI : pyIter = PI
        wp_walk
        subst hPI

        refine wpAny_pyIter_list hl1 ?_
        refine wpAny_bind (wpAny_runValue ?_)
        have hlS : l < s.heap.objs.size := Heap.lt_size hol
        have hh3 : A.in1.in1.in1.handled = none := by simp [hh]
        have hneI : l ≠ (s.heap.push { cls := .type "set", dict := none, data := .set #[] 0 (.fresh 0 0 led) }).objs.size := by
          rw [Heap.size_push]; exact Nat.ne_of_lt (Nat.lt_succ_of_lt hlS)
        have hSf : s.heap.objs.size ∉ [(s.heap.push { cls := .type "set", dict := none, data := .set #[] 0 (.fresh 0 0 led) }).objs.size, l] := by
          rw [Heap.size_push]; simp only [List.mem_cons, List.mem_singleton, List.not_mem_nil, or_false, not_or]
          exact ⟨Nat.ne_of_lt (Nat.lt_succ_self _), Nat.ne_of_gt hlS⟩
        have hfr : s.heap.get? s.heap.objs.size = none := by
          cases e : s.heap.get? s.heap.objs.size with
          | none => rfl
          | some o' => exact absurd (Heap.lt_size e) (Nat.lt_irrefl _)
        have hfr2 : s.heap.get? (s.heap.objs.size + 1) = none := by
          cases e : s.heap.get? (s.heap.objs.size + 1) with
          | none => rfl
          | some o' => exact absurd (Heap.lt_size e) (Nat.not_lt.mpr (Nat.le_succ _))
        refine set_loopX ((Walks.list hh3 _ l hneI items).toS) s.heap.objs.size hSf s.heap val (fun i v hv => hi i v hv) hb (by show A.units + 1 + 1 + 20 < cLine; omega) hfr (fun b hb' => ?hw) (items.size - 0) 0 _ (by omega) (Nat.zero_le _)
          ⟨⟨_, Heap.get?_push_size _ rfl, rfl, rfl⟩, (hl1.push _)⟩ (fun b o e => Heap.get?_push_of_some _ (Heap.get?_push_of_some _ e)) ?hS0 ?hR
        case hw =>
          rcases List.mem_cons.mp hb' with rfl | hb'
          · rw [Heap.size_push]; exact hfr2
          · cases hb'
        case hS0 =>
          have hget : ((s.heap.push { cls := .type "set", dict := none, data := .set #[] 0 (.fresh 0 0 led) }).push { cls := .type "list_iterator", data := .fields #[.ref l, .int 0 0] }).get? s.heap.objs.size
              = some { cls := .type "set", dict := none, data := .set #[] 0 (.fresh 0 0 led) } := Heap.get?_push_of_some _ hS
          exact ⟨[], ⟨_, hget, #[], 0, .fresh 0 0 led, [], ⟨rfl, rfl, rfl⟩, rfl, rfl, ⟨rfl, by show 0 ≤ 7; decide, .inl rfl⟩, by show 0 * 5 < 7 * 3; decide, ⟨(fun a b u v _ e _ => by simp [SetTable.fresh] at e), fun i j e h1 => by simp [SetTable.fresh] at h1⟩, .refl _, .nil⟩, (fun q hq => by cases hq), (fun j hj => (by omega)), List.nodup_nil, Nat.zero_le _⟩
        case hR =>
          intro s' hm hS'
          obtain ⟨h', g', d', tk', os'⟩ := s'
          have eg : g' = s.gens := hm.gens
          have ed : d' = s.drawn := hm.drawn
          have eo : os' = s.os := hm.os
          subst eg; subst ed; subst eo
          show wpAny _ _ _ _ _ _
          refine wpAny_pure ?_
          show wpAny _ _ (ret Value.none) _ _ _
          refine wpAny_pure ⟨rfl, h', tk', rfl, hS', fun b o hb e => ?_⟩
          have hb1 : b ≠ s.heap.objs.size := Nat.ne_of_lt hb
          have hb2 : b ≠ (s.heap.push { cls := .type "set", dict := none, data := .set #[] 0 (.fresh 0 0 led) }).objs.size := by
            rw [Heap.size_push]; exact Nat.ne_of_lt (Nat.lt_succ_of_lt hb)
          exact hm.heap b o (by simp only [List.mem_cons, List.mem_singleton, List.not_mem_nil, or_false, not_or]; exact ⟨hb1, hb2⟩) (Heap.get?_push_of_some _ (Heap.get?_push_of_some _ e))

      · cases r₂ with
        | error e => exact hr₂
        | ok fl₂ =>
          cases fl₂ with
          | ret r =>
            obtain ⟨rfl, h', tk, rfl, hS', hk'⟩ := hr₂
            repeat (any_goals (first | assumption | wp_step))
            exact h _ _ hS' hk'
          | _ => exact hr₂.elim
    | _ => exact hr.elim
end
end L2

namespace L2
open PySem PySem.Spec PyProof.Rows PySem.NumText
/-! ### rules for sets of tuples of ints -/
def setXO (a : Addr) (qs : List Mem) : HO := .ext fun h => SetX h a qs
def ok4 (d : PyData) : Prop := onlyI d = true ∧ d.depth ≤ 4 ∧ ∃ xs, d = .tuple xs
theorem ok4_mark (m : Mark) : ok4 (markD m) := ⟨rfl, by show 1 ≤ 4; decide, _, rfl⟩
theorem setXO_ok {P : Program} {w : World} {H : Hp} {h : Heap} {a : Addr} {qs : List Mem} (x : SetX h a qs) : ObjOk P w H h a (setXO a qs) := by
  obtain ⟨o, ho, r⟩ := x
  exact ⟨⟨o, ho, r⟩, ⟨o, ho⟩, fun h1 h2 ⟨o', ho', r'⟩ k => ⟨o', k o' ho', r'⟩⟩
section
variable {X : Cx} {pins : List (Addr × Obj)} {σ : St} {H : Hp} {s : Shared}
theorem Inv.el (I : Inv X pins σ H s) {d : PyData} {x : V} {u : Value} (h : DV X.K H d x) (r : RelV x u) (o : ok4 d) : El s.heap u d := by
  obtain ⟨o1, o2, xs, rfl⟩ := o
  obtain ⟨as, ra⟩ := DV.reads I _ x u h r
  obtain ⟨a, vs, rfl, _⟩ := h
  cases r
  exact ⟨⟨as, ra⟩, o1, o2, a, rfl⟩
theorem Inv.setX (I : Inv X pins σ H s) {a : Addr} {qs : List Mem} (h : H a = some (setXO a qs)) : SetX s.heap a qs := (I.hok a _ h).1
end
/-- a set at an address, and its members' data -/
structure SAt (K : PySem.W.Frag) (H : Hp) (a : Addr) (qs : List Mem) : Prop where
  ob : H a = some (setXO a qs)
  dv : ∀ q ∈ qs, DV K H q.2 (.ref q.1)
  ok : ∀ q ∈ qs, ok4 q.2
  nd : (qs.map (·.2)).Nodup
section
variable {X : Cx}
def rSetX (K : PySem.W.Frag) : List V → Hp → VK → Prop := fun xs H Q => ∃ (p : Addr) (ds : List PyData) (ys : List V), xs = [.ref p] ∧ SqL K H p ys ∧ DVs K H ds ys ∧ (∀ d ∈ ds, ok4 d) ∧ ds.length < 300 ∧
  ∀ (a : Addr) (qs : List Mem), H a = none → SAt K (upd H a (setXO a qs)) a qs → (∀ d, (∃ q ∈ qs, q.2 = d) ↔ d ∈ ds) → qs.length ≤ ds.length → Q (.ref a) (upd H a (setXO a qs))
theorem call_setX (hc : X.calm = true) (hu : X.A.units + 100 < cLine) : CallR X (.type "set") (rSetX X.K) := by
  intro pins s σ H xs us Q I r h
  obtain ⟨p, ds, ys, rfl, hq, hds, hok, hlen, q⟩ := h
  obtain ⟨u, rfl, ru⟩ := vals1 r
  cases ru
  obtain ⟨its, rv, pl, hz⟩ := I.list hq
  have hyl : ys.length = ds.length := hds.length
  have hil : its.length = ds.length := by rw [← rv.length]; exact hyl
  have hat : ∀ (i : Nat) v, its.toArray[i]? = some v → ∃ x d, ys[i]? = some x ∧ ds[i]? = some d ∧ RelV x v ∧ DV X.K H d x := fun i v hv => by
    have hi : i < ds.length := by
      have := (Array.getElem?_eq_some_iff.mp hv).1
      rw [List.size_toArray, hil] at this
      exact this
    obtain ⟨x, hx, hd⟩ := hds.get (i := i) (d := ds[i]) (List.getElem?_eq_getElem hi)
    obtain ⟨u, hu', ru⟩ := rv.get hx
    have : v = u := by
      rw [List.getElem?_toArray, hu'] at hv
      exact (Option.some.inj hv).symm
    subst this
    exact ⟨x, ds[i], hx, List.getElem?_eq_getElem hi, ru, hd⟩
  refine call_set_any (val := fun i => ds.getD i .none) (I.ok.hd hc) pl.isList (fun i v hv => ?_) (by rw [List.size_toArray, hil]; exact hlen) (by omega) fun h' tk hS hk => ?_
  · obtain ⟨x, d, _, hd, rx, dv⟩ := hat i v hv
    have e : ds.getD i .none = d := by rw [List.getD_eq_getElem?_getD, hd]; rfl
    rw [e]
    exact I.el dv rx (hok d (List.mem_of_getElem? hd))
  · have hz2 : its.toArray.size = ds.length := by simp [hil]
    rw [hz2] at hS
    obtain ⟨qs, hX, hin, hall, hnd, hle⟩ := hS
    have hn := I.hok.fresh (Nat.le_refl s.heap.objs.size)
    have hqd : ∀ q ∈ qs, q.2 ∈ ds ∧ DV X.K H q.2 (.ref q.1) := fun qq hqq => by
      obtain ⟨j, hj, hP, e⟩ := hin qq hqq
      obtain ⟨x, d, _, hd, rx, dv⟩ := hat j _ hP
      have e1 : ds.getD j .none = d := by rw [List.getD_eq_getElem?_getD, hd]; rfl
      have e : qq.2 = d := by rw [e]; exact e1
      obtain ⟨_, _, ⟨zs, ez⟩⟩ := hok d (List.mem_of_getElem? hd)
      have ex : x = .ref qq.1 := by
        rw [ez] at dv
        obtain ⟨aa, vs, rfl, _⟩ := dv
        cases (show Value.ref qq.1 = Value.ref aa from rx)
        rfl
      rw [e, ← ex]
      exact ⟨List.mem_of_getElem? hd, dv⟩
    refine ⟨.ref s.heap.objs.size, _, I.laid (t' := tk) (o := setXO s.heap.objs.size qs) (fun b ob e => hk b ob (Heap.lt_size e) e) (Nat.le_refl _) (setXO_ok hX), rfl, q _ qs hn ⟨upd_same, fun qq hqq => DV.same (same_upd hn) _ _ (hqd qq hqq).2, fun qq hqq => hok _ (hqd qq hqq).1, hnd⟩ (fun d => ⟨fun ⟨qq, hqq, e⟩ => e ▸ (hqd qq hqq).1, fun hd => ?_⟩) hle⟩
    obtain ⟨j, hj⟩ := List.getElem?_of_mem hd
    obtain ⟨qq, hqq, e⟩ := hall j (List.getElem?_eq_some_iff.mp hj).1
    exact ⟨qq, hqq, by rw [e]; show ds.getD j .none = d; rw [List.getD_eq_getElem?_getD, hj]; rfl⟩
theorem set_has {prog : Program} {w : World} {A : Around} {E : Value → Shared → Prop} {s : Shared} {a : Addr} {qs : List Mem} {x : Value} {dx : PyData} {Q : Bool → Shared → Prop} (hS : SetX s.heap a qs) (hel : ∀ q ∈ qs, El s.heap (.ref q.1) q.2) (hx : El s.heap x dx) (hu : A.units + 20 < cLine)
    (h : ∀ b tk, (b = true ↔ ∃ q ∈ qs, q.2 = dx) → s.toks ≤ tk → Q b { s with toks := tk }) : wpAny (model prog w) A (contains (.ref a) x) Q E s := by
  obtain ⟨o, ho, r⟩ := id hS
  have hT : s.TypeIs (.ref a) "set" := by
    obtain ⟨_, _, _, _, hex, _⟩ := r
    exact ⟨o, ho, hex.1⟩
  refine wpAny_contains_slot hT F.slot_set_contains (wpAny_call_entry F.slot_set_contains hT entry_set_contains ?_ (F.args_set_contains_2 _ _))
  unfold Builtin.«frozenset.__contains__» Builtin.Frozenset.withSetAsKey setContains
  refine wpAny_bind (wpAny_bind (wpAny_pure (wpAny_pure ?_)))
  dsimp only
  refine wpAny_bind (wpAny_tryCatch (wpAny_holding ?_))
  obtain ⟨as, rx⟩ := hx.rd
  refine wpAny_bind (hash_fun 4 dx _ _ s x as hx.dp rx hx.oi (by show A.units + 1 + 4 < cLine; omega) _ fun tk htk => ?_)
  refine wpAny_bind (find_any (s := { s with toks := tk }) hS hel hx (by show A.units + 1 + 10 < cLine; omega) (fun hq i => ?_) (fun hn => ?_))
  · exact wpAny_pure (wpAny_pure ⟨_, rfl, wpAny_truthy_bool (h true tk ⟨fun _ => hq, fun _ => rfl⟩ htk)⟩)
  · exact wpAny_pure (wpAny_pure ⟨_, rfl, wpAny_truthy_bool (h false tk ⟨(fun z => by cases z), fun ⟨q, hq, e⟩ => absurd e (hn q hq)⟩ htk)⟩)
def rInX (K : PySem.W.Frag) (neg : Bool) : R2 := fun x y H Q => ∃ d a qs, DV K H d x ∧ ok4 d ∧ y = .ref a ∧ SAt K H a qs ∧ ∀ b, (b = true ↔ ∃ q ∈ qs, q.2 = d) → Q (.bl (if neg then !b else b)) H
theorem op_notInX (hu : X.A.units + 100 < cLine) : OpR X (compareOp .NotIn) (rInX X.K true) := by
  intro pins s σ H x y v u Q I rx ry h
  obtain ⟨d, a, qs, hd, ok, rfl, S, k⟩ := h
  cases ry
  show wpAny _ _ (do let b ← contains (.ref a) v; pure (Value.bool !b)) _ _ _
  refine wpAny_bind (set_has (I.setX S.ob) (fun q hq => I.el (S.dv q hq) rfl (S.ok q hq)) (I.el hd rx ok) (by omega) fun b tk hb htk => ?_)
  exact wpAny_pure ⟨.bl (!b), H, I.kept (t' := tk) (fun _ _ e => e), rfl, k b hb⟩
end
end L2

namespace L2
open PySem PySem.Spec PyProof.Rows PySem.NumText
/-! ### min(xs, default=None) -/
theorem args_minD (a : Value) : argsOk "min" ⟨[a], [("default", .none)]⟩ := by
  first | rfl | with_unfolding_all rfl | decide
theorem bt_least {α : Type} {lt : α → α → Bool} (st : STO lt) (f : Nat → α) : ∀ (k i : Nat), i ≤ k → f (argBest (fun i j => lt (f i) (f j)) k) = f i ∨ lt (f (argBest (fun i j => lt (f i) (f j)) k)) (f i) = true
  | 0, i, h => by
    have : i = 0 := by omega
    subst this
    exact .inl rfl
  | k + 1, i, h => by
    have ih := bt_least st f k
    show f (if lt (f (k + 1)) (f (argBest (fun i j => lt (f i) (f j)) k)) = true then k + 1 else argBest (fun i j => lt (f i) (f j)) k) = f i ∨ lt (f (if lt (f (k + 1)) (f (argBest (fun i j => lt (f i) (f j)) k)) = true then k + 1 else argBest (fun i j => lt (f i) (f j)) k)) (f i) = true
    generalize argBest (fun i j => lt (f i) (f j)) k = b at ih
    cases hb : lt (f (k + 1)) (f b) with
    | true =>
      rw [if_pos rfl]
      rcases Nat.lt_or_ge i (k + 1) with hl | hg
      · rcases ih i (by omega) with e | e
        · rw [← e]; exact .inr hb
        · exact .inr (st.tr _ _ _ hb e)
      · have : i = k + 1 := by omega
        subst this
        exact .inl rfl
    | false =>
      rw [if_neg (by decide)]
      rcases Nat.lt_or_ge i (k + 1) with hl | hg
      · exact ih i (by omega)
      · have : i = k + 1 := by omega
        subst this
        rcases Classical.em (f b = f (k + 1)) with e | e
        · exact .inl e
        · exact .inr (st.tri _ _ (fun z => e z.symm) hb)
section
variable {prog : Program} {w : World} {A : Around} {E : Value → Shared → Prop} {s : Shared}
theorem check_minD {x : Value} {M : Model} {R : Unit → Shared → Prop} (h : R () s) : wpAny M A (checkBuiltinCall "min" ⟨[x], [("default", Value.none)]⟩) R E s := by
  unfold checkBuiltinCall
  dsimp only
  rw [F.kind_min]
  dsimp only
  exact wpAny_of_eq (args_minD x) h
theorem min_none {R : Result → Shared → Prop} {I S : Addr} {fp wr : List Addr} {P : Nat → Value → Prop} {St : Nat → Heap → Prop} (W : Walks prog w A.in1 I fp wr 0 P St) (S1 : S ∉ fp) {h0 : Heap} (N1 : ∀ b ∈ wr, h0.get? b = none) (N2 : h0.get? S = none)
    {c : Nat} (st : St 0 s.heap) (ex : Ext h0 s.heap) (hS : s.heap.get? S = some { cls := .type "list", dict := none, data := .seq #[] c, slots := #[] })
    (fin : ∀ h' tk, Ext h0 h' → R (.ok (.ret .none)) { s with heap := h', toks := tk }) :
    codeAny (model prog w) A (.builtin "min.loop" ⟨[.ref I, .none, .ref S], [("default", Value.none)]⟩) R s := by
  have S2 : S ∉ wr := fun z => S1 (W.sub _ z)
  refine codeAny_builtin F.entry_min_loop ?_
  rw [Around.under_plainId F.plain_min_loop _]
  show wpAny _ A.in1 (seqItems? (.ref S) >>= _) _ _ s
  refine wpAny_bind (wpAny_seqItems hS rfl ?_)
  show wpAny _ A.in1 (tryCatch (pyNext (.ref I)) _ >>= _) _ _ s
  refine wpAny_bind (wpAny_tryCatch (W.done s _ _ st fun h' tk kp => ?_))
  have hS' := kp S _ S2 hS
  have ex' : Ext h0 h' := fun b o e => kp b o (fun z => by rw [N1 b z] at e; cases e) (ex b o e)
  show wpAny _ _ (do rule (toString "min" ++ toString ".default"); ret Value.none) _ _ _
  exact wpAny_bind (wpAny_rule (wpAny_pure (fin _ _ ex')))
end
section
variable {X : Cx} {e : Expr} {ta : TA} {x : Str} {id : String} {r : List V → Hp → VK → Prop} {p pos kp kp1 : Pos} {j : Nat}
/-- f(e, default=None) -/
def CallD (X : Cx) (id : String) (r : List V → Hp → VK → Prop) : Prop := ∀ (pins : List (Addr × Obj)) (s : Shared) (σ : St) (H : Hp) (xs : List V) (us : List Value) (Q : VK), Inv X pins σ H s → Vals xs us → r xs H Q → wpAny (model X.prog X.w) X.A (call (.builtin id) us [("default", .none)]) (EP X pins σ Q) X.xe s
theorem pe_callD (hc : CallD X id r) (hg : Gl X x) (hm : X.mg x = none) (hv : bootBuiltins x = some (.builtin id)) (ha : PA X [e] ta) (hn : x ≠ "__name__" := by decide) (hdb : (x == ("__debug__" : Str)) = false := by decide)
    (h1 : backTo pos (starEach [e] X.env) = (false, eval e X.env) :: backTo pos (starEach [] X.env) := by rfl) (h2 : ((backTo pos (starEach [e] X.env)).any fun x => x.fst) = false := by rfl)
    (h3 : ((backToKw pos (keywordEach [⟨some "default", .Constant .none j kp1, kp⟩] X.env)).all fun x => x.fst.isSome) = true := by rfl) (h4 : ((backToKw pos (keywordEach [⟨some "default", .Constant .none j kp1, kp⟩] X.env)).any fun x => x.fst.isNone) = false := by rfl)
    (h5 : (backToKw pos (keywordEach [⟨some "default", .Constant .none j kp1, kp⟩] X.env)).filterMap (·.1) = ([Str.ofString "default"] : List Str) := by rfl) :
    PE X (.Call (.Name x p) [e] [⟨some "default", .Constant .none j kp1, kp⟩] pos) (tCB r ta) := .mk <| by
  intro pins s σ H Q I h
  refine wpAny_Call_Name_kw (ld_blt I hg hm hv ?_ hn hdb)
  refine PyProof.Rows.callWith_kw ?_ h1 h2 h3 h4
  refine thn (ha pos pins s σ H _ I h) fun us s1 ⟨vs, H1, I1, r1, q1⟩ => ?_
  refine PyProof.Rows.kws_cons (Constant_none (PyProof.Rows.kws_nil ?_))
  rw [h5]
  exact hc pins s1 σ H1 vs us Q I1 r1 q1
def rMinD (K : PySem.W.Frag) : List V → Hp → VK → Prop := fun xs H Q => ∃ (a : Addr) (ps : List (List Stp)) (ys : List V), xs = [.ref a] ∧ SqL K H a ys ∧ DVs K H (ps.map plc) ys ∧ (ps = [] → Q .non H) ∧ (∀ (i : Nat) r v, ps[i]? = some r → ys[i]? = some v → (∀ q ∈ ps, r = q ∨ pLt r q = true) → Q v H)
theorem call_minD (hc : X.calm = true) (hu : X.A.units + 100 < cLine) : CallD X "min" (rMinD X.K) := by
  intro pins s σ H xs us Q I r h
  obtain ⟨a, ps, ys, rfl, hq, hds, q0, q1⟩ := h
  obtain ⟨u, rfl, ru⟩ := vals1 r
  cases ru
  obtain ⟨its, rv, pl, hz⟩ := I.list hq
  have hyl : ys.length = ps.length := by rw [hds.length, List.length_map]
  have hil : its.length = ps.length := by rw [← rv.length]; exact hyl
  have nm : (toString "min" ++ toString ".loop" : String) = "min.loop" := by decide
  have hl : s.heap.IsList a its.toArray := pl.isList
  refine wpAny_call (codeAny_call_builtin F.plain_min F.entry_min (check_minD ?_))
  show wpAny _ X.A.in1 (Builtin.Builtins.bindParams "min" ["key", "default"] 0 ⟨[], [("default", Value.none)]⟩ >>= _) _ _ s
  refine wpAny_bind (wpAny_of_eq (show Builtin.Builtins.bindParams "min" ["key", "default"] 0 ⟨[], [("default", Value.none)]⟩ = pure [none, some .none] from rfl) ?_)
  show wpAny _ X.A.in1 (pyIter (.ref a) >>= _) _ _ s
  refine wpAny_bind (wpAny_pyIter_list hl (wpAny_bind (wpAny_newObj_type ?_)))
  rw [nm]
  have n0 : ∀ b, s.heap.objs.size ≤ b → s.heap.get? b = none := fun b hb => Heap.get?_none_of_le hb
  have sz : (s.heap.push { cls := .type "list_iterator", data := .fields #[.ref a, .int 0 0] }).objs.size = s.heap.objs.size + 1 := Heap.size_push ..
  have hal : a < s.heap.objs.size := by
    obtain ⟨o, ho, _⟩ := hl
    exact Heap.lt_size ho
  have W := Walks.list (prog := X.prog) (w := X.w) (A := X.A.in1) (I.ok.hd hc) s.heap.objs.size a (Nat.ne_of_lt hal) its.toArray
  have kp : ∀ (h : Heap) (o1 o2 : Obj), Ext h ((h.push o1).push o2) := fun h o1 o2 b o q => Heap.get?_push_of_some _ (Heap.get?_push_of_some _ q)
  have hat : ∀ (i : Nat) z, its.toArray[i]? = some z → ∃ x r, ys[i]? = some x ∧ ps[i]? = some r ∧ RelV x z ∧ DV X.K H (plc r) x := fun i z hz => by
    have hi : i < ps.length := by
      have := (Array.getElem?_eq_some_iff.mp hz).1
      rw [List.size_toArray, hil] at this
      exact this
    obtain ⟨x, hx, hd⟩ := hds.get (i := i) (d := plc ps[i]) (by rw [List.getElem?_map, List.getElem?_eq_getElem hi]; rfl)
    obtain ⟨u, hu', ru⟩ := rv.get hx
    have : z = u := by
      rw [List.getElem?_toArray, hu'] at hz
      exact (Option.some.inj hz).symm
    subst this
    exact ⟨x, ps[i], hx, List.getElem?_eq_getElem hi, ru, hd⟩
  have gS : ((s.heap.push { cls := .type "list_iterator", data := .fields #[.ref a, .int 0 0] }).push { cls := .type "list", data := .seq #[] }).get? (s.heap.objs.size + 1) = some { cls := .type "list", dict := none, data := .seq #[] 0, slots := #[] } := by
    have := Heap.get?_push_size (s.heap.push { cls := .type "list_iterator", data := .fields #[.ref a, .int 0 0] }) (o := { cls := .type "list", data := .seq #[] }) rfl
    rw [sz] at this
    exact this
  have gI : ((s.heap.push { cls := .type "list_iterator", data := .fields #[.ref a, .int 0 0] }).push { cls := .type "list", data := .seq #[] }).IsListIter s.heap.objs.size a 0 := ⟨_, Heap.get?_push_of_some _ (Heap.get?_push_size _ rfl), rfl, rfl⟩
  have S1 : s.heap.objs.size + 1 ∉ [s.heap.objs.size, a] := by
    simp only [List.mem_cons, List.not_mem_nil, or_false, not_or]
    exact ⟨Nat.ne_of_gt (Nat.lt_succ_self _), Nat.ne_of_gt (Nat.lt_succ_of_lt hal)⟩
  have N1 : ∀ b ∈ [s.heap.objs.size], s.heap.get? b = none := fun b hb => by rw [List.mem_singleton.mp hb]; exact n0 _ (Nat.le_refl _)
  dsimp only
  rw [sz]
  rcases Nat.eq_zero_or_pos ps.length with e0 | hpos
  · have ep : ps = [] := List.length_eq_zero_iff.mp e0
    have ei : its = [] := List.length_eq_zero_iff.mp (by omega)
    subst ei
    refine wpAny_pure ⟨plainId_quiet F.plain_min_loop _, min_none (h0 := s.heap) W S1 N1 (n0 _ (Nat.le_succ _)) ⟨gI, (hl.push _).push _⟩ (kp _ _ _) gS fun h' tk ex => ?_⟩
    exact ⟨.non, H, I.kept (t' := tk) ex, rfl, q0 ep⟩
  · have key : CmpIn X.prog X.w X.A.in1 .Lt s.heap (fun i z => its.toArray[i]? = some z) (fun i j => pLt (ps.getD i []) (ps.getD j [])) := by
      intro i j x' y' s' Q' E' hij ex e1 e2 hq
      obtain ⟨xi, ri, _, hri, rxi, di⟩ := hat i x' e1
      obtain ⟨xj, rj, _, hrj, rxj, dj⟩ := hat j y' e2
      have hq : Q' (Value.bool (pLt (ps.getD i []) (ps.getD j []))) s' := hq
      rw [List.getD_eq_getElem?_getD, hri, List.getD_eq_getElem?_getD, hrj] at hq
      obtain ⟨as, ra⟩ := DV.reads I _ _ _ di rxi
      obtain ⟨bs, rb⟩ := DV.reads I _ _ _ dj rxj
      exact (cmpAt_data 64 (plc ri) (plc rj) (pLt ri rj) X.A.in1 s' x' y' as bs (SeqAt.depth_of_shaped (plc_shaped ri)) (reads_ext ex ra) (reads_ext ex rb) (plc_lay _) (plc_lay _) (ltD_plc ri rj) (by show X.A.units + 1 + 64 + 2 < cLine; omega)).1 _ _ _ _ hq
    refine wpAny_pure ⟨plainId_quiet F.plain_min_loop _, min_from (h0 := s.heap) W _ key _ S1 N1 (n0 _ (Nat.le_succ _)) (by rw [List.size_toArray, hil]; exact hpos) ⟨gI, (hl.push _).push _⟩ (kp _ _ _) gS fun z h' tk hz' ex => ?_⟩
    rw [List.size_toArray, hil] at hz'
    obtain ⟨x, r', hx, hr, rx, _⟩ := hat _ z hz'
    refine ⟨x, H, I.kept (t' := tk) ex, rx, q1 _ r' x hr hx fun q hq' => ?_⟩
    obtain ⟨i, hi⟩ := List.getElem?_of_mem hq'
    have hil2 := (List.getElem?_eq_some_iff.mp hi).1
    have := bt_least pLt_sto (fun i => ps.getD i []) (ps.length - 1) i (by omega)
    rw [show ps.getD (argBest (fun i j => pLt (ps.getD i []) (ps.getD j [])) (ps.length - 1)) [] = r' by rw [List.getD_eq_getElem?_getD, hr]; rfl, show ps.getD i [] = q by rw [List.getD_eq_getElem?_getD, hi]; rfl] at this
    exact this
end
end L2

namespace L2
open PySem PySem.Spec PyProof.Rows PySem.NumText
theorem SAt.same {K : PySem.W.Frag} {H H' : Hp} {a : Addr} {qs : List Mem} (S : SAt K H a qs) (s : Same H H') : SAt K H' a qs := ⟨s _ _ S.ob, fun q hq => DV.same s _ _ (S.dv q hq), S.ok, S.nd⟩
/-! ### a tuple in a list of tuples -/
mutual
theorem rd_fun {h : Heap} : ∀ (d d' : PyData) (v : Value) (as bs : List Addr), onlyI d = true → onlyI d' = true → Reads h v d as → Reads h v d' bs → d = d'
  | .int a, d', v, as, bs, _, o', r, r' => by
    cases r
    cases r'
    rfl
  | .tuple xs, d', v, as, bs, o, o', r, r' => by
    cases r with
    | tuple h1 h2 h3 h4 =>
      cases r' with
      | tuple g1 g2 g3 g4 =>
        rw [h1] at g1
        cases g1
        rw [h3] at g3
        cases g3
        rw [rds_fun xs _ _ _ _ o o' h4 g4]
      | _ => simp [onlyI] at o'
theorem rds_fun {h : Heap} : ∀ (ds ds' : List PyData) (vs : List Value) (as bs : List Addr), onlyIs ds = true → onlyIs ds' = true → ReadsAll h vs ds as → ReadsAll h vs ds' bs → ds = ds'
  | [], ds', vs, as, bs, _, _, r, r' => by
    cases r
    cases r'
    rfl
  | d :: ds, ds', vs, as, bs, o, o', r, r' => by
    cases r with
    | cons r1 r2 =>
      cases r' with
      | cons g1 g2 =>
        rw [onlyIs, Bool.and_eq_true] at o o'
        rw [rd_fun d _ _ _ _ o.1 o'.1 r1 g1, rds_fun ds _ _ _ _ o.2 o'.2 r2 g2]
end
section
variable {X : Cx}
def rInD (K : PySem.W.Frag) (neg : Bool) : R2 := fun x y H Q => ∃ d p ds ys, DV K H d x ∧ ok4 d ∧ y = .ref p ∧ SqL K H p ys ∧ DVs K H ds ys ∧ (∀ e ∈ ds, ok4 e) ∧ ∀ b, (b = true ↔ d ∈ ds) → Q (.bl (if neg then !b else b)) H
theorem in_data {pins : List (Addr × Obj)} {σ : St} {H : Hp} {s : Shared} (I : Inv X pins σ H s) (hu : X.A.units + 100 < cLine) {d : PyData} {x : V} {v : Value} (hd : DV X.K H d x) (ok : ok4 d) (rx : RelV x v) {ds : List PyData} {ys : List V} {its : List Value} (hds : DVs X.K H ds ys) (hok : ∀ e ∈ ds, ok4 e) (rv : Vals ys its) :
    ∃ f : Value → Bool, (∀ u ∈ its, SeqAt.EqAt X.A.in1 s u v (f u)) ∧ (its.any f = true ↔ d ∈ ds) := by
  classical
  have hx := I.el hd rx ok
  obtain ⟨as, ra⟩ := hx.rd
  have hat : ∀ (i : Nat) u, its[i]? = some u → ∃ e, ds[i]? = some e ∧ El s.heap u e := fun i u hu' => by
    have hi : i < ds.length := by
      have := (List.getElem?_eq_some_iff.mp hu').1
      rw [← rv.length, hds.length] at this
      exact this
    obtain ⟨z, hz, hdz⟩ := hds.get (i := i) (d := ds[i]) (List.getElem?_eq_getElem hi)
    obtain ⟨u2, hu2, ru2⟩ := rv.get hz
    rw [hu'] at hu2
    cases hu2
    exact ⟨ds[i], List.getElem?_eq_getElem hi, I.el hdz ru2 (hok _ (List.getElem_mem hi))⟩
  have fe : ∀ u e, El s.heap u e → decide (El s.heap u d) = PyData.eqv e d := fun u e he => by
    obtain ⟨bs, rb⟩ := he.rd
    cases hq : PyData.eqv e d with
    | true =>
      rw [eqv_eq e d he.oi hx.oi hq] at he
      exact decide_eq_true he
    | false =>
      refine decide_eq_false fun hc => ?_
      obtain ⟨cs, rc⟩ := hc.rd
      have := rd_fun e d u bs cs he.oi hx.oi rb rc
      rw [this, eqv_self hx.oi] at hq
      cases hq
  refine ⟨fun u => decide (El s.heap u d), fun u hu' => ?_, ?_⟩
  · obtain ⟨i, hi⟩ := List.getElem?_of_mem hu'
    obtain ⟨e, _, he⟩ := hat i u hi
    obtain ⟨bs, rb⟩ := he.rd
    show SeqAt.EqAt X.A.in1 s u v (decide (El s.heap u d))
    rw [fe u e he]
    exact SeqAt.eqAt_reads e d X.A.in1 s u v bs as rb ra (lay_onlyI e he.oi) (lay_onlyI d hx.oi) (by have := he.dp; have : min e.depth d.depth ≤ e.depth := Nat.min_le_left _ _; show X.A.units + 1 + _ < cLine; omega)
  · rw [List.any_eq_true]
    constructor
    · rintro ⟨u, hu', h⟩
      obtain ⟨i, hi⟩ := List.getElem?_of_mem hu'
      obtain ⟨e, hei, he⟩ := hat i u hi
      have h : decide (El s.heap u d) = true := h
      rw [fe u e he] at h
      rw [← eqv_eq e d he.oi hx.oi h]
      exact List.mem_of_getElem? hei
    · intro hm
      obtain ⟨i, hi⟩ := List.getElem?_of_mem hm
      have hil : i < its.length := by rw [← rv.length, hds.length]; exact (List.getElem?_eq_some_iff.mp hi).1
      obtain ⟨e, hei, he⟩ := hat i its[i] (List.getElem?_eq_getElem hil)
      rw [hi] at hei
      cases hei
      exact ⟨its[i], List.getElem_mem hil, decide_eq_true he⟩
theorem op_notInD (hu : X.A.units + 100 < cLine) : OpR X (compareOp .NotIn) (rInD X.K true) := by
  intro pins s σ H x y v u Q I rx ry h
  obtain ⟨d, p, ds, ys, hd, ok, rfl, hq, hds, hok, k⟩ := h
  cases ry
  obtain ⟨its, r, pl, hz⟩ := I.list hq
  obtain ⟨f, hf1, hf2⟩ := in_data I hu hd ok rx hds hok r
  refine SeqAt.notIn_listAt f pl.isList (fun w hw => hf1 w (by simpa using hw)) ⟨.bl (!its.toArray.any f), H, I, rfl, k (its.toArray.any f) ?_⟩
  rw [show its.toArray.any f = its.any f by simp]
  exact hf2
theorem op_gtGK {K : PySem.W.Frag} (h : X.K = K) (hu : X.A.units + 100 < cLine) : OpR X (compareOp .Gt) (rGtG K) := h ▸ op_gtG hu
theorem op_notInXK {K : PySem.W.Frag} (h : X.K = K) (hu : X.A.units + 100 < cLine) : OpR X (compareOp .NotIn) (rInX K true) := h ▸ op_notInX hu
end
end L2

local macro_rules | `(tactic| walk_at "rd") => `(tactic| repeat (first
  | refine ⟨_, rfl, ?_⟩
  | refine ⟨_, _, rfl, rfl, ?_⟩
  | refine ⟨(by show (0 : Int) < _; decide), ?_⟩
  | refine ⟨⟨by decide, by decide⟩, ?_⟩
  | refine ⟨Or.inr ⟨by decide, by decide⟩, ?_⟩
  | refine ⟨⟨by decide, by decide, by decide⟩, ?_⟩
  | refine ⟨_, _, _, _, rfl, rfl, L2.SqL.of L2.upd_same, rfl, ?_⟩
  | refine ⟨_, _, _, _, rfl, rfl, L2.SqL.of (by assumption), rfl, ?_⟩))
namespace My
open PySem L2 PySem.Spec PyProof.Rows PySem.NumText

def top (i : Nat) : Stmt := PySem.Challenge.pw_twotabs_k10_gaps.main.body.getD i (.Pass ⟨0, 0, 0, 0⟩)
abbrev s_is_in : Stmt := top 8
abbrev s_Sheet____init__ : Stmt := inClass (top 10) 0
abbrev s_Sheet__version : Stmt := inClass (top 10) 4
abbrev s_Sheet__has : Stmt := inClass (top 10) 5
abbrev s_Sheet__piece : Stmt := inClass (top 10) 6
abbrev s_Sheet__next_place : Stmt := inClass (top 10) 8
abbrev s_Sheet__gap : Stmt := inClass (top 10) 7
abbrev s__law_digits : Stmt := top 12
abbrev s__law_signs : Stmt := top 13
abbrev s__law_words : Stmt := top 14
abbrev s__law_version : Stmt := top 15
abbrev s__law_pairs : Stmt := top 16
abbrev s__law_due : Stmt := top 17
abbrev s__law_refused : Stmt := top 18
abbrev s__law_aside : Stmt := top 19
abbrev s_law : Stmt := top 20
/-- the addresses -/
structure Adr where
  f_is_in : Addr
  d_is_in : FuncData
  f_Sheet____init__ : Addr
  d_Sheet____init__ : FuncData
  f_Sheet__version : Addr
  d_Sheet__version : FuncData
  f_Sheet__has : Addr
  d_Sheet__has : FuncData
  f_Sheet__piece : Addr
  d_Sheet__piece : FuncData
  f_Sheet__next_place : Addr
  d_Sheet__next_place : FuncData
  f_Sheet__gap : Addr
  d_Sheet__gap : FuncData
  f__law_digits : Addr
  d__law_digits : FuncData
  f__law_signs : Addr
  d__law_signs : FuncData
  f__law_words : Addr
  d__law_words : FuncData
  f__law_version : Addr
  d__law_version : FuncData
  f__law_pairs : Addr
  d__law_pairs : FuncData
  f__law_due : Addr
  d__law_due : FuncData
  f__law_refused : Addr
  d__law_refused : FuncData
  f__law_aside : Addr
  d__law_aside : FuncData
  f_law : Addr
  d_law : FuncData
  DraftError : Addr
  NoPiece : Addr
  NoRoom : Addr
  NoSheet : Addr
  NoStretch : Addr
  Sheet : Addr

structure Txt (K : PySem.W.Frag) (mg : Str → Option Value) (A : Adr) : Prop where
  F_is_in : Fun K "is_in" "is_in" s_is_in A.f_is_in A.d_is_in
  g_is_in : mg "is_in" = some (.ref A.f_is_in)
  k_is_in : PySem.W.keepIn K (.ref A.f_is_in) = true
  b_is_in : Binds K A.d_is_in ["version"] []
  F_Sheet____init__ : Fun K "__init__" "Sheet.__init__" s_Sheet____init__ A.f_Sheet____init__ A.d_Sheet____init__
  b_Sheet____init__ : Binds K A.d_Sheet____init__ ["self", "pairs"] []
  mk_Sheet : Mk K A.Sheet A.f_Sheet____init__
  F_Sheet__version : Fun K "version" "Sheet.version" s_Sheet__version A.f_Sheet__version A.d_Sheet__version
  b_Sheet__version : Binds K A.d_Sheet__version ["self", "mark"] []
  m_Sheet__version : Meth K A.Sheet "version" A.f_Sheet__version
  F_Sheet__has : Fun K "has" "Sheet.has" s_Sheet__has A.f_Sheet__has A.d_Sheet__has
  b_Sheet__has : Binds K A.d_Sheet__has ["self", "mark"] []
  m_Sheet__has : Meth K A.Sheet "has" A.f_Sheet__has
  F_Sheet__piece : Fun K "piece" "Sheet.piece" s_Sheet__piece A.f_Sheet__piece A.d_Sheet__piece
  b_Sheet__piece : Binds K A.d_Sheet__piece ["self", "mark"] []
  m_Sheet__piece : Meth K A.Sheet "piece" A.f_Sheet__piece
  F_Sheet__next_place : Fun K "next_place" "Sheet.next_place" s_Sheet__next_place A.f_Sheet__next_place A.d_Sheet__next_place
  b_Sheet__next_place : Binds K A.d_Sheet__next_place ["self", "low", "aside"] []
  m_Sheet__next_place : Meth K A.Sheet "next_place" A.f_Sheet__next_place
  F_Sheet__gap : Fun K "gap" "Sheet.gap" s_Sheet__gap A.f_Sheet__gap A.d_Sheet__gap
  b_Sheet__gap : Binds K A.d_Sheet__gap ["self", "behind", "aside"] []
  m_Sheet__gap : Meth K A.Sheet "gap" A.f_Sheet__gap
  F__law_digits : Fun K "_law_digits" "_law_digits" s__law_digits A.f__law_digits A.d__law_digits
  g__law_digits : mg "_law_digits" = some (.ref A.f__law_digits)
  k__law_digits : PySem.W.keepIn K (.ref A.f__law_digits) = true
  b__law_digits : Binds K A.d__law_digits ["_law_cell", "_law_place"] []
  F__law_signs : Fun K "_law_signs" "_law_signs" s__law_signs A.f__law_signs A.d__law_signs
  g__law_signs : mg "_law_signs" = some (.ref A.f__law_signs)
  k__law_signs : PySem.W.keepIn K (.ref A.f__law_signs) = true
  b__law_signs : Binds K A.d__law_signs [] []
  F__law_words : Fun K "_law_words" "_law_words" s__law_words A.f__law_words A.d__law_words
  g__law_words : mg "_law_words" = some (.ref A.f__law_words)
  k__law_words : PySem.W.keepIn K (.ref A.f__law_words) = true
  b__law_words : Binds K A.d__law_words ["_law_one", "_law_other"] []
  F__law_version : Fun K "_law_version" "_law_version" s__law_version A.f__law_version A.d__law_version
  g__law_version : mg "_law_version" = some (.ref A.f__law_version)
  k__law_version : PySem.W.keepIn K (.ref A.f__law_version) = true
  b__law_version : Binds K A.d__law_version ["_law_some"] []
  F__law_pairs : Fun K "_law_pairs" "_law_pairs" s__law_pairs A.f__law_pairs A.d__law_pairs
  g__law_pairs : mg "_law_pairs" = some (.ref A.f__law_pairs)
  k__law_pairs : PySem.W.keepIn K (.ref A.f__law_pairs) = true
  b__law_pairs : Binds K A.d__law_pairs ["_law_cells"] []
  F__law_due : Fun K "_law_due" "_law_due" s__law_due A.f__law_due A.d__law_due
  g__law_due : mg "_law_due" = some (.ref A.f__law_due)
  k__law_due : PySem.W.keepIn K (.ref A.f__law_due) = true
  b__law_due : Binds K A.d__law_due ["_law_pairs_here", "_law_low", "_law_aside_here"] []
  F__law_refused : Fun K "_law_refused" "_law_refused" s__law_refused A.f__law_refused A.d__law_refused
  g__law_refused : mg "_law_refused" = some (.ref A.f__law_refused)
  k__law_refused : PySem.W.keepIn K (.ref A.f__law_refused) = true
  b__law_refused : Binds K A.d__law_refused ["_law_sheet", "_law_mark", "_law_aside_here"] []
  F__law_aside : Fun K "_law_aside" "_law_aside" s__law_aside A.f__law_aside A.d__law_aside
  g__law_aside : mg "_law_aside" = some (.ref A.f__law_aside)
  k__law_aside : PySem.W.keepIn K (.ref A.f__law_aside) = true
  b__law_aside : Binds K A.d__law_aside ["_law_pairs_here", "_law_some"] []
  F_law : Fun K "law" "law" s_law A.f_law A.d_law
  g_law : mg "law" = some (.ref A.f_law)
  k_law : PySem.W.keepIn K (.ref A.f_law) = true
  b_law : Binds K A.d_law ["_law_script"] []
  g_DraftError : mg "DraftError" = some (.ref A.DraftError)
  x_DraftError : XCls K A.DraftError
  g_NoPiece : mg "NoPiece" = some (.ref A.NoPiece)
  x_NoPiece : XCls K A.NoPiece
  g_NoRoom : mg "NoRoom" = some (.ref A.NoRoom)
  x_NoRoom : XCls K A.NoRoom
  g_NoSheet : mg "NoSheet" = some (.ref A.NoSheet)
  x_NoSheet : XCls K A.NoSheet
  g_NoStretch : mg "NoStretch" = some (.ref A.NoStretch)
  x_NoStretch : XCls K A.NoStretch
  g_Sheet : mg "Sheet" = some (.ref A.Sheet)
  cl_Sheet : Cls K A.Sheet
  na_Sheet_versions : NoAttr K A.Sheet "versions"
  m_np : PySem.W.mroIn K A.NoPiece (.ref A.DraftError) = some true
  kv : PySem.W.kitOne K (.ref A.NoPiece) (.type "ValueError") = some true
  kt : PySem.W.kitAny K (.ref A.NoPiece) [.ref A.NoRoom, .ref A.NoSheet, .ref A.NoStretch] = some false
  n_ValueError : mg "ValueError" = none
  n_dict : mg "dict" = none
  n_enumerate : mg "enumerate" = none
  n_isinstance : mg "isinstance" = none
  n_len : mg "len" = none
  n_list : mg "list" = none
  n_min : mg "min" = none
  n_range : mg "range" = none
  n_set : mg "set" = none
  n_tuple : mg "tuple" = none
def sp_law (K : PySem.W.Frag) : Sp := fun vs H Q _ => ∃ (a : Addr) (ns : List Int), vs = [.ref a] ∧ SqL K H a (ns.map V.int) ∧ ns.length ≤ 63 ∧ (∀ H', Q (.bl true) H') ∧ Plain H

def sp_digits : Sp := newSp (fun (a : Int × Int) vs => vs = [.int a.1, .int a.2]) (fun _ o => ∃ d0 d1 d2 d3 d4 d5 d6 d7 : Int, o = .lst [.int d0, .int d1, .int d2, .int d3, .int d4, .int d5, .int d6, .int d7] ∧ Dig d0 ∧ Dig d1 ∧ Dig d2 ∧ Dig d3 ∧ Dig d4 ∧ Dig d5 ∧ Dig d6 ∧ Dig d7)
theorem new_digits {P : Program} {w : World} {K : PySem.W.Frag} {mg : Str → Option Value} {base : Heap} {CX : CXT} {k : Nat} {f : Addr} {fd : FuncData} {ps : List Str}
    (F : FnOk P w K mg base CX k f fd ps (newRaw (fun (a : Int × Int) vs => vs = [.int a.1, .int a.2]) (fun _ o => ∃ d0 d1 d2 d3 d4 d5 d6 d7 : Int, o = .lst [.int d0, .int d1, .int d2, .int d3, .int d4, .int d5, .int d6, .int d7] ∧ Dig d0 ∧ Dig d1 ∧ Dig d2 ∧ Dig d3 ∧ Dig d4 ∧ Dig d5 ∧ Dig d6 ∧ Dig d7))) :
    FnOk P w K mg base CX k f fd ps sp_digits := F.new fun a o ⟨d0, d1, d2, d3, d4, d5, d6, d7, e, _⟩ => .inl ⟨_, e⟩
theorem eight {ds : List Int} (h : ds.length = 8) (hd : ∀ d ∈ ds, Dig d) : ∃ d0 d1 d2 d3 d4 d5 d6 d7 : Int, HO.lst (ds.map V.int) = .lst [.int d0, .int d1, .int d2, .int d3, .int d4, .int d5, .int d6, .int d7] ∧ Dig d0 ∧ Dig d1 ∧ Dig d2 ∧ Dig d3 ∧ Dig d4 ∧ Dig d5 ∧ Dig d6 ∧ Dig d7 := by
  match ds, h with
  | [a, b, c, d, e, f, g, i], _ => exact ⟨a, b, c, d, e, f, g, i, rfl, hd a (by simp), hd b (by simp), hd c (by simp), hd d (by simp), hd e (by simp), hd f (by simp), hd g (by simp), hd i (by simp)⟩

abbrev SMALL : Str := "abcdefghijklmnopqrstuvwxyz"
def SIGNS : Str := ((((" !\"#$&'()*+,-./0123456789:;<=>?@" : Str) ++ Txt.upper SMALL) ++ ("[\\]^_`" : Str)) ++ SMALL) ++ ("{|}~" : Str)
theorem signs_len : SIGNS.length = 94 := by decide +kernel
def sp_signs : Sp := pureSp (fun (_ : Unit) vs => vs = []) (fun _ v => v = .str SIGNS)
def sp_words : Sp := pureSp (fun (a : Int × Int) vs => vs = [.int a.1, .int a.2]) (fun _ v => ∃ z : Str, v = .str z ∧ z.length ≤ 6 ∧ PyData.strOk z = true)
theorem all_join {P : Nat → Bool} {g : Str} (hg : g.cps.all P = true) : ∀ {ps : List Str}, (∀ p ∈ ps, p.cps.all P = true) → (Txt.join g ps).cps.all P = true := by
  intro ps h
  show ((ps.drop 1).foldl (fun acc p => acc ++ g.cps ++ p.cps) (ps.headD Str.empty).cps).all P = true
  have go : ∀ (qs : List Str) (a : Array Nat), a.all P = true → (∀ p ∈ qs, p.cps.all P = true) → (qs.foldl (fun acc p => acc ++ g.cps ++ p.cps) a).all P = true := by
    intro qs
    induction qs with
    | nil => intro a ha _; exact ha
    | cons q qs ih =>
      intro a ha hq
      refine ih _ ?_ fun p hp => hq p (List.mem_cons_of_mem _ hp)
      rw [Array.all_append, Array.all_append, ha, hg, hq q List.mem_cons_self]
      rfl
  refine go _ _ ?_ fun p hp => h p (List.mem_of_mem_drop hp)
  cases ps with
  | nil => show (#[] : Array Nat).all P = true; simp
  | cons p ps => exact h p List.mem_cons_self
theorem signs_ok (i : Nat) : SIGNS.cps.toList.getD i 0 < 0x110000 := by
  have h : SIGNS.cps.toList.all (fun c => decide (c < 0x110000)) = true := by decide +kernel
  rw [List.getD_eq_getElem?_getD]
  cases e : SIGNS.cps.toList[i]? with
  | none => decide
  | some c => exact of_decide_eq_true (List.all_eq_true.mp h c (List.mem_of_getElem? e))
def digL (l : Addr) (H : Hp) : Prop := ∃ d0 d1 d2 d3 d4 d5 d6 d7 : Int, H l = some (.lst [.int d0, .int d1, .int d2, .int d3, .int d4, .int d5, .int d6, .int d7]) ∧ Dig d0 ∧ Dig d1 ∧ Dig d2 ∧ Dig d3 ∧ Dig d4 ∧ Dig d5 ∧ Dig d6 ∧ Dig d7
def sp_ver (K : PySem.W.Frag) : Sp := genSp (fun (a : Addr) vs H => vs = [.ref a] ∧ digL a H) (fun _ r H => ∃ v : Ver, DV K H (ver v) r ∧ okV v ∧ v.2.2.length ≤ 6) (fun _ _ => False)
theorem iteNT {p : Prop} [Decidable p] {A B : Prop} (h : ¬ p) (a : A) : if (!decide p) = true then A else B := by rw [decide_eq_false h]; exact iteT a
theorem empty_dv {K : PySem.W.Frag} {H : Hp} {t : Addr} (h : H t = some (.tup [])) : DV K H (plc []) (.ref t) := ⟨t, [], rfl, SqT.of h, rfl⟩
def sp_in (K : PySem.W.Frag) : Sp := genSp (fun (v : Ver) vs H => ∃ x, vs = [x] ∧ DV K H (ver v) x) (fun v r _ => r = .bl (!decide (v.2.1 = []))) (fun _ _ => False)

theorem Plain.ins {H : Hp} {l C dx : Addr} {fs : List (Str × V)} (p : Plain H) : Plain (upd H l (.ins C dx fs)) := p.upd trivial
theorem Plain.ext {H : Hp} {l : Addr} {φ : Heap → Prop} (p : Plain H) : Plain (upd H l (.ext φ)) := p.upd trivial
theorem sqT_ins {K : PySem.W.Frag} {H : Hp} {p C dx : Addr} {fs fs' : List (Str × V)} {a : Addr} {xs : List V} (hp : H p = some (.ins C dx fs)) (h : SqT K H a xs) : SqT K (upd H p (.ins C dx fs')) a xs := by
  rcases h with (h | ⟨o, h⟩) | h
  · exact .inl (.inl (by rw [upd_ne (ne_of h hp (by intro z; cases z))]; exact h))
  · exact .inl (.inr ⟨o, by rw [upd_ne (ne_of h hp (by intro z; cases z))]; exact h⟩)
  · exact .inr h
mutual
theorem dv_ins {K : PySem.W.Frag} {H : Hp} {p C dx : Addr} {fs fs' : List (Str × V)} (hp : H p = some (.ins C dx fs)) : ∀ (d : PyData) (v : V), noL d = true → DV K H d v → DV K (upd H p (.ins C dx fs')) d v
  | .none, v, _, h => h
  | .bool b, v, _, h => h
  | .int i, v, _, h => h
  | .str x, v, _, h => h
  | .list xs, v, n, _ => by cases n
  | .tuple xs, v, n, ⟨a, vs, h1, h2, h3⟩ => ⟨a, vs, h1, sqT_ins hp h2, dvs_ins hp xs vs n h3⟩
  | .dict _, v, _, h => h.elim
theorem dvs_ins {K : PySem.W.Frag} {H : Hp} {p C dx : Addr} {fs fs' : List (Str × V)} (hp : H p = some (.ins C dx fs)) : ∀ (ds : List PyData) (vs : List V), noLs ds = true → DVs K H ds vs → DVs K (upd H p (.ins C dx fs')) ds vs
  | [], vs, _, h => h
  | d :: ds, vs, n, ⟨v, r, h1, h2, h3⟩ => by
    have n : noL d = true ∧ noLs ds = true := by rw [noLs, Bool.and_eq_true] at n; exact n
    exact ⟨v, r, h1, dv_ins hp d v n.1 h2, dvs_ins hp ds r n.2 h3⟩
end
structure Good (ms : Sh) : Prop where
  nd : (ms.map (·.1)).Nodup
  ok : ∀ m ∈ ms, okV m.2 ∧ m.2.2.2.length ≤ 6 ∧ (0 ≤ m.1.1 ∧ m.1.1 ≤ 3) ∧ (1 ≤ m.1.2 ∧ m.1.2 ≤ 20)
  few : ms.length ≤ 59
theorem prD_of {K : PySem.W.Frag} {H : Hp} {m : Mark × Ver} {y : V} (h : DV K H (prD m) y) : ∃ t q x, y = .ref t ∧ SqT K H t [.ref q, x] ∧ SqT K H q (mkV m.1) ∧ DV K H (ver m.2) x := by
  obtain ⟨t, vs, rfl, ht, x1, r1, rfl, e1, x2, r2, rfl, e2, e3⟩ := h
  cases (show r2 = [] from e3)
  obtain ⟨q, rfl, hq⟩ := mark_of e1
  exact ⟨t, q, x2, rfl, ht, hq, e2⟩
theorem prL_lay : ∀ (ms : Sh), (∀ m ∈ ms, okV m.2) → PyData.canLayAll0 (ms.map prD) = true ∧ PyData.depthAll (ms.map prD) ≤ 30
  | [], _ => ⟨rfl, Nat.zero_le _⟩
  | m :: ms, h => by
    obtain ⟨h1, h2⟩ := prL_lay ms fun x hx => h x (List.mem_cons_of_mem _ hx)
    have h3 := prD_shaped (m := m) (h m List.mem_cons_self)
    unfold SeqAt.shaped at h3
    rw [Bool.and_eq_true] at h3
    refine ⟨?_, ?_⟩
    · show (PyData.canLay0 (prD m) && PyData.canLayAll0 (ms.map prD)) = true
      rw [h3.1, h1]
      rfl
    · show max (PyData.depth (prD m)) (PyData.depthAll (ms.map prD)) ≤ 30
      have h4 : PyData.depth (prD m) = max 1 (max (max 0 (max (PyData.depthAll (m.2.2.1.map stp) + 1) (max 0 0)) + 1) 0) + 1 := rfl
      have := depth_stps m.2.2.1
      omega
theorem prL_shaped {ms : Sh} (h : ∀ m ∈ ms, okV m.2) : SeqAt.shaped (.list (ms.map prD)) = true := by
  obtain ⟨h1, h2⟩ := prL_lay ms h
  unfold SeqAt.shaped
  rw [show PyData.canLay0 (.list (ms.map prD)) = true from h1, Bool.true_and]
  refine decide_eq_true ?_
  show PyData.depthAll (ms.map prD) + 1 ≤ 64
  omega
def sp_prs (K : PySem.W.Frag) : Sp := fun vs H Q _ => Plain H ∧ ∃ (c : Addr) (xs : List V), vs = [.ref c] ∧ H c = some (.lst xs) ∧ xs.length ≤ 59 ∧ (∀ x ∈ xs, ∃ n, x = .int n) ∧ ∀ (H' : Hp) (l : Addr) (ws : List V) (ms : Sh), Same H H' → Plain H' → H' l = some (.lst ws) → DVs K H' (ms.map prD) ws → Good ms → ms.length ≤ xs.length → Q (.ref l) H'
def sp_shi (P : Program) (w : World) (K : PySem.W.Frag) (C NS : Addr) : Sp := fun vs H Q E => Plain H ∧ ∃ (p dx l : Addr) (ws : List V) (ms : Sh), vs = [.ref p, .ref l] ∧ H p = some (.ins C dx []) ∧ SqL K H l ws ∧ DVs K H (ms.map prD) ws ∧ (∀ m ∈ ms, okV m.2) ∧ ms.length < 64 ∧
  ((ms.map (·.1)).Nodup → ∀ H', (∀ b o, b ≠ p → H b = some o → H' b = some o) → ShAt P w K C H' p ms → Plain H' → Q .non H') ∧ (¬ (ms.map (·.1)).Nodup → ∀ H', (∀ b o, b ≠ p → H b = some o → H' b = some o) → Plain H' → E (.ref NS) none H')
def sp_shv (P : Program) (w : World) (K : PySem.W.Frag) (C : Addr) : Sp := fun vs H Q _ => Plain H ∧ ∃ (p q : Addr) (m : Mark) (ms : Sh), vs = [.ref p, .ref q] ∧ ShAt P w K C H p ms ∧ SqT K H q (mkV m) ∧ ∀ x, DV K H (vdat (look ms m)) x → Q x H
def hasB (ms : Sh) (m : Mark) : Bool := match look ms m with
  | none => false
  | some v => !decide (v.2.1 = [])
def sp_shh (P : Program) (w : World) (K : PySem.W.Frag) (C : Addr) : Sp := fun vs H Q _ => Plain H ∧ ∃ (p q : Addr) (m : Mark) (ms : Sh), vs = [.ref p, .ref q] ∧ ShAt P w K C H p ms ∧ SqT K H q (mkV m) ∧ ∀ H', Same H H' → Plain H' → Q (.bl (hasB ms m)) H'

/-- the places behind low of the pieces that are not left aside -/
def highB (ms : Sh) (low : List Stp) (as : List Mark) (k : Mark) : Bool := !decide (k ∈ as) && pLt low (vOf ms k).2.1
def highs (ms : Sh) (low : List Stp) (as : List Mark) : List (List Stp) := ((ms.map (·.1)).filter (highB ms low as)).map fun k => (vOf ms k).2.1
def Least (hs : List (List Stp)) : Option (List Stp) → Prop
  | none => hs = []
  | some r => r ∈ hs ∧ ∀ q ∈ hs, r = q ∨ pLt r q = true
theorem Least.one {hs : List (List Stp)} : ∀ {a b : Option (List Stp)}, Least hs a → Least hs b → a = b
  | none, none, _, _ => rfl
  | none, some b, h1, h2 => by
    have h1 : hs = [] := h1
    subst h1
    cases h2.1
  | some a, none, h1, h2 => by
    have h2 : hs = [] := h2
    subst h2
    cases h1.1
  | some a, some b, h1, h2 => by
    rcases h1.2 b h2.1 with e | e
    · rw [e]
    · rcases h2.2 a h1.1 with e2 | e2
      · rw [e2]
      · rw [pLt_sto.asym e] at e2
        cases e2
def hiD : Option (List Stp) → PyData
  | none => .none
  | some r => plc r
def gapD (low : List Stp) (o : Option (List Stp)) : PyData := .tuple [plc low, hiD o]
def lowOf (ms : Sh) : Option Mark → Option (List Stp)
  | none => some []
  | some m => if hasB ms m = true then some (vOf ms m).2.1 else none
def markV (K : PySem.W.Frag) (H : Hp) : Option Mark → V → Prop
  | none, v => v = .non
  | some m, v => ∃ q, v = .ref q ∧ SqT K H q (mkV m)
theorem marks_ok (as : List Mark) : ∀ d ∈ as.map markD, ok4 d := fun d hd => by
  obtain ⟨m, _, rfl⟩ := List.mem_map.mp hd
  exact ok4_mark m
theorem markD_mem {as : List Mark} {m : Mark} : markD m ∈ as.map markD ↔ m ∈ as := by
  constructor
  · intro h
    obtain ⟨k, hk, e⟩ := List.mem_map.mp h
    have : k = m := by
      have e := PyData.tuple.inj e
      injection e with e1 e2
      injection e2 with e2 _
      exact Prod.ext (PyData.int.inj e1) (PyData.int.inj e2)
    exact this ▸ hk
  · exact List.mem_map_of_mem
def sp_pie (P : Program) (w : World) (K : PySem.W.Frag) (A : Adr) : Sp := fun vs H Q E => Plain H ∧ ∃ (p q : Addr) (m : Mark) (ms : Sh), vs = [.ref p, .ref q] ∧ ShAt P w K A.Sheet H p ms ∧ SqT K H q (mkV m) ∧ (hasB ms m = true → ∀ x H', Same H H' → Plain H' → DV K H' (ver (vOf ms m)) x → Q x H') ∧ (hasB ms m = false → ∀ H', Same H H' → Plain H' → E (.ref A.NoPiece) none H')
def sp_np (P : Program) (w : World) (K : PySem.W.Frag) (A : Adr) : Sp := fun vs H Q _ => Plain H ∧ ∃ (p : Addr) (ms : Sh) (low : List Stp) (lv : V) (a : Addr) (ys : List V) (as : List Mark), vs = [.ref p, lv, .ref a] ∧ ShAt P w K A.Sheet H p ms ∧ DV K H (plc low) lv ∧ SqL K H a ys ∧ DVs K H (as.map markD) ys ∧ as.length < 300 ∧ ∀ o v H', Same H H' → Plain H' → Least (highs ms low as) o → DV K H' (hiD o) v → Q v H'
def sp_gap (P : Program) (w : World) (K : PySem.W.Frag) (A : Adr) : Sp := fun vs H Q E => Plain H ∧ ∃ (p : Addr) (ms : Sh) (bo : Option Mark) (bv : V) (a : Addr) (ys : List V) (as : List Mark), vs = [.ref p, bv, .ref a] ∧ ShAt P w K A.Sheet H p ms ∧ markV K H bo bv ∧ SqL K H a ys ∧ DVs K H (as.map markD) ys ∧ as.length < 300 ∧
  (∀ low, lowOf ms bo = some low → ∀ o t H', Same H H' → Plain H' → Least (highs ms low as) o → DV K H' (gapD low o) t → Q t H') ∧ (lowOf ms bo = none → ∀ H', Same H H' → Plain H' → E (.ref A.NoPiece) none H')
theorem highs_es {K : PySem.W.Frag} {H : Hp} {es : List Ent} {ms : Sh} (he : EnS K H es ms) (low : List Stp) (as : List Mark) : (es.filter fun e => highB ms low as e.1).map (fun e => (vOf ms e.1).2.1) = highs ms low as := by
  unfold highs
  rw [← ens_marks he, List.filter_map, List.map_map]
  rfl

theorem pLt_nil (a : List Stp) : pLt a [] = false := by cases a <;> rfl
def highT (ms : Sh) (low : List Stp) (as : List Mark) (i : Nat) : List (List Stp) := (((ms.take i).map (·.1)).filter (highB ms low as)).map fun k => (vOf ms k).2.1
theorem highT_succ {ms : Sh} {low : List Stp} {as : List Mark} {i : Nat} (h : i < ms.length) : highT ms low as (i + 1) = highT ms low as i ++ if highB ms low as ms[i].1 = true then [(vOf ms ms[i].1).2.1] else [] := by
  unfold highT
  rw [List.take_succ_eq_append_getElem h, List.map_append, List.filter_append, List.map_append]
  congr 1
  cases e : highB ms low as ms[i].1 with
  | true => rw [if_pos rfl]; simp [e]
  | false => rw [if_neg (by decide)]; simp [e]
theorem highT_all (ms : Sh) (low : List Stp) (as : List Mark) : highT ms low as ms.length = highs ms low as := by
  unfold highT highs
  rw [List.take_length]
theorem gapD_lay (low : List Stp) : ∀ o, PyData.canLay0 (gapD low o) = true
  | none => by
    show (PyData.canLay0 (plc low) && (true && true)) = true
    rw [plc_lay]
    rfl
  | some r => by
    show (PyData.canLay0 (plc low) && (PyData.canLay0 (plc r) && true)) = true
    rw [plc_lay, plc_lay]
    rfl
theorem plc_depth (r : List Stp) : PyData.depth (plc r) ≤ 2 := by
  have := depth_stps r
  show PyData.depthAll (r.map stp) + 1 ≤ 2
  omega
theorem gapD_shaped (low : List Stp) (o : Option (List Stp)) : SeqAt.shaped (gapD low o) = true := by
  unfold SeqAt.shaped
  rw [gapD_lay, Bool.true_and]
  refine decide_eq_true ?_
  have h1 := plc_depth low
  cases o with
  | none =>
    show max (PyData.depth (plc low)) (max 0 0) + 1 ≤ _
    omega
  | some r =>
    have h2 := plc_depth r
    show max (PyData.depth (plc low)) (max (PyData.depth (plc r)) 0) + 1 ≤ _
    omega
theorem gapD_eqv (low : List Stp) (o : Option (List Stp)) : PyData.eqv (gapD low o) (gapD low o) = true := SeqAt.eqvAll_refl _ (gapD_lay low o)
theorem hasB_in {ms : Sh} (nd : (ms.map (·.1)).Nodup) {m : Mark × Ver} (h : m ∈ ms) : hasB ms m.1 = !decide (m.2.2.1 = []) := by
  unfold hasB
  rw [look_in nd h]
theorem look_out : ∀ {ms : Sh} {k : Mark}, k ∉ ms.map (·.1) → look ms k = none
  | [], _, _ => rfl
  | m :: ms, k, h => by
    rw [List.map_cons, List.mem_cons, not_or] at h
    unfold look
    rw [if_neg (fun z => h.1 z.symm)]
    exact look_out h.2
theorem hasB_out {ms : Sh} {k : Mark} (h : k ∉ ms.map (·.1)) : hasB ms k = false := by
  unfold hasB
  rw [look_out h]
theorem marks_lay : ∀ as : List Mark, PyData.canLayAll0 (as.map markD) = true ∧ PyData.depthAll (as.map markD) ≤ 1
  | [] => ⟨rfl, Nat.zero_le _⟩
  | a :: as => by
    obtain ⟨h1, h2⟩ := marks_lay as
    refine ⟨?_, ?_⟩
    · show (PyData.canLay0 (markD a) && PyData.canLayAll0 (as.map markD)) = true
      rw [h1]
      rfl
    · show max (PyData.depth (markD a)) (PyData.depthAll (as.map markD)) ≤ 1
      have : PyData.depth (markD a) = 1 := rfl
      omega
theorem marks_shaped (as : List Mark) : SeqAt.shaped (.list (as.map markD)) = true := by
  obtain ⟨h1, h2⟩ := marks_lay as
  unfold SeqAt.shaped
  rw [show PyData.canLay0 (.list (as.map markD)) = true from h1, Bool.true_and]
  refine decide_eq_true ?_
  show PyData.depthAll (as.map markD) + 1 ≤ _
  omega
theorem marks_eqv (as : List Mark) : PyData.eqv (.list (as.map markD)) (.list (as.map markD)) = true := SeqAt.eqvAll_refl _ (marks_lay as).1
theorem noLs_marks : ∀ as : List Mark, noLs (as.map markD) = true
  | [] => rfl
  | a :: as => by
    show (noL (markD a) && noLs (as.map markD)) = true
    rw [noLs_marks as]
    rfl
theorem cut_len2 (xs : List V) : (cutV xs (some 2) (some 30)).length ≤ 28 := by
  unfold cutV
  rw [List.length_take, List.length_drop, show HT.sIx xs.length 0 (some 2) = min 2 xs.length from HT.sIx_nat .., show HT.sIx xs.length xs.length (some 30) = min 30 xs.length from HT.sIx_nat ..]
  omega
def sp_due (K : PySem.W.Frag) : Sp := fun vs H Q _ => Plain H ∧ ∃ (p : Addr) (ws : List V) (ms : Sh) (low : List Stp) (lv : V) (a : Addr) (ys : List V) (as : List Mark), vs = [.ref p, lv, .ref a] ∧ SqL K H p ws ∧ DVs K H (ms.map prD) ws ∧ Good ms ∧ DV K H (plc low) lv ∧ SqL K H a ys ∧ DVs K H (as.map markD) ys ∧ ∀ o t H', Same H H' → Plain H' → Least (highs ms low as) o → DV K H' (gapD low o) t → Q t H'
def sp_rfd (P : Program) (w : World) (K : PySem.W.Frag) (A : Adr) : Sp := fun vs H Q _ => Plain H ∧ ∃ (p q : Addr) (m : Mark) (ms : Sh) (a : Addr) (ys : List V) (as : List Mark), vs = [.ref p, .ref q, .ref a] ∧ ShAt P w K A.Sheet H p ms ∧ SqT K H q (mkV m) ∧ SqL K H a ys ∧ DVs K H (as.map markD) ys ∧ as.length < 300 ∧ hasB ms m = false ∧ ∀ H', Same H H' → Plain H' → Q (.bl true) H'
def sp_asd (K : PySem.W.Frag) : Sp := fun vs H Q _ => Plain H ∧ ∃ (p : Addr) (ws : List V) (ms : Sh) (l : Addr), vs = [.ref p, .ref l] ∧ SqL K H p ws ∧ DVs K H (ms.map prD) ws ∧ Good ms ∧ digL l H ∧ ∀ (a : Addr) (ys : List V) (as : List Mark) (H' : Hp), H a = none → Same H H' → Plain H' → H' a = some (.lst ys) → DVs K H' (as.map markD) ys → as.length ≤ 10 → Q (.ref a) H'

section
variable {P : Program} {w : World} {K : PySem.W.Frag} {mg : Str → Option Value} {base : Heap} {A : Adr}
theorem sc_is_in : FnScope ["version"] ["version"] (defScope s_is_in) := ⟨rfl, rfl, rfl, by decide +kernel, rfl, by decide +kernel, by decide +kernel⟩
abbrev Ok_is_in (P : Program) (w : World) (K : PySem.W.Frag) (mg : Str → Option Value) (base : Heap) (A : Adr) : Prop := FnOk P w K mg base (CX1 P w base) 1 A.f_is_in A.d_is_in ["version"] (sp_in K)
set_option maxHeartbeats 4000000 in
theorem ok_is_in (T : Txt K mg A)  : Ok_is_in P w K mg base A := by
  refine T.F_is_in.okN sc_is_in (fun vs H Q E h => ?_) (fun cdv Ar outer s H vs Q E hr h => ?_)
  · obtain ⟨_, a, ⟨x, rfl, _⟩, _⟩ := h
    rfl
  · obtain ⟨hp, v, ⟨x, hv, hx⟩, q, _⟩ := h
    obtain rfl : vs = [x] := hv
    obtain ⟨t, pa, rfl, hq, hd⟩ := ver_of hx
    refine ⟨_, (pss_one (ps_ret (pe_cmpR (op_neD hr.units) (pe_ix ix_tup (pv 0) pe_int (fun _ _ => rfl)) (pe_tup pa_nil) (nomark _)))), ?_⟩
    refine ⟨_, rfl, _, _, _, _, rfl, rfl, hq, rfl, by show 0 ≤ sizeLine; decide, fun te hp1 => ?_⟩
    generalize hH1 : upd H te (HO.tup _) = H1
    have s1 : Same H H1 := hH1 ▸ same_upd hp1
    have P1 : Plain H1 := hH1 ▸ hp.tup
    have h1 := (congrFun hH1 te).symm.trans upd_same
    refine ⟨plc v.2.1, plc [], DV.same s1 _ _ hd, empty_dv h1, plc_shaped _, plc_shaped _, q _ _ ?_ s1 P1⟩
    rw [plc_eqv]
theorem sc_Sheet____init__ : FnScope ["self", "pairs"] ["self", "pairs"] (defScope s_Sheet____init__) := ⟨rfl, rfl, rfl, by decide +kernel, rfl, by decide +kernel, by decide +kernel⟩
abbrev Ok_Sheet____init__ (P : Program) (w : World) (K : PySem.W.Frag) (mg : Str → Option Value) (base : Heap) (A : Adr) : Prop := FnOk P w K mg base (CX1 P w base) 1 A.f_Sheet____init__ A.d_Sheet____init__ ["self", "pairs"] (sp_shi P w K A.Sheet A.NoSheet)
set_option maxHeartbeats 4000000 in
theorem ok_Sheet____init__ (T : Txt K mg A)  : Ok_Sheet____init__ P w K mg base A := by
  refine T.F_Sheet____init__.okX sc_Sheet____init__ (fun vs H Q E h => ?_) (fun cdv Ar outer s H vs Q E hr h => ?_)
  · obtain ⟨_, p, dx, l, ws, ms, rfl, _⟩ := h
    rfl
  · obtain ⟨hP, p, dx, l, ws, ms, rfl, hp, hl, hd, hok, few, q, qe⟩ := h
    refine ⟨_, (pss_cons (ps_fld (pv 0) (pe_callTy (call_dictL rfl hr.u100) rfl T.n_dict (by decide +kernel) (pa_cons (pv 1) pa_nil)) rfl)
      (pss_one (ps_if (pt_cmpR op_ne (pe_callB call_lenM rfl T.n_len (by decide +kernel) (pa_cons (pe_fld (pv 0) rfl) pa_nil)) (pe_callB call_len_seq rfl T.n_len (by decide +kernel) (pa_cons (pv 1) pa_nil)) (nomark _)) (pss_one (ps_raise T.x_NoSheet wants_fn rfl rfl T.g_NoSheet (pa_cons pe_str pa_nil))) pss_nil))), ?_⟩
    obtain ⟨ps, h1, h2⟩ := pairs_of hd
    have hpl : ps.length = ws.length := Paired.length h1
    have hpm : ps.length = ms.length := Paired.length h2
    have emk := ens_marks h2
    refine ⟨_, rfl, l, ws, ps, rfl, hl, h1, by omega, fun d o hd0 => ?_⟩
    have npd : p ≠ d := ne_of_none hp hd0
    refine ⟨_, rfl, p, A.Sheet, dx, [], rfl, (by rw [upd_ne npd]; exact hp), T.cl_Sheet, T.na_Sheet_versions, (by show 0 < 1000; decide), ?_⟩
    have keep : ∀ b o', b ≠ p → H b = some o' → (upd (upd H d (dO P w d (putAll [] ps) o)) p (.ins A.Sheet dx (putF "versions" (.ref d) []))) b = some o' := fun b o' hb e => by
      rw [upd_ne hb, upd_ne (ne_of_none e hd0)]; exact e
    have P2 : Plain (upd (upd H d (dO P w d (putAll [] ps) o)) p (.ins A.Sheet dx (putF "versions" (.ref d) []))) := Plain.ins (Plain.ext hP)
    have hp2 : (upd (upd H d (dO P w d (putAll [] ps) o)) p (.ins A.Sheet dx (putF "versions" (.ref d) []))) p = some (.ins A.Sheet dx [("versions", .ref d)]) := upd_same
    have hd2 : (upd (upd H d (dO P w d (putAll [] ps) o)) p (.ins A.Sheet dx (putF "versions" (.ref d) []))) d = some (dO P w d (putAll [] ps) o) := by rw [upd_ne npd.symm]; exact upd_same
    have hl2 : SqL K (upd (upd H d (dO P w d (putAll [] ps) o)) p (.ins A.Sheet dx (putF "versions" (.ref d) []))) l ws := by
      rcases hl with (z | ⟨o', z⟩) | z
      · exact .inl (.inl (keep _ _ (ne_of z hp (by intro z; cases z)) z))
      · exact .inl (.inr ⟨o', keep _ _ (ne_of z hp (by intro z; cases z)) z⟩)
      · exact .inr z
    have he2 : EnS K (upd (upd H d (dO P w d (putAll [] ps) o)) p (.ins A.Sheet dx (putF "versions" (.ref d) []))) ps ms := by
      have sd : Same H (upd H d (dO P w d (putAll [] ps) o)) := same_upd hd0
      have hpd : (upd H d (dO P w d (putAll [] ps) o)) p = some (.ins A.Sheet dx []) := sd _ _ hp
      refine (h2.imp (H' := upd H d (dO P w d (putAll [] ps) o)) (fun _ _ q => sd.seqT q) fun _ _ q => DV.same sd _ _ q).imp (fun a m q => sqT_ins hpd q) fun v x q => dv_ins hpd _ _ (noL_ver v) q
    refine ⟨_, rfl, p, A.Sheet, dx, _, _, rfl, hp2, T.cl_Sheet, T.na_Sheet_versions, rfl, d, _, o, rfl, hd2, _, rfl, l, ws, rfl, .inl hl2, rfl, _, rfl, ?_⟩
    by_cases nd : (ms.map (·.1)).Nodup
    · have e : putAll [] ps = ps := putAll_new ps [] (by rw [List.nil_append, emk]; exact nd)
      refine iteNS (by rw [e, hpl]) ?_
      exact q nd _ keep ⟨⟨dx, d, ps, o, hp2, hd2.trans (by rw [e]), he2⟩, nd, hok, few⟩ P2
    · have e := putAll_less ps [] List.nodup_nil (by rw [List.nil_append, emk]; exact nd)
      rw [List.length_nil] at e
      refine iteNT (fun z => by have := V.int.inj z; omega) ?_
      exact ⟨by show 1 ≤ sizeLine; decide, qe nd _ keep P2⟩
theorem sc_Sheet__version : FnScope ["self", "mark"] ["self", "mark"] (defScope s_Sheet__version) := ⟨rfl, rfl, rfl, by decide +kernel, rfl, by decide +kernel, by decide +kernel⟩
abbrev Ok_Sheet__version (P : Program) (w : World) (K : PySem.W.Frag) (mg : Str → Option Value) (base : Heap) (A : Adr) : Prop := FnOk P w K mg base (CX1 P w base) 1 A.f_Sheet__version A.d_Sheet__version ["self", "mark"] (sp_shv P w K A.Sheet)
set_option maxHeartbeats 4000000 in
theorem ok_Sheet__version (T : Txt K mg A)  : Ok_Sheet__version P w K mg base A := by
  refine T.F_Sheet__version.okN sc_Sheet__version (fun vs H Q E h => ?_) (fun cdv Ar outer s H vs Q E hr h => ?_)
  · obtain ⟨_, p, q0, m, ms, rfl, _⟩ := h
    rfl
  · obtain ⟨hP, p, q0, m, ms, rfl, S, hm, q⟩ := h
    refine ⟨_, (pss_one (ps_ret (pe_mget (hu_of hr) (pe_fld (pv 0) rfl) (pv 1)))), ?_⟩
    obtain ⟨dx, d, es, o, hp, hd, he⟩ := S.ex
    have D : DM P w K H d es := ⟨⟨o, hd⟩, fun e h => (ens_val he e h).1⟩
    exact ⟨_, rfl, p, A.Sheet, dx, _, _, rfl, hp, T.cl_Sheet, T.na_Sheet_versions, rfl, d, es, rfl, D, _, rfl, q0, m, rfl, D, hm, q _ (look_find he m)⟩
theorem sc_Sheet__has : FnScope ["self", "mark", "version"] ["self", "mark"] (defScope s_Sheet__has) := ⟨rfl, rfl, rfl, by decide +kernel, rfl, by decide +kernel, by decide +kernel⟩
abbrev Ok_Sheet__has (P : Program) (w : World) (K : PySem.W.Frag) (mg : Str → Option Value) (base : Heap) (A : Adr) : Prop := FnOk P w K mg base (CX1 P w base) 2 A.f_Sheet__has A.d_Sheet__has ["self", "mark"] (sp_shh P w K A.Sheet)
set_option maxHeartbeats 4000000 in
theorem ok_Sheet__has (T : Txt K mg A) (G_is_in : Ok_is_in P w K mg base A) (G_Sheet__version : Ok_Sheet__version P w K mg base A) : Ok_Sheet__has P w K mg base A := by
  have B_is_in := T.b_is_in
  have B_Sheet__version := T.b_Sheet__version
  refine T.F_Sheet__has.okN sc_Sheet__has (fun vs H Q E h => ?_) (fun cdv Ar outer s H vs Q E hr h => ?_)
  · obtain ⟨_, p, q0, m, ms, rfl, _⟩ := h
    rfl
  · obtain ⟨hP, p, q0, m, ms, rfl, S, hm, q⟩ := h
    refine ⟨_, (pss_cons (ps_set (i := 2) sc_Sheet__has.nd rfl (Or.inl rfl) (pe_meth (pv 0) T.cl_Sheet T.m_Sheet__version G_Sheet__version (hr.mono (by decide)) B_Sheet__version .nil pass1 (pa_cons (pv 1) pa_nil)))
      (pss_one (ps_ret (pe_and (pe_cmpR op_notN (pv 2) pe_non (nomark _)) (pe_one (pe_call G_is_in (hr.mono (by decide)) rfl T.g_is_in T.k_is_in B_is_in .nil pass1 (pa_cons (pv 2) pa_nil))))))), ?_⟩
    obtain ⟨dx, d, es, o, hp, hd, he⟩ := S.ex
    refine ⟨_, rfl, p, dx, _, rfl, hp, rfl, _, rfl, hP, p, q0, m, ms, rfl, S, hm, fun x hx => ?_⟩
    unfold hasB at q
    cases e : look ms m with
    | none =>
      rw [e] at hx q
      cases (show x = .non from hx)
      exact ⟨_, rfl, rfl, _, rfl, iteF (q _ (Same.refl _) hP)⟩
    | some v =>
      rw [e] at hx q
      obtain ⟨t, pv, rfl, _⟩ := ver_of (show DV K H (ver v) x from hx)
      exact ⟨_, rfl, rfl, _, rfl, iteT ⟨_, rfl, hP, v, ⟨_, rfl, hx⟩, fun y H' hy s' P' => by rw [hy]; exact q _ s' P', fun _ _ h => h.elim⟩⟩
theorem sc_Sheet__piece : FnScope ["self", "mark"] ["self", "mark"] (defScope s_Sheet__piece) := ⟨rfl, rfl, rfl, by decide +kernel, rfl, by decide +kernel, by decide +kernel⟩
abbrev Ok_Sheet__piece (P : Program) (w : World) (K : PySem.W.Frag) (mg : Str → Option Value) (base : Heap) (A : Adr) : Prop := FnOk P w K mg base (CX1 P w base) 3 A.f_Sheet__piece A.d_Sheet__piece ["self", "mark"] (sp_pie P w K A)
set_option maxHeartbeats 4000000 in
theorem ok_Sheet__piece (T : Txt K mg A) (G_Sheet__version : Ok_Sheet__version P w K mg base A) (G_Sheet__has : Ok_Sheet__has P w K mg base A) : Ok_Sheet__piece P w K mg base A := by
  have B_Sheet__version := T.b_Sheet__version
  have B_Sheet__has := T.b_Sheet__has
  refine T.F_Sheet__piece.okX sc_Sheet__piece (fun vs H Q E h => ?_) (fun cdv Ar outer s H vs Q E hr h => ?_)
  · obtain ⟨_, p, q0, m, ms, rfl, _⟩ := h
    rfl
  · obtain ⟨hP, p, q0, m, ms, rfl, S, hm, q, qe⟩ := h
    refine ⟨_, (pss_cons (ps_if (pt_not (pt_val (pe_meth (pv 0) T.cl_Sheet T.m_Sheet__has G_Sheet__has (hr.mono (by decide)) B_Sheet__has .nil pass1 (pa_cons (pv 1) pa_nil)))) (pss_one (ps_raise T.x_NoPiece wants_fn rfl rfl T.g_NoPiece (pa_cons pe_str pa_nil))) pss_nil)
      (pss_one (ps_ret (pe_meth (pv 0) T.cl_Sheet T.m_Sheet__version G_Sheet__version (hr.mono (by decide)) B_Sheet__version .nil pass1 (pa_cons (pv 1) pa_nil))))), ?_⟩
    obtain ⟨dx, d, es, o, hp, hd, he⟩ := S.ex
    refine ⟨_, rfl, p, dx, _, rfl, hp, rfl, _, rfl, hP, p, q0, m, ms, rfl, S, hm, fun H1 s1 P1 => ⟨_, rfl, ?_⟩⟩
    cases hb : hasB ms m with
    | false => exact iteT ⟨by show 1 ≤ sizeLine; decide, qe hb _ s1 P1⟩
    | true =>
      refine iteF ⟨_, rfl, p, dx, _, rfl, s1 _ _ hp, rfl, _, rfl, P1, p, q0, m, ms, rfl, S.same s1, s1.seqT hm, fun x hx => ?_⟩
      unfold hasB at hb
      cases e : look ms m with
      | none => rw [e] at hb; cases hb
      | some v =>
        rw [e] at hx
        have ev : vOf ms m = v := by unfold vOf; rw [e]; rfl
        refine q (by unfold hasB; exact hb) x H1 s1 P1 ?_
        rw [ev]
        exact hx
theorem sc_Sheet__next_place : FnScope ["self", "low", "aside", "left", "places"] ["self", "low", "aside"] (defScope s_Sheet__next_place) := ⟨rfl, rfl, rfl, by decide +kernel, rfl, by decide +kernel, by decide +kernel⟩
abbrev Ok_Sheet__next_place (P : Program) (w : World) (K : PySem.W.Frag) (mg : Str → Option Value) (base : Heap) (A : Adr) : Prop := FnOk P w K mg base (CX1 P w base) 1 A.f_Sheet__next_place A.d_Sheet__next_place ["self", "low", "aside"] (sp_np P w K A)
set_option maxHeartbeats 4000000 in
theorem ok_Sheet__next_place (T : Txt K mg A)  : Ok_Sheet__next_place P w K mg base A := by
  refine T.F_Sheet__next_place.okN sc_Sheet__next_place (fun vs H Q E h => ?_) (fun cdv Ar outer s H vs Q E hr h => ?_)
  · obtain ⟨_, p, ms, low, lv, a, ys, as, rfl, _⟩ := h
    rfl
  · obtain ⟨hP, p, ms, low, lv, a, ys, as, rfl, S, hlow, ha, has, few, q⟩ := h
    refine ⟨_, (pss_cons (ps_set (i := 3) sc_Sheet__next_place.nd rfl (Or.inr rfl) (pe_callTy (call_setX rfl hr.u100) rfl T.n_set (by decide +kernel) (pa_cons (pv 2) pa_nil)))
      (pss_cons (ps_setC ["mark", "version", "low", "left"] 2 [1, 3] (i := 4) sc_Sheet__next_place.nd rfl (Or.inl rfl) rfl (pi_items (pe_fld (pv 0) rfl)) gk2 (fun _ _ _ _ _ => pg_tup rfl (pgs_cons (pg_name (i := 0) (show List.Nodup (["mark", "version", "low", "left"] : List Str) by decide +kernel) rfl (Or.inl rfl)) (pgs_cons (pg_name (i := 1) (show List.Nodup (["mark", "version", "low", "left"] : List Str) by decide +kernel) rfl (Or.inl rfl)) pgs_nil))) (fun _ _ _ _ _ => pif_one (PW.pt (pw_and (pt_cmpR (op_notInXK (K := K) rfl hr.u100) (pv 0) (pv 3) (by rfl)) (pw_and1 (pt_cmpR (op_gtGK (K := K) rfl hr.u100) (pe_ix (ix_tupK (K := K) rfl) (pv 1) pe_int (fun _ _ => rfl)) (pv 2) (nomark _)))))) (fun _ _ _ _ _ => (pe_ix (ix_tupK (K := K) rfl) (pv 1) pe_int (fun _ _ => rfl))))
      (pss_one (ps_ret (pe_callD (call_minD rfl hr.u100) rfl T.n_min (by decide +kernel) (pa_cons (pv 4) pa_nil)))))), ?_⟩
    obtain ⟨dx, d, es, o, hp, hd, he⟩ := S.ex
    refine ⟨_, rfl, a, as.map markD, ys, rfl, ha, has, marks_ok as, by rw [List.length_map]; exact few, fun sa qs hsa X1 hin hql => ?_⟩
    have s1 : Same H (upd H sa (setXO sa qs)) := same_upd hsa
    have P1 : Plain (upd H sa (setXO sa qs)) := hP.upd trivial
    generalize upd H sa (setXO sa qs) = H1 at s1 P1 X1 ⊢
    have hpm : es.length = ms.length := Paired.length he
    have few2 := S.few
    refine ⟨_, rfl, p, A.Sheet, dx, _, _, rfl, s1 _ _ hp, T.cl_Sheet, T.na_Sheet_versions, rfl, d, es, o, rfl, s1 _ _ hd, fun v hv D hD => ?_⟩
    have sv : Same H1 (upd H1 v (viewO v d)) := same_upd hv
    have P2 : Plain (upd H1 v (viewO v d)) := Plain.ext P1
    generalize upd H1 v (viewO v d) = H2 at sv P2 hD ⊢
    have S2 := s1.trans sv
    refine comp_items (fun e => highB ms low as e.1) (fun e y H => DV K H (plc (vOf ms e.1).2.1) y) hD P2 (S2 _ _ hd) (Nat.le_of_lt (small1000 (by omega))) (fun e y Ha Hb h k hz => DV.mono k hz _ _ (noL_plc _) h) ?_ ?_
    · intro i e H3 T' Tt Tf hei P3 S3 hT ht hf
      obtain ⟨hk, x, hx, hv2⟩ := ens_val he e (List.mem_of_getElem? hei)
      have ex : vOf ms e.1 = x := vOf_in S.nd hx
      have s3 : Same H (upd H3 T' (.tup [.ref e.2.1, e.2.2])) := (S2.trans S3).trans (same_upd hT)
      have s13 : Same H1 (upd H3 T' (.tup [.ref e.2.1, e.2.2])) := (sv.trans S3).trans (same_upd hT)
      refine ⟨T', _, rfl, SqT.of upd_same, rfl, _, _, rfl, _, _, rfl, rfl, ?_⟩
      have P4 : Plain (upd H3 T' (.tup [.ref e.2.1, e.2.2])) := P3.tup
      have S34 : Same H3 (upd H3 T' (.tup [.ref e.2.1, e.2.2])) := same_upd hT
      generalize upd H3 T' (.tup [.ref e.2.1, e.2.2]) = H4 at s3 s13 P4 S34 ⊢
      obtain ⟨tv, pvv, e5, hq5, hd5⟩ := ver_of (DV.same s3 _ _ hv2)
      refine ⟨_, rfl, _, rfl, markD e.1, sa, qs, mkV_dv (s3.seqT hk), ok4_mark _, rfl, X1.same s13, fun b hb => ⟨_, rfl, ?_⟩⟩
      have hbm : b = true ↔ e.1 ∈ as := hb.trans ((hin _).trans markD_mem)
      cases b with
      | true =>
        refine iteF (iteF (hf ?_ _ S34 P4))
        unfold highB
        rw [decide_eq_true (hbm.mp rfl)]
        rfl
      | false =>
        have hna : e.1 ∉ as := fun z => by have := hbm.mpr z; cases this
        refine iteT ⟨_, rfl, tv, _, _, _, e5, rfl, hq5, rfl, _, rfl, plc x.2.1, plc low, _, hd5, DV.same s3 _ _ hlow, plc_shaped _, plc_shaped _, ltD_plc _ _, _, rfl, ?_⟩
        have hB : highB ms low as e.1 = pLt low x.2.1 := by
          unfold highB
          rw [decide_eq_false hna, ex]
          rfl
        cases hlt : pLt low x.2.1 with
        | true => exact iteT ⟨_, rfl, tv, _, _, _, e5, rfl, hq5, rfl, ht (by rw [hB]; exact hlt) _ _ (by rw [ex]; exact hd5) S34 P4⟩
        | false => exact iteF (hf (by rw [hB]; exact hlt) _ S34 P4)
    · intro zs H3 hzs hD3 S3 P3
      have hdv : DVs K H3 ((highs ms low as).map plc) zs := by
        have := paired_dvs (f := fun (e : Ent) => plc (vOf ms e.1).2.1) hzs
        rw [show ((es.filter fun e => highB ms low as e.1).map fun (e : Ent) => plc (vOf ms e.1).2.1) = (highs ms low as).map plc by rw [← highs_es he low as, List.map_map]; rfl] at this
        exact this
      refine ⟨_, rfl, D, highs ms low as, zs, rfl, SqL.of hD3, hdv, fun e0 => ?_, fun i r v hr hv hle => ?_⟩
      · exact q none .non H3 (S2.trans S3) P3 e0 rfl
      · obtain ⟨v', hv', hd'⟩ := hdv.get (i := i) (d := plc r) (by rw [List.getElem?_map, hr]; rfl)
        rw [hv] at hv'
        cases hv'
        exact q (some r) v H3 (S2.trans S3) P3 ⟨List.mem_of_getElem? hr, hle⟩ hd'
theorem sc_Sheet__gap : FnScope ["self", "behind", "aside", "low"] ["self", "behind", "aside"] (defScope s_Sheet__gap) := ⟨rfl, rfl, rfl, by decide +kernel, rfl, by decide +kernel, by decide +kernel⟩
abbrev Ok_Sheet__gap (P : Program) (w : World) (K : PySem.W.Frag) (mg : Str → Option Value) (base : Heap) (A : Adr) : Prop := FnOk P w K mg base (CX1 P w base) 4 A.f_Sheet__gap A.d_Sheet__gap ["self", "behind", "aside"] (sp_gap P w K A)
set_option maxHeartbeats 4000000 in
theorem ok_Sheet__gap (T : Txt K mg A) (G_Sheet__piece : Ok_Sheet__piece P w K mg base A) (G_Sheet__next_place : Ok_Sheet__next_place P w K mg base A) : Ok_Sheet__gap P w K mg base A := by
  have B_Sheet__piece := T.b_Sheet__piece
  have B_Sheet__next_place := T.b_Sheet__next_place
  refine T.F_Sheet__gap.okX sc_Sheet__gap (fun vs H Q E h => ?_) (fun cdv Ar outer s H vs Q E hr h => ?_)
  · obtain ⟨_, p, ms, bo, bv, a, ys, as, rfl, _⟩ := h
    rfl
  · obtain ⟨hP, p, ms, bo, bv, a, ys, as, rfl, S, hb, ha, has, few, q, qe⟩ := h
    refine ⟨_, (pss_cons (ps_set (i := 3) sc_Sheet__gap.nd rfl (Or.inl rfl) (pe_ifExp (pt_cmpR op_isN (pv 1) pe_non (nomark _)) (pe_tup pa_nil) (pe_ix ix_tup (pe_meth (pv 0) T.cl_Sheet T.m_Sheet__piece G_Sheet__piece (hr.mono (by decide)) B_Sheet__piece .nil (Wants.passes wants_fn) (pa_cons (pv 1) pa_nil)) pe_int (fun _ _ => rfl))))
      (pss_one (ps_ret (pe_tup (pa_cons (pv 3) (pa_cons (pe_meth (pv 0) T.cl_Sheet T.m_Sheet__next_place G_Sheet__next_place (hr.mono (by decide)) B_Sheet__next_place .nil pass1 (pa_cons (pv 3) (pa_cons (pv 2) pa_nil))) pa_nil)))))), ?_⟩
    obtain ⟨dx, d, es, o, hp, hd, he⟩ := S.ex
    have tail : ∀ (low : List Stp) (lv : V) (H1 : Hp), lowOf ms bo = some low → Same H H1 → Plain H1 → DV K H1 (plc low) lv → True := fun _ _ _ _ _ _ _ => trivial
    cases bo with
    | none =>
      cases (show bv = .non from hb)
      refine ⟨_, rfl, rfl, _, rfl, ite2d (fun _ => ?_) (fun h => absurd rfl h)⟩
      refine ⟨by show 0 ≤ sizeLine; decide, fun te hp1 => ?_⟩
      generalize hH1 : upd H te (HO.tup _) = H1
      have s1 : Same H H1 := hH1 ▸ same_upd hp1
      have P1 : Plain H1 := hH1 ▸ hP.tup
      have h1 := (congrFun hH1 te).symm.trans upd_same
      have hlow : DV K H1 (plc []) (.ref te) := ⟨te, [], rfl, SqT.of h1, rfl⟩
      refine ⟨_, rfl, _, rfl, p, dx, _, rfl, s1 _ _ hp, rfl, _, rfl, _, rfl, P1, p, ms, [], _, a, ys, as, rfl, S.same s1, hlow, s1.seq ha, DVs.same s1 _ _ has, few, fun o v H2 s2 P2 hl hv => ?_⟩
      refine ⟨by show 2 ≤ sizeLine; decide, fun t ht => ?_⟩
      have s3 : Same H2 (upd H2 t (.tup [.ref te, v])) := same_upd ht
      exact q [] rfl o _ _ ((s1.trans s2).trans s3) P2.tup hl ⟨t, _, rfl, SqT.of upd_same, _, _, rfl, DV.same (s2.trans s3) _ _ hlow, _, _, rfl, DV.same s3 _ _ hv, rfl⟩
    | some m =>
      obtain ⟨q0, rfl, hm⟩ := hb
      refine ⟨_, rfl, rfl, _, rfl, ite2d (fun h => by cases h) (fun _ => ?_)⟩
      refine ⟨_, rfl, p, dx, _, rfl, hp, rfl, _, rfl, hP, p, q0, m, ms, rfl, S, hm, fun hB x H1 s1 P1 hx => ?_, fun hB => qe (by show (if hasB ms m = true then _ else _) = _; rw [if_neg (by rw [hB]; decide)])⟩
      obtain ⟨tv, pvv, rfl, hq5, hlow⟩ := ver_of hx
      refine ⟨tv, _, _, _, rfl, rfl, hq5, rfl, ?_⟩
      refine ⟨_, rfl, _, rfl, p, dx, _, rfl, s1 _ _ hp, rfl, _, rfl, _, rfl, P1, p, ms, (vOf ms m).2.1, _, a, ys, as, rfl, S.same s1, hlow, s1.seq ha, DVs.same s1 _ _ has, few, fun o v H2 s2 P2 hl hv => ?_⟩
      refine ⟨by show 2 ≤ sizeLine; decide, fun t ht => ?_⟩
      have s3 : Same H2 (upd H2 t (.tup [pvv, v])) := same_upd ht
      exact q _ (by show (if hasB ms m = true then _ else _) = _; rw [if_pos hB]) o _ _ ((s1.trans s2).trans s3) P2.tup hl ⟨t, _, rfl, SqT.of upd_same, _, _, rfl, DV.same (s2.trans s3) _ _ hlow, _, _, rfl, DV.same s3 _ _ hv, rfl⟩
theorem sc__law_digits : FnScope ["_law_cell", "_law_place", "_law_found", "_law_seed", "_law_k"] ["_law_cell", "_law_place"] (defScope s__law_digits) := ⟨rfl, rfl, rfl, by decide +kernel, rfl, by decide +kernel, by decide +kernel⟩
abbrev Ok__law_digits (P : Program) (w : World) (K : PySem.W.Frag) (mg : Str → Option Value) (base : Heap) (A : Adr) : Prop := FnOk P w K mg base (CX1 P w base) 1 A.f__law_digits A.d__law_digits ["_law_cell", "_law_place"] sp_digits
set_option maxHeartbeats 4000000 in
theorem ok__law_digits (T : Txt K mg A)  : Ok__law_digits P w K mg base A := by
  refine new_digits (T.F__law_digits.okN sc__law_digits (fun vs H Q E h => ?_) (fun cdv Ar outer s H vs Q E hr h => ?_))
  · obtain ⟨_, a, rfl, _⟩ := h
    rfl
  · obtain ⟨hp, ⟨c, p⟩, rfl, q⟩ := h
    refine ⟨_, (pss_cons (ps_set (i := 2) sc__law_digits.nd rfl (Or.inl rfl) (pe_lst pa_nil))
      (pss_cons (ps_if (pt_chain op_lt op_lt (pe_op op_sub pe_int pe_int) (pv 0) pe_int) (pss_cons (ps_set (i := 3) sc__law_digits.nd rfl (Or.inl rfl) (pe_op op_add (pe_op op_mul (pe_op op_add (pe_op op_mod (pv 0) pe_int) pe_int) pe_int) (pe_op op_mul (pe_op op_add (pe_op op_mod (pv 1) pe_int) pe_int) pe_int)))
      (pss_cons (ps_for PassesOwn.never rfl (pi_range1 rfl T.n_range (pa_cons pe_int pa_nil)) (pg_name (i := 4) sc__law_digits.nd rfl (Or.inl rfl)) (pss_cons (ps_set (i := 3) sc__law_digits.nd rfl (Or.inl rfl) (pe_op op_mod (pe_op op_mul (pv 3) pe_int) pe_int))
      (pss_one (ps_expr (pe_bm PySem.F.plainAttrs_list PySem.F.slot_list_append PySem.F.type_list_append mt_append (pv 2) (pa_cons (pe_op op_mod (pe_op op_fdiv (pv 3) pe_int) pe_int) pa_nil))))))
      (pss_one (ps_ret (pv 2))))) pss_nil)
      (pss_cons (ps_set (i := 3) sc__law_digits.nd rfl (Or.inl rfl) (pe_op op_mod (pv 0) (pe_op op_pow pe_int pe_int)))
      (pss_cons (ps_for PassesOwn.never rfl (pi_range1 rfl T.n_range (pa_cons pe_int pa_nil)) (pg_name (i := 4) sc__law_digits.nd rfl (Or.inl rfl)) (pss_cons (ps_expr (pe_bm PySem.F.plainAttrs_list PySem.F.slot_list_append PySem.F.type_list_append mt_append (pv 2) (pa_cons (pe_op op_mod (pv 3) pe_int) pa_nil)))
      (pss_one (ps_set (i := 3) sc__law_digits.nd rfl (Or.inl rfl) (pe_op op_fdiv (pv 3) pe_int)))))
      (pss_one (ps_ret (pv 2))))))), ?_⟩
    -- found = []
    refine ⟨Nat.zero_le _, fun l hl => ?_⟩
    -- 0 - 10000 < cell < 10000
    refine ⟨_, _, rfl, rfl, _, rfl, _, _, rfl, rfl, _, rfl, ?_⟩
    refine ite2d (fun h1 => ⟨_, _, rfl, rfl, _, rfl, ite2d (fun h2 => ?a) (fun h2 => ?b1)⟩) (fun h1 => ⟨_, rfl, iteF ?b2⟩)
    case a =>
      walk_at "rd"
      refine ⟨by decide, by decide, for_range (n := 8) (fun i σ H2 => ∃ (seed : Int) (ds : List Int) (k : Option V), σ = [some (.int c), some (.int p), some (.ref l), some (.int seed), k] ∧ H2 = upd H l (.lst (ds.map V.int)) ∧ ds.length = i ∧ ∀ d ∈ ds, Dig d)
        ⟨_, [], _, rfl, rfl, rfl, fun _ z => nomatch z⟩ ?_ ?_⟩
      · rintro i σ H2 hi ⟨seed, ds, k, rfl, rfl, hlen, hd⟩
        walk_at "rd"
        refine ⟨.inl ⟨rfl, _, SqL.of upd_same⟩, ?_⟩
        walk_at "rd"
        refine ⟨l, _, _, rfl, rfl, upd_same, small1000 (by rw [List.length_map]; omega), ?_⟩
        refine ⟨_, ds ++ [_], _, rfl, by rw [upd_upd, List.map_append]; rfl, by simp [hlen], fun d hd' => ?_⟩
        rcases List.mem_append.mp hd' with z | z
        · exact hd d z
        · rw [List.mem_singleton.mp z]; exact dig_mod _
      · rintro σ H2 ⟨seed, ds, k, rfl, rfl, hlen, hd⟩
        refine ⟨_, rfl, ?_⟩
        exact q l _ _ hl upd_same (eight hlen hd) (same_upd hl)
    case b1 | b2 =>
      walk_at "rd"
      refine ⟨by decide, by decide, for_range (n := 8) (fun i σ H2 => ∃ (seed : Int) (ds : List Int) (k : Option V), σ = [some (.int c), some (.int p), some (.ref l), some (.int seed), k] ∧ H2 = upd H l (.lst (ds.map V.int)) ∧ ds.length = i ∧ ∀ d ∈ ds, Dig d)
        ⟨_, [], _, rfl, rfl, rfl, fun _ z => nomatch z⟩ ?_ ?_⟩
      · rintro i σ H2 hi ⟨seed, ds, k, rfl, rfl, hlen, hd⟩
        walk_at "rd"
        refine ⟨.inl ⟨rfl, _, SqL.of upd_same⟩, ?_⟩
        walk_at "rd"
        refine ⟨l, _, _, rfl, rfl, upd_same, small1000 (by rw [List.length_map]; omega), ?_⟩
        walk_at "rd"
        refine ⟨_, ds ++ [_], _, rfl, by rw [upd_upd, List.map_append]; rfl, by simp [hlen], fun d hd' => ?_⟩
        rcases List.mem_append.mp hd' with z | z
        · exact hd d z
        · rw [List.mem_singleton.mp z]; exact dig_mod _
      · rintro σ H2 ⟨seed, ds, k, rfl, rfl, hlen, hd⟩
        refine ⟨_, rfl, ?_⟩
        exact q l _ _ hl upd_same (eight hlen hd) (same_upd hl)
theorem sc__law_signs : FnScope ["_law_small"] [] (defScope s__law_signs) := ⟨rfl, rfl, rfl, by decide +kernel, rfl, by decide +kernel, by decide +kernel⟩
abbrev Ok__law_signs (P : Program) (w : World) (K : PySem.W.Frag) (mg : Str → Option Value) (base : Heap) (A : Adr) : Prop := FnOk P w K mg base (CX1 P w base) 1 A.f__law_signs A.d__law_signs [] sp_signs
set_option maxHeartbeats 4000000 in
theorem ok__law_signs (T : Txt K mg A)  : Ok__law_signs P w K mg base A := by
  refine FnOk.pure (T.F__law_signs.okN sc__law_signs (fun vs H Q E h => ?_) (fun cdv Ar outer s H vs Q E hr h => ?_))
  · obtain ⟨_, a, rfl, _⟩ := h
    rfl
  · obtain ⟨hp, _, rfl, q⟩ := h
    refine ⟨_, (pss_cons (ps_set (i := 0) sc__law_signs.nd rfl (Or.inl rfl) pe_str)
      (pss_one (ps_ret (pe_op op_add_str (pe_op op_add_str (pe_op op_add_str (pe_op op_add_str pe_str (pe_bm0 PySem.F.plainAttrs_str PySem.F.slot_str_upper PySem.F.type_str_upper mt_upper (pv 0))) pe_str) (pv 0)) pe_str)))), ?_⟩
    refine ⟨_, rfl, rfl, ⟨_, rfl, rfl, by decide +kernel, ?_⟩⟩
    refine ⟨_, _, rfl, rfl, by decide +kernel, _, _, rfl, rfl, by decide +kernel, ?_⟩
    refine ⟨_, rfl, _, _, rfl, rfl, by decide +kernel, _, _, rfl, rfl, by decide +kernel, ?_⟩
    exact q _ _ rfl (Same.refl _)
theorem sc__law_words : FnScope ["_law_one", "_law_other", "_law_signs_here"] ["_law_one", "_law_other"] (defScope s__law_words) := ⟨rfl, rfl, rfl, by decide +kernel, rfl, by decide +kernel, by decide +kernel⟩
abbrev Ok__law_words (P : Program) (w : World) (K : PySem.W.Frag) (mg : Str → Option Value) (base : Heap) (A : Adr) : Prop := FnOk P w K mg base (CX1 P w base) 2 A.f__law_words A.d__law_words ["_law_one", "_law_other"] sp_words
set_option maxHeartbeats 4000000 in
theorem ok__law_words (T : Txt K mg A) (G__law_signs : Ok__law_signs P w K mg base A) : Ok__law_words P w K mg base A := by
  have B__law_signs := T.b__law_signs
  refine FnOk.pure (T.F__law_words.okN sc__law_words (fun vs H Q E h => ?_) (fun cdv Ar outer s H vs Q E hr h => ?_))
  · obtain ⟨_, a, rfl, _⟩ := h
    rfl
  · obtain ⟨hp, ⟨one, other⟩, rfl, q⟩ := h
    refine ⟨_, (pss_cons (ps_set (i := 2) sc__law_words.nd rfl (Or.inr rfl) (pe_call0 G__law_signs (hr.mono (by decide)) rfl T.g__law_signs T.k__law_signs B__law_signs .nil pass1))
      (pss_one (ps_ret (pe_bm PySem.F.plainAttrs_str PySem.F.slot_str_join PySem.F.type_str_join mt_join pe_str (pa_cons (pe_comp ["_law_k", "_law_one", "_law_other", "_law_signs_here"] 1 [0, 1, 2] rfl (pi_range1 rfl T.n_range (pa_cons (pe_op op_mod (pv 1) pe_int) pa_nil)) gk1 (fun _ _ _ _ _ => pg_name (i := 0) (show List.Nodup (["_law_k", "_law_one", "_law_other", "_law_signs_here"] : List Str) by decide +kernel) rfl (Or.inl rfl)) (fun _ _ _ _ _ => pif_nil) (fun _ _ _ _ _ => (pe_ix ix_str (pv 3) (pe_op op_mod (pe_op op_add (pv 1) (pe_op op_mul (pv 0) (pe_op op_add (pe_op op_fdiv (pv 2) pe_int) pe_int))) pe_int) (fun _ _ => rfl)))) pa_nil))))), ?_⟩
    refine ⟨hp, (), rfl, fun v hv => ?_⟩
    subst hv
    refine ⟨rfl, ?_⟩
    walk_at "rd"
    have h7 := Int.emod_nonneg other (show (7 : Int) ≠ 0 by decide)
    have h8 := Int.emod_lt_of_pos other (show (0 : Int) < 7 by decide)
    have hk : (other % 7).toNat ≤ 1000 := by omega
    refine ⟨by omega, by omega, fun D hD => comp_range (fun k => .str ⟨#[SIGNS.cps.toList.getD ((one + (0 + (k : Int)) * (other / 7 + 1)) % 94).toNat 0]⟩) (Nat.le_of_lt (small1000 hk)) ?_ ?_⟩
    · intro i H2 R hi hR
      walk_at "rd"
      refine ⟨Or.inl ⟨by omega, by omega⟩, ?_⟩
      walk_at "rd"
      refine ⟨_, _, _, rfl, rfl, by decide +kernel, atI_in (Int.emod_nonneg _ (by decide)) ?_, hR _ rfl⟩
      have e : SIGNS.cps.toList.length = 94 := by have := signs_len; simpa [Str.length] using this
      rw [e]
      exact Int.emod_lt_of_pos _ (by decide)
    · refine ⟨_, D, (List.range (other % 7).toNat).map fun (k : Nat) => ⟨#[SIGNS.cps.toList.getD ((one + (0 + (k : Int)) * (other / 7 + 1)) % 94).toNat 0]⟩, rfl, rfl, SqL.of (by rw [upd_same, List.map_map]; rfl), ?_, ?_⟩
      · rw [sum_ones fun _ => rfl]
        show (other % 7).toNat + _ * 0 ≤ 16777216
        omega
      · refine q _ _ ⟨_, rfl, ?_, ?_⟩ (same_upd hD)
        · have := len_join0 ((List.range (other % 7).toNat).map fun (k : Nat) => (⟨#[SIGNS.cps.toList.getD ((one + (0 + (k : Int)) * (other / 7 + 1)) % 94).toNat 0]⟩ : Str))
          rw [sum_ones fun _ => rfl] at this
          have e : (⟨#[]⟩ : Str) = "" := rfl
          rw [e] at this
          omega
        · refine all_join (by decide +kernel) fun p hp => ?_
          obtain ⟨k, _, rfl⟩ := List.mem_map.mp hp
          have := signs_ok ((one + (0 + (k : Int)) * (other / 7 + 1)) % 94).toNat
          simpa using this
theorem sc__law_version : FnScope ["_law_some", "_law_beat", "_law_steps", "_law_k"] ["_law_some"] (defScope s__law_version) := ⟨rfl, rfl, rfl, by decide +kernel, rfl, by decide +kernel, by decide +kernel⟩
abbrev Ok__law_version (P : Program) (w : World) (K : PySem.W.Frag) (mg : Str → Option Value) (base : Heap) (A : Adr) : Prop := FnOk P w K mg base (CX1 P w base) 3 A.f__law_version A.d__law_version ["_law_some"] (sp_ver K)
set_option maxHeartbeats 4000000 in
theorem ok__law_version (T : Txt K mg A) (G__law_words : Ok__law_words P w K mg base A) : Ok__law_version P w K mg base A := by
  have B__law_words := T.b__law_words
  refine T.F__law_version.okN sc__law_version (fun vs H Q E h => ?_) (fun cdv Ar outer s H vs Q E hr h => ?_)
  · obtain ⟨_, a, ⟨rfl, _⟩, _⟩ := h
    rfl
  · obtain ⟨hp, l, ⟨rfl, hd⟩, q, _⟩ := h
    obtain ⟨d0, d1, d2, d3, d4, d5, d6, d7, hl, e0, e1, e2, e3, e4, e5, e6, e7⟩ := hd
    refine ⟨_, (pss_cons (ps_set (i := 1) sc__law_version.nd rfl (Or.inl rfl) (pe_op op_add (pe_op op_add pe_int (pe_op op_mod (pe_ix ix_list (pv 0) pe_int (fun _ _ => rfl)) pe_int)) (pe_op op_mul (pe_op op_mod (pe_op op_fdiv (pe_ix ix_list (pv 0) pe_int (fun _ _ => rfl)) pe_int) pe_int) (pe_op op_pow pe_int pe_int))))
      (pss_cons (ps_if (pt_cmpR op_eq (pe_op op_mod (pe_ix ix_list (pv 0) pe_int (fun _ _ => rfl)) pe_int) pe_int (nomark _)) (pss_one (ps_ret (pe_tup (pa_cons (pv 1) (pa_cons (pe_tup pa_nil) (pa_cons pe_str pa_nil)))))) pss_nil)
      (pss_cons (ps_set (i := 2) sc__law_version.nd rfl (Or.inl rfl) (pe_lst (pa_cons (pe_tup (pa_cons (pe_op op_sub (pe_op op_mod (pe_ix ix_list (pv 0) pe_int (fun _ _ => rfl)) pe_int) pe_int) (pa_cons (pe_op op_mod (pe_ix ix_list (pv 0) pe_int (fun _ _ => rfl)) pe_int) (pa_cons (pe_op op_add pe_int (pe_op op_mod (pe_op op_fdiv (pe_ix ix_list (pv 0) pe_int (fun _ _ => rfl)) pe_int) pe_int)) pa_nil)))) pa_nil)))
      (pss_cons (ps_for PassesOwn.never rfl (pi_range1 rfl T.n_range (pa_cons (pe_op op_mod (pe_op op_fdiv (pe_ix ix_list (pv 0) pe_int (fun _ _ => rfl)) pe_int) pe_int) pa_nil)) (pg_name (i := 3) sc__law_version.nd rfl (Or.inl rfl)) (pss_one (ps_expr (pe_bm PySem.F.plainAttrs_list PySem.F.slot_list_append PySem.F.type_list_append mt_append (pv 2) (pa_cons (pe_tup (pa_cons (pe_op op_sub (pe_op op_mod (pe_op op_fdiv (pe_ix ix_list (pv 0) pe_int (fun _ _ => rfl)) (pe_op op_add (pv 3) pe_int)) pe_int) pe_int) (pa_cons (pe_op op_add pe_int (pe_op op_mod (pe_op op_fdiv (pe_ix ix_list (pv 0) pe_int (fun _ _ => rfl)) (pe_op op_add (pv 3) pe_int)) pe_int)) (pa_cons (pe_op op_add pe_int (pe_op op_mod (pe_op op_fdiv (pe_ix ix_list (pv 0) pe_int (fun _ _ => rfl)) (pe_op op_add (pv 3) pe_int)) pe_int)) pa_nil)))) pa_nil)))))
      (pss_one (ps_ret (pe_tup (pa_cons (pv 1) (pa_cons (pe_callTy call_tuple_of rfl T.n_tuple (by decide +kernel) (pa_cons (pv 2) pa_nil)) (pa_cons (pe_call G__law_words (hr.mono (by decide)) rfl T.g__law_words T.k__law_words B__law_words .nil pass1 (pa_cons (pe_ix ix_list (pv 0) pe_int (fun _ _ => rfl)) (pa_cons (pe_ix ix_list (pv 0) pe_int (fun _ _ => rfl)) pa_nil))) pa_nil)))))))))), ?_⟩
    unfold Dig at *
    walk_at "rd"
    refine ⟨rfl, _, rfl, ite2d (fun _ => ?a) (fun _ => ?b)⟩
    case a =>
      dsimp only
      generalize 1 + d2 % 50 + d2 / 50 % 2 * 10 ^ Int.toNat 15 = b
      refine ⟨_, rfl, by show 0 ≤ sizeLine; decide, fun te hp2 => ?_⟩
      generalize hH2 : upd H te (HO.tup _) = H2
      have s2 : Same H H2 := hH2 ▸ same_upd hp2
      have P2 : Plain H2 := hH2 ▸ hp.tup
      have h2 := (congrFun hH2 te).symm.trans upd_same
      refine ⟨by show 3 ≤ sizeLine; decide, fun t hp3 => ?_⟩
      generalize hH3 : upd H2 t (HO.tup _) = H3
      have s3 : Same H2 H3 := hH3 ▸ same_upd hp3
      have P3 : Plain H3 := hH3 ▸ P2.tup
      have h3 := (congrFun hH3 t).symm.trans upd_same
      exact q _ _ ⟨(b, [], ""), ver_mk (v := (b, [], "")) (SqT.of h3) (DV.same s3 _ _ (empty_dv h2)), ok_lit "", by show 0 ≤ 6; decide⟩ (s2.trans s3) P3
    case b =>
      dsimp only
      generalize 1 + d2 % 50 + d2 / 50 % 2 * 10 ^ Int.toNat 15 = b
      walk_at "rd"
      refine ⟨by show 3 ≤ sizeLine; decide, fun t1 hp1 => ?_⟩
      dsimp only
      generalize d4 % 3 - 1 = r1
      generalize d5 % 3 = r2
      generalize 1 + d5 / 3 % 3 = r3
      generalize hH1 : upd H t1 (HO.tup _) = H1
      have s1 : Same H H1 := hH1 ▸ same_upd hp1
      have P1 : Plain H1 := hH1 ▸ hp.tup
      have h1 := (congrFun hH1 t1).symm.trans upd_same
      refine ⟨by show 1 ≤ sizeLine; decide, fun st hp4 => ?_⟩
      have S4 : Same H1 (upd H1 st (.lst [.ref t1])) := same_upd hp4
      have hl1 := s1 _ _ hl
      have hl4 := S4 _ _ hl1
      have z1 := Int.emod_nonneg (d4 / 3) (show (3 : Int) ≠ 0 by decide)
      have z2 := Int.emod_lt_of_pos (d4 / 3) (show (0 : Int) < 3 by decide)
      refine ⟨_, rfl, _, _, _, _, rfl, rfl, SqL.of hl4, rfl, _, _, rfl, rfl, ⟨by decide, by decide⟩, _, _, rfl, rfl, (by show (0 : Int) < 3; decide), _, rfl, by omega, by omega, for_range (lo := 0) (n := (d4 / 3 % 3).toNat) (fun i σ H2 => ∃ (k : Option V) (xs : List V) (ss : List Stp), σ = [some (.ref l), some (.int b), some (.ref st), k] ∧ Plain H2 ∧ Same H1 H2 ∧ H2 st = some (.lst xs) ∧ DVs K H2 (ss.map stp) xs ∧ ss.length = i + 1)
        ⟨_, [.ref t1], [(r1, r2, r3)], rfl, P1.lst, S4, upd_same, ⟨_, _, rfl, stp_mk (SqT.of (S4 _ _ h1)), rfl⟩, rfl⟩ ?_ ?_⟩
      · rintro i σ H2 hi ⟨k, xs, ss, rfl, hP2, hs2, hst, hds, hi2⟩
        have hl2 := hs2 _ _ hl1
        have hxl : xs.length = i + 1 := by rw [hds.length, List.length_map]; exact hi2
        have hi3 : i ≤ 2 := by omega
        refine ⟨_, rfl, .inl ⟨rfl, _, SqL.of hst⟩, ?_⟩
        refine ⟨_, rfl, _, _, _, _, rfl, rfl, SqL.of hl2, rfl, _, rfl, _, _, rfl, rfl, _, _, rfl, rfl, ⟨by show (0 : Int) < 0 + (i : Int) + 2; omega, by show 0 + (i : Int) + 2 < 1073741824; omega⟩, _, _, rfl, rfl, (by show (0 : Int) < 3; decide), _, _, rfl, rfl, ?_⟩
        refine ⟨_, rfl, _, _, _, _, rfl, rfl, SqL.of hl2, rfl, _, rfl, _, _, rfl, rfl, _, _, rfl, rfl, ⟨by show (0 : Int) < 0 + (i : Int) + 3; omega, by show 0 + (i : Int) + 3 < 1073741824; omega⟩, _, _, rfl, rfl, (by show (0 : Int) < 2; decide), _, _, rfl, rfl, ?_⟩
        refine ⟨_, rfl, _, _, _, _, rfl, rfl, SqL.of hl2, rfl, _, rfl, _, _, rfl, rfl, _, _, rfl, rfl, ⟨by show (0 : Int) < 0 + (i : Int) + 5; omega, by show 0 + (i : Int) + 5 < 1073741824; omega⟩, _, _, rfl, rfl, (by show (0 : Int) < 3; decide), _, _, rfl, rfl, by show 3 ≤ sizeLine; decide, fun t hp5 => ?_⟩
        dsimp only
        generalize d6 / (0 + (i : Int) + 2) % 3 - 1 = q1
        generalize 1 + d6 / (0 + (i : Int) + 3) % 2 = q2
        generalize 1 + d6 / (0 + (i : Int) + 5) % 3 = q3
        generalize hH5 : upd H2 t (HO.tup _) = H5
        have s5 : Same H2 H5 := hH5 ▸ same_upd hp5
        have P5 : Plain H5 := hH5 ▸ hP2.tup
        have h5 := (congrFun hH5 t).symm.trans upd_same
        have hst5 := s5 _ _ hst
        refine ⟨st, _, _, rfl, rfl, hst5, small1000 (by omega), ?_⟩
        refine ⟨_, xs ++ [.ref t], ss ++ [(q1, q2, q3)], rfl, P5.lst, ?_, upd_same, ?_, by simp [hi2]⟩
        · exact fun b' o' e => by rw [upd_ne (ne_of_none e hp4)]; exact s5 _ _ (hs2 b' o' e)
        · rw [List.map_append]
          refine DVs.mono (D := st) (fun b' o' hb' e => by rw [upd_ne hb']; exact e) ⟨_, hst5⟩ _ _ (by rw [← List.map_singleton, ← List.map_append]; exact noLs_stp _) ?_
          exact (DVs.same s5 _ _ hds).append ⟨_, _, rfl, stp_mk (SqT.of h5), rfl⟩
      · rintro σ H2 ⟨k, xs, ss, rfl, hP2, hs2, hst, hds, hi2⟩
        have hl2 := hs2 _ _ hl1
        refine ⟨_, rfl, _, rfl, st, xs, rfl, .inl ⟨SqL.of hst, fun pt hp6 => ?_⟩⟩
        generalize hH6 : upd H2 pt (HO.tup _) = H6
        have s6 : Same H2 H6 := hH6 ▸ same_upd hp6
        have P6 : Plain H6 := hH6 ▸ hP2.tup
        have h6 := (congrFun hH6 pt).symm.trans upd_same
        have hl6 := s6 _ _ hl2
        refine ⟨_, rfl, _, _, _, _, rfl, rfl, SqL.of hl6, rfl, _, rfl, _, _, _, _, rfl, rfl, SqL.of hl6, rfl, P6, (d6, d7), rfl, fun v hv => ?_⟩
        obtain ⟨z, rfl, hz, hok⟩ := hv
        refine ⟨by show 3 ≤ sizeLine; decide, fun t hp7 => ?_⟩
        generalize hH7 : upd H6 t (HO.tup _) = H7
        have s7 : Same H6 H7 := hH7 ▸ same_upd hp7
        have P7 : Plain H7 := hH7 ▸ P6.tup
        have h7 := (congrFun hH7 t).symm.trans upd_same
        refine q _ _ ⟨(b, ss, z), ver_mk (v := (b, ss, z)) (SqT.of h7) ⟨pt, xs, rfl, SqT.of (s7 _ _ h6), DVs.same (s6.trans s7) _ _ hds⟩, hok, hz⟩ (((s1.trans hs2).trans s6).trans s7) P7
theorem sc__law_pairs : FnScope ["_law_cells", "_law_found", "_law_marks", "_law_j", "_law_cell", "_law_some", "_law_mark"] ["_law_cells"] (defScope s__law_pairs) := ⟨rfl, rfl, rfl, by decide +kernel, rfl, by decide +kernel, by decide +kernel⟩
abbrev Ok__law_pairs (P : Program) (w : World) (K : PySem.W.Frag) (mg : Str → Option Value) (base : Heap) (A : Adr) : Prop := FnOk P w K mg base (CX1 P w base) 4 A.f__law_pairs A.d__law_pairs ["_law_cells"] (sp_prs K)
set_option maxHeartbeats 4000000 in
theorem ok__law_pairs (T : Txt K mg A) (G__law_digits : Ok__law_digits P w K mg base A) (G__law_version : Ok__law_version P w K mg base A) : Ok__law_pairs P w K mg base A := by
  have B__law_digits := T.b__law_digits
  have B__law_version := T.b__law_version
  refine T.F__law_pairs.okN sc__law_pairs (fun vs H Q E h => ?_) (fun cdv Ar outer s H vs Q E hr h => ?_)
  · obtain ⟨_, c, xs, rfl, _⟩ := h
    rfl
  · obtain ⟨hP, c, xs, rfl, hc, hxl, hxi, q⟩ := h
    refine ⟨_, (pss_cons (ps_set (i := 1) sc__law_pairs.nd rfl (Or.inl rfl) (pe_lst pa_nil))
      (pss_cons (ps_set (i := 2) sc__law_pairs.nd rfl (Or.inl rfl) pe_mnew)
      (pss_cons (ps_for PassesOwn.never rfl (pi_enum rfl T.n_enumerate (by decide +kernel) (pa_cons (pv 0) pa_nil)) (pg_tup rfl (pgs_cons (pg_name (i := 3) sc__law_pairs.nd rfl (Or.inl rfl)) (pgs_cons (pg_name (i := 4) sc__law_pairs.nd rfl (Or.inl rfl)) pgs_nil))) (pss_cons (ps_set (i := 5) sc__law_pairs.nd rfl (Or.inl rfl) (pe_call G__law_digits (hr.mono (by decide)) rfl T.g__law_digits T.k__law_digits B__law_digits .nil pass1 (pa_cons (pv 4) (pa_cons (pv 3) pa_nil))))
      (pss_cons (ps_set (i := 6) sc__law_pairs.nd rfl (Or.inl rfl) (pe_tup (pa_cons (pe_op op_mod (pe_ix ix_list (pv 5) pe_int (fun _ _ => rfl)) pe_int) (pa_cons (pe_op op_add pe_int (pe_op op_mod (pe_ix ix_list (pv 5) pe_int (fun _ _ => rfl)) pe_int)) pa_nil))))
      (pss_one (ps_if (pt_cmpR (op_notInM (hu_of hr)) (pv 6) (pv 2) (by rfl)) (pss_cons (ps_mput (hu_of hr) (pv 2) (pv 6) pe_bl rfl)
      (pss_one (ps_expr (pe_bm PySem.F.plainAttrs_list PySem.F.slot_list_append PySem.F.type_list_append mt_append (pv 1) (pa_cons (pe_tup (pa_cons (pv 6) (pa_cons (pe_call G__law_version (hr.mono (by decide)) rfl T.g__law_version T.k__law_version B__law_version .nil pass1 (pa_cons (pv 5) pa_nil)) pa_nil))) pa_nil))))) pss_nil)))))
      (pss_one (ps_ret (pv 1)))))), ?_⟩
    refine ⟨Nat.zero_le _, fun fl hfl => ?_⟩
    intro mk o hmk
    have s1 : Same H (upd (upd H fl (.lst [])) mk (dO P w mk [] o)) := (same_upd hfl).trans (same_upd hmk)
    have hmk0 : H mk = none := (same_upd hfl).free hmk
    have nfm : fl ≠ mk := ne_of_none upd_same hmk
    refine ⟨_, rfl, c, rfl, ⟨_, SqL.of (s1 _ _ hc)⟩, ?_⟩
    refine for_enum (K := K) (a := c) (xs := xs) (fun i σ H2 => ∃ o1 o2 o3 o4 es ob ws ms, σ = [some (.ref c), some (.ref fl), some (.ref mk), o1, o2, o3, o4] ∧ Plain H2 ∧ Same H H2 ∧ H2 fl = some (.lst ws) ∧ H2 mk = some (dO P w mk es ob) ∧ (∀ e ∈ es, SqT K H2 e.2.1 (mkV e.1)) ∧ es.map (·.1) = List.map (·.1) ms ∧ DVs K H2 (ms.map prD) ws ∧ (List.map (·.1) ms).Nodup ∧ (∀ m ∈ ms, okV m.2 ∧ m.2.2.2.length ≤ 6 ∧ (0 ≤ m.1.1 ∧ m.1.1 ≤ 3) ∧ (1 ≤ m.1.2 ∧ m.1.2 ≤ 20)) ∧ ms.length ≤ i)
      ⟨_, _, _, _, [], o, [], [], rfl, Plain.ext hP.lst, s1, by rw [upd_ne nfm]; exact upd_same, upd_same, (fun e h => by cases h), rfl, rfl, List.nodup_nil, (fun m h => by cases h), Nat.le_refl _⟩ (fun i σ H2 _ ⟨_, _, _, _, _, _, _, _, _, _, s, _⟩ => SqL.of (s _ _ hc)) ?_ ?_
    · rintro i x T' σ H2 hx ⟨o1, o2, o3, o4, es, ob, ws, ms, rfl, hP2, hs2, hf2, hm2, hk2, hem, hw2, nd, ok, hi⟩ hT
      obtain ⟨cell, rfl⟩ := hxi x (List.mem_of_getElem? hx)
      have hix : i < xs.length := (List.getElem?_eq_some_iff.mp hx).1
      have hesl : es.length = ms.length := by rw [← List.length_map (·.1), hem, List.length_map]
      refine ⟨T', _, rfl, SqT.of upd_same, rfl, _, _, rfl, _, _, rfl, rfl, ?_⟩
      refine ⟨_, rfl, _, rfl, hP2.tup, (cell, i), rfl, fun l o hl ho => ?_⟩
      obtain ⟨d0, d1, d2, d3, d4, d5, d6, d7, rfl, e0, e1, e2, e3, e4, e5, e6, e7⟩ := ho
      have hP3 : Plain (upd (upd H2 T' (.tup [.int i, .int cell])) l (.lst [.int d0, .int d1, .int d2, .int d3, .int d4, .int d5, .int d6, .int d7])) := hP2.tup.lst
      have hs3 : Same H2 (upd (upd H2 T' (.tup [.int i, .int cell])) l (.lst [.int d0, .int d1, .int d2, .int d3, .int d4, .int d5, .int d6, .int d7])) := (same_upd hT).trans (same_upd hl)
      have hl3 : (upd (upd H2 T' (.tup [.int i, .int cell])) l (.lst [.int d0, .int d1, .int d2, .int d3, .int d4, .int d5, .int d6, .int d7])) l = some (.lst [.int d0, .int d1, .int d2, .int d3, .int d4, .int d5, .int d6, .int d7]) := upd_same
      generalize upd (upd H2 T' (.tup [.int i, .int cell])) l (.lst [.int d0, .int d1, .int d2, .int d3, .int d4, .int d5, .int d6, .int d7]) = H3 at hP3 hs3 hl3 ⊢
      have dig : ∀ H', H' l = some (.lst [.int d0, .int d1, .int d2, .int d3, .int d4, .int d5, .int d6, .int d7]) → digL l H' := fun H' s => ⟨d0, d1, d2, d3, d4, d5, d6, d7, s, e0, e1, e2, e3, e4, e5, e6, e7⟩
      have a0 := Int.emod_nonneg d0 (show (4 : Int) ≠ 0 by decide)
      have a1 := Int.emod_lt_of_pos d0 (show (0 : Int) < 4 by decide)
      have b0 := Int.emod_nonneg d1 (show (20 : Int) ≠ 0 by decide)
      have b1 := Int.emod_lt_of_pos d1 (show (0 : Int) < 20 by decide)
      walk_at "rd"
      refine ⟨by show 2 ≤ sizeLine; decide, fun t hp4 => ?_⟩
      dsimp only
      obtain ⟨m, hm⟩ : ∃ m : Mark, m = (d0 % 4, 1 + d1 % 20) := ⟨_, rfl⟩
      have mb : (0 ≤ m.1 ∧ m.1 ≤ 3) ∧ (1 ≤ m.2 ∧ m.2 ≤ 20) := by rw [hm]; exact ⟨⟨by omega, by omega⟩, ⟨by omega, by omega⟩⟩
      have hmv : [V.int (d0 % 4), V.int (1 + d1 % 20)] = mkV m := by rw [hm]; rfl
      rw [hmv]
      generalize hH4 : upd H3 t (HO.tup _) = H4
      have s4 : Same H3 H4 := hH4 ▸ same_upd hp4
      have P4 : Plain H4 := hH4 ▸ hP3.tup
      have h4 := (congrFun hH4 t).symm.trans upd_same
      have hf4 := s4 _ _ (hs3 _ _ hf2)
      have hm4 := s4 _ _ (hs3 _ _ hm2)
      have hk4 : ∀ e ∈ es, SqT K H4 e.2.1 (mkV e.1) := fun e h => (hs3.trans s4).seqT (hk2 e h)
      have hw4 := DVs.same (hs3.trans s4) _ _ hw2
      have hl4 := s4 _ _ hl3
      have nlm : l ≠ mk := ne_of hl4 hm4 (by intro z; cases z)
      refine ⟨_, rfl, _, rfl, t, m, mk, es, rfl, SqT.of h4, rfl, ⟨⟨ob, hm4⟩, hk4⟩, _, rfl, ?_⟩
      cases hfm : findM es m with
      | some v =>
        refine iteF ?_
        exact ⟨_, _, _, _, es, ob, ws, ms, rfl, P4, (hs2.trans hs3).trans s4, hf4, hm4, hk4, hem, hw4, nd, ok, by omega⟩
      | none =>
        refine iteT ?_
        refine ⟨_, rfl, _, rfl, mk, es, t, m, rfl, ⟨⟨ob, hm4⟩, hk4⟩, rfl, SqT.of h4, small1000 (by omega), fun o5 => ?_⟩
        have epm : putM es m t (.bl true) = es ++ [(m, t, .bl true)] := by unfold putM; rw [hfm]; rfl
        rw [epm]
        have P5 : Plain (upd H4 mk (dO P w mk (es ++ [(m, t, .bl true)]) o5)) := Plain.ext P4
        have hf5 : (upd H4 mk (dO P w mk (es ++ [(m, t, .bl true)]) o5)) fl = some (.lst ws) := by rw [upd_ne nfm]; exact hf4
        have hm5 : (upd H4 mk (dO P w mk (es ++ [(m, t, .bl true)]) o5)) mk = some (dO P w mk (es ++ [(m, t, .bl true)]) o5) := upd_same
        have hk5 : ∀ e ∈ es ++ [(m, t, V.bl true)], SqT K (upd H4 mk (dO P w mk (es ++ [(m, t, .bl true)]) o5)) e.2.1 (mkV e.1) := fun e h => by
          rcases List.mem_append.mp h with h | h
          · exact sqT_other hm4 (noT_ext _) (hk4 e h)
          · rw [List.mem_singleton.mp h]; exact sqT_other hm4 (noT_ext _) (SqT.of h4)
        have hw5 : DVs K (upd H4 mk (dO P w mk (es ++ [(m, t, .bl true)]) o5)) (ms.map prD) ws := dvs_other hm4 (noT_ext _) _ _ (noLs_pr ms) hw4
        have hl5 : (upd H4 mk (dO P w mk (es ++ [(m, t, .bl true)]) o5)) l = some (.lst [.int d0, .int d1, .int d2, .int d3, .int d4, .int d5, .int d6, .int d7]) := by rw [upd_ne nlm]; exact hl4
        have s5 : Same H (upd H4 mk (dO P w mk (es ++ [(m, t, .bl true)]) o5)) := fun b z e => by rw [upd_ne (ne_of_none e hmk0)]; exact s4 _ _ (hs3 _ _ (hs2 _ _ e))
        have ht5 : SqT K (upd H4 mk (dO P w mk (es ++ [(m, t, .bl true)]) o5)) t (mkV m) := sqT_other hm4 (noT_ext _) (SqT.of h4)
        refine ⟨_, rfl, .inl ⟨rfl, _, SqL.of hf5⟩, _, rfl, _, rfl, P5, l, ⟨rfl, dig _ hl5⟩, fun x H6 hx6 s6 P6 => ?_, fun _ _ h => h.elim⟩
        obtain ⟨v, hv6, okv, hvl⟩ := hx6
        refine ⟨by show 2 ≤ sizeLine; decide, fun t2 hp7 => ?_⟩
        generalize hH7 : upd H6 t2 (HO.tup _) = H7
        have s7 : Same H6 H7 := hH7 ▸ same_upd hp7
        have P7 : Plain H7 := hH7 ▸ P6.tup
        have h7 := (congrFun hH7 t2).symm.trans upd_same
        have hf7 := s7 _ _ (s6 _ _ hf5)
        have hm7 := s7 _ _ (s6 _ _ hm5)
        have hwl : ws.length = ms.length := by rw [hw4.length, List.length_map]
        refine ⟨fl, ws, _, rfl, rfl, hf7, small1000 (by omega), ?_⟩
        have hnm : m ∉ es.map (·.1) := fun z => by have := find_some z; rw [hfm] at this; cases this
        refine ⟨_, _, _, _, es ++ [(m, t, .bl true)], o5, ws ++ [.ref t2], ms ++ [(m, v)], rfl, P7.lst, fun b z e => ?_, upd_same, by rw [upd_ne nfm.symm]; exact hm7, fun e h => ?_, ?_, ?_, ?_, ?_, by simp; omega⟩
        · rw [upd_ne (ne_of_none e hfl)]; exact s7 _ _ (s6 _ _ (s5 _ _ e))
        · exact sqT_other hf7 (noT_lst _) ((s6.trans s7).seqT (hk5 e h))
        · rw [List.map_append, List.map_append, hem]; rfl
        · refine dvs_other hf7 (noT_lst _) _ _ (noLs_pr _) ?_
          rw [List.map_append]
          refine (DVs.same (s6.trans s7) _ _ hw5).append ⟨_, _, rfl, ⟨t2, _, rfl, SqT.of h7, _, _, rfl, mkV_dv ((s6.trans s7).seqT ht5), _, _, rfl, DV.same s7 _ _ hv6, rfl⟩, rfl⟩
        · rw [List.map_append]
          refine List.nodup_append.mpr ⟨nd, List.nodup_cons.mpr ⟨by simp, List.nodup_nil⟩, fun x hx y hy z => ?_⟩
          rw [← hem] at hx
          exact hnm ((show x = m from z.trans (List.mem_singleton.mp hy)) ▸ hx)
        · intro y hy
          rcases List.mem_append.mp hy with hy | hy
          · exact ok y hy
          · rw [List.mem_singleton.mp hy]; exact ⟨okv, hvl, mb⟩
    · rintro σ H2 ⟨o1, o2, o3, o4, es, ob, ws, ms, rfl, hP2, hs2, hf2, hm2, hk2, hem, hw2, nd, ok, hi⟩
      exact ⟨_, rfl, q H2 fl ws ms hs2 hP2 hf2 hw2 ⟨nd, ok, by omega⟩ hi⟩
theorem sc__law_due : FnScope ["_law_pairs_here", "_law_low", "_law_aside_here", "_law_high", "_law_mark", "_law_version_here", "_law_place"] ["_law_pairs_here", "_law_low", "_law_aside_here"] (defScope s__law_due) := ⟨rfl, rfl, rfl, by decide +kernel, rfl, by decide +kernel, by decide +kernel⟩
abbrev Ok__law_due (P : Program) (w : World) (K : PySem.W.Frag) (mg : Str → Option Value) (base : Heap) (A : Adr) : Prop := FnOk P w K mg base (CX1 P w base) 1 A.f__law_due A.d__law_due ["_law_pairs_here", "_law_low", "_law_aside_here"] (sp_due K)
set_option maxHeartbeats 4000000 in
theorem ok__law_due (T : Txt K mg A)  : Ok__law_due P w K mg base A := by
  refine T.F__law_due.okN sc__law_due (fun vs H Q E h => ?_) (fun cdv Ar outer s H vs Q E hr h => ?_)
  · obtain ⟨_, p, ws, ms, low, lv, a, ys, as, rfl, _⟩ := h
    rfl
  · obtain ⟨hP, p, ws, ms, low, lv, a, ys, as, rfl, hp, hw, G, hlow, ha, has, q⟩ := h
    refine ⟨_, (pss_cons (ps_set (i := 3) sc__law_due.nd rfl (Or.inl rfl) pe_non)
      (pss_cons (ps_for PassesOwn.never rfl (pi_list (pv 0)) (pg_tup rfl (pgs_cons (pg_name (i := 4) sc__law_due.nd rfl (Or.inl rfl)) (pgs_cons (pg_name (i := 5) sc__law_due.nd rfl (Or.inl rfl)) pgs_nil))) (pss_cons (ps_set (i := 6) sc__law_due.nd rfl (Or.inl rfl) (pe_ix ix_tup (pv 5) pe_int (fun _ _ => rfl)))
      (pss_one (ps_if (PW.pt (pw_and (pt_cmpR (op_neD hr.units) (pv 6) (pe_tup pa_nil) (nomark _)) (pw_and (pt_cmpR (op_notInD hr.u100) (pv 4) (pv 2) (by rfl)) (pw_and1 (pt_cmpR (op_ltG hr.u100) (pv 1) (pv 6) (nomark _)))))) (pss_one (ps_if (PW.pt (pw_or (pt_cmpR op_isN (pv 3) pe_non (nomark _)) (pw_or1 (pt_cmpR (op_ltG hr.u100) (pv 6) (pv 3) (nomark _))))) (pss_one (ps_set (i := 3) sc__law_due.nd rfl (Or.inl rfl) (pv 6))) pss_nil)) pss_nil))))
      (pss_one (ps_ret (pe_tup (pa_cons (pv 1) (pa_cons (pv 3) pa_nil))))))), ?_⟩
    have hwl : ws.length = ms.length := by rw [hw.length, List.length_map]
    refine ⟨_, rfl, p, rfl, ⟨_, hp⟩, for_list (K := K) (a := p) (xs := ws) (fun i σ H2 => ∃ hv o o4 o5 o6, σ = [some (.ref p), some lv, some (.ref a), some hv, o4, o5, o6] ∧ Plain H2 ∧ Same H H2 ∧ Least (highT ms low as i) o ∧ DV K H2 (hiD o) hv)
      ⟨.non, none, _, _, _, rfl, hP, Same.refl _, rfl, rfl⟩ (fun i σ H2 _ ⟨_, _, _, _, _, _, _, s, _⟩ => s.seq hp) ?_ ?_⟩
    · rintro i y σ H2 hy ⟨hv, o, o4, o5, o6, rfl, P2, S2, hl, hdv⟩
      have hi : i < ms.length := by rw [← hwl]; exact (List.getElem?_eq_some_iff.mp hy).1
      obtain ⟨y', hy', hyd⟩ := hw.get (i := i) (d := prD ms[i]) (by rw [List.getElem?_map, List.getElem?_eq_getElem hi]; rfl)
      rw [hy] at hy'
      cases hy'
      obtain ⟨t, q0, vx, rfl, ht, hq0, hvx⟩ := prD_of (DV.same S2 _ _ hyd)
      have hmem := List.getElem_mem hi
      have ev : vOf ms ms[i].1 = ms[i].2 := vOf_in G.nd hmem
      obtain ⟨tv, pvv, rfl, hqv, hpl⟩ := ver_of hvx
      refine ⟨t, _, rfl, ht, rfl, _, _, rfl, _, _, rfl, rfl, ?_⟩
      refine ⟨_, rfl, tv, _, _, _, rfl, rfl, hqv, rfl, ?_⟩
      refine ⟨_, rfl, by show 0 ≤ sizeLine; decide, fun te hp3 => ?_⟩
      generalize hH3 : upd H2 te (HO.tup _) = H3
      have s3 : Same H2 H3 := hH3 ▸ same_upd hp3
      have P3 : Plain H3 := hH3 ▸ P2.tup
      have h3 := (congrFun hH3 te).symm.trans upd_same
      have S3 := S2.trans s3
      refine ⟨plc ms[i].2.2.1, plc [], DV.same s3 _ _ hpl, empty_dv h3, plc_shaped _, plc_shaped _, _, rfl, ?_⟩
      rw [plc_eqv]
      by_cases hr0 : ms[i].2.2.1 = []
      · rw [decide_eq_true hr0]
        refine iteF (iteF ?_)
        have hB : highB ms low as ms[i].1 = false := by
          unfold highB
          rw [ev, hr0, pLt_nil, Bool.and_false]
        have PX := P3
        have SX := S3
        have sX := s3
        refine ⟨hv, o, _, _, _, rfl, PX, SX, ?_, DV.same sX _ _ hdv⟩
        rw [highT_succ hi, if_neg (by rw [hB]; decide), List.append_nil]
        exact hl
      rw [decide_eq_false hr0]
      refine iteT ?_
      refine ⟨_, rfl, _, rfl, markD ms[i].1, a, as.map markD, ys, mkV_dv (s3.seqT hq0), ok4_mark _, rfl, S3.seq ha, DVs.same S3 _ _ has, marks_ok as, fun b hb => ⟨_, rfl, ?_⟩⟩
      have hbm : b = true ↔ ms[i].1 ∈ as := hb.trans markD_mem
      cases b with
      | true =>
        refine iteF (iteF ?_)
        have hB : highB ms low as ms[i].1 = false := by
          unfold highB
          rw [decide_eq_true (hbm.mp rfl)]
          rfl
        have PX := P3
        have SX := S3
        have sX := s3
        refine ⟨hv, o, _, _, _, rfl, PX, SX, ?_, DV.same sX _ _ hdv⟩
        rw [highT_succ hi, if_neg (by rw [hB]; decide), List.append_nil]
        exact hl
      | false =>
        have hna : ms[i].1 ∉ as := fun z => by have := hbm.mpr z; cases this
        have hBB : highB ms low as ms[i].1 = pLt low ms[i].2.2.1 := by
          unfold highB
          rw [decide_eq_false hna, ev]
          rfl
        refine iteT ⟨_, rfl, _, rfl, plc low, plc ms[i].2.2.1, _, DV.same S3 _ _ hlow, DV.same s3 _ _ hpl, plc_shaped _, plc_shaped _, ltD_plc _ _, _, rfl, ?_⟩
        cases hlt : pLt low ms[i].2.2.1 with
        | false =>
          refine iteF ?_
          have hB := hBB.trans hlt
          have PX := P3
          have SX := S3
          have sX := s3
          refine ⟨hv, o, _, _, _, rfl, PX, SX, ?_, DV.same sX _ _ hdv⟩
          rw [highT_succ hi, if_neg (by rw [hB]; decide), List.append_nil]
          exact hl
        | true =>
          refine iteT ?_
          have hB := hBB.trans hlt
          cases o with
          | none =>
            cases (show hv = .non from hdv)
            refine ⟨_, rfl, rfl, _, rfl, ite2d (fun _ => iteT ?_) (fun h => absurd rfl h)⟩
            refine ⟨_, rfl, pvv, some ms[i].2.2.1, _, _, _, rfl, P3, S3, ?_, DV.same s3 _ _ hpl⟩
            have hl : highT ms low as i = [] := hl
            rw [highT_succ hi, if_pos hB, hl, List.nil_append, ev]
            exact ⟨List.mem_singleton.mpr rfl, fun q hq => .inl (List.mem_singleton.mp hq).symm⟩
          | some r =>
            have hdv : DV K H2 (plc r) hv := hdv
            obtain ⟨hva, hvs, rfl, _⟩ := id hdv
            refine ⟨_, rfl, rfl, _, rfl, ite2d (fun h => by cases h) (fun _ => ?_)⟩
            refine ⟨_, rfl, _, rfl, plc ms[i].2.2.1, plc r, _, DV.same s3 _ _ hpl, DV.same s3 _ _ hdv, plc_shaped _, plc_shaped _, ltD_plc _ _, _, rfl, ?_⟩
            cases hl2 : pLt ms[i].2.2.1 r with
            | true =>
              refine iteT ⟨_, rfl, pvv, some ms[i].2.2.1, _, _, _, rfl, P3, S3, ?_, DV.same s3 _ _ hpl⟩
              rw [highT_succ hi, if_pos hB, ev]
              refine ⟨List.mem_append_right _ (List.mem_singleton.mpr rfl), fun q hq => ?_⟩
              rcases List.mem_append.mp hq with hq | hq
              · rcases hl.2 q hq with e | e
                · rw [← e]; exact .inr hl2
                · exact .inr (pLt_sto.tr _ _ _ hl2 e)
              · exact .inl (List.mem_singleton.mp hq).symm
            | false =>
              refine iteF ⟨_, some r, _, _, _, rfl, P3, S3, ?_, DV.same s3 _ _ hdv⟩
              rw [highT_succ hi, if_pos hB, ev]
              refine ⟨List.mem_append_left _ hl.1, fun q hq => ?_⟩
              rcases List.mem_append.mp hq with hq | hq
              · exact hl.2 q hq
              · rw [List.mem_singleton.mp hq]
                by_cases e : r = ms[i].2.2.1
                · exact .inl e
                · exact .inr (pLt_sto.tri _ _ (fun z => e z.symm) hl2)
    rintro σ H2 ⟨hv, o, o4, o5, o6, rfl, P2, S2, hl, hdv⟩
    rw [hwl, highT_all] at hl
    refine ⟨_, rfl, _, rfl, by show 2 ≤ sizeLine; decide, fun t ht => ?_⟩
    have s3 : Same H2 (upd H2 t (.tup [lv, hv])) := same_upd ht
    exact q o _ _ (S2.trans s3) P2.tup hl ⟨t, _, rfl, SqT.of upd_same, _, _, rfl, DV.same (S2.trans s3) _ _ hlow, _, _, rfl, DV.same s3 _ _ hdv, rfl⟩
theorem sc__law_refused : FnScope ["_law_sheet", "_law_mark", "_law_aside_here", "_law_refusal", "e"] ["_law_sheet", "_law_mark", "_law_aside_here"] (defScope s__law_refused) := ⟨rfl, rfl, rfl, by decide +kernel, rfl, by decide +kernel, by decide +kernel⟩
abbrev Ok__law_refused (P : Program) (w : World) (K : PySem.W.Frag) (mg : Str → Option Value) (base : Heap) (A : Adr) : Prop := FnOk P w K mg base (CX1 P w base) 5 A.f__law_refused A.d__law_refused ["_law_sheet", "_law_mark", "_law_aside_here"] (sp_rfd P w K A)
set_option maxHeartbeats 4000000 in
theorem ok__law_refused (T : Txt K mg A) (G_Sheet__gap : Ok_Sheet__gap P w K mg base A) : Ok__law_refused P w K mg base A := by
  have B_Sheet__gap := T.b_Sheet__gap
  refine T.F__law_refused.okN sc__law_refused (fun vs H Q E h => ?_) (fun cdv Ar outer s H vs Q E hr h => ?_)
  · obtain ⟨_, p, q0, m, ms, a, ys, as, rfl, _⟩ := h
    rfl
  · obtain ⟨hP, p, q0, m, ms, a, ys, as, rfl, S, hm, ha, has, few, hB, q⟩ := h
    refine ⟨_, (pss_cons (ps_set (i := 3) sc__law_refused.nd rfl (Or.inl rfl) pe_non)
      (pss_cons (ps_tryG (i := 4) sc__law_refused.nd T.x_DraftError rfl T.g_DraftError ⟨⟨_, _, _, rfl, rfl, rfl⟩⟩ (fun _ _ _ _ hx => (pss_one (ps_expr (pe_methS (pv 0) T.cl_Sheet T.m_Sheet__gap G_Sheet__gap (hr.mono (by decide)) B_Sheet__gap .nil hx (pa_cons (pv 1) (pa_cons (pv 2) pa_nil)))))) (fun _ => (pss_one (ps_set (i := 3) sc__law_refused.nd rfl (Or.inl rfl) (pv 4)))))
      (pss_cons (ps_if (PW.pt (pw_or (pt_not (pt_val (pe_callB call_isExc rfl T.n_isinstance (by decide +kernel) (pa_cons (pv 3) (pa_cons (pe_glob (v := .ref A.NoPiece) rfl T.g_NoPiece rfl) pa_nil))))) (pw_or1 (pt_not (pt_val (pe_callB call_isExc rfl T.n_isinstance (by decide +kernel) (pa_cons (pv 3) (pa_cons (pe_bltn (v := .ty "ValueError") rfl T.n_ValueError (by decide +kernel) rfl) pa_nil)))))))) (pss_one (ps_ret pe_bl)) pss_nil)
      (pss_one (ps_ret (pe_not (pe_callB call_isExcT rfl T.n_isinstance (by decide +kernel) (pa_cons (pv 3) (pa_cons (pe_tup (pa_cons (pe_glob (v := .ref A.NoRoom) rfl T.g_NoRoom rfl) (pa_cons (pe_glob (v := .ref A.NoSheet) rfl T.g_NoSheet rfl) (pa_cons (pe_glob (v := .ref A.NoStretch) rfl T.g_NoStretch rfl) pa_nil)))) pa_nil))))))))), ?_⟩
    obtain ⟨dx, d, es, o, hp, _⟩ := S.ex
    refine ⟨fun c _ H2 => c = .ref A.NoPiece ∧ Same H H2 ∧ Plain H2, ⟨rfl, _, rfl, p, dx, _, rfl, hp, rfl, _, rfl, _, rfl, hP, p, ms, some m, _, a, ys, as, rfl, S, ⟨q0, rfl, hm⟩, ha, has, few, fun low hlo => ?_, fun _ H' s' P' => ⟨rfl, s', P'⟩⟩, fun C y H2 hEX hy => ?_⟩
    · have hlo : (if hasB ms m = true then some (vOf ms m).2.1 else none) = some low := hlo
      rw [if_neg (by rw [hB]; decide)] at hlo
      cases hlo
    · obtain ⟨hC, s2, P2⟩ := hEX
      obtain rfl : C = A.NoPiece := by cases hC; rfl
      refine ⟨T.x_NoPiece, T.m_np, ?_⟩
      refine ⟨_, rfl, ?_⟩
      refine ⟨_, rfl, _, _, _, _, _, rfl, upd_same, T.x_NoPiece, rfl, (by show (if (Value.ref _ == Value.ref _) = true then _ else _) = _; rw [if_pos (beq_self_eq_true _)]), true, rfl, iteF ?_⟩
      refine ⟨_, rfl, _, _, _, _, _, rfl, upd_same, T.x_NoPiece, rfl, T.kv, true, rfl, iteF ?_⟩
      refine ⟨_, rfl, (by show 3 ≤ sizeLine; decide), fun tp htp => ?_⟩
      refine ⟨_, _, _, _, _, _, rfl, by rw [upd_ne (ne_of_none upd_same htp)]; exact upd_same, T.x_NoPiece, upd_same, rfl, T.kt, _, rfl, ?_⟩
      exact q _ ((s2.trans (same_upd hy)).trans (same_upd htp)) (Plain.tup (P2.upd trivial))
theorem sc__law_aside : FnScope ["_law_pairs_here", "_law_some", "_law_found", "_law_k"] ["_law_pairs_here", "_law_some"] (defScope s__law_aside) := ⟨rfl, rfl, rfl, by decide +kernel, rfl, by decide +kernel, by decide +kernel⟩
abbrev Ok__law_aside (P : Program) (w : World) (K : PySem.W.Frag) (mg : Str → Option Value) (base : Heap) (A : Adr) : Prop := FnOk P w K mg base (CX1 P w base) 1 A.f__law_aside A.d__law_aside ["_law_pairs_here", "_law_some"] (sp_asd K)
set_option maxHeartbeats 4000000 in
theorem ok__law_aside (T : Txt K mg A)  : Ok__law_aside P w K mg base A := by
  refine T.F__law_aside.okN sc__law_aside (fun vs H Q E h => ?_) (fun cdv Ar outer s H vs Q E hr h => ?_)
  · obtain ⟨_, p, ws, ms, l, rfl, _⟩ := h
    rfl
  · obtain ⟨hP, p, ws, ms, l, rfl, hp, hw, G, hd, q⟩ := h
    obtain ⟨d0, d1, d2, d3, d4, d5, d6, d7, hl, e0, e1, e2, e3, e4, e5, e6, e7⟩ := hd
    refine ⟨_, (pss_cons (ps_if (pt_cmpR (op_eqD hr.units) (pv 0) (pe_lst pa_nil) (nomark _)) (pss_one (ps_ret (pe_lst (pa_cons (pe_tup (pa_cons pe_int (pa_cons pe_int pa_nil))) pa_nil)))) pss_nil)
      (pss_cons (ps_set (i := 2) sc__law_aside.nd rfl (Or.inl rfl) (pe_lst pa_nil))
      (pss_cons (ps_for PassesOwn.never rfl (pi_range1 rfl T.n_range (pa_cons (pe_op op_mod (pe_ix ix_list (pv 1) pe_int (fun _ _ => rfl)) pe_int) pa_nil)) (pg_name (i := 3) sc__law_aside.nd rfl (Or.inl rfl)) (pss_one (ps_expr (pe_bm PySem.F.plainAttrs_list PySem.F.slot_list_append PySem.F.type_list_append mt_append (pv 2) (pa_cons (pe_ix ix_tup (pe_ix ix_list (pv 0) (pe_op op_mod (pe_op op_add (pe_ix ix_list (pv 1) pe_int (fun _ _ => rfl)) (pe_op op_mul (pv 3) (pe_op op_add (pe_op op_mod (pe_ix ix_list (pv 1) pe_int (fun _ _ => rfl)) pe_int) pe_int))) (pe_callB call_len_seq rfl T.n_len (by decide +kernel) (pa_cons (pv 0) pa_nil))) (fun _ _ => rfl)) pe_int (fun _ _ => rfl)) pa_nil)))))
      (pss_cons (ps_if (pt_cmpR op_eq (pe_op op_mod (pe_ix ix_list (pv 1) pe_int (fun _ _ => rfl)) pe_int) pe_int (nomark _)) (pss_one (ps_expr (pe_bm PySem.F.plainAttrs_list PySem.F.slot_list_append PySem.F.type_list_append mt_append (pv 2) (pa_cons (pe_tup (pa_cons pe_int (pa_cons (pe_op op_add (pe_op op_mod (pe_ix ix_list (pv 1) pe_int (fun _ _ => rfl)) pe_int) pe_int) pa_nil))) pa_nil)))) pss_nil)
      (pss_one (ps_ret (pv 2))))))), ?_⟩
    have okm : ∀ m ∈ ms, okV m.2 := fun m h => (G.ok m h).1
    have hwl : ws.length = ms.length := by rw [hw.length, List.length_map]
    refine ⟨_, rfl, Nat.zero_le _, fun el hp1 => ?_⟩
    generalize hH1 : upd H el (HO.lst _) = H1
    have s1 : Same H H1 := hH1 ▸ same_upd hp1
    have P1 : Plain H1 := hH1 ▸ hP.lst
    have h1 := (congrFun hH1 el).symm.trans upd_same
    refine ⟨.list (ms.map prD), .list [], ⟨p, ws, rfl, s1.seq hp, DVs.same s1 _ _ hw⟩, ⟨el, [], rfl, SqL.of h1, rfl⟩, prL_shaped okm, rfl, _, rfl, ?_⟩
    by_cases hms : ms = []
    · rw [hms]
      refine iteT ?_
      refine ⟨by show 2 ≤ sizeLine; decide, fun t hp2 => ?_⟩
      generalize hH2 : upd H1 t (HO.tup _) = H2
      have s2 : Same H1 H2 := hH2 ▸ same_upd hp2
      have P2 : Plain H2 := hH2 ▸ P1.tup
      have h2 := (congrFun hH2 t).symm.trans upd_same
      refine ⟨by show 1 ≤ sizeLine; decide, fun r hr => ?_⟩
      have s3 : Same H2 (upd H2 r (.lst [.ref t])) := same_upd hr
      exact q r _ [(9, 9)] _ ((s1.trans s2).free hr) ((s1.trans s2).trans s3) P2.lst upd_same ⟨_, _, rfl, mkV_dv (m := (9, 9)) (SqT.of (s3 _ _ h2)), rfl⟩ (by decide)
    have hmp : 0 < ms.length := List.length_pos_iff.mpr hms
    have hne : PyData.eqv (.list (ms.map prD)) (.list []) = false := by
      cases ms with
      | nil => exact absurd rfl hms
      | cons m r => rfl
    rw [hne]
    refine iteF ?_
    refine ⟨Nat.zero_le _, fun fl hfl => ?_⟩
    have S2 : Same H1 (upd H1 fl (.lst [])) := same_upd hfl
    have P2 : Plain (upd H1 fl (.lst [])) := P1.lst
    have f2 : (upd H1 fl (.lst [])) fl = some (.lst []) := upd_same
    generalize upd H1 fl (.lst []) = H2 at S2 P2 f2 ⊢
    have hl1 := s1 _ _ hl
    have hl2 := S2 _ _ hl1
    unfold Dig at *
    have z1 := Int.emod_nonneg d0 (show (5 : Int) ≠ 0 by decide)
    have z2 := Int.emod_lt_of_pos d0 (show (0 : Int) < 5 by decide)
    refine ⟨_, rfl, _, _, _, _, rfl, rfl, SqL.of hl2, rfl, _, _, rfl, rfl, (by show (0 : Int) < 5; decide), _, rfl, by omega, by omega, for_range (lo := 0) (n := (d0 % 5).toNat) (fun i σ H3 => ∃ (k : Option V) (xs : List V) (as : List Mark), σ = [some (.ref p), some (.ref l), some (.ref fl), k] ∧ Plain H3 ∧ Same H1 H3 ∧ H3 fl = some (.lst xs) ∧ DVs K H3 (as.map markD) xs ∧ as.length = i)
      ⟨_, [], [], rfl, P2, S2, f2, rfl, rfl⟩ ?_ ?_⟩
    · rintro i σ H3 hi ⟨k, xs, as, rfl, P3, S3, f3, hds, hai⟩
      have hl3 := S3 _ _ hl1
      have S13 := s1.trans S3
      have hxl : xs.length = i := by rw [hds.length, List.length_map, hai]
      have hi5 : i < 5 := by omega
      have y1 := Int.emod_nonneg (d1 + (0 + (i : Int)) * (d2 % 7 + 1)) (show (ws.length : Int) ≠ 0 by omega)
      have y2 := Int.emod_lt_of_pos (d1 + (0 + (i : Int)) * (d2 % 7 + 1)) (show (0 : Int) < (ws.length : Int) by omega)
      obtain ⟨jn, hjn⟩ : ∃ jn : Nat, (d1 + (0 + (i : Int)) * (d2 % 7 + 1)) % (ws.length : Int) = jn := ⟨((d1 + (0 + (i : Int)) * (d2 % 7 + 1)) % (ws.length : Int)).toNat, by omega⟩
      have hjl : jn < ms.length := by omega
      obtain ⟨y, hy, hyd⟩ := (DVs.same S13 _ _ hw).get (i := jn) (d := prD ms[jn]) (by rw [List.getElem?_map, List.getElem?_eq_getElem hjl]; rfl)
      obtain ⟨t, q0, vx, rfl, ht, hq0, hvx⟩ := prD_of hyd
      refine ⟨_, rfl, .inl ⟨rfl, _, SqL.of f3⟩, ?_⟩
      refine ⟨_, rfl, _, rfl, _, _, _, _, rfl, rfl, SqL.of hl3, rfl, _, rfl, _, rfl, _, _, _, _, rfl, rfl, SqL.of hl3, rfl, _, _, rfl, rfl, (by show (0 : Int) < 7; decide), _, _, rfl, rfl, _, _, rfl, rfl, .inl ⟨by omega, by omega⟩, _, _, rfl, rfl, _, rfl, p, ws, rfl, .inl (S13.seq hp), _, _, rfl, rfl, (by show (0 : Int) < (ws.length : Int); omega), p, ws, _, _, rfl, rfl, S13.seq hp, (by show atI ws ((d1 + (0 + (i : Int)) * (d2 % 7 + 1)) % (ws.length : Int)) = _; rw [hjn]; exact atI_nat hy), t, _, _, _, rfl, rfl, ht, rfl, ?_⟩
      refine ⟨fl, xs, _, rfl, rfl, f3, small1000 (by omega), ?_⟩
      refine ⟨_, xs ++ [.ref q0], as ++ [ms[jn].1], rfl, P3.lst, fun b o e => ?_, upd_same, ?_, by rw [List.length_append, List.length_singleton, hai]⟩
      · rw [upd_ne (ne_of_none e hfl)]; exact S3 b o e
      · refine dvs_other f3 (noT_lst _) _ _ (noLs_marks _) ?_
        rw [List.map_append]
        exact hds.append ⟨_, _, rfl, mkV_dv hq0, rfl⟩
    rintro σ H3 ⟨k, xs, as, rfl, P3, S3, f3, hds, hai⟩
    have hl3 := S3 _ _ hl1
    have nHf : H fl = none := s1.free hfl
    refine ⟨_, rfl, _, _, _, _, rfl, rfl, SqL.of hl3, rfl, _, _, rfl, rfl, (by show (0 : Int) < 3; decide), rfl, _, rfl, ite2d (fun _ => ?_) (fun _ => ?_)⟩
    · refine ⟨_, rfl, .inl ⟨rfl, _, SqL.of f3⟩, ?_⟩
      refine ⟨_, rfl, _, _, _, _, rfl, rfl, SqL.of hl3, rfl, _, _, rfl, rfl, (by show (0 : Int) < 4; decide), _, _, rfl, rfl, by show 2 ≤ sizeLine; decide, fun t hp4 => ?_⟩
      dsimp only
      generalize d3 % 4 + 1 = m2
      generalize hH4 : upd H3 t (HO.tup _) = H4
      have s4 : Same H3 H4 := hH4 ▸ same_upd hp4
      have P4 : Plain H4 := hH4 ▸ P3.tup
      have h4 := (congrFun hH4 t).symm.trans upd_same
      have f4 := s4 _ _ f3
      have hxl : xs.length = as.length := by rw [hds.length, List.length_map]
      refine ⟨fl, xs, _, rfl, rfl, f4, small1000 (by omega), ?_⟩
      refine ⟨_, rfl, q fl (xs ++ [.ref t]) (as ++ [(9, m2)]) _ nHf (fun b o e => ?_) P4.lst upd_same ?_ (by rw [List.length_append, List.length_singleton]; omega)⟩
      · rw [upd_ne (ne_of_none e nHf)]; exact s4 _ _ (S3 _ _ (s1 _ _ e))
      · refine dvs_other f4 (noT_lst _) _ _ (noLs_marks _) ?_
        rw [List.map_append]
        exact (DVs.same s4 _ _ hds).append ⟨_, _, rfl, mkV_dv (m := (9, m2)) (SqT.of h4), rfl⟩
    · exact ⟨_, rfl, q fl xs as _ nHf (s1.trans S3) P3 f3 hds (by omega)⟩
theorem sc_law : FnScope ["_law_script", "_law_pairs_here", "_law_sheet", "_law_j", "_law_cell", "_law_some", "_law_aside_here", "_law_handed", "_law_mark", "_law_version_here"] ["_law_script"] (defScope s_law) := ⟨rfl, rfl, rfl, by decide +kernel, rfl, by decide +kernel, by decide +kernel⟩
abbrev Ok_law (P : Program) (w : World) (K : PySem.W.Frag) (mg : Str → Option Value) (base : Heap) (A : Adr) : Prop := FnOk P w K mg base (CX1 P w base) 6 A.f_law A.d_law ["_law_script"] (sp_law K)
set_option maxHeartbeats 4000000 in
theorem ok_law (T : Txt K mg A) (G_Sheet____init__ : Ok_Sheet____init__ P w K mg base A) (G_Sheet__gap : Ok_Sheet__gap P w K mg base A) (G__law_digits : Ok__law_digits P w K mg base A) (G__law_pairs : Ok__law_pairs P w K mg base A) (G__law_due : Ok__law_due P w K mg base A) (G__law_refused : Ok__law_refused P w K mg base A) (G__law_aside : Ok__law_aside P w K mg base A) : Ok_law P w K mg base A := by
  have B_Sheet____init__ := T.b_Sheet____init__
  have B_Sheet__gap := T.b_Sheet__gap
  have B__law_digits := T.b__law_digits
  have B__law_pairs := T.b__law_pairs
  have B__law_due := T.b__law_due
  have B__law_refused := T.b__law_refused
  have B__law_aside := T.b__law_aside
  refine T.F_law.okN sc_law (fun vs H Q E h => ?_) (fun cdv Ar outer s H vs Q E hr h => ?_)
  · obtain ⟨a, ns, rfl, _⟩ := h
    rfl
  · obtain ⟨a, ns, rfl, hS, hlen, k, hP⟩ := h
    refine ⟨_, (pss_cons (ps_set (i := 1) sc_law.nd rfl (Or.inl rfl) (pe_call G__law_pairs (hr.mono (by decide)) rfl T.g__law_pairs T.k__law_pairs B__law_pairs .nil pass1 (pa_cons (pe_slice sl_list (pv 0) (po_some pe_int) (po_some pe_int)) pa_nil)))
      (pss_cons (ps_set (i := 2) sc_law.nd rfl (Or.inl rfl) (pe_make T.mk_Sheet G_Sheet____init__ (hr.mono (by decide)) rfl T.g_Sheet B_Sheet____init__ .nil pass1 (pa_cons (pv 1) pa_nil)))
      (pss_cons (ps_for PassesOwn.never rfl (pi_enum rfl T.n_enumerate (by decide +kernel) (pa_cons (pe_slice sl_list (pv 0) po_none (po_some pe_int)) pa_nil)) (pg_tup rfl (pgs_cons (pg_name (i := 3) sc_law.nd rfl (Or.inl rfl)) (pgs_cons (pg_name (i := 4) sc_law.nd rfl (Or.inl rfl)) pgs_nil))) (pss_cons (ps_set (i := 5) sc_law.nd rfl (Or.inl rfl) (pe_call G__law_digits (hr.mono (by decide)) rfl T.g__law_digits T.k__law_digits B__law_digits .nil pass1 (pa_cons (pv 4) (pa_cons (pe_op op_add (pv 3) pe_int) pa_nil))))
      (pss_cons (ps_set (i := 6) sc_law.nd rfl (Or.inl rfl) (pe_call G__law_aside (hr.mono (by decide)) rfl T.g__law_aside T.k__law_aside B__law_aside .nil pass1 (pa_cons (pv 1) (pa_cons (pv 5) pa_nil))))
      (pss_cons (ps_set (i := 7) sc_law.nd rfl (Or.inl rfl) (pe_callTy call_list_of rfl T.n_list (by decide +kernel) (pa_cons (pv 6) pa_nil)))
      (pss_cons (ps_if (PW.pt (pw_or (pt_cmpR (op_neD hr.units) (pe_meth (pv 2) T.cl_Sheet T.m_Sheet__gap G_Sheet__gap (hr.mono (by decide)) B_Sheet__gap .nil pass1 (pa_cons pe_non (pa_cons (pv 7) pa_nil))) (pe_call G__law_due (hr.mono (by decide)) rfl T.g__law_due T.k__law_due B__law_due .nil pass1 (pa_cons (pv 1) (pa_cons (pe_tup pa_nil) (pa_cons (pv 6) pa_nil)))) (nomark _)) (pw_or1 (pt_cmpR (op_neD hr.units) (pv 7) (pv 6) (nomark _))))) (pss_one (ps_ret pe_bl)) pss_nil)
      (pss_cons (ps_for PassesOwn.never rfl (pi_list (pv 1)) (pg_tup rfl (pgs_cons (pg_name (i := 8) sc_law.nd rfl (Or.inl rfl)) (pgs_cons (pg_name (i := 9) sc_law.nd rfl (Or.inl rfl)) pgs_nil))) (pss_one (ps_if (pt_cmpR (op_eqD hr.units) (pe_ix ix_tup (pv 9) pe_int (fun _ _ => rfl)) (pe_tup pa_nil) (nomark _)) (pss_one (ps_if (pt_not (pt_val (pe_call G__law_refused (hr.mono (by decide)) rfl T.g__law_refused T.k__law_refused B__law_refused .nil pass1 (pa_cons (pv 2) (pa_cons (pv 8) (pa_cons (pv 7) pa_nil)))))) (pss_one (ps_ret pe_bl)) pss_nil)) (pss_one (ps_if (pt_cmpR (op_neD hr.units) (pe_meth (pv 2) T.cl_Sheet T.m_Sheet__gap G_Sheet__gap (hr.mono (by decide)) B_Sheet__gap .nil pass1 (pa_cons (pv 8) (pa_cons (pv 7) pa_nil))) (pe_call G__law_due (hr.mono (by decide)) rfl T.g__law_due T.k__law_due B__law_due .nil pass1 (pa_cons (pv 1) (pa_cons (pe_ix ix_tup (pv 9) pe_int (fun _ _ => rfl)) (pa_cons (pv 6) pa_nil)))) (nomark _)) (pss_one (ps_ret pe_bl)) pss_nil)))))
      (pss_one (ps_if (PW.pt (pw_or (pt_cmpR (op_neD hr.units) (pv 7) (pv 6) (nomark _)) (pw_or1 (pt_not (pt_val (pe_call G__law_refused (hr.mono (by decide)) rfl T.g__law_refused T.k__law_refused B__law_refused .nil pass1 (pa_cons (pv 2) (pa_cons (pe_tup (pa_cons pe_int (pa_cons (pe_op op_add pe_int (pe_ix ix_list (pv 5) pe_int (fun _ _ => rfl))) pa_nil))) (pa_cons (pe_lst pa_nil) pa_nil))))))))) (pss_one (ps_ret pe_bl)) pss_nil))))))))
      (pss_one (ps_ret (pe_cmpR (op_eqD hr.units) (pe_meth (pv 2) T.cl_Sheet T.m_Sheet__gap G_Sheet__gap (hr.mono (by decide)) B_Sheet__gap .nil pass1 (pa_cons pe_non (pa_cons (pe_lst pa_nil) pa_nil))) (pe_call G__law_due (hr.mono (by decide)) rfl T.g__law_due T.k__law_due B__law_due .nil pass1 (pa_cons (pv 1) (pa_cons (pe_tup pa_nil) (pa_cons (pe_lst pa_nil) pa_nil)))) (nomark _))))))), ?_⟩
    refine ⟨_, rfl, 2, rfl, 30, rfl, a, _, rfl, hS, fun pc hp1 => ?_⟩
    have hc1 := cut_len2 (ns.map V.int)
    have hci : ∀ x ∈ cutV (ns.map V.int) (some 2) (some 30), ∃ n, x = V.int n := fun x hx => by
      obtain ⟨i, hi⟩ := List.getElem?_of_mem hx
      exact cut_int hi
    generalize hH1 : upd H pc (HO.lst _) = H1
    have s1 : Same H H1 := hH1 ▸ same_upd hp1
    have P1 : Plain H1 := hH1 ▸ hP.lst
    have h1 := (congrFun hH1 pc).symm.trans upd_same
    refine ⟨P1, pc, _, rfl, h1, by omega, hci, fun H2 pl ws ms s2 P2 hpl hw G hml => ?_⟩
    have S2 := s1.trans s2
    have okm : ∀ m ∈ ms, okV m.2 := fun m h => (G.ok m h).1
    have few := G.few
    have hwl : ws.length = ms.length := by rw [hw.length, List.length_map]
    -- the sheet
    refine ⟨_, rfl, fun x dx nx ndx nex => ?_⟩
    have sx : Same H2 (upd (upd H2 dx (.own x)) x (.ins A.Sheet dx [])) := fun b o e => by
      rw [upd_ne (ne_of_none e nx), upd_ne (ne_of_none e ndx)]
      exact e
    refine ⟨Plain.ins (P2.upd trivial), x, dx, pl, ws, ms, rfl, upd_same, SqL.of (sx _ _ hpl), DVs.same sx _ _ hw, okm, by omega, fun _ H3 k3 Sh3 P3 => ⟨rfl, ?_⟩, fun h => absurd G.nd h⟩
    have s3 : Same H2 H3 := fun b o e => k3 b o (ne_of_none e nx) (sx b o e)
    have S3 := S2.trans s3
    have hpl3 := s3 _ _ hpl
    have hw3 := DVs.same s3 _ _ hw
    -- the four cells
    refine ⟨_, rfl, _, rfl, a, _, rfl, S3.seq hS, fun qc hp4 => ⟨qc, rfl, ⟨_, SqL.of upd_same⟩, ?_⟩⟩
    generalize hH4 : upd H3 qc (HO.lst _) = H4
    have s4 : Same H3 H4 := hH4 ▸ same_upd hp4
    have P4 : Plain H4 := hH4 ▸ P3.lst
    have h4 := (congrFun hH4 qc).symm.trans upd_same
    have Sh4 := Sh3.same s4
    have hpl4 := s4 _ _ hpl3
    have hw4 := DVs.same s4 _ _ hw3
    refine for_enum (K := K) (a := qc) (xs := cutV (ns.map V.int) none (some 4)) (fun i σ H5 => ∃ (o3 o4 o5 o6 o7 o8 o9 : Option V), σ = [some (.ref a), some (.ref pl), some (.ref x), o3, o4, o5, o6, o7, o8, o9] ∧ Plain H5 ∧ Same H4 H5)
      ⟨_, _, _, _, _, _, _, rfl, P4, Same.refl _⟩ (fun i σ H5 _ ⟨_, _, _, _, _, _, _, _, _, s⟩ => SqL.of (s _ _ h4)) ?_ ?_
    · rintro i y T' σ H5 hy ⟨o3, o4, o5, o6, o7, o8, o9, rfl, P5, S5⟩ hT
      obtain ⟨cell, rfl⟩ := cut_int hy
      refine ⟨T', _, rfl, SqT.of upd_same, rfl, _, _, rfl, _, _, rfl, rfl, ?_⟩
      refine ⟨_, rfl, _, rfl, _, _, rfl, rfl, P5.tup, (cell, (i : Int) + 70), rfl, fun l ho hl hd => ?_⟩
      obtain ⟨d0, d1, d2, d3, d4, d5, d6, d7, rfl, e0, e1, e2, e3, e4, e5, e6, e7⟩ := hd
      have S6 : Same H5 (upd (upd H5 T' (.tup [.int i, .int cell])) l (.lst [.int d0, .int d1, .int d2, .int d3, .int d4, .int d5, .int d6, .int d7])) := (same_upd hT).trans (same_upd hl)
      have P6 : Plain (upd (upd H5 T' (.tup [.int i, .int cell])) l (.lst [.int d0, .int d1, .int d2, .int d3, .int d4, .int d5, .int d6, .int d7])) := P5.tup.lst
      have hl6 : (upd (upd H5 T' (.tup [.int i, .int cell])) l (.lst [.int d0, .int d1, .int d2, .int d3, .int d4, .int d5, .int d6, .int d7])) l = some (.lst [.int d0, .int d1, .int d2, .int d3, .int d4, .int d5, .int d6, .int d7]) := upd_same
      generalize upd (upd H5 T' (.tup [.int i, .int cell])) l (.lst [.int d0, .int d1, .int d2, .int d3, .int d4, .int d5, .int d6, .int d7]) = H6 at S6 P6 hl6 ⊢
      have S46 := S5.trans S6
      refine ⟨_, rfl, _, rfl, P6, pl, ws, ms, l, rfl, SqL.of (S46 _ _ hpl4), DVs.same S46 _ _ hw4, G, ⟨d0, d1, d2, d3, d4, d5, d6, d7, hl6, e0, e1, e2, e3, e4, e5, e6, e7⟩, fun al ys as H7 nal s7 P7 hal has hasl => ?_⟩
      have S47 := S46.trans s7
      refine ⟨_, rfl, al, ys, rfl, .inl (SqL.of hal), fun hd hp8 => ?_⟩
      generalize hH8 : upd H7 hd (HO.lst _) = H8
      have s8 : Same H7 H8 := hH8 ▸ same_upd hp8
      have P8 : Plain H8 := hH8 ▸ P7.lst
      have h8 := (congrFun hH8 hd).symm.trans upd_same
      have S48 := S47.trans s8
      have hal8 := s8 _ _ hal
      have has8 := DVs.same s8 _ _ has
      have Sh8 := Sh4.same S48
      obtain ⟨dx8, _, _, _, hx8, _⟩ := id Sh8.ex
      -- at the head
      refine ⟨_, rfl, x, dx8, _, rfl, hx8, rfl, _, rfl, P8, x, ms, none, .non, hd, ys, as, rfl, Sh8, rfl, SqL.of h8, has8, by omega, fun low hlo o1 t1 H9 s9 P9 hL1 hD1 => ?_, fun z => by cases z⟩
      cases hlo
      have S49 := S48.trans s9
      refine ⟨_, rfl, by show 0 ≤ sizeLine; decide, fun te hp10 => ?_⟩
      generalize hH10 : upd H9 te (HO.tup _) = H10
      have s10 : Same H9 H10 := hH10 ▸ same_upd hp10
      have P10 : Plain H10 := hH10 ▸ P9.tup
      have h10 := (congrFun hH10 te).symm.trans upd_same
      have S410 := S49.trans s10
      have S810 := s9.trans s10
      refine ⟨_, rfl, P10, pl, ws, ms, [], _, al, ys, as, rfl, SqL.of (S410 _ _ hpl4), DVs.same S410 _ _ hw4, G, empty_dv h10, SqL.of (S810 _ _ hal8), DVs.same S810 _ _ has8, fun o2 t2 H11 s11 P11 hL2 hD2 => ?_⟩
      cases Least.one hL1 hL2
      refine ⟨gapD [] o1, gapD [] o1, DV.same (s10.trans s11) _ _ hD1, hD2, gapD_shaped _ _, gapD_shaped _ _, _, rfl, ?_⟩
      rw [gapD_eqv]
      refine iteF ?_
      have S811 := S810.trans s11
      have S411 := S410.trans s11
      refine ⟨_, rfl, _, rfl, .list (as.map markD), .list (as.map markD), ⟨hd, ys, rfl, SqL.of (S811 _ _ h8), DVs.same S811 _ _ has8⟩, ⟨al, ys, rfl, SqL.of (S811 _ _ hal8), DVs.same S811 _ _ has8⟩, marks_shaped _, marks_shaped _, _, rfl, ?_⟩
      rw [marks_eqv]
      refine iteF ?_
      -- behind each piece
      refine ⟨_, rfl, pl, rfl, ⟨_, SqL.of (S411 _ _ hpl4)⟩, for_list (K := K) (a := pl) (xs := ws) (fun j σ H12 => ∃ (o8 o9 : Option V), σ = [some (.ref a), some (.ref pl), some (.ref x), some (.int i), some (.int cell), some (.ref l), some (.ref al), some (.ref hd), o8, o9] ∧ Plain H12 ∧ Same H11 H12)
        ⟨_, _, rfl, P11, Same.refl _⟩ (fun j σ H12 _ ⟨_, _, _, _, s⟩ => SqL.of (s _ _ (S411 _ _ hpl4))) ?_ ?_⟩
      · rintro j y σ H12 hy ⟨o8, o9, rfl, P12, S12⟩
        have hj : j < ms.length := by rw [← hwl]; exact (List.getElem?_eq_some_iff.mp hy).1
        have S412 := S411.trans S12
        have S812 := S811.trans S12
        obtain ⟨y', hy', hyd⟩ := (DVs.same S412 _ _ hw4).get (i := j) (d := prD ms[j]) (by rw [List.getElem?_map, List.getElem?_eq_getElem hj]; rfl)
        rw [hy] at hy'
        cases hy'
        obtain ⟨t, q0, vx, rfl, ht, hq0, hvx⟩ := prD_of hyd
        obtain ⟨tv, pvv, rfl, hqv, hplc⟩ := ver_of hvx
        have hmem := List.getElem_mem hj
        have hB := hasB_in G.nd hmem
        have ev : vOf ms ms[j].1 = ms[j].2 := vOf_in G.nd hmem
        refine ⟨t, _, rfl, ht, rfl, _, _, rfl, _, _, rfl, rfl, ?_⟩
        refine ⟨_, rfl, tv, _, _, _, rfl, rfl, hqv, rfl, by show 0 ≤ sizeLine; decide, fun te2 hp13 => ?_⟩
        generalize hH13 : upd H12 te2 (HO.tup _) = H13
        have s13 : Same H12 H13 := hH13 ▸ same_upd hp13
        have P13 : Plain H13 := hH13 ▸ P12.tup
        have h13 := (congrFun hH13 te2).symm.trans upd_same
        have S413 := S412.trans s13
        have S813 := S812.trans s13
        have S1113 := S12.trans s13
        refine ⟨plc ms[j].2.2.1, plc [], DV.same s13 _ _ hplc, empty_dv h13, plc_shaped _, plc_shaped _, _, rfl, ?_⟩
        rw [plc_eqv]
        have Sh13 := Sh8.same S813
        by_cases hr0 : ms[j].2.2.1 = []
        · rw [decide_eq_true hr0]
          refine iteT ?_
          have hB : hasB ms ms[j].1 = false := by rw [hB, decide_eq_true hr0]; rfl
          refine ⟨_, rfl, _, rfl, _, rfl, P13, x, q0, ms[j].1, ms, hd, ys, as, rfl, Sh13, s13.seqT hq0, SqL.of (S813 _ _ h8), DVs.same S813 _ _ has8, by omega, hB, fun H14 s14 P14 => ⟨true, rfl, iteF ?_⟩⟩
          exact ⟨_, _, rfl, P14, S1113.trans s14⟩
        · rw [decide_eq_false hr0]
          refine iteF ?_
          have hB : hasB ms ms[j].1 = true := by rw [hB, decide_eq_false hr0]; rfl
          obtain ⟨dx13, _, _, _, hx13, _⟩ := id Sh13.ex
          have hlo : lowOf ms (some ms[j].1) = some ms[j].2.2.1 := by
            show (if hasB ms ms[j].1 = true then some (vOf ms ms[j].1).2.1 else none) = _
            rw [if_pos hB, ev]
          refine ⟨_, rfl, x, dx13, _, rfl, hx13, rfl, _, rfl, _, rfl, P13, x, ms, some ms[j].1, _, hd, ys, as, rfl, Sh13, ⟨q0, rfl, s13.seqT hq0⟩, SqL.of (S813 _ _ h8), DVs.same S813 _ _ has8, by omega, fun low hlo2 o1 t1 H14 s14 P14 hL1 hD1 => ?_, fun z => by rw [hlo] at z; cases z⟩
          rw [hlo] at hlo2
          cases hlo2
          have S414 := S413.trans s14
          have S814 := S813.trans s14
          have S1214 := s13.trans s14
          refine ⟨_, rfl, _, rfl, tv, _, _, _, rfl, rfl, S1214.seqT hqv, rfl, _, rfl, P14, pl, ws, ms, ms[j].2.2.1, _, al, ys, as, rfl, SqL.of (S414 _ _ hpl4), DVs.same S414 _ _ hw4, G, DV.same S1214 _ _ hplc, SqL.of (S814 _ _ hal8), DVs.same S814 _ _ has8, fun o2 t2 H15 s15 P15 hL2 hD2 => ?_⟩
          cases Least.one hL1 hL2
          refine ⟨gapD ms[j].2.2.1 o1, gapD ms[j].2.2.1 o1, DV.same s15 _ _ hD1, hD2, gapD_shaped _ _, gapD_shaped _ _, _, rfl, ?_⟩
          rw [gapD_eqv]
          refine iteF ?_
          exact ⟨_, _, rfl, P15, (S1113.trans s14).trans s15⟩
      rintro σ H12 ⟨o8, o9, rfl, P12, S12⟩
      have S412 := S411.trans S12
      have S812 := S811.trans S12
      refine ⟨_, rfl, _, rfl, .list (as.map markD), .list (as.map markD), ⟨hd, ys, rfl, SqL.of (S812 _ _ h8), DVs.same S812 _ _ has8⟩, ⟨al, ys, rfl, SqL.of (S812 _ _ hal8), DVs.same S812 _ _ has8⟩, marks_shaped _, marks_shaped _, _, rfl, ?_⟩
      rw [marks_eqv]
      refine iteF ?_
      have hl12 : H12 l = some (.lst [.int d0, .int d1, .int d2, .int d3, .int d4, .int d5, .int d6, .int d7]) := S812 _ _ (s8 _ _ (s7 _ _ hl6))
      refine ⟨_, rfl, _, rfl, _, _, _, _, rfl, rfl, SqL.of hl12, rfl, _, _, rfl, rfl, by show 2 ≤ sizeLine; decide, fun t hp13 => ?_⟩
      dsimp only
      generalize 1 + d4 = m2
      generalize hH13 : upd H12 t (HO.tup _) = H13
      have s13 : Same H12 H13 := hH13 ▸ same_upd hp13
      have P13 : Plain H13 := hH13 ▸ P12.tup
      have h13 := (congrFun hH13 t).symm.trans upd_same
      refine ⟨Nat.zero_le _, fun el hp14 => ?_⟩
      generalize hH14 : upd H13 el (HO.lst _) = H14
      have s14 : Same H13 H14 := hH14 ▸ same_upd hp14
      have P14 : Plain H14 := hH14 ▸ P13.lst
      have h14 := (congrFun hH14 el).symm.trans upd_same
      have S814 := (S812.trans s13).trans s14
      have hout : hasB ms (9, m2) = false := hasB_out fun z => by
        obtain ⟨m, hm, e⟩ := List.mem_map.mp z
        have hb := (G.ok m hm).2.2
        have e1 : m.1.1 = 9 := by rw [e]
        omega
      refine ⟨P14, x, t, (9, m2), ms, el, [], [], rfl, Sh8.same S814, SqT.of (s14 _ _ h13), SqL.of h14, rfl, by decide, hout, fun H15 s15 P15 => ⟨true, rfl, iteF ?_⟩⟩
      exact ⟨_, _, _, _, _, _, _, rfl, P15, (((S5.trans S6).trans s7).trans s8).trans (S814.trans s15)⟩
    rintro σ H5 ⟨o3, o4, o5, o6, o7, o8, o9, rfl, P5, S5⟩
    have Sh5 := Sh4.same S5
    obtain ⟨dx5, _, _, _, hx5, _⟩ := id Sh5.ex
    refine ⟨_, rfl, x, dx5, _, rfl, hx5, rfl, Nat.zero_le _, fun el hp6 => ?_⟩
    generalize hH6 : upd H5 el (HO.lst _) = H6
    have s6 : Same H5 H6 := hH6 ▸ same_upd hp6
    have P6 : Plain H6 := hH6 ▸ P5.lst
    have h6 := (congrFun hH6 el).symm.trans upd_same
    have S46 := S5.trans s6
    refine ⟨P6, x, ms, none, .non, el, [], [], rfl, Sh4.same S46, rfl, SqL.of h6, rfl, by decide, fun low hlo o1 t1 H7 s7 P7 hL1 hD1 => ?_, fun z => by cases z⟩
    cases hlo
    refine ⟨_, rfl, by show 0 ≤ sizeLine; decide, fun te hp8 => ?_⟩
    generalize hH8 : upd H7 te (HO.tup _) = H8
    have s8 : Same H7 H8 := hH8 ▸ same_upd hp8
    have P8 : Plain H8 := hH8 ▸ P7.tup
    have h8 := (congrFun hH8 te).symm.trans upd_same
    refine ⟨Nat.zero_le _, fun el2 hp9 => ?_⟩
    generalize hH9 : upd H8 el2 (HO.lst _) = H9
    have s9 : Same H8 H9 := hH9 ▸ same_upd hp9
    have P9 : Plain H9 := hH9 ▸ P8.lst
    have h9 := (congrFun hH9 el2).symm.trans upd_same
    have S49 := ((S46.trans s7).trans s8).trans s9
    refine ⟨P9, pl, ws, ms, [], _, el2, [], [], rfl, SqL.of (S49 _ _ hpl4), DVs.same S49 _ _ hw4, G, empty_dv (s9 _ _ h8), SqL.of h9, rfl, fun o2 t2 H10 s10 P10 hL2 hD2 => ?_⟩
    cases Least.one hL1 hL2
    refine ⟨gapD [] o1, gapD [] o1, DV.same ((s8.trans s9).trans s10) _ _ hD1, hD2, gapD_shaped _ _, gapD_shaped _ _, ?_⟩
    rw [gapD_eqv]
    exact k _
end
theorem all_mk {l : PySem.W.OpenLaw} {w : World} {K : PySem.W.Frag} {h : Heap} {mg : Str → Option Value} {fa : Addr} (X : K.In h) (G : h.Ns mainGlobals mg) (hfa : mg "law" = some (.ref fa))
    {f_is_in : Addr} {od_is_in an_is_in : Option Addr} {sl_is_in : Array (Option Value)} {oc_is_in kV_is_in dc_is_in pm_is_in cd_is_in ct_is_in : Value}
    {f_Sheet____init__ : Addr} {od_Sheet____init__ an_Sheet____init__ : Option Addr} {sl_Sheet____init__ : Array (Option Value)} {oc_Sheet____init__ kV_Sheet____init__ dc_Sheet____init__ pm_Sheet____init__ cd_Sheet____init__ ct_Sheet____init__ : Value}
    {f_Sheet__version : Addr} {od_Sheet__version an_Sheet__version : Option Addr} {sl_Sheet__version : Array (Option Value)} {oc_Sheet__version kV_Sheet__version dc_Sheet__version pm_Sheet__version cd_Sheet__version ct_Sheet__version : Value}
    {f_Sheet__has : Addr} {od_Sheet__has an_Sheet__has : Option Addr} {sl_Sheet__has : Array (Option Value)} {oc_Sheet__has kV_Sheet__has dc_Sheet__has pm_Sheet__has cd_Sheet__has ct_Sheet__has : Value}
    {f_Sheet__piece : Addr} {od_Sheet__piece an_Sheet__piece : Option Addr} {sl_Sheet__piece : Array (Option Value)} {oc_Sheet__piece kV_Sheet__piece dc_Sheet__piece pm_Sheet__piece cd_Sheet__piece ct_Sheet__piece : Value}
    {f_Sheet__next_place : Addr} {od_Sheet__next_place an_Sheet__next_place : Option Addr} {sl_Sheet__next_place : Array (Option Value)} {oc_Sheet__next_place kV_Sheet__next_place dc_Sheet__next_place pm_Sheet__next_place cd_Sheet__next_place ct_Sheet__next_place : Value}
    {f_Sheet__gap : Addr} {od_Sheet__gap an_Sheet__gap : Option Addr} {sl_Sheet__gap : Array (Option Value)} {oc_Sheet__gap kV_Sheet__gap dc_Sheet__gap pm_Sheet__gap cd_Sheet__gap ct_Sheet__gap : Value}
    {f__law_digits : Addr} {od__law_digits an__law_digits : Option Addr} {sl__law_digits : Array (Option Value)} {oc__law_digits kV__law_digits dc__law_digits pm__law_digits cd__law_digits ct__law_digits : Value}
    {f__law_signs : Addr} {od__law_signs an__law_signs : Option Addr} {sl__law_signs : Array (Option Value)} {oc__law_signs kV__law_signs dc__law_signs pm__law_signs cd__law_signs ct__law_signs : Value}
    {f__law_words : Addr} {od__law_words an__law_words : Option Addr} {sl__law_words : Array (Option Value)} {oc__law_words kV__law_words dc__law_words pm__law_words cd__law_words ct__law_words : Value}
    {f__law_version : Addr} {od__law_version an__law_version : Option Addr} {sl__law_version : Array (Option Value)} {oc__law_version kV__law_version dc__law_version pm__law_version cd__law_version ct__law_version : Value}
    {f__law_pairs : Addr} {od__law_pairs an__law_pairs : Option Addr} {sl__law_pairs : Array (Option Value)} {oc__law_pairs kV__law_pairs dc__law_pairs pm__law_pairs cd__law_pairs ct__law_pairs : Value}
    {f__law_due : Addr} {od__law_due an__law_due : Option Addr} {sl__law_due : Array (Option Value)} {oc__law_due kV__law_due dc__law_due pm__law_due cd__law_due ct__law_due : Value}
    {f__law_refused : Addr} {od__law_refused an__law_refused : Option Addr} {sl__law_refused : Array (Option Value)} {oc__law_refused kV__law_refused dc__law_refused pm__law_refused cd__law_refused ct__law_refused : Value}
    {f__law_aside : Addr} {od__law_aside an__law_aside : Option Addr} {sl__law_aside : Array (Option Value)} {oc__law_aside kV__law_aside dc__law_aside pm__law_aside cd__law_aside ct__law_aside : Value}
    {f_law : Addr} {od_law an_law : Option Addr} {sl_law : Array (Option Value)} {oc_law kV_law dc_law pm_law cd_law ct_law : Value}
    {C_DraftError : Addr}
    {C_NoPiece : Addr}
    {C_NoRoom : Addr}
    {C_NoSheet : Addr}
    {C_NoStretch : Addr}
    {C_Sheet : Addr}
    (a_is_in : PySem.W.nsIn K mainGlobals "is_in" = some (some (.ref f_is_in))) (l_is_in : K.lookup f_is_in = some ⟨oc_is_in, od_is_in, .func (PySem.W.fnOf "is_in" "is_in" (defArgs s_is_in) (defBody s_is_in) (defScope s_is_in) .none kV_is_in dc_is_in pm_is_in an_is_in cd_is_in ct_is_in), sl_is_in⟩) (c_is_in : PySem.W.codeIn K cd_is_in "is_in" = true) (k_is_in : PySem.W.keepIn K (.ref f_is_in) = true)
    (a_Sheet____init__ : PySem.W.findIn K (.ref C_Sheet) "__init__" = some (some (.ref f_Sheet____init__))) (i_Sheet____init__ : PySem.W.isFn K (.ref f_Sheet____init__) = true) (l_Sheet____init__ : K.lookup f_Sheet____init__ = some ⟨oc_Sheet____init__, od_Sheet____init__, .func (PySem.W.fnOf "__init__" "Sheet.__init__" (defArgs s_Sheet____init__) (defBody s_Sheet____init__) (defScope s_Sheet____init__) .none kV_Sheet____init__ dc_Sheet____init__ pm_Sheet____init__ an_Sheet____init__ cd_Sheet____init__ ct_Sheet____init__), sl_Sheet____init__⟩) (c_Sheet____init__ : PySem.W.codeIn K cd_Sheet____init__ "Sheet.__init__" = true) (k_Sheet____init__ : PySem.W.keepIn K (.ref f_Sheet____init__) = true)
    (a_Sheet__version : PySem.W.findIn K (.ref C_Sheet) "version" = some (some (.ref f_Sheet__version))) (i_Sheet__version : PySem.W.isFn K (.ref f_Sheet__version) = true) (l_Sheet__version : K.lookup f_Sheet__version = some ⟨oc_Sheet__version, od_Sheet__version, .func (PySem.W.fnOf "version" "Sheet.version" (defArgs s_Sheet__version) (defBody s_Sheet__version) (defScope s_Sheet__version) .none kV_Sheet__version dc_Sheet__version pm_Sheet__version an_Sheet__version cd_Sheet__version ct_Sheet__version), sl_Sheet__version⟩) (c_Sheet__version : PySem.W.codeIn K cd_Sheet__version "Sheet.version" = true) (k_Sheet__version : PySem.W.keepIn K (.ref f_Sheet__version) = true)
    (a_Sheet__has : PySem.W.findIn K (.ref C_Sheet) "has" = some (some (.ref f_Sheet__has))) (i_Sheet__has : PySem.W.isFn K (.ref f_Sheet__has) = true) (l_Sheet__has : K.lookup f_Sheet__has = some ⟨oc_Sheet__has, od_Sheet__has, .func (PySem.W.fnOf "has" "Sheet.has" (defArgs s_Sheet__has) (defBody s_Sheet__has) (defScope s_Sheet__has) .none kV_Sheet__has dc_Sheet__has pm_Sheet__has an_Sheet__has cd_Sheet__has ct_Sheet__has), sl_Sheet__has⟩) (c_Sheet__has : PySem.W.codeIn K cd_Sheet__has "Sheet.has" = true) (k_Sheet__has : PySem.W.keepIn K (.ref f_Sheet__has) = true)
    (a_Sheet__piece : PySem.W.findIn K (.ref C_Sheet) "piece" = some (some (.ref f_Sheet__piece))) (i_Sheet__piece : PySem.W.isFn K (.ref f_Sheet__piece) = true) (l_Sheet__piece : K.lookup f_Sheet__piece = some ⟨oc_Sheet__piece, od_Sheet__piece, .func (PySem.W.fnOf "piece" "Sheet.piece" (defArgs s_Sheet__piece) (defBody s_Sheet__piece) (defScope s_Sheet__piece) .none kV_Sheet__piece dc_Sheet__piece pm_Sheet__piece an_Sheet__piece cd_Sheet__piece ct_Sheet__piece), sl_Sheet__piece⟩) (c_Sheet__piece : PySem.W.codeIn K cd_Sheet__piece "Sheet.piece" = true) (k_Sheet__piece : PySem.W.keepIn K (.ref f_Sheet__piece) = true)
    (a_Sheet__next_place : PySem.W.findIn K (.ref C_Sheet) "next_place" = some (some (.ref f_Sheet__next_place))) (i_Sheet__next_place : PySem.W.isFn K (.ref f_Sheet__next_place) = true) (l_Sheet__next_place : K.lookup f_Sheet__next_place = some ⟨oc_Sheet__next_place, od_Sheet__next_place, .func (PySem.W.fnOf "next_place" "Sheet.next_place" (defArgs s_Sheet__next_place) (defBody s_Sheet__next_place) (defScope s_Sheet__next_place) .none kV_Sheet__next_place dc_Sheet__next_place pm_Sheet__next_place an_Sheet__next_place cd_Sheet__next_place ct_Sheet__next_place), sl_Sheet__next_place⟩) (c_Sheet__next_place : PySem.W.codeIn K cd_Sheet__next_place "Sheet.next_place" = true) (k_Sheet__next_place : PySem.W.keepIn K (.ref f_Sheet__next_place) = true)
    (a_Sheet__gap : PySem.W.findIn K (.ref C_Sheet) "gap" = some (some (.ref f_Sheet__gap))) (i_Sheet__gap : PySem.W.isFn K (.ref f_Sheet__gap) = true) (l_Sheet__gap : K.lookup f_Sheet__gap = some ⟨oc_Sheet__gap, od_Sheet__gap, .func (PySem.W.fnOf "gap" "Sheet.gap" (defArgs s_Sheet__gap) (defBody s_Sheet__gap) (defScope s_Sheet__gap) .none kV_Sheet__gap dc_Sheet__gap pm_Sheet__gap an_Sheet__gap cd_Sheet__gap ct_Sheet__gap), sl_Sheet__gap⟩) (c_Sheet__gap : PySem.W.codeIn K cd_Sheet__gap "Sheet.gap" = true) (k_Sheet__gap : PySem.W.keepIn K (.ref f_Sheet__gap) = true)
    (a__law_digits : PySem.W.nsIn K mainGlobals "_law_digits" = some (some (.ref f__law_digits))) (l__law_digits : K.lookup f__law_digits = some ⟨oc__law_digits, od__law_digits, .func (PySem.W.fnOf "_law_digits" "_law_digits" (defArgs s__law_digits) (defBody s__law_digits) (defScope s__law_digits) .none kV__law_digits dc__law_digits pm__law_digits an__law_digits cd__law_digits ct__law_digits), sl__law_digits⟩) (c__law_digits : PySem.W.codeIn K cd__law_digits "_law_digits" = true) (k__law_digits : PySem.W.keepIn K (.ref f__law_digits) = true)
    (a__law_signs : PySem.W.nsIn K mainGlobals "_law_signs" = some (some (.ref f__law_signs))) (l__law_signs : K.lookup f__law_signs = some ⟨oc__law_signs, od__law_signs, .func (PySem.W.fnOf "_law_signs" "_law_signs" (defArgs s__law_signs) (defBody s__law_signs) (defScope s__law_signs) .none kV__law_signs dc__law_signs pm__law_signs an__law_signs cd__law_signs ct__law_signs), sl__law_signs⟩) (c__law_signs : PySem.W.codeIn K cd__law_signs "_law_signs" = true) (k__law_signs : PySem.W.keepIn K (.ref f__law_signs) = true)
    (a__law_words : PySem.W.nsIn K mainGlobals "_law_words" = some (some (.ref f__law_words))) (l__law_words : K.lookup f__law_words = some ⟨oc__law_words, od__law_words, .func (PySem.W.fnOf "_law_words" "_law_words" (defArgs s__law_words) (defBody s__law_words) (defScope s__law_words) .none kV__law_words dc__law_words pm__law_words an__law_words cd__law_words ct__law_words), sl__law_words⟩) (c__law_words : PySem.W.codeIn K cd__law_words "_law_words" = true) (k__law_words : PySem.W.keepIn K (.ref f__law_words) = true)
    (a__law_version : PySem.W.nsIn K mainGlobals "_law_version" = some (some (.ref f__law_version))) (l__law_version : K.lookup f__law_version = some ⟨oc__law_version, od__law_version, .func (PySem.W.fnOf "_law_version" "_law_version" (defArgs s__law_version) (defBody s__law_version) (defScope s__law_version) .none kV__law_version dc__law_version pm__law_version an__law_version cd__law_version ct__law_version), sl__law_version⟩) (c__law_version : PySem.W.codeIn K cd__law_version "_law_version" = true) (k__law_version : PySem.W.keepIn K (.ref f__law_version) = true)
    (a__law_pairs : PySem.W.nsIn K mainGlobals "_law_pairs" = some (some (.ref f__law_pairs))) (l__law_pairs : K.lookup f__law_pairs = some ⟨oc__law_pairs, od__law_pairs, .func (PySem.W.fnOf "_law_pairs" "_law_pairs" (defArgs s__law_pairs) (defBody s__law_pairs) (defScope s__law_pairs) .none kV__law_pairs dc__law_pairs pm__law_pairs an__law_pairs cd__law_pairs ct__law_pairs), sl__law_pairs⟩) (c__law_pairs : PySem.W.codeIn K cd__law_pairs "_law_pairs" = true) (k__law_pairs : PySem.W.keepIn K (.ref f__law_pairs) = true)
    (a__law_due : PySem.W.nsIn K mainGlobals "_law_due" = some (some (.ref f__law_due))) (l__law_due : K.lookup f__law_due = some ⟨oc__law_due, od__law_due, .func (PySem.W.fnOf "_law_due" "_law_due" (defArgs s__law_due) (defBody s__law_due) (defScope s__law_due) .none kV__law_due dc__law_due pm__law_due an__law_due cd__law_due ct__law_due), sl__law_due⟩) (c__law_due : PySem.W.codeIn K cd__law_due "_law_due" = true) (k__law_due : PySem.W.keepIn K (.ref f__law_due) = true)
    (a__law_refused : PySem.W.nsIn K mainGlobals "_law_refused" = some (some (.ref f__law_refused))) (l__law_refused : K.lookup f__law_refused = some ⟨oc__law_refused, od__law_refused, .func (PySem.W.fnOf "_law_refused" "_law_refused" (defArgs s__law_refused) (defBody s__law_refused) (defScope s__law_refused) .none kV__law_refused dc__law_refused pm__law_refused an__law_refused cd__law_refused ct__law_refused), sl__law_refused⟩) (c__law_refused : PySem.W.codeIn K cd__law_refused "_law_refused" = true) (k__law_refused : PySem.W.keepIn K (.ref f__law_refused) = true)
    (a__law_aside : PySem.W.nsIn K mainGlobals "_law_aside" = some (some (.ref f__law_aside))) (l__law_aside : K.lookup f__law_aside = some ⟨oc__law_aside, od__law_aside, .func (PySem.W.fnOf "_law_aside" "_law_aside" (defArgs s__law_aside) (defBody s__law_aside) (defScope s__law_aside) .none kV__law_aside dc__law_aside pm__law_aside an__law_aside cd__law_aside ct__law_aside), sl__law_aside⟩) (c__law_aside : PySem.W.codeIn K cd__law_aside "_law_aside" = true) (k__law_aside : PySem.W.keepIn K (.ref f__law_aside) = true)
    (a_law : PySem.W.nsIn K mainGlobals "law" = some (some (.ref f_law))) (l_law : K.lookup f_law = some ⟨oc_law, od_law, .func (PySem.W.fnOf "law" "law" (defArgs s_law) (defBody s_law) (defScope s_law) .none kV_law dc_law pm_law an_law cd_law ct_law), sl_law⟩) (c_law : PySem.W.codeIn K cd_law "law" = true) (k_law : PySem.W.keepIn K (.ref f_law) = true)
    (q_DraftError : PySem.W.nsIn K mainGlobals "DraftError" = some (some (.ref C_DraftError)))
    (x_DraftError : XCls K C_DraftError)
    (q_NoPiece : PySem.W.nsIn K mainGlobals "NoPiece" = some (some (.ref C_NoPiece)))
    (x_NoPiece : XCls K C_NoPiece)
    (q_NoRoom : PySem.W.nsIn K mainGlobals "NoRoom" = some (some (.ref C_NoRoom)))
    (x_NoRoom : XCls K C_NoRoom)
    (q_NoSheet : PySem.W.nsIn K mainGlobals "NoSheet" = some (some (.ref C_NoSheet)))
    (x_NoSheet : XCls K C_NoSheet)
    (q_NoStretch : PySem.W.nsIn K mainGlobals "NoStretch" = some (some (.ref C_NoStretch)))
    (x_NoStretch : XCls K C_NoStretch)
    (q_Sheet : PySem.W.nsIn K mainGlobals "Sheet" = some (some (.ref C_Sheet)))
    (pg_Sheet : PySem.W.plainGet K C_Sheet Str.empty = true) (hd_Sheet : PySem.W.hasDictIn K C_Sheet = true) (po_Sheet : PySem.W.plainOver K C_Sheet = true) (sa_Sheet : PySem.W.findIn K (.ref C_Sheet) "__setattr__" = some (some (.builtin "object.__setattr__"))) (mk_Sheet : PySem.W.makesIn K C_Sheet = true) (kc_Sheet : PySem.W.keepIn K (.ref C_Sheet) = true)
    (na_Sheet_versions : PySem.W.findIn K (.ref C_Sheet) "versions" = some none)
    (m_np : PySem.W.mroIn K C_NoPiece (.ref C_DraftError) = some true)
    (kv : PySem.W.kitOne K (.ref C_NoPiece) (.type "ValueError") = some true)
    (kt : PySem.W.kitAny K (.ref C_NoPiece) [.ref C_NoRoom, .ref C_NoSheet, .ref C_NoStretch] = some false)
    (n_ValueError : PySem.W.nsIn K mainGlobals "ValueError" = some none)
    (n_dict : PySem.W.nsIn K mainGlobals "dict" = some none)
    (n_enumerate : PySem.W.nsIn K mainGlobals "enumerate" = some none)
    (n_isinstance : PySem.W.nsIn K mainGlobals "isinstance" = some none)
    (n_len : PySem.W.nsIn K mainGlobals "len" = some none)
    (n_list : PySem.W.nsIn K mainGlobals "list" = some none)
    (n_min : PySem.W.nsIn K mainGlobals "min" = some none)
    (n_range : PySem.W.nsIn K mainGlobals "range" = some none)
    (n_set : PySem.W.nsIn K mainGlobals "set" = some none)
    (n_tuple : PySem.W.nsIn K mainGlobals "tuple" = some none)
    : ∃ fd : FuncData, (∀ (s : Shared) (v : Value), BindsTo s fd ⟨[v], []⟩ [("_law_script", v)]) ∧ ∀ base : Heap, K.In base → base.Ns mainGlobals mg → FnOk l.prog w K mg base (CX1 l.prog w base) 6 fa fd ["_law_script"] (sp_law K) := by
  have e := hfa.symm.trans (PySem.W.mg_of X G a_law)
  cases e
  have F_is_in := fun_mk (st := s_is_in) l_is_in c_is_in k_is_in
  have F_Sheet____init__ := fun_mk (st := s_Sheet____init__) l_Sheet____init__ c_Sheet____init__ k_Sheet____init__
  have F_Sheet__version := fun_mk (st := s_Sheet__version) l_Sheet__version c_Sheet__version k_Sheet__version
  have F_Sheet__has := fun_mk (st := s_Sheet__has) l_Sheet__has c_Sheet__has k_Sheet__has
  have F_Sheet__piece := fun_mk (st := s_Sheet__piece) l_Sheet__piece c_Sheet__piece k_Sheet__piece
  have F_Sheet__next_place := fun_mk (st := s_Sheet__next_place) l_Sheet__next_place c_Sheet__next_place k_Sheet__next_place
  have F_Sheet__gap := fun_mk (st := s_Sheet__gap) l_Sheet__gap c_Sheet__gap k_Sheet__gap
  have F__law_digits := fun_mk (st := s__law_digits) l__law_digits c__law_digits k__law_digits
  have F__law_signs := fun_mk (st := s__law_signs) l__law_signs c__law_signs k__law_signs
  have F__law_words := fun_mk (st := s__law_words) l__law_words c__law_words k__law_words
  have F__law_version := fun_mk (st := s__law_version) l__law_version c__law_version k__law_version
  have F__law_pairs := fun_mk (st := s__law_pairs) l__law_pairs c__law_pairs k__law_pairs
  have F__law_due := fun_mk (st := s__law_due) l__law_due c__law_due k__law_due
  have F__law_refused := fun_mk (st := s__law_refused) l__law_refused c__law_refused k__law_refused
  have F__law_aside := fun_mk (st := s__law_aside) l__law_aside c__law_aside k__law_aside
  have F_law := fun_mk (st := s_law) l_law c_law k_law
  have T : Txt K mg ⟨f_is_in, _, f_Sheet____init__, _, f_Sheet__version, _, f_Sheet__has, _, f_Sheet__piece, _, f_Sheet__next_place, _, f_Sheet__gap, _, f__law_digits, _, f__law_signs, _, f__law_words, _, f__law_version, _, f__law_pairs, _, f__law_due, _, f__law_refused, _, f__law_aside, _, fa, _, C_DraftError, C_NoPiece, C_NoRoom, C_NoSheet, C_NoStretch, C_Sheet⟩ := ⟨F_is_in, (PySem.W.mg_of X G a_is_in), k_is_in, (F_is_in.binds fun _ _ _ _ _ _ us hl => match us, hl with | [_], _ => rfl), F_Sheet____init__, (F_Sheet____init__.binds fun _ _ _ _ _ _ us hl => match us, hl with | [_, _], _ => rfl), ⟨mk_Sheet, a_Sheet____init__, i_Sheet____init__, kc_Sheet⟩, F_Sheet__version, (F_Sheet__version.binds fun _ _ _ _ _ _ us hl => match us, hl with | [_, _], _ => rfl), ⟨a_Sheet__version, i_Sheet__version, k_Sheet__version⟩, F_Sheet__has, (F_Sheet__has.binds fun _ _ _ _ _ _ us hl => match us, hl with | [_, _], _ => rfl), ⟨a_Sheet__has, i_Sheet__has, k_Sheet__has⟩, F_Sheet__piece, (F_Sheet__piece.binds fun _ _ _ _ _ _ us hl => match us, hl with | [_, _], _ => rfl), ⟨a_Sheet__piece, i_Sheet__piece, k_Sheet__piece⟩, F_Sheet__next_place, (F_Sheet__next_place.binds fun _ _ _ _ _ _ us hl => match us, hl with | [_, _, _], _ => rfl), ⟨a_Sheet__next_place, i_Sheet__next_place, k_Sheet__next_place⟩, F_Sheet__gap, (F_Sheet__gap.binds fun _ _ _ _ _ _ us hl => match us, hl with | [_, _, _], _ => rfl), ⟨a_Sheet__gap, i_Sheet__gap, k_Sheet__gap⟩, F__law_digits, (PySem.W.mg_of X G a__law_digits), k__law_digits, (F__law_digits.binds fun _ _ _ _ _ _ us hl => match us, hl with | [_, _], _ => rfl), F__law_signs, (PySem.W.mg_of X G a__law_signs), k__law_signs, (F__law_signs.binds fun _ _ _ _ _ _ us hl => match us, hl with | [], _ => rfl), F__law_words, (PySem.W.mg_of X G a__law_words), k__law_words, (F__law_words.binds fun _ _ _ _ _ _ us hl => match us, hl with | [_, _], _ => rfl), F__law_version, (PySem.W.mg_of X G a__law_version), k__law_version, (F__law_version.binds fun _ _ _ _ _ _ us hl => match us, hl with | [_], _ => rfl), F__law_pairs, (PySem.W.mg_of X G a__law_pairs), k__law_pairs, (F__law_pairs.binds fun _ _ _ _ _ _ us hl => match us, hl with | [_], _ => rfl), F__law_due, (PySem.W.mg_of X G a__law_due), k__law_due, (F__law_due.binds fun _ _ _ _ _ _ us hl => match us, hl with | [_, _, _], _ => rfl), F__law_refused, (PySem.W.mg_of X G a__law_refused), k__law_refused, (F__law_refused.binds fun _ _ _ _ _ _ us hl => match us, hl with | [_, _, _], _ => rfl), F__law_aside, (PySem.W.mg_of X G a__law_aside), k__law_aside, (F__law_aside.binds fun _ _ _ _ _ _ us hl => match us, hl with | [_, _], _ => rfl), F_law, (PySem.W.mg_of X G a_law), k_law, (F_law.binds fun _ _ _ _ _ _ us hl => match us, hl with | [_], _ => rfl), (PySem.W.mg_of X G q_DraftError), x_DraftError, (PySem.W.mg_of X G q_NoPiece), x_NoPiece, (PySem.W.mg_of X G q_NoRoom), x_NoRoom, (PySem.W.mg_of X G q_NoSheet), x_NoSheet, (PySem.W.mg_of X G q_NoStretch), x_NoStretch, (PySem.W.mg_of X G q_Sheet), ⟨pg_Sheet, hd_Sheet, po_Sheet, sa_Sheet⟩, na_Sheet_versions, m_np, kv, kt, (PySem.W.mg_none_of X G n_ValueError), (PySem.W.mg_none_of X G n_dict), (PySem.W.mg_none_of X G n_enumerate), (PySem.W.mg_none_of X G n_isinstance), (PySem.W.mg_none_of X G n_len), (PySem.W.mg_none_of X G n_list), (PySem.W.mg_none_of X G n_min), (PySem.W.mg_none_of X G n_range), (PySem.W.mg_none_of X G n_set), (PySem.W.mg_none_of X G n_tuple)⟩
  refine ⟨PySem.W.fnOf "law" "law" (defArgs s_law) (defBody s_law) (defScope s_law) .none kV_law dc_law pm_law an_law cd_law ct_law, fun s v => .of_eq rfl, fun base _ _ => ?_⟩
  have G_is_in : Ok_is_in l.prog w K mg base ⟨f_is_in, _, f_Sheet____init__, _, f_Sheet__version, _, f_Sheet__has, _, f_Sheet__piece, _, f_Sheet__next_place, _, f_Sheet__gap, _, f__law_digits, _, f__law_signs, _, f__law_words, _, f__law_version, _, f__law_pairs, _, f__law_due, _, f__law_refused, _, f__law_aside, _, fa, _, C_DraftError, C_NoPiece, C_NoRoom, C_NoSheet, C_NoStretch, C_Sheet⟩ := ok_is_in T 
  have G_Sheet____init__ : Ok_Sheet____init__ l.prog w K mg base ⟨f_is_in, _, f_Sheet____init__, _, f_Sheet__version, _, f_Sheet__has, _, f_Sheet__piece, _, f_Sheet__next_place, _, f_Sheet__gap, _, f__law_digits, _, f__law_signs, _, f__law_words, _, f__law_version, _, f__law_pairs, _, f__law_due, _, f__law_refused, _, f__law_aside, _, fa, _, C_DraftError, C_NoPiece, C_NoRoom, C_NoSheet, C_NoStretch, C_Sheet⟩ := ok_Sheet____init__ T 
  have G_Sheet__version : Ok_Sheet__version l.prog w K mg base ⟨f_is_in, _, f_Sheet____init__, _, f_Sheet__version, _, f_Sheet__has, _, f_Sheet__piece, _, f_Sheet__next_place, _, f_Sheet__gap, _, f__law_digits, _, f__law_signs, _, f__law_words, _, f__law_version, _, f__law_pairs, _, f__law_due, _, f__law_refused, _, f__law_aside, _, fa, _, C_DraftError, C_NoPiece, C_NoRoom, C_NoSheet, C_NoStretch, C_Sheet⟩ := ok_Sheet__version T 
  have G_Sheet__has : Ok_Sheet__has l.prog w K mg base ⟨f_is_in, _, f_Sheet____init__, _, f_Sheet__version, _, f_Sheet__has, _, f_Sheet__piece, _, f_Sheet__next_place, _, f_Sheet__gap, _, f__law_digits, _, f__law_signs, _, f__law_words, _, f__law_version, _, f__law_pairs, _, f__law_due, _, f__law_refused, _, f__law_aside, _, fa, _, C_DraftError, C_NoPiece, C_NoRoom, C_NoSheet, C_NoStretch, C_Sheet⟩ := ok_Sheet__has T G_is_in G_Sheet__version
  have G_Sheet__piece : Ok_Sheet__piece l.prog w K mg base ⟨f_is_in, _, f_Sheet____init__, _, f_Sheet__version, _, f_Sheet__has, _, f_Sheet__piece, _, f_Sheet__next_place, _, f_Sheet__gap, _, f__law_digits, _, f__law_signs, _, f__law_words, _, f__law_version, _, f__law_pairs, _, f__law_due, _, f__law_refused, _, f__law_aside, _, fa, _, C_DraftError, C_NoPiece, C_NoRoom, C_NoSheet, C_NoStretch, C_Sheet⟩ := ok_Sheet__piece T G_Sheet__version G_Sheet__has
  have G_Sheet__next_place : Ok_Sheet__next_place l.prog w K mg base ⟨f_is_in, _, f_Sheet____init__, _, f_Sheet__version, _, f_Sheet__has, _, f_Sheet__piece, _, f_Sheet__next_place, _, f_Sheet__gap, _, f__law_digits, _, f__law_signs, _, f__law_words, _, f__law_version, _, f__law_pairs, _, f__law_due, _, f__law_refused, _, f__law_aside, _, fa, _, C_DraftError, C_NoPiece, C_NoRoom, C_NoSheet, C_NoStretch, C_Sheet⟩ := ok_Sheet__next_place T 
  have G_Sheet__gap : Ok_Sheet__gap l.prog w K mg base ⟨f_is_in, _, f_Sheet____init__, _, f_Sheet__version, _, f_Sheet__has, _, f_Sheet__piece, _, f_Sheet__next_place, _, f_Sheet__gap, _, f__law_digits, _, f__law_signs, _, f__law_words, _, f__law_version, _, f__law_pairs, _, f__law_due, _, f__law_refused, _, f__law_aside, _, fa, _, C_DraftError, C_NoPiece, C_NoRoom, C_NoSheet, C_NoStretch, C_Sheet⟩ := ok_Sheet__gap T G_Sheet__piece G_Sheet__next_place
  have G__law_digits : Ok__law_digits l.prog w K mg base ⟨f_is_in, _, f_Sheet____init__, _, f_Sheet__version, _, f_Sheet__has, _, f_Sheet__piece, _, f_Sheet__next_place, _, f_Sheet__gap, _, f__law_digits, _, f__law_signs, _, f__law_words, _, f__law_version, _, f__law_pairs, _, f__law_due, _, f__law_refused, _, f__law_aside, _, fa, _, C_DraftError, C_NoPiece, C_NoRoom, C_NoSheet, C_NoStretch, C_Sheet⟩ := ok__law_digits T 
  have G__law_signs : Ok__law_signs l.prog w K mg base ⟨f_is_in, _, f_Sheet____init__, _, f_Sheet__version, _, f_Sheet__has, _, f_Sheet__piece, _, f_Sheet__next_place, _, f_Sheet__gap, _, f__law_digits, _, f__law_signs, _, f__law_words, _, f__law_version, _, f__law_pairs, _, f__law_due, _, f__law_refused, _, f__law_aside, _, fa, _, C_DraftError, C_NoPiece, C_NoRoom, C_NoSheet, C_NoStretch, C_Sheet⟩ := ok__law_signs T 
  have G__law_words : Ok__law_words l.prog w K mg base ⟨f_is_in, _, f_Sheet____init__, _, f_Sheet__version, _, f_Sheet__has, _, f_Sheet__piece, _, f_Sheet__next_place, _, f_Sheet__gap, _, f__law_digits, _, f__law_signs, _, f__law_words, _, f__law_version, _, f__law_pairs, _, f__law_due, _, f__law_refused, _, f__law_aside, _, fa, _, C_DraftError, C_NoPiece, C_NoRoom, C_NoSheet, C_NoStretch, C_Sheet⟩ := ok__law_words T G__law_signs
  have G__law_version : Ok__law_version l.prog w K mg base ⟨f_is_in, _, f_Sheet____init__, _, f_Sheet__version, _, f_Sheet__has, _, f_Sheet__piece, _, f_Sheet__next_place, _, f_Sheet__gap, _, f__law_digits, _, f__law_signs, _, f__law_words, _, f__law_version, _, f__law_pairs, _, f__law_due, _, f__law_refused, _, f__law_aside, _, fa, _, C_DraftError, C_NoPiece, C_NoRoom, C_NoSheet, C_NoStretch, C_Sheet⟩ := ok__law_version T G__law_words
  have G__law_pairs : Ok__law_pairs l.prog w K mg base ⟨f_is_in, _, f_Sheet____init__, _, f_Sheet__version, _, f_Sheet__has, _, f_Sheet__piece, _, f_Sheet__next_place, _, f_Sheet__gap, _, f__law_digits, _, f__law_signs, _, f__law_words, _, f__law_version, _, f__law_pairs, _, f__law_due, _, f__law_refused, _, f__law_aside, _, fa, _, C_DraftError, C_NoPiece, C_NoRoom, C_NoSheet, C_NoStretch, C_Sheet⟩ := ok__law_pairs T G__law_digits G__law_version
  have G__law_due : Ok__law_due l.prog w K mg base ⟨f_is_in, _, f_Sheet____init__, _, f_Sheet__version, _, f_Sheet__has, _, f_Sheet__piece, _, f_Sheet__next_place, _, f_Sheet__gap, _, f__law_digits, _, f__law_signs, _, f__law_words, _, f__law_version, _, f__law_pairs, _, f__law_due, _, f__law_refused, _, f__law_aside, _, fa, _, C_DraftError, C_NoPiece, C_NoRoom, C_NoSheet, C_NoStretch, C_Sheet⟩ := ok__law_due T 
  have G__law_refused : Ok__law_refused l.prog w K mg base ⟨f_is_in, _, f_Sheet____init__, _, f_Sheet__version, _, f_Sheet__has, _, f_Sheet__piece, _, f_Sheet__next_place, _, f_Sheet__gap, _, f__law_digits, _, f__law_signs, _, f__law_words, _, f__law_version, _, f__law_pairs, _, f__law_due, _, f__law_refused, _, f__law_aside, _, fa, _, C_DraftError, C_NoPiece, C_NoRoom, C_NoSheet, C_NoStretch, C_Sheet⟩ := ok__law_refused T G_Sheet__gap
  have G__law_aside : Ok__law_aside l.prog w K mg base ⟨f_is_in, _, f_Sheet____init__, _, f_Sheet__version, _, f_Sheet__has, _, f_Sheet__piece, _, f_Sheet__next_place, _, f_Sheet__gap, _, f__law_digits, _, f__law_signs, _, f__law_words, _, f__law_version, _, f__law_pairs, _, f__law_due, _, f__law_refused, _, f__law_aside, _, fa, _, C_DraftError, C_NoPiece, C_NoRoom, C_NoSheet, C_NoStretch, C_Sheet⟩ := ok__law_aside T 
  have G_law : Ok_law l.prog w K mg base ⟨f_is_in, _, f_Sheet____init__, _, f_Sheet__version, _, f_Sheet__has, _, f_Sheet__piece, _, f_Sheet__next_place, _, f_Sheet__gap, _, f__law_digits, _, f__law_signs, _, f__law_words, _, f__law_version, _, f__law_pairs, _, f__law_due, _, f__law_refused, _, f__law_aside, _, fa, _, C_DraftError, C_NoPiece, C_NoRoom, C_NoSheet, C_NoStretch, C_Sheet⟩ := ok_law T G_Sheet____init__ G_Sheet__gap G__law_digits G__law_pairs G__law_due G__law_refused G__law_aside
  exact G_law
theorem walk {l : PySem.W.OpenLaw} {q : Program} {loose : List Str} {XP : (Str → Option Value) → Heap → Prop} {YP : World → Heap → Prop} {d : DefRec} {K : Params → PySem.W.Frag} (hn : l.most = some 63) (hdf : d.params.defaults = [])
    (hY : ∀ (w : World) (h : Heap), YP w h → (K w.params).In h)
    (F : ∀ (w : World) (mg : Str → Option Value) (fa : Addr) (h : Heap), (K w.params).In h → h.Ns mainGlobals mg → mg d.name = some (.ref fa) →
      ∃ fd : FuncData, (∀ (s : Shared) (u : Value), BindsTo s fd ⟨[u], []⟩ [("_law_script", u)]) ∧ ∀ base : Heap, (K w.params).In base → base.Ns mainGlobals mg → FnOk l.prog w (K w.params) mg base (CX1 l.prog w base) 6 fa fd ["_law_script"] (sp_law (K w.params))) :
    PySem.W.WalkO q loose XP YP l.row.toRowW d [] (fun f vs => PySem.call f vs) :=
  walk_ofX (n := 63) (k := 6) (x := "_law_script") (sp := fun w => sp_law (K w.params)) hn (by decide) hdf ⟨rfl, by decide, by decide⟩ hY F (fun _ _ a ns hl hO hS => ⟨a, ns, rfl, hS, hl, fun _ => rfl, hO.plain⟩)
end My
open PySem PySem.W PyProof.Rows
set_option maxRecDepth 100000 in
set_option maxHeartbeats 0 in
theorem PySem.Challenge.cw_twotabs_k10_gaps_holds : PySem.Challenge.rw_twotabs_k10_gaps.Holds := by
  w_on; o_law; k_head; (case hw => w_witness2)
  k_fill
  refine My.walk (l := PySem.Challenge.rw_twotabs_k10_gaps) rfl rfl (fun w h Y => PySem.W.kIn_of Y) ?F
  case F =>
    intro w mg fa h KX G hmg
    refine' My.all_mk KX G hmg ?a_is_in ?l_is_in ?c_is_in ?k_is_in ?a_Sheet____init__ ?i_Sheet____init__ ?l_Sheet____init__ ?c_Sheet____init__ ?k_Sheet____init__ ?a_Sheet__version ?i_Sheet__version ?l_Sheet__version ?c_Sheet__version ?k_Sheet__version ?a_Sheet__has ?i_Sheet__has ?l_Sheet__has ?c_Sheet__has ?k_Sheet__has ?a_Sheet__piece ?i_Sheet__piece ?l_Sheet__piece ?c_Sheet__piece ?k_Sheet__piece ?a_Sheet__next_place ?i_Sheet__next_place ?l_Sheet__next_place ?c_Sheet__next_place ?k_Sheet__next_place ?a_Sheet__gap ?i_Sheet__gap ?l_Sheet__gap ?c_Sheet__gap ?k_Sheet__gap ?a__law_digits ?l__law_digits ?c__law_digits ?k__law_digits ?a__law_signs ?l__law_signs ?c__law_signs ?k__law_signs ?a__law_words ?l__law_words ?c__law_words ?k__law_words ?a__law_version ?l__law_version ?c__law_version ?k__law_version ?a__law_pairs ?l__law_pairs ?c__law_pairs ?k__law_pairs ?a__law_due ?l__law_due ?c__law_due ?k__law_due ?a__law_refused ?l__law_refused ?c__law_refused ?k__law_refused ?a__law_aside ?l__law_aside ?c__law_aside ?k__law_aside ?a_law ?l_law ?c_law ?k_law ?q_DraftError ?x_DraftError ?q_NoPiece ?x_NoPiece ?q_NoRoom ?x_NoRoom ?q_NoSheet ?x_NoSheet ?q_NoStretch ?x_NoStretch ?q_Sheet ?pg_Sheet ?hd_Sheet ?po_Sheet ?sa_Sheet ?mk_Sheet ?kc_Sheet ?na_Sheet_versions ?m_np ?kv ?kt ?n_ValueError ?n_dict ?n_enumerate ?n_isinstance ?n_len ?n_list ?n_min ?n_range ?n_set ?n_tuple
    (case q_Sheet => k_is)
    (case a_is_in => k_is)
    (case l_is_in => k_is)
    (case c_is_in => k_is)
    (case k_is_in => k_is)
    (case a_Sheet____init__ => k_is)
    (case i_Sheet____init__ => k_is)
    (case l_Sheet____init__ => k_is)
    (case c_Sheet____init__ => k_is)
    (case k_Sheet____init__ => k_is)
    (case a_Sheet__version => k_is)
    (case i_Sheet__version => k_is)
    (case l_Sheet__version => k_is)
    (case c_Sheet__version => k_is)
    (case k_Sheet__version => k_is)
    (case a_Sheet__has => k_is)
    (case i_Sheet__has => k_is)
    (case l_Sheet__has => k_is)
    (case c_Sheet__has => k_is)
    (case k_Sheet__has => k_is)
    (case a_Sheet__piece => k_is)
    (case i_Sheet__piece => k_is)
    (case l_Sheet__piece => k_is)
    (case c_Sheet__piece => k_is)
    (case k_Sheet__piece => k_is)
    (case a_Sheet__next_place => k_is)
    (case i_Sheet__next_place => k_is)
    (case l_Sheet__next_place => k_is)
    (case c_Sheet__next_place => k_is)
    (case k_Sheet__next_place => k_is)
    (case a_Sheet__gap => k_is)
    (case i_Sheet__gap => k_is)
    (case l_Sheet__gap => k_is)
    (case c_Sheet__gap => k_is)
    (case k_Sheet__gap => k_is)
    (case a__law_digits => k_is)
    (case l__law_digits => k_is)
    (case c__law_digits => k_is)
    (case k__law_digits => k_is)
    (case a__law_signs => k_is)
    (case l__law_signs => k_is)
    (case c__law_signs => k_is)
    (case k__law_signs => k_is)
    (case a__law_words => k_is)
    (case l__law_words => k_is)
    (case c__law_words => k_is)
    (case k__law_words => k_is)
    (case a__law_version => k_is)
    (case l__law_version => k_is)
    (case c__law_version => k_is)
    (case k__law_version => k_is)
    (case a__law_pairs => k_is)
    (case l__law_pairs => k_is)
    (case c__law_pairs => k_is)
    (case k__law_pairs => k_is)
    (case a__law_due => k_is)
    (case l__law_due => k_is)
    (case c__law_due => k_is)
    (case k__law_due => k_is)
    (case a__law_refused => k_is)
    (case l__law_refused => k_is)
    (case c__law_refused => k_is)
    (case k__law_refused => k_is)
    (case a__law_aside => k_is)
    (case l__law_aside => k_is)
    (case c__law_aside => k_is)
    (case k__law_aside => k_is)
    (case a_law => k_is)
    (case l_law => k_is)
    (case c_law => k_is)
    (case k_law => k_is)
    (case q_DraftError => k_is)
    (case x_DraftError => refine' L2.XCls.mk ?_ ?_ ?_ ?_ ?_ ?_ ?_ ?_ ?_; all_goals (first | k_is | k_exc))
    (case q_NoPiece => k_is)
    (case x_NoPiece => refine' L2.XCls.mk ?_ ?_ ?_ ?_ ?_ ?_ ?_ ?_ ?_; all_goals (first | k_is | k_exc))
    (case q_NoRoom => k_is)
    (case x_NoRoom => refine' L2.XCls.mk ?_ ?_ ?_ ?_ ?_ ?_ ?_ ?_ ?_; all_goals (first | k_is | k_exc))
    (case q_NoSheet => k_is)
    (case x_NoSheet => refine' L2.XCls.mk ?_ ?_ ?_ ?_ ?_ ?_ ?_ ?_ ?_; all_goals (first | k_is | k_exc))
    (case q_NoStretch => k_is)
    (case x_NoStretch => refine' L2.XCls.mk ?_ ?_ ?_ ?_ ?_ ?_ ?_ ?_ ?_; all_goals (first | k_is | k_exc))
    (case pg_Sheet => k_is)
    (case hd_Sheet => k_is)
    (case po_Sheet => k_is)
    (case sa_Sheet => k_is)
    (case mk_Sheet => k_is)
    (case kc_Sheet => k_is)
    (case na_Sheet_versions => k_is)
    (case m_np => first | k_is | kit_is)
    (case kv => first | k_is | kit_is)
    (case kt => first | k_is | kit_is)
    (case n_ValueError => k_is)
    (case n_dict => k_is)
    (case n_enumerate => k_is)
    (case n_isinstance => k_is)
    (case n_len => k_is)
    (case n_list => k_is)
    (case n_min => k_is)
    (case n_range => k_is)
    (case n_set => k_is)
    (case n_tuple => k_is)
