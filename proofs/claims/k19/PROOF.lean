import PyProof.Rows.All
import Wide.All
import OpenK.AllK
import Wide.FinOn
import Lean
import PyProof.EqAt
import PyProof.EqKinds
import PyProof.TupleCall
import PySem.Challenge.RW_twotabs_k19_log_shared
set_option Elab.async false
set_option linter.all false
set_option genSizeOfSpec false
set_option genSizeOf false
set_option maxRecDepth 100000
namespace My
open PySem PySem.W PyProof.Rows
/-- the top's run over a heap that is a tree -/
noncomputable def topRunT (tb : String → Option Builtin) (p : Program) (w : World) (n0 : Nat) (ann : Option Value) : Nat → SharedT → Thread → Option SharedT
  | 0, _, _ => none
  | n + 1, s, t => match through t with
    | true => some s
    | false => match stepOk n0 ann t with
      | false => none
      | true => match stepT (denote tb) p w s t with
        | some (s', t') => topRunT tb p w n0 ann n s' t'
        | none => none
theorem topRun_of {tb : String → Option Builtin} {p : Program} {w : World} {n0 : Nat} {ann : Option Value} : ∀ {n : Nat} {s s' : SharedT} {t : Thread}, topRunT tb p w n0 ann n s t = some s' → topRun tb p w n0 ann n s.abs t = some s'.abs
  | 0, _, _, _, h => by cases h
  | n + 1, s, s', t, h => by
    unfold topRunT at h
    unfold topRun
    cases he : through t with
    | true => rw [he] at h; cases h; rfl
    | false =>
      rw [he] at h
      cases hk : stepOk n0 ann t with
      | false => rw [hk] at h; cases h
      | true =>
        rw [hk] at h
        cases hs : stepT (denote tb) p w s t with
        | none => rw [hs] at h; cases h
        | some r => obtain ⟨s2, t2⟩ := r; rw [hs] at h; rw [stepT_spec hs]; exact topRun_of h
noncomputable def treeOf (l : List Obj) : BT := (l.foldl (fun x o => (x.1.ins x.2 o, x.2 + 1)) (BT.nil, 0)).1
theorem left_tree {p q : Program} {loose : List Str} {Xt : Shared → Bool} {α : Type} {Yf : Shared → α} {Ya : World → α} {N : Nat} {g0 : Bool} {m0 : Nat} {T0 : Params → BT} {L0 : Params → Life}
    (e : opening p = plainProg p.main.scope.names) (hN : Nat.ble 600 N = true) (f : ∀ s, fenceModules? p s = some s)
    (hT : ∀ P : Params, absHeap (T0 P) m0 (L0 P) = boot_heap P)
    (size : ∀ P : Params, ((boot_heap P).isNs mainGlobals, (boot_heap P).objs.size) = (true, m0))
    (all : ∀ w : World, (fun os => (topRunT treeTable p w m0 ((boot_heap w.params).nsMap mainGlobals "__annotations__") N ⟨T0 w.params, m0, L0 w.params, Array.mk [], boot_drawn, boot_toks, os⟩ (topStub p)).map fun s => (fun r : Shared => ((staticsOk (importedModules p.main.body) (boot_heap w.params) r.heap && namesBound p r.heap && gensDone r && laidKept (boot_heap w.params) r.heap), openSeen q loose (importedModules p.main.body) Xt g0 r, Yf r)) s.abs) = fun _ => some (true, openGood q loose, Ya w)) :
    LeftO p q loose Xt Yf Ya N g0 := fun w => by
  obtain ⟨⟨h, gs, d, k, os⟩, e1, e2⟩ := Option.map_eq_some_iff.mp (boot_open e hN f w)
  obtain ⟨rfl, rfl, rfl, rfl⟩ : h = boot_heap w.params ∧ gs = Array.mk [] ∧ d = boot_drawn ∧ k = boot_toks := by simpa using e2
  obtain ⟨z1, z2⟩ : _ ∧ _ := by simpa only [Prod.mk.injEq] using size w.params
  obtain ⟨s, h1, h2⟩ := Option.map_eq_some_iff.mp (congrFun (all w) os)
  obtain ⟨l1, l2, l3⟩ : _ ∧ _ ∧ _ := by simpa only [Prod.mk.injEq] using h2
  have r := topRun_of h1
  have r : topRun treeTable p w m0 ((boot_heap w.params).nsMap mainGlobals "__annotations__") N ⟨boot_heap w.params, Array.mk [], boot_drawn, boot_toks, os⟩ (topStub p) = some s.abs := by
    have e3 : (⟨T0 w.params, m0, L0 w.params, Array.mk [], boot_drawn, boot_toks, os⟩ : SharedT).abs = ⟨boot_heap w.params, Array.mk [], boot_drawn, boot_toks, os⟩ := by
      show (⟨absHeap (T0 w.params) m0 (L0 w.params), _, _, _, _⟩ : Shared) = _
      rw [hT]
    rw [← e3]
    exact r
  have t : topFrom treeTable p w N ⟨boot_heap w.params, Array.mk [], boot_drawn, boot_toks, os⟩ = some s.abs := by
    unfold topFrom
    dsimp only
    rw [z1, z2, r]
    show (match staticsOk (importedModules p.main.body) (boot_heap w.params) s.abs.heap && namesBound p s.abs.heap && gensDone s.abs && laidKept (boot_heap w.params) s.abs.heap with | true => _ | false => _) = _
    rw [l1]
  unfold openEnds
  rw [e1]
  show (topFrom treeTable p w N _).map _ = _
  rw [t]
  exact congrArg some (Prod.ext l2 l3)
end My
section
open PySem PySem.W PyProof.Rows
noncomputable def My.viewQ : Program := { PySem.Challenge.pw_twotabs_k19_log_shared with main := { PySem.Challenge.pw_twotabs_k19_log_shared.main with body := [0, 2, 3, 5, 6, 8, 9, 10, 11, 12, 13, 14, 15, 16].filterMap (PySem.Challenge.pw_twotabs_k19_log_shared.main.body[·]?) } }
open Lean in
local macro_rules
  | `(tactic| o_head $H) => do
    let (hl, hw, hc) := (mkIdent `hl, mkIdent `hw, mkIdent `hc)
    `(tactic| refine PySem.W.holds_open (q := My.viewQ) (loose := []) (Xt := fun s => xlAt My.viewQ [] s && recOk (RowW.records PySem.Challenge.rw_twotabs_k19_log_shared.row.toRowW) s) (XP := XL My.viewQ []) (Yf := Hook.obs $H) (Ya := Hook.val $H) (YP := Hook.says $H) (N := 2554) ?$hl (Hook.of $H) (Hook.keeps $H) (fun s e => xl_of s (Bool.and_eq_true_iff.mp e).1) XL.keeps (by rfl) (by rfl) (by rfl) (fun s e => recFacts_of (Bool.and_eq_true_iff.mp e).2) (by rfl) (by assumption) (by decide +kernel) ⟨rfl, rfl, rfl, rfl, rfl, by decide +kernel⟩ ?$hw ?$hc)
local macro_rules | `(tactic| walk_at "fn") => `(tactic| (refine' L2.fun_mk ?l ?c ?k; (case l => k_is); (case c => k_is); (case k => k_is)))
set_option maxRecDepth 100000 in
set_option maxHeartbeats 0 in
theorem My.dummy (hF : False) : PySem.Challenge.rw_twotabs_k19_log_shared.Holds := by
  w_on; o_law; k_head
  all_goals exact hF.elim
set_option maxRecDepth 100000 in
set_option maxHeartbeats 0 in
theorem My.hlQ : LeftO PySem.Challenge.rw_twotabs_k19_log_shared.row.prog My.viewQ [] (fun s => xlAt My.viewQ [] s && recOk (RowW.records PySem.Challenge.rw_twotabs_k19_log_shared.row.toRowW) s) (kHook My.dummy.heap_39 [2, 3, 15, 17, 18, 20, 21, 22, 29, 30, 31, 32, 35, 42, 43, 44, 54, 56, 57, 59, 60, 61, 63, 64, 66, 67, 68, 70, 71, 73, 74, 75, 77, 78, 80, 81, 82, 84, 85, 87, 88, 89, 91, 92, 94, 95, 96, 98, 99, 101, 102, 103, 106, 107, 108, 109, 110, 111, 112, 115, 117, 118, 120, 121, 122, 124, 125, 127, 128, 129, 131, 132, 134, 135, 136, 138, 139, 141, 142, 143, 146, 147, 148, 150, 151, 153, 154, 155, 157, 158, 160, 161, 162, 164, 165, 167, 168, 169, 171, 172, 174, 175, 176, 178, 179, 181, 182] (fun _ => rfl)).obs (kHook My.dummy.heap_39 [2, 3, 15, 17, 18, 20, 21, 22, 29, 30, 31, 32, 35, 42, 43, 44, 54, 56, 57, 59, 60, 61, 63, 64, 66, 67, 68, 70, 71, 73, 74, 75, 77, 78, 80, 81, 82, 84, 85, 87, 88, 89, 91, 92, 94, 95, 96, 98, 99, 101, 102, 103, 106, 107, 108, 109, 110, 111, 112, 115, 117, 118, 120, 121, 122, 124, 125, 127, 128, 129, 131, 132, 134, 135, 136, 138, 139, 141, 142, 143, 146, 147, 148, 150, 151, 153, 154, 155, 157, 158, 160, 161, 162, 164, 165, 167, 168, 169, 171, 172, 174, 175, 176, 178, 179, 181, 182] (fun _ => rfl)).val 2554 := by
  refine My.left_tree (T0 := fun P => My.treeOf (boot_heap P).objs.toList) (L0 := fun P => (boot_heap P).life) (m0 := 11) (by kernel_rfl) (by kernel_rfl) (fun s => by kernel_rfl) (fun P => by kernel_rfl) (fun P => by kernel_rfl) (fun w => ?_)
  kernel_rfl
end
/-! THE HAND LAYER, for ints, bools, texts, own classes, LISTS and tuples (index, slices, in, append, pop ..), calls, loops. Paste it whole ahead of your own text; what your proof does not reach may be deleted. -/
namespace L2
open PySem PySem.Spec PyProof.Rows

/-- a key: an int or a str -/
noncomputable abbrev Key := Sum Int Str
noncomputable def keyIs : Key → Value → Bool
  | .inl k, v => Value.isInt k v
  | .inr x, v => Value.isStrOf x v
noncomputable def keyH (w : World) : Key → Int
  | .inl k => hashInt k
  | .inr x => hashStr w x
theorem keyIs_shape : ∀ {k : Key} {v : Value}, keyIs k v = true → (∃ i t, k = Sum.inl i ∧ v = Value.int i t) ∨ (∃ x t, k = Sum.inr x ∧ v = Value.str x t)
  | .inl i, v, h => by
    obtain ⟨t, e⟩ := Value.isInt_shape (k := i) (v := v) h
    exact .inl ⟨i, t, rfl, e⟩
  | .inr x, v, h => by
    obtain ⟨t, e⟩ := Value.isStrOf_shape (x := x) (v := v) h
    exact .inr ⟨x, t, rfl, e⟩
theorem key_ll (a b : Int) : decide ((Sum.inl a : Key) = Sum.inl b) = (a == b) := by
  by_cases e : a = b
  · subst e; simp
  · have h : ¬ (Sum.inl a : Key) = Sum.inl b := fun q => e (Sum.inl.inj q)
    rw [decide_eq_false h]
    exact (beq_eq_false_iff_ne.mpr e).symm
theorem key_rr (a b : Str) : decide ((Sum.inr a : Key) = Sum.inr b) = decide (a = b) := by
  by_cases e : a = b
  · subst e; simp
  · have h : ¬ (Sum.inr a : Key) = Sum.inr b := fun q => e (Sum.inr.inj q)
    rw [decide_eq_false h, decide_eq_false e]
theorem key_lr (a : Int) (b : Str) : decide ((Sum.inl a : Key) = Sum.inr b) = false := decide_eq_false (fun q => nomatch q)
theorem key_rl (a : Str) (b : Int) : decide ((Sum.inr a : Key) = Sum.inl b) = false := decide_eq_false (fun q => nomatch q)

noncomputable def mixKind (prog : Program) (w : World) : PySem.KeyKind prog w Key where
  is := keyIs
  hash := keyH w
  inj := fun v a b ha hb => by
    rcases keyIs_shape ha with ⟨i, t, rfl, rfl⟩ | ⟨x, t, rfl, rfl⟩
    · rcases keyIs_shape hb with ⟨j, u, rfl, e⟩ | ⟨y, u, rfl, e⟩
      · injection e with e1 _; rw [e1]
      · exact nomatch e
    · rcases keyIs_shape hb with ⟨j, u, rfl, e⟩ | ⟨y, u, rfl, e⟩
      · exact nomatch e
      · injection e with e1 _; rw [e1]
  byValue := fun k v h => by
    rcases keyIs_shape h with ⟨i, t, rfl, rfl⟩ | ⟨x, t, rfl, rfl⟩ <;> rfl
  pyHash := fun hv h => by
    rcases keyIs_shape hv with ⟨i, t, rfl, rfl⟩ | ⟨x, t, rfl, rfl⟩
    · exact wpAny_pyHash_int h
    · exact wpAny_pyHash_str h
  eqBool := fun hu hv h => by
    rcases keyIs_shape hu with ⟨i, t, rfl, rfl⟩ | ⟨x, t, rfl, rfl⟩
    · rcases keyIs_shape hv with ⟨j, u, rfl, rfl⟩ | ⟨y, u, rfl, rfl⟩
      · rw [key_ll] at h; exact wpAny_eqBool_int h
      · rw [key_lr] at h; exact SeqAt.EqAt.int_str i t y u _ _ _ _ h
    · rcases keyIs_shape hv with ⟨j, u, rfl, rfl⟩ | ⟨y, u, rfl, rfl⟩
      · rw [key_rl] at h; exact SeqAt.EqAt.str_int x t j u _ _ _ _ h
      · rw [key_rr] at h; exact wpAny_eqBool_str h
  «strs» := fun k x t v h => by
    rcases keyIs_shape h with ⟨i, u, rfl, e⟩ | ⟨y, u, rfl, e⟩
    · exact nomatch e
    · injection e with e1 _
      subst e1
      cases v <;> rfl

end L2

namespace L2
open PySem PySem.Spec PyProof.Rows

/-- a value, without the heap -/
inductive V where
  | non | bl (b : Bool) | int (i : Int) | str (x : Str) | byt (b : Array UInt8) | flt (b : UInt64) | ref (a : Addr) | ty (n : String)
  deriving DecidableEq

noncomputable def RelV : V → Value → Prop
  | .non, u => u = Value.none
  | .bl b, u => u = Value.bool b
  | .int i, u => ∃ t, u = Value.int i t
  | .str x, u => ∃ t, u = Value.str x t
  | .byt b, u => ∃ t, u = Value.bytes b t
  | .flt b, u => ∃ t, u = Value.float b t
  | .ref a, u => u = Value.ref a
  | .ty n, u => u = Value.type n

noncomputable abbrev Vals : List V → List Value → Prop := Paired RelV
theorem Vals.length {xs : List V} {us : List Value} (r : Vals xs us) : xs.length = us.length := Paired.length r
theorem Vals.get : ∀ {xs : List V} {us : List Value} {i : Nat} {x : V}, Vals xs us → xs[i]? = some x → ∃ u, us[i]? = some u ∧ RelV x u
  | _, _, _, _, .nil, e => by simp at e
  | _, _, 0, _, .cons r _, e => by simp at e; subst e; exact ⟨_, rfl, r⟩
  | _, _, i + 1, x, .cons _ t, e => by
    obtain ⟨u, h1, h2⟩ := Vals.get (i := i) (x := x) t (by simpa using e)
    exact ⟨u, by simpa using h1, h2⟩
theorem Vals.append : ∀ {xs ys : List V} {us ws : List Value}, Vals xs us → Vals ys ws → Vals (xs ++ ys) (us ++ ws)
  | _, _, _, _, .nil, s => s
  | _, _, _, _, .cons r t, s => .cons r (Vals.append t s)
theorem Vals.take : ∀ {xs : List V} {us : List Value} (n : Nat), Vals xs us → Vals (xs.take n) (us.take n)
  | _, _, 0, _ => .nil
  | _, _, _ + 1, .nil => .nil
  | _, _, n + 1, .cons r t => .cons r (Vals.take n t)
theorem Vals.drop : ∀ {xs : List V} {us : List Value} (n : Nat), Vals xs us → Vals (xs.drop n) (us.drop n)
  | _, _, 0, r => r
  | _, _, _ + 1, .nil => .nil
  | _, _, n + 1, .cons _ t => Vals.drop n t
noncomputable def RelO : Option V → Option Value → Prop
  | some v, some u => RelV v u
  | none, none => True
  | _, _ => False
noncomputable def KV {κ : Type} : List (κ × V) → List (κ × Value) → Prop := Paired fun (p : κ × V) (q : κ × Value) => p.1 = q.1 ∧ RelV p.2 q.2

/-- a key of a dict (00_mix): an int or a text -/
noncomputable def kV : Key → V
  | .inl i => .int i
  | .inr x => .str x

/-- what stands at a tracked address -/
inductive HO where
  /-- a list -/
  | lst (xs : List V)
  /-- a tuple (never changes) -/
  | tup (xs : List V)
  /-- a dict whose keys are ints and texts; one whose keys are tuples of ints and texts (the empty one is both) -/
  | dK (kvs : List (Key × V)) | dT (kvs : List (List Key × V))
  /-- a set of ints: its members, its size -/
  | set (S : Int → Bool) (n : Nat)
  /-- an instance of the class at C, its dict at dx, its attributes -/
  | ins (C dx : Addr) (fs : List (Str × V))
  /-- the dict of the instance at x -/
  | own (x : Addr)
  /-- the dict of an exception -/
  | xd (fs : List (Str × V))
  /-- a bound method, f of x -/
  | met (f x : Addr)
  /-- a range object lo, lo + 1, .. below hi -/
  | rng (lo hi : Int)
  /-- a thing that is known to the object (the script; a dict while a loop walks it): read, never written while it is so -/
  | frz (o : Obj) (u : HO)
  /-- a code object's table -/
  | tbl (ps : Array Value)
  /-- any other thing, by what is true of its one object (a def of one's own: SetO a S n := HO.ext fun h => ..) -/
  | ext (φ : Heap → Prop)

noncomputable abbrev Hp := Addr → Option HO
noncomputable def upd (H : Hp) (a : Addr) (o : HO) : Hp := fun b => if b = a then some o else H b
theorem upd_same {H : Hp} {a : Addr} {o : HO} : upd H a o a = some o := by unfold upd; rw [if_pos rfl]
theorem upd_ne {H : Hp} {a b : Addr} {o : HO} (h : b ≠ a) : upd H a o b = H b := by unfold upd; rw [if_neg h]
/-- two objects of different content stand apart -/
theorem ne_of {H : Hp} {a b : Addr} {o u : HO} (h : H a = some o) (h' : H b = some u) (d : o ≠ u) : a ≠ b := by
  intro e; subst e; rw [h] at h'; exact d (Option.some.inj h')
theorem ne_of_none {H : Hp} {a b : Addr} {o : HO} (h : H a = some o) (h' : H b = none) : a ≠ b := by
  intro e; subst e; rw [h] at h'; cases h'

section
variable (P : Program) (w : World)
noncomputable def ObjOk (H : Hp) (h : Heap) (a : Addr) : HO → Prop
  | .lst xs => xs.length ≤ sizeLine ∧ ∃ (its : List Value) (n : Nat), Vals xs its ∧ h.get? a = some { cls := .type "list", data := .seq its.toArray n }
  | .tup xs => xs.length ≤ sizeLine ∧ ∃ its : List Value, Vals xs its ∧ IsTup h a its.toArray
  | .dK kvs => kvs.length ≤ sizeLine ∧ (a == sysModules) = false ∧ ∃ vs, KV kvs vs ∧ h.DictOf (mixKind P w) a vs
  | .dT kvs => kvs.length ≤ sizeLine ∧ (a == sysModules) = false ∧ ∃ xs : List (List Key × Addr × Value),
      Paired (fun (p : List Key × V) (q : List Key × Addr × Value) => p.1 = q.1 ∧ H q.2.1 = some (.tup (p.1.map kV)) ∧ RelV p.2 q.2.2) kvs xs ∧
      ∃ o es ep, h.get? a = some o ∧ o.ExactDict ∧ o.data = .dict es ep ∧ es.toList = xs.map (entryOfKey (tupleKind (mixKind P w))) ∧ (xs.map (·.1)).Nodup
  | .set S n => h.SetOf (intKind P w) a S n
  | .ins C dx fs => H dx = some (.own a) ∧ fs.length ≤ 1000 ∧ dx ≠ a ∧ h.get? a = some (PySem.W.instObj C dx) ∧
      ∃ mA, h.Ns1 dx mA ∧ (∀ f, RelO (fs.lookup f) (mA f)) ∧ PySem.Within mA (fs.map (·.1))
  | .own _ => ∃ o, h.get? a = some o
  | .xd fs => ∃ mA, h.Ns1 a mA ∧ ∀ f, RelO (fs.lookup f) (mA f)
  | .rng lo hi => ∃ t u v, h.get? a = some { cls := .type "range", data := .fields #[.int lo t, .int hi u, .int 1 v] }
  | .frz o u => h.get? a = some o ∧ ObjOk H h a u
  | .tbl ps => h.get? a = some { cls := .none, data := .fields ps }
  | .met f x => h.get? a = some (PySem.W.methodObj (.ref f) (.ref x))
  | .ext φ => φ h ∧ (∃ o, h.get? a = some o) ∧ ∀ h1 h2 : Heap, φ h1 → (∀ o, h1.get? a = some o → h2.get? a = some o) → φ h2
/-- the abstract heap is held -/
noncomputable def HOk (H : Hp) (h : Heap) : Prop := ∀ a o, H a = some o → ObjOk P w H h a o
end

section
variable {P : Program} {w : World} {H H' : Hp} {h h' : Heap} {a : Addr} {o : HO}
theorem ObjOk.lt (x : ObjOk P w H h a o) : a < h.objs.size := by
  cases o with
  | lst xs => obtain ⟨_, _, _, _, e⟩ := x; exact Heap.lt_size e
  | tup xs => obtain ⟨_, _, _, p⟩ := x; exact p.lt
  | dK kvs => obtain ⟨_, _, _, _, o, _, _, e, _⟩ := x; exact Heap.lt_size e
  | dT kvs => obtain ⟨_, _, _, _, o, _, _, e, _⟩ := x; exact Heap.lt_size e
  | set S n => obtain ⟨o, _, _, _, e, _⟩ := x; exact Heap.lt_size e
  | ins C dx fs => obtain ⟨_, _, _, e, _⟩ := x; exact Heap.lt_size e
  | own y => obtain ⟨_, e⟩ := x; exact Heap.lt_size e
  | xd fs => obtain ⟨_, ⟨_, _, _, e, _⟩, _⟩ := x; exact Heap.lt_size e
  | rng lo hi => obtain ⟨_, _, _, e⟩ := x; exact Heap.lt_size e
  | frz ob u => obtain ⟨e, _⟩ := x; exact Heap.lt_size e
  | tbl ps => exact Heap.lt_size (show h.get? a = some _ from x)
  | met f y => exact Heap.lt_size (show h.get? a = some _ from x)
  | ext φ => obtain ⟨_, ⟨_, e⟩, _⟩ := x; exact Heap.lt_size e
theorem Paired.mapP {α β : Type} {F G : α → β → Prop} : ∀ {l₁ : List α} {l₂ : List β}, Paired F l₁ l₂ → (∀ a b, F a b → G a b) → Paired G l₁ l₂
  | _, _, .nil, _ => .nil
  | _, _, .cons r t, f => .cons (f _ _ r) (Paired.mapP t f)
/-- what an object's description leans on: its own object, its own dict, the tuples -/
theorem ObjOk.stay (x : ObjOk P w H h a o) (k : ∀ b u, (b = a ∨ H b = some (.own a)) → h.get? b = some u → h'.get? b = some u)
    (ho : ∀ b, H b = some (.own a) → H' b = some (.own a)) (ht : ∀ b xs, H b = some (.tup xs) → H' b = some (.tup xs)) : ObjOk P w H' h' a o := by
  induction o with
  | lst xs => obtain ⟨z, its, n, r, e⟩ := x; exact ⟨z, its, n, r, k _ _ (.inl rfl) e⟩
  | tup xs => obtain ⟨z, its, r, ob, e, c⟩ := x; exact ⟨z, its, r, ob, k _ _ (.inl rfl) e, c⟩
  | dK kvs => obtain ⟨z, y, vs, r, ob, es, ep, e, c⟩ := x; exact ⟨z, y, vs, r, ob, es, ep, k _ _ (.inl rfl) e, c⟩
  | dT kvs =>
    obtain ⟨z, y, xs, r, ob, es, ep, e, c⟩ := x
    exact ⟨z, y, xs, Paired.mapP r fun p q z => ⟨z.1, ht _ _ z.2.1, z.2.2⟩, ob, es, ep, k _ _ (.inl rfl) e, c⟩
  | set S n => obtain ⟨ob, es, ep, t, e, c⟩ := x; exact ⟨ob, es, ep, t, k _ _ (.inl rfl) e, c⟩
  | ins C dx fs =>
    obtain ⟨d, z, ne, e, mA, ⟨od, es, ep, e2, c⟩, r⟩ := x
    exact ⟨ho _ d, z, ne, k _ _ (.inl rfl) e, mA, ⟨od, es, ep, k _ _ (.inr d) e2, c⟩, r⟩
  | own y => obtain ⟨ob, e⟩ := x; exact ⟨ob, k _ _ (.inl rfl) e⟩
  | xd fs => obtain ⟨mA, ⟨od, es, ep, e, c⟩, r⟩ := x; exact ⟨mA, ⟨od, es, ep, k _ _ (.inl rfl) e, c⟩, r⟩
  | rng lo hi => obtain ⟨t, u, v, e⟩ := x; exact ⟨t, u, v, k _ _ (.inl rfl) e⟩
  | frz ob u ih => obtain ⟨e, q⟩ := x; exact ⟨k _ _ (.inl rfl) e, ih q⟩
  | tbl ps =>
    have e : h.get? a = some { cls := .none, data := .fields ps } := x
    show h'.get? a = some { cls := .none, data := .fields ps }
    exact k a _ (.inl rfl) e
  | met f y =>
    have e : h.get? a = some (PySem.W.methodObj (.ref f) (.ref y)) := x
    show h'.get? a = some (PySem.W.methodObj (.ref f) (.ref y))
    exact k a _ (.inl rfl) e
  | ext φ => obtain ⟨p, ⟨o, e⟩, st⟩ := x; exact ⟨st _ _ p fun o q => k _ _ (.inl rfl) q, ⟨o, k _ _ (.inl rfl) e⟩, st⟩
theorem HOk.lt (x : HOk P w H h) (e : H a = some o) : a < h.objs.size := (x a o e).lt
theorem HOk.fresh (x : HOk P w H h) (e : h.objs.size ≤ a) : H a = none := by
  cases q : H a with
  | none => rfl
  | some u => exact absurd (Nat.lt_of_lt_of_le (x.lt q) e) (Nat.lt_irrefl _)
/-- every object of the heap is kept -/
theorem HOk.kept (x : HOk P w H h) (k : ∀ b u, h.get? b = some u → h'.get? b = some u) : HOk P w H h' := fun a o e =>
  (x a o e).stay (fun b u _ q => k b u q) (fun _ q => q) fun _ _ q => q
/-- a new object is laid and tracked -/
theorem HOk.laid (x : HOk P w H h) (k : ∀ b u, h.get? b = some u → h'.get? b = some u) (hp : h.objs.size ≤ a) (new : ObjOk P w (upd H a o) h' a o) : HOk P w (upd H a o) h' := fun b u e => by
  have hn := x.fresh hp
  by_cases hb : b = a
  · subst hb; rw [upd_same] at e; cases e; exact new
  · rw [upd_ne hb] at e
    exact (x b u e).stay (fun c v _ q => k c v q) (fun c q => by rw [upd_ne (ne_of_none q hn)]; exact q) fun c xs q => by rw [upd_ne (ne_of_none q hn)]; exact q
end

/-- what may be read as u: it is u, or a known u -/
noncomputable def Rd (H : Hp) (a : Addr) (u : HO) : Prop := H a = some u ∨ ∃ o, H a = some (.frz o u)
theorem Rd.ok {P : Program} {w : World} {H : Hp} {h : Heap} {a : Addr} {u : HO} (r : Rd H a u) (x : HOk P w H h) : ObjOk P w H h a u := by
  rcases r with r | ⟨o, r⟩
  · exact x a u r
  · obtain ⟨_, q⟩ := x a _ r
    exact q
/-- what may be written -/
noncomputable def Mut : Option HO → Prop
  | some (.lst _) => True
  | some (.dK _) => True
  | some (.dT _) => True
  | some (.set _ _) => True
  | some (.ins _ _ _) => True
  | some (.ext _) => True
  | _ => False
section
variable {P : Program} {w : World} {H : Hp} {h h' : Heap} {x e : Addr} {o' : HO}
/-- the object at e is changed: x itself, or the dict of the instance x -/
theorem HOk.write (ok : HOk P w H h) (mu : Mut (H x)) (he : e = x ∨ H e = some (.own x)) (k : ∀ b u, b ≠ e → h.get? b = some u → h'.get? b = some u) (heo : ∃ u, h'.get? e = some u)
    (new : ObjOk P w (upd H x o') h' x o') : HOk P w (upd H x o') h' := fun b u q => by
  have nown : ∀ c y, H c = some (.own y) → c ≠ x := fun c y r z => by subst z; rw [r] at mu; exact mu
  have ntup : ∀ c xs, H c = some (.tup xs) → c ≠ x := fun c xs r z => by subst z; rw [r] at mu; exact mu
  by_cases hb : b = x
  · subst hb; rw [upd_same] at q; cases q; exact new
  · rw [upd_ne hb] at q
    by_cases hbe : b = e
    · have q' : H b = some (.own x) := by
        rcases he with z | z
        · exact absurd (hbe.trans z) hb
        · rw [hbe]; exact z
      rw [q] at q'; cases q'
      obtain ⟨v, hv⟩ := heo
      exact ⟨v, by rw [hbe]; exact hv⟩
    · refine (ok b u q).stay (fun c v hc r => k c v ?_ r) (fun c r => by rw [upd_ne (nown c b r)]; exact r) fun c xs r => by rw [upd_ne (ntup c xs r)]; exact r
      rcases hc with rfl | hc
      · exact hbe
      · rintro rfl
        rcases he with z | z
        · exact nown c b hc z
        · rw [hc] at z; cases z; exact hb rfl
end

/-! ### kept unless tracked; of the frames at fs (the callers') the slots may change (an exception that passes writes there); of the records at ex (iterators) nothing is said -/
structure Un (fs ex : List Addr) (H H' : Hp) (h h' : Heap) : Prop where
  keep : ∀ b o, h.get? b = some o → H b = none → b ∉ fs → b ∉ ex → h'.get? b = some o
  slot : ∀ b o, h.get? b = some o → H b = none → b ∈ fs → b ∉ ex → ∃ sl, h'.get? b = some { o with slots := sl }
  free : ∀ b o, h.get? b = some o → H b = none → b ∉ ex → H' b = none
  there : ∀ b o, h.get? b = some o → b ∉ ex → ∃ o', h'.get? b = some o'
  tups : ∀ b xs, H b = some (.tup xs) → H' b = some (.tup xs)
  frzs : ∀ b o u, H b = some (.frz o u) → H' b = some (.frz o u)
  tbls : ∀ b ps, H b = some (.tbl ps) → ∃ more, H' b = some (.tbl (ps ++ more))
section
variable {fs fs' ex ex' : List Addr} {H H1 H2 : Hp} {h h1 h2 h' : Heap} {a x e : Addr} {o : HO}
theorem Un.any (u : Un fs ex H H1 h h1) {b : Addr} {ob : Obj} (q : h.get? b = some ob) (n : H b = none) (hx : b ∉ ex) : ∃ sl, h1.get? b = some { ob with slots := sl } := by
  by_cases hb : b ∈ fs
  · exact u.slot b ob q n hb hx
  · exact ⟨ob.slots, u.keep b ob q n hb hx⟩
theorem Un.kept (k : ∀ b u, h.get? b = some u → h'.get? b = some u) : Un fs ex H H h h' :=
  ⟨fun b ob q _ _ _ => k b ob q, fun b ob q _ _ _ => ⟨ob.slots, k b ob q⟩, fun _ _ _ n _ => n, fun b ob q _ => ⟨ob, k b ob q⟩, fun _ _ q => q, fun _ _ _ q => q, fun _ ps q => ⟨#[], by rw [q]; simp⟩⟩
theorem Un.refl : Un fs ex H H h h := Un.kept fun _ _ q => q
theorem Un.laid (k : ∀ b u, h.get? b = some u → h'.get? b = some u) (hp : h.objs.size ≤ a) (hn : H a = none) : Un fs ex H (upd H a o) h h' where
  keep := fun b u q _ _ _ => k b u q
  slot := fun b u q _ _ _ => ⟨u.slots, k b u q⟩
  free := fun b u q n _ => by rw [upd_ne (Nat.ne_of_lt (Nat.lt_of_lt_of_le (Heap.lt_size q) hp))]; exact n
  there := fun b u q _ => ⟨u, k b u q⟩
  tups := fun b xs q => by rw [upd_ne (ne_of_none q hn)]; exact q
  frzs := fun b u xs q => by rw [upd_ne (ne_of_none q hn)]; exact q
  tbls := fun b ps q => ⟨#[], by rw [upd_ne (ne_of_none q hn), q]; simp⟩
theorem Un.write (mu : Mut (H x)) (he : e = x ∨ H e = some (.own x)) (k : ∀ b u, b ≠ e → h.get? b = some u → h'.get? b = some u) (heo : ∃ u, h'.get? e = some u) : Un fs ex H (upd H x o) h h' := by
  have hx : ∀ b, H b = none → b ≠ x := fun b n z => by subst z; rw [n] at mu; exact mu
  have hb : ∀ b, H b = none → b ≠ e := fun b n z => by
    subst z
    rcases he with r | r
    · exact hx b n r
    · rw [n] at r; cases r
  have hm : ∀ b u, H b = some u → ¬ Mut (some u) → b ≠ x := fun b u q nm z => by subst z; rw [q] at mu; exact nm mu
  refine ⟨fun b u q n _ _ => k b u (hb b n) q, fun b u q n _ _ => ⟨u.slots, k b u (hb b n) q⟩, fun b u q n _ => by rw [upd_ne (hx b n)]; exact n, fun b u q _ => ?_,
    fun b xs q => by rw [upd_ne (hm b _ q fun z => z)]; exact q, fun b u xs q => by rw [upd_ne (hm b _ q fun z => z)]; exact q, fun b ps q => ⟨#[], by rw [upd_ne (hm b _ q fun z => z), q]; simp⟩⟩
  by_cases hbe : b = e
  · subst hbe; exact heo
  · exact ⟨u, k b u hbe q⟩
end

/-! ### the heap without what is tracked -/
noncomputable def trk (h : Heap) (H : Hp) : List Addr := (List.range h.objs.size).filter fun a => (H a).isSome
noncomputable def hidT (h : Heap) (H : Hp) : Heap := PySem.W.hideAll h (trk h H)
theorem hidT_size (h : Heap) (H : Hp) : (hidT h H).objs.size = h.objs.size := PySem.W.hideAll_size _ _
theorem hidT_get {h : Heap} {H : Hp} {b : Addr} {o : Obj} (e : h.get? b = some o) (n : H b = none) : (hidT h H).get? b = some o :=
  PySem.W.hideAll_get _ e fun hm => by
    have q : (H b).isSome = true := (List.mem_filter.mp hm).2
    rw [n] at q; simp at q
theorem of_hidT {h : Heap} {H : Hp} {b : Addr} {o : Obj} (e : (hidT h H).get? b = some o) : h.get? b = some o ∧ H b = none := by
  have e' : h.get? b = some o := PySem.W.of_hideAll (trk h H) e
  refine ⟨e', ?_⟩
  cases q : H b with
  | none => rfl
  | some x =>
    have hm : b ∈ trk h H := List.mem_filter.mpr ⟨List.mem_range.mpr (Heap.lt_size e'), by simp [q]⟩
    have z : (hidT h H).get? b = none := PySem.W.hideAll_none (trk h H) hm
    rw [z] at e; cases e

/-! ### OpenK's ledger, filled with every new object but one -/
end L2

namespace L2
open PySem PySem.Spec PyProof.Rows

/-- the module's facts, over the base: the heap at the law's entry without what is tracked there -/
structure Mod (K : PySem.W.Frag) (mg : Str → Option Value) (base : Heap) : Prop where
  kin : K.In base
  glob : base.Ns mainGlobals mg
  blt : ∃ mb, base.Ns builtinsNs mb ∧ ∀ x : Str, x ≠ "__name__" → mb x = bootBuiltins x
  nolimit : base.NoLimit

/-- the context: a def's body (or a comprehension's block) running. base: fixed through the whole law; s₀, H₀: the entry; outer: the frames whose slots others may change (a def's callers); stack: all frames that run;
   ex: iterators that were made ahead of the entry and are walked here (a comprehension's); fn: the names whose cells were made at the entry (a def: all; a comprehension's block: its own); calm: not within an except suite; pn: pins that every state bears; xe: what is wanted of an exception that leaves the code -/
structure Cx where
  prog : Program
  w : World
  K : PySem.W.Frag
  mg : Str → Option Value
  base : Heap
  A : Around
  N : List Str
  s₀ : Shared
  H₀ : Hp
  env : Env
  outer : List Env
  stack : List Env
  ex : List Addr
  fn : Str → Bool
  calm : Bool
  pn : List (Addr × Obj)
  xe : Value → Shared → Prop
/-- the callers' frames -/
noncomputable def frs (l : List Env) : List Addr := l.filterMap (·.frame)
noncomputable abbrev Cx.fs (X : Cx) : List Addr := frs X.outer

noncomputable def Vis (sc : Scope) (x : Str) : Prop := sc.names.lookup x = some .local ∨ sc.names.lookup x = some .cell ∨ sc.names.lookup x = some .free
noncomputable def Loc (sc : Scope) (x : Str) : Prop := sc.names.lookup x = some .local ∨ sc.names.lookup x = some .cell
noncomputable def Look (env : Env) (h : Heap) (m : Str → Option Value) (x : Str) (u : Value) : Prop :=
  (env.kindOf x = some .local ∧ m x = some u) ∨ ((env.kindOf x = some .cell ∨ env.kindOf x = some .free) ∧ ∃ c, env.cells.lookup x = some c ∧ h.IsCell c (some u))

structure Cx.Ok (X : Cx) : Prop where
  mod : Mod X.K X.mg X.base
  kind : X.env.scope.kind = .function
  glob : X.env.globals = mainGlobals
  blt : X.env.builtins = builtinsNs
  above : X.s₀.heap.objs.size ≤ X.env.locals
  inj : ∀ x y c, X.env.cells.lookup x = some c → X.env.cells.lookup y = some c → x = y
  has : ∀ x, (X.env.kindOf x = some .cell ∨ X.env.kindOf x = some .free) → ∃ c, X.env.cells.lookup x = some c
  cab : ∀ x c, X.fn x = true → X.env.cells.lookup x = some c → X.s₀.heap.objs.size ≤ c
  hd : X.calm = true → X.A.handled = none
  frames : X.A.frames = some X.stack
  stk : X.stack = X.outer ∨ (X.stack = X.env :: X.outer ∧ X.env.frame = some X.env.locals)
  exf : ∀ b ∈ X.ex, b ≠ X.env.locals ∧ ∀ x c, X.env.cells.lookup x = some c → c ≠ b
  bs : ∀ b o, X.base.get? b = some o → X.s₀.heap.get? b = some o ∧ X.H₀ b = none
  bsz : X.base.objs.size ≤ X.s₀.heap.objs.size
  noex : ∀ b o, X.base.get? b = some o → b ∉ X.ex
  exfs : ∀ b ∈ X.ex, b ∉ X.fs
  funs : X.s₀.heap.FunFrames X.base X.outer
  frf : ∀ b ∈ X.fs, X.H₀ b = none

structure Inv (X : Cx) (pins : List (Addr × Obj)) (σ : List (Option V)) (H : Hp) (s : Shared) : Prop where
  ok : X.Ok
  os : s.os = X.s₀.os
  bare : AllBare s.gens
  base : Un X.fs X.ex X.H₀ H X.s₀.heap s.heap
  loc : ∃ m, s.heap.Ns X.env.locals m ∧ ∀ (i : Nat) (x : Str) (v : V), X.N[i]? = some x → σ[i]? = some (some v) → Vis X.env.scope x → ∃ u, RelV v u ∧ Look X.env s.heap m x u
  cell : ∀ x c, X.env.cells.lookup x = some c → ∃ v, s.heap.IsCell c v
  free : H X.env.locals = none
  freeC : ∀ x c, X.env.cells.lookup x = some c → H c = none
  pin : ∀ p ∈ X.pn ++ pins, s.heap.get? p.1 = some p.2 ∧ H p.1 = none ∧ p.1 ≠ X.env.locals ∧ p.1 ∉ X.fs ∧ ∀ v, p.2.data ≠ .cell v
  hok : HOk X.prog X.w H s.heap
  len : σ.length = X.N.length

section
variable {X : Cx} {pins : List (Addr × Obj)} {σ : List (Option V)} {H H' : Hp} {s : Shared} {h' : Heap}

theorem Cx.Ok.nofr (ok : X.Ok) {b : Addr} {o : Obj} (e : X.base.get? b = some o) : b ∉ X.fs := fun hb => by
  have := (ok.funs.mem hb).1
  rw [e] at this; cases this
theorem Inv.bs (I : Inv X pins σ H s) : ∀ b o, X.base.get? b = some o → s.heap.get? b = some o ∧ H b = none := fun b o e =>
  ⟨I.base.keep b o (I.ok.bs b o e).1 (I.ok.bs b o e).2 (I.ok.nofr e) (I.ok.noex b o e), I.base.free b o (I.ok.bs b o e).1 (I.ok.bs b o e).2 (I.ok.noex b o e)⟩
theorem Inv.bk (I : Inv X pins σ H s) : ∀ b o, X.base.get? b = some o → s.heap.get? b = some o := fun b o e => (I.bs b o e).1
theorem Inv.mod (I : Inv X pins σ H s) : Mod X.K X.mg X.base := I.ok.mod
theorem Inv.kIn (I : Inv X pins σ H s) : X.K.In s.heap := I.ok.mod.kin.keeps I.bk
theorem Inv.lt (I : Inv X pins σ H s) : X.env.locals < s.heap.objs.size := let ⟨_, hn, _⟩ := I.loc; hn.lt
theorem Inv.sz (I : Inv X pins σ H s) : X.s₀.heap.objs.size ≤ s.heap.objs.size := Nat.le_trans I.ok.above (Nat.le_of_lt I.lt)
theorem Inv.nofs (I : Inv X pins σ H s) {a : Addr} (h : s.heap.objs.size ≤ a) : a ∉ X.fs := fun hb => by
  obtain ⟨_, o, ho, _⟩ := I.ok.funs.mem hb
  exact absurd (Nat.lt_of_lt_of_le (Heap.lt_size ho) (Nat.le_trans I.sz h)) (Nat.lt_irrefl _)
theorem Inv.cne (I : Inv X pins σ H s) : ∀ x c, X.env.cells.lookup x = some c → c ≠ X.env.locals := fun x c e z => by
  obtain ⟨v, o, ho, hd⟩ := I.cell x c e
  obtain ⟨m, ⟨o', es, ep, ho', hd', _⟩, _⟩ := I.loc
  rw [z, ho'] at ho; cases ho; rw [hd'] at hd; cases hd
theorem Inv.funs (I : Inv X pins σ H s) : s.heap.FunFrames X.base X.outer := by
  have all : ∀ (l : List Env), (∀ b ∈ frs l, b ∈ X.fs) → X.s₀.heap.FunFrames X.base l → s.heap.FunFrames X.base l := by
    intro l
    induction l with
    | nil => intro _ _; trivial
    | cons env r ih =>
      intro hs hl
      obtain ⟨hk, ⟨L, o, hf, hn, ho, hd⟩, hr⟩ := hl
      have hL : L ∈ X.fs := hs L (by unfold frs; rw [List.filterMap_cons, hf]; exact List.mem_cons_self)
      obtain ⟨sl, e⟩ := I.base.slot L o ho (I.ok.frf L hL) hL fun z => I.ok.exfs L z hL
      exact ⟨hk, ⟨L, _, hf, hn, e, hd⟩, ih (fun b hb => hs b (by unfold frs; rw [List.filterMap_cons, hf]; exact List.mem_cons_of_mem _ hb)) hr⟩
  exact all X.outer (fun _ hb => hb) I.ok.funs

/-- the frames that run, for a call -/
theorem Inv.stack (I : Inv X pins σ H s) : s.heap.FunFrames X.base X.stack := by
  rcases I.ok.stk with e | ⟨e, hf⟩
  · rw [e]; exact I.funs
  · rw [e]
    obtain ⟨m, hn, _⟩ := I.loc
    refine .cons (by rw [I.ok.kind]; decide) hf hn ?_ I.funs
    exact Heap.get?_none_of_le (Nat.le_trans I.ok.bsz I.ok.above)
theorem Inv.stkSub (I : Inv X pins σ H s) : ∀ b ∈ frs X.stack, b ∈ X.env.locals :: X.fs := fun b hb => by
  rcases I.ok.stk with e | ⟨e, hf⟩
  · rw [e] at hb; exact List.mem_cons_of_mem _ hb
  · rw [e] at hb
    unfold frs at hb
    rw [List.filterMap_cons, hf] at hb
    exact hb
theorem Inv.stkFree (I : Inv X pins σ H s) : ∀ b ∈ frs X.stack, H b = none := fun b hb => by
  rcases List.mem_cons.mp (I.stkSub b hb) with e | hb
  · rw [e]; exact I.free
  · obtain ⟨_, o, ho, _⟩ := I.ok.funs.mem hb
    exact I.base.free b o ho (I.ok.frf b hb) fun z => I.ok.exfs b z hb

/-- THE STEP: the untracked objects but the frame and the records at ch are kept (the callers' frames up to slots), the frame's map is kept, the new abstract heap is held -/
theorem Inv.step {g' : Array GenState} {t' : Nat} {d' : Drawn} {ch : List Addr} (I : Inv X pins σ H s)
    (hch : ∀ b ∈ ch, (b ∈ X.ex ∨ X.s₀.heap.objs.size ≤ b) ∧ b ≠ X.env.locals ∧ (∀ x c, X.env.cells.lookup x = some c → c ≠ b) ∧ ∀ p ∈ X.pn ++ pins, p.1 ≠ b)
    (keep : ∀ b o, b ≠ X.env.locals → b ∉ X.fs → b ∉ ch → s.heap.get? b = some o → H b = none → h'.get? b = some o)
    (slot : ∀ b o, b ≠ X.env.locals → b ∈ X.fs → b ∉ ch → s.heap.get? b = some o → H b = none → ∃ sl, h'.get? b = some { o with slots := sl }) (free : ∀ b o, b ∉ ch → s.heap.get? b = some o → H b = none → H' b = none)
    (there : ∀ b o, b ∉ ch → s.heap.get? b = some o → ∃ o', h'.get? b = some o')
    (tups : ∀ b xs, H b = some (.tup xs) → H' b = some (.tup xs)) (frzs : ∀ b o u, H b = some (.frz o u) → H' b = some (.frz o u)) (tbls : ∀ b ps, H b = some (.tbl ps) → ∃ more, H' b = some (.tbl (ps ++ more)))
    (ns : ∀ m, s.heap.Ns X.env.locals m → h'.Ns X.env.locals m) (hok : HOk X.prog X.w H' h') (hg : AllBare g') :
    Inv X pins σ H' { s with heap := h', gens := g', drawn := d', toks := t' } := by
  have neL : ∀ b o, X.s₀.heap.get? b = some o → b ≠ X.env.locals := fun b o e => Nat.ne_of_lt (Nat.lt_of_lt_of_le (Heap.lt_size e) I.ok.above)
  have neC : ∀ b o, X.s₀.heap.get? b = some o → b ∉ X.ex → b ∉ ch := fun b o e hx hb => by
    rcases (hch b hb).1 with z | z
    · exact hx z
    · exact absurd (Nat.lt_of_lt_of_le (Heap.lt_size e) z) (Nat.lt_irrefl _)
  have cellK : ∀ x c, X.env.cells.lookup x = some c → ∀ v, s.heap.IsCell c v → h'.IsCell c v := fun x c e v ⟨o, ho, hd⟩ => by
    have nch : c ∉ ch := fun z => (hch c z).2.2.1 x c e rfl
    by_cases hc : c ∈ X.fs
    · obtain ⟨sl, q⟩ := slot c o (I.cne x c e) hc nch ho (I.freeC x c e)
      exact ⟨_, q, hd⟩
    · exact ⟨o, keep c o (I.cne x c e) hc nch ho (I.freeC x c e), hd⟩
  refine ⟨I.ok, I.os, hg, ⟨fun b o e n hb hx => ?_, fun b o e n hb hx => ?_, fun b o e n hx => ?_, fun b o e hx => ?_, fun b xs e => tups b xs (I.base.tups b xs e), fun b o xs e => frzs b o xs (I.base.frzs b o xs e), fun b ps e => ?_⟩, ?_, fun x c e => ?_, ?_, fun x c e => ?_, fun p hp => ?_, hok, I.len⟩
  · exact keep b o (neL b o e) hb (neC b o e hx) (I.base.keep b o e n hb hx) (I.base.free b o e n hx)
  · obtain ⟨sl, e1⟩ := I.base.slot b o e n hb hx
    obtain ⟨sl', e2⟩ := slot b _ (neL b o e) hb (neC b o e hx) e1 (I.base.free b o e n hx)
    exact ⟨sl', e2⟩
  · obtain ⟨o', e1⟩ := I.base.there b o e hx
    exact free b o' (neC b o e hx) e1 (I.base.free b o e n hx)
  · obtain ⟨o', e1⟩ := I.base.there b o e hx
    exact there b o' (neC b o e hx) e1
  · obtain ⟨m1, e1⟩ := I.base.tbls b ps e
    obtain ⟨m2, e2⟩ := tbls b _ e1
    exact ⟨m1 ++ m2, by rw [e2, Array.append_assoc]⟩
  · obtain ⟨m, hn, hl⟩ := I.loc
    refine ⟨m, ns m hn, fun i x v e1 e2 e3 => ?_⟩
    obtain ⟨u, r, l⟩ := hl i x v e1 e2 e3
    refine ⟨u, r, ?_⟩
    rcases l with l | ⟨k, c, e, z⟩
    · exact .inl l
    · exact .inr ⟨k, c, e, cellK x c e _ z⟩
  · obtain ⟨v, z⟩ := I.cell x c e
    exact ⟨v, cellK x c e v z⟩
  · obtain ⟨m, ⟨o, _, _, ho, _⟩, _⟩ := I.loc
    exact free _ o (fun z => (hch _ z).2.1 rfl) ho I.free
  · obtain ⟨v, o, ho, hd⟩ := I.cell x c e
    exact free c o (fun z => (hch c z).2.2.1 x c e rfl) ho (I.freeC x c e)
  · obtain ⟨e, n, ne, nf, d⟩ := I.pin p hp
    have nch : p.1 ∉ ch := fun z => (hch p.1 z).2.2.2 p hp rfl
    exact ⟨keep p.1 p.2 ne nf nch e n, free p.1 p.2 nch e n, ne, nf, d⟩
/-- .. where the frame's own object is kept too -/
theorem Inv.un {t' : Nat} (I : Inv X pins σ H s) (u : Un X.fs [] H H' s.heap h') (hok : HOk X.prog X.w H' h') : Inv X pins σ H' { s with heap := h', toks := t' } := by
  obtain ⟨m, ⟨o, es, ep, ho, r⟩, _⟩ := id I.loc
  obtain ⟨sl, hL⟩ := u.any ho I.free (by simp)
  exact I.step (g' := s.gens) (d' := s.drawn) (ch := []) (fun _ z => nomatch z) (fun b o _ hb _ e n => u.keep b o e n hb (by simp)) (fun b o _ hb _ e n => u.slot b o e n hb (by simp)) (fun b o _ e n => u.free b o e n (by simp)) (fun b o _ e => u.there b o e (by simp)) u.tups u.frzs u.tbls (fun m' hm => by
    obtain ⟨o', es', ep', ho', r'⟩ := hm
    rw [ho] at ho'; cases ho'
    exact ⟨_, es', ep', hL, r'⟩) hok I.bare
/-- behind a call (or a comprehension's block): the slots of this frame may have changed too, the records at ch may have turned -/
theorem Inv.call {g' : Array GenState} {t' : Nat} {d' : Drawn} {ch : List Addr} (I : Inv X pins σ H s) (u : Un (frs X.stack) ch H H' s.heap h') (hok : HOk X.prog X.w H' h') (hg : AllBare g')
    (hch : ∀ b ∈ ch, (b ∈ X.ex ∨ X.s₀.heap.objs.size ≤ b) ∧ b ≠ X.env.locals ∧ (∀ x c, X.env.cells.lookup x = some c → c ≠ b) ∧ ∀ p ∈ X.pn ++ pins, p.1 ≠ b) :
    Inv X pins σ H' { s with heap := h', gens := g', drawn := d', toks := t' } := by
  obtain ⟨m, ⟨o, es, ep, ho, r⟩, _⟩ := id I.loc
  obtain ⟨sl, hL⟩ := u.any ho I.free fun z => (hch _ z).2.1 rfl
  exact I.step (ch := ch) hch (fun b o hL hb hc e n => u.keep b o e n (fun z => (List.mem_cons.mp (I.stkSub b z)).elim hL hb) hc) (fun b o _ _ hc e n => u.any e n hc) (fun b o hc e n => u.free b o e n hc) (fun b o hc e => u.there b o e hc) u.tups u.frzs u.tbls (fun m' hm => by
    obtain ⟨o', es', ep', ho', r'⟩ := hm
    rw [ho] at ho'; cases ho'
    exact ⟨_, es', ep', hL, r'⟩) hok hg
/-- an untracked record of ours (an iterator) has turned -/
theorem Inv.turned {t' : Nat} {it : Addr} (I : Inv X pins σ H s) (k : ∀ b o, b ≠ it → s.heap.get? b = some o → h'.get? b = some o) (hn : H it = none) (hL : it ≠ X.env.locals)
    (h1 : it ∈ X.ex ∨ X.s₀.heap.objs.size ≤ it) (h2 : ∀ x c, X.env.cells.lookup x = some c → c ≠ it) (h3 : ∀ p ∈ X.pn ++ pins, p.1 ≠ it) : Inv X pins σ H { s with heap := h', toks := t' } := by
  have nit : ∀ b u, H b = some u → b ≠ it := fun b u e z => by rw [z, hn] at e; cases e
  refine I.step (g' := s.gens) (d' := s.drawn) (ch := [it]) (fun b hb => ?_) (fun b o _ _ hc e _ => k b o (fun z => hc (by simp [z])) e) (fun b o _ _ hc e _ => ⟨o.slots, k b o (fun z => hc (by simp [z])) e⟩) (fun _ _ _ _ n => n)
    (fun b o hc e => ⟨o, k b o (fun z => hc (by simp [z])) e⟩) (fun _ _ e => e) (fun _ _ _ e => e) (fun b ps e => ⟨#[], by rw [e]; simp⟩) (fun m hm => ?_) (fun b u e => ?_) I.bare
  · have e : b = it := by simpa using hb
    subst e
    exact ⟨h1, hL, h2, h3⟩
  · obtain ⟨o, es, ep, ho, r⟩ := hm
    exact ⟨o, es, ep, k _ o (Ne.symm hL) ho, r⟩
  · refine (I.hok b u e).stay (fun c v hc q => k c v ?_ q) (fun _ q => q) fun _ _ q => q
    rcases hc with z | z
    · rw [z]; exact nit b u e
    · exact nit c _ z
theorem Inv.tok (I : Inv X pins σ H s) (t : Nat) : Inv X pins σ H { s with toks := t } := I.un (h' := s.heap) (t' := t) Un.refl I.hok
/-- all objects kept -/
theorem Inv.kept {t' : Nat} (I : Inv X pins σ H s) (k : ∀ b u, s.heap.get? b = some u → h'.get? b = some u) : Inv X pins σ H { s with heap := h', toks := t' } := I.un (Un.kept k) (I.hok.kept k)
/-- a new object laid and tracked -/
theorem Inv.laid {a : Addr} {o : HO} {t' : Nat} (I : Inv X pins σ H s) (k : ∀ b u, s.heap.get? b = some u → h'.get? b = some u) (hp : s.heap.objs.size ≤ a) (new : ObjOk X.prog X.w (upd H a o) h' a o) :
    Inv X pins σ (upd H a o) { s with heap := h', toks := t' } := I.un (Un.laid k hp (I.hok.fresh hp)) (I.hok.laid k hp new)
/-- an object written -/
theorem Inv.write {x e : Addr} {o : HO} {t' : Nat} (I : Inv X pins σ H s) (mu : Mut (H x)) (he : e = x ∨ H e = some (.own x)) (k : ∀ b u, b ≠ e → s.heap.get? b = some u → h'.get? b = some u) (heo : ∃ u, h'.get? e = some u)
    (new : ObjOk X.prog X.w (upd H x o) h' x o) : Inv X pins σ (upd H x o) { s with heap := h', toks := t' } := I.un (Un.write mu he k heo) (I.hok.write mu he k heo new)
/-- forgetting slots, pins -/
theorem Inv.weak {σ' : List (Option V)} (I : Inv X pins σ H s) (hl : σ'.length = σ.length) (w : ∀ (i : Nat) v, σ'[i]? = some (some v) → σ[i]? = some (some v)) : Inv X pins σ' H s :=
  ⟨I.ok, I.os, I.bare, I.base, let ⟨m, hn, hl'⟩ := I.loc; ⟨m, hn, fun i x v e1 e2 e3 => hl' i x v e1 (w i v e2) e3⟩, I.cell, I.free, I.freeC, I.pin, I.hok, hl.trans I.len⟩
theorem Inv.pins_of {pins' : List (Addr × Obj)} (I : Inv X pins σ H s) (h : ∀ p ∈ pins', s.heap.get? p.1 = some p.2 ∧ H p.1 = none ∧ p.1 ≠ X.env.locals ∧ p.1 ∉ X.fs ∧ ∀ v, p.2.data ≠ .cell v) : Inv X pins' σ H s :=
  ⟨I.ok, I.os, I.bare, I.base, I.loc, I.cell, I.free, I.freeC, fun p hp => (List.mem_append.mp hp).elim (fun z => I.pin p (List.mem_append_left _ z)) (h p), I.hok, I.len⟩

theorem nodup_ix {N : List Str} (hN : N.Nodup) {i j : Nat} {x : Str} (a : N[i]? = some x) (b : N[j]? = some x) : i = j := by
  obtain ⟨h1, e1⟩ := List.getElem?_eq_some_iff.mp a
  obtain ⟨h2, e2⟩ := List.getElem?_eq_some_iff.mp b
  exact (List.getElem_inj hN).mp (e1.trans e2.symm)

/-- a name is stored; what changed -/
theorem store_ok2 {M : Model} {A : Around} {E : Value → Shared → Prop} {i : Nat} {x : Str} {v : V} {u : Value} {Q : Unit → Shared → Prop} (I : Inv X pins σ H s) (hN : X.N.Nodup) (hi : X.N[i]? = some x) (hx : Loc X.env.scope x) (r : RelV v u)
    (h : ∀ s', Inv X pins (σ.set i (some v)) H s' → (∃ a, Heap.SameBut a s.heap s'.heap ∧ (a = X.env.locals ∨ X.env.cells.lookup x = some a)) → Q () s') (hf : X.fn x = true ∨ X.env.scope.names.lookup x = some .local := by first | exact .inl rfl | exact .inr rfl | assumption) : wpAny M A (storeName X.env x u) Q E s := by
  obtain ⟨m, hn, hl⟩ := id I.loc
  have hcls : (X.env.scope.kind == .class || (X.env.scope.kind == .module && X.env.locals != X.env.globals)) = false := by rw [I.ok.kind]; rfl
  have hiσ : i < σ.length := by rw [I.len]; exact (List.getElem?_eq_some_iff.mp hi).1
  have cne := I.cne
  have tracked : ∀ {a : Addr} {h' : Heap}, (∃ o, s.heap.get? a = some o ∧ H a = none) → Heap.SameBut a s.heap h' → HOk X.prog X.w H h' := fun {a h'} ha hs b ob e => by
    obtain ⟨_, _, hfree⟩ := ha
    refine (I.hok b ob e).stay (fun c w' hc q => (hs.2 c ?_).trans q) (fun _ q => q) fun _ _ q => q
    rintro rfl
    rcases hc with rfl | hc
    · rw [hfree] at e; cases e
    · rw [hfree] at hc; cases hc
  rcases hx with hk | hk
  · refine wpAny_storeName_local hk hn (fun h' hn' hs => ?_) hcls
    obtain ⟨oL, _, _, hoL, _⟩ := id hn
    refine h _ ⟨I.ok, I.os, I.bare, ⟨fun b o e n hb hx => ?_, fun b o e n hb hx => ?_, I.base.free, fun b o e hx => ?_, I.base.tups, I.base.frzs, I.base.tbls⟩, ⟨_, hn', fun j y v' e1 e2 e3 => ?_⟩, fun y c e => ?_, I.free, I.freeC, fun p hp => ?_, tracked ⟨oL, hoL, I.free⟩ hs, by simpa using I.len⟩ ⟨_, hs, .inl rfl⟩
    · exact (hs.2 b (Nat.ne_of_lt (Nat.lt_of_lt_of_le (Heap.lt_size e) I.ok.above))).trans (I.base.keep b o e n hb hx)
    · obtain ⟨sl, e1⟩ := I.base.slot b o e n hb hx
      exact ⟨sl, (hs.2 b (Nat.ne_of_lt (Nat.lt_of_lt_of_le (Heap.lt_size e) I.ok.above))).trans e1⟩
    · obtain ⟨o', e1⟩ := I.base.there b o e hx
      exact ⟨o', (hs.2 b (Nat.ne_of_lt (Nat.lt_of_lt_of_le (Heap.lt_size e) I.ok.above))).trans e1⟩
    · by_cases hj : j = i
      · subst hj
        rw [hi] at e1; cases e1
        rw [List.getElem?_set_self hiσ] at e2
        cases e2
        exact ⟨u, r, .inl ⟨hk, by simp⟩⟩
      · rw [List.getElem?_set_ne (Ne.symm hj)] at e2
        obtain ⟨u', r', q⟩ := hl j y v' e1 e2 e3
        refine ⟨u', r', ?_⟩
        rcases q with ⟨k, e⟩ | ⟨k, c, e, z⟩
        · refine .inl ⟨k, ?_⟩
          have : y ≠ x := fun e => hj (nodup_ix hN e1 (e ▸ hi))
          simp [this, e]
        · exact .inr ⟨k, c, e, z.sameBut hs (cne y c e)⟩
    · obtain ⟨w', z⟩ := I.cell y c e
      exact ⟨w', z.sameBut hs (cne y c e)⟩
    · obtain ⟨e, n, ne, nf, d⟩ := I.pin p hp
      exact ⟨(hs.2 p.1 ne).trans e, n, ne, nf, d⟩
  · have hfn : X.fn x = true := by
      rcases hf with z | z
      · exact z
      · rw [z] at hk; cases hk
    obtain ⟨c, hc⟩ := I.ok.has x (.inl hk)
    obtain ⟨w', z⟩ := I.cell x c hc
    refine wpAny_storeName_cell I.ok.kind hk hc z (fun h' hc' hs => ?_)
    obtain ⟨oc, hoc, hocd⟩ := id z
    refine h { s with heap := h' } ⟨I.ok, I.os, I.bare, ⟨fun b o e n hb hx => ?_, fun b o e n hb hx => ?_, I.base.free, fun b o e hx => ?_, I.base.tups, I.base.frzs, I.base.tbls⟩, ⟨m, hn.sameBut hs (Ne.symm (cne x c hc)), fun j y v' e1 e2 e3 => ?_⟩, fun y c' e => ?_, I.free, I.freeC, fun p hp => ?_, tracked ⟨oc, hoc, I.freeC x c hc⟩ hs, by simpa using I.len⟩ ⟨c, hs, .inr hc⟩
    · exact (hs.2 b (Nat.ne_of_lt (Nat.lt_of_lt_of_le (Heap.lt_size e) (I.ok.cab x c hfn hc)))).trans (I.base.keep b o e n hb hx)
    · obtain ⟨sl, e1⟩ := I.base.slot b o e n hb hx
      exact ⟨sl, (hs.2 b (Nat.ne_of_lt (Nat.lt_of_lt_of_le (Heap.lt_size e) (I.ok.cab x c hfn hc)))).trans e1⟩
    · obtain ⟨o', e1⟩ := I.base.there b o e hx
      exact ⟨o', (hs.2 b (Nat.ne_of_lt (Nat.lt_of_lt_of_le (Heap.lt_size e) (I.ok.cab x c hfn hc)))).trans e1⟩
    · by_cases hj : j = i
      · subst hj
        rw [hi] at e1; cases e1
        rw [List.getElem?_set_self hiσ] at e2
        cases e2
        exact ⟨u, r, .inr ⟨.inl hk, c, hc, hc'⟩⟩
      · rw [List.getElem?_set_ne (Ne.symm hj)] at e2
        obtain ⟨u', r', q⟩ := hl j y v' e1 e2 e3
        refine ⟨u', r', ?_⟩
        rcases q with q | ⟨k, c', e, z'⟩
        · exact .inl q
        · refine .inr ⟨k, c', e, z'.sameBut hs ?_⟩
          rintro rfl
          exact hj (nodup_ix hN e1 (I.ok.inj _ _ _ e hc ▸ hi))
    · by_cases hcc : c' = c
      · subst hcc; exact ⟨_, hc'⟩
      · obtain ⟨w2, z2⟩ := I.cell y c' e
        exact ⟨w2, z2.sameBut hs hcc⟩
    · obtain ⟨e, n, ne, nf, d⟩ := I.pin p hp
      refine ⟨(hs.2 p.1 ?_).trans e, n, ne, nf, d⟩
      intro q
      rw [q, hoc] at e
      have q' : oc = p.2 := Option.some.inj e
      exact d w' (by rw [← q']; exact hocd)
theorem store_ok {M : Model} {A : Around} {E : Value → Shared → Prop} {i : Nat} {x : Str} {v : V} {u : Value} {Q : Unit → Shared → Prop} (I : Inv X pins σ H s) (hN : X.N.Nodup) (hi : X.N[i]? = some x) (hx : Loc X.env.scope x) (r : RelV v u)
    (h : ∀ s', Inv X pins (σ.set i (some v)) H s' → Q () s') (hf : X.fn x = true ∨ X.env.scope.names.lookup x = some .local := by first | exact .inl rfl | exact .inr rfl | assumption) : wpAny M A (storeName X.env x u) Q E s :=
  store_ok2 I hN hi hx r (fun s' I' _ => h s' I') hf
/-- behind a call or a block, the state as it is -/
theorem Inv.call' {s' : Shared} {ch : List Addr} (I : Inv X pins σ H s) (ho : s'.os = s.os) (u : Un (frs X.stack) ch H H' s.heap s'.heap) (hok : HOk X.prog X.w H' s'.heap) (hg : AllBare s'.gens)
    (hch : ∀ b ∈ ch, (b ∈ X.ex ∨ X.s₀.heap.objs.size ≤ b) ∧ b ≠ X.env.locals ∧ (∀ x c, X.env.cells.lookup x = some c → c ≠ b) ∧ ∀ p ∈ X.pn ++ pins, p.1 ≠ b) : Inv X pins σ H' s' := by
  obtain ⟨h', g', d', t', o'⟩ := s'
  have e : o' = s.os := ho
  subst e
  exact I.call (g' := g') (t' := t') (d' := d') u hok hg hch
end

/-! ### the judgements -/
/-- an exception: its class, its own dict's address (where it has one), the abstract heap behind it -/
noncomputable abbrev XK := Value → Option Addr → Hp → Prop
noncomputable abbrev St := List (Option V)
noncomputable abbrev VK := V → Hp → Prop
/-- an expression's reading; a test's; an argument list's -/
noncomputable abbrev TE := St → Hp → VK → Prop
noncomputable abbrev TT := St → Hp → (Bool → Hp → Prop) → Prop
noncomputable abbrev TA := St → Hp → (List V → Hp → Prop) → Prop
/-- what is wanted behind a statement -/
structure Ends where
  nx : St → Hp → Prop
  rt : VK
  bk : St → Hp → Prop := fun _ _ => False
  ct : St → Hp → Prop := fun _ _ => False
noncomputable abbrev TS := Ends → St → Hp → Prop

noncomputable def EP (X : Cx) (pins : List (Addr × Obj)) (σ : St) (Q : VK) (u : Value) (s' : Shared) : Prop := ∃ v H', Inv X pins σ H' s' ∧ RelV v u ∧ Q v H'
noncomputable def TP (X : Cx) (pins : List (Addr × Obj)) (σ : St) (Q : Bool → Hp → Prop) (b : Bool) (s' : Shared) : Prop := ∃ H', Inv X pins σ H' s' ∧ Q b H'
noncomputable def AP (X : Cx) (pins : List (Addr × Obj)) (σ : St) (Q : List V → Hp → Prop) (us : List Value) (s' : Shared) : Prop := ∃ vs H', Inv X pins σ H' s' ∧ Vals vs us ∧ Q vs H'
noncomputable def SP (X : Cx) (pins : List (Addr × Obj)) (D : Ends) (f : Flow) (s' : Shared) : Prop :=
  match f with
  | .next => ∃ σ' H', Inv X pins σ' H' s' ∧ D.nx σ' H'
  | .brk => ∃ σ' H', Inv X pins σ' H' s' ∧ D.bk σ' H'
  | .cont => ∃ σ' H', Inv X pins σ' H' s' ∧ D.ct σ' H'
  | .ret u => ∃ v σ' H', Inv X pins σ' H' s' ∧ RelV v u ∧ D.rt v H'

structure PE (X : Cx) (e : Expr) (t : TE) : Prop where
  run :
  ∀ (pins : List (Addr × Obj)) (s : Shared) (σ : St) (H : Hp) (Q : VK), Inv X pins σ H s → t σ H Q → wpAny (model X.prog X.w) X.A (eval e X.env) (EP X pins σ Q) X.xe s
noncomputable instance {X : Cx} {e : Expr} {t : TE} : CoeFun (PE X e t) (fun _ =>
  ∀ (pins : List (Addr × Obj)) (s : Shared) (σ : St) (H : Hp) (Q : VK), Inv X pins σ H s → t σ H Q → wpAny (model X.prog X.w) X.A (eval e X.env) (EP X pins σ Q) X.xe s
  ) := ⟨fun h => h.run⟩
structure PT (X : Cx) (e : Expr) (t : TT) : Prop where
  run :
  ∀ (pins : List (Addr × Obj)) (s : Shared) (σ : St) (H : Hp) (Q : Bool → Hp → Prop), Inv X pins σ H s → t σ H Q → wpAny (model X.prog X.w) X.A (isTrue e X.env (eval e X.env)) (TP X pins σ Q) X.xe s
noncomputable instance {X : Cx} {e : Expr} {t : TT} : CoeFun (PT X e t) (fun _ =>
  ∀ (pins : List (Addr × Obj)) (s : Shared) (σ : St) (H : Hp) (Q : Bool → Hp → Prop), Inv X pins σ H s → t σ H Q → wpAny (model X.prog X.w) X.A (isTrue e X.env (eval e X.env)) (TP X pins σ Q) X.xe s
  ) := ⟨fun h => h.run⟩
/-- a test whatever its 'whole' is (and, or) -/
structure PW (X : Cx) (e : Expr) (t : TT) : Prop where
  run :
  ∀ (whole : Sem Value) (pins : List (Addr × Obj)) (s : Shared) (σ : St) (H : Hp) (Q : Bool → Hp → Prop), Inv X pins σ H s → t σ H Q → wpAny (model X.prog X.w) X.A (isTrue e X.env whole) (TP X pins σ Q) X.xe s
noncomputable instance {X : Cx} {e : Expr} {t : TT} : CoeFun (PW X e t) (fun _ =>
  ∀ (whole : Sem Value) (pins : List (Addr × Obj)) (s : Shared) (σ : St) (H : Hp) (Q : Bool → Hp → Prop), Inv X pins σ H s → t σ H Q → wpAny (model X.prog X.w) X.A (isTrue e X.env whole) (TP X pins σ Q) X.xe s
  ) := ⟨fun h => h.run⟩
theorem PW.pt {X : Cx} {e : Expr} {t : TT} (h : PW X e t) : PT X e t := .mk (h _)
/-- an argument list (no star), from the left -/
structure PA (X : Cx) (es : List Expr) (t : TA) : Prop where
  run :
  ∀ (pos : Pos) (pins : List (Addr × Obj)) (s : Shared) (σ : St) (H : Hp) (Q : List V → Hp → Prop), Inv X pins σ H s → t σ H Q → wpAny (model X.prog X.w) X.A (spliced (backTo pos (starEach es X.env))) (AP X pins σ Q) X.xe s
noncomputable instance {X : Cx} {es : List Expr} {t : TA} : CoeFun (PA X es t) (fun _ =>
  ∀ (pos : Pos) (pins : List (Addr × Obj)) (s : Shared) (σ : St) (H : Hp) (Q : List V → Hp → Prop), Inv X pins σ H s → t σ H Q → wpAny (model X.prog X.w) X.A (spliced (backTo pos (starEach es X.env))) (AP X pins σ Q) X.xe s
  ) := ⟨fun h => h.run⟩
structure PS (X : Cx) (st : Stmt) (t : TS) : Prop where
  run :
  ∀ (pins : List (Addr × Obj)) (s : Shared) (σ : St) (H : Hp) (D : Ends), Inv X pins σ H s → t D σ H → wpAny (model X.prog X.w) X.A (exec st X.env) (SP X pins D) X.xe s
noncomputable instance {X : Cx} {st : Stmt} {t : TS} : CoeFun (PS X st t) (fun _ =>
  ∀ (pins : List (Addr × Obj)) (s : Shared) (σ : St) (H : Hp) (D : Ends), Inv X pins σ H s → t D σ H → wpAny (model X.prog X.w) X.A (exec st X.env) (SP X pins D) X.xe s
  ) := ⟨fun h => h.run⟩
structure PSs (X : Cx) (st : List Stmt) (t : TS) : Prop where
  run :
  ∀ (pins : List (Addr × Obj)) (s : Shared) (σ : St) (H : Hp) (D : Ends), Inv X pins σ H s → t D σ H → wpAny (model X.prog X.w) X.A (execs st X.env) (SP X pins D) X.xe s
noncomputable instance {X : Cx} {st : List Stmt} {t : TS} : CoeFun (PSs X st t) (fun _ =>
  ∀ (pins : List (Addr × Obj)) (s : Shared) (σ : St) (H : Hp) (D : Ends), Inv X pins σ H s → t D σ H → wpAny (model X.prog X.w) X.A (execs st X.env) (SP X pins D) X.xe s
  ) := ⟨fun h => h.run⟩
/-- weaken the end -/
theorem thn {α : Type} {t : Sem α} {Q Q' : α → Shared → Prop} {M : Model} {A : Around} {E : Value → Shared → Prop} {s : Shared} (h : wpAny M A t Q E s) (hQ : ∀ a s, Q a s → Q' a s) : wpAny M A t Q' E s := wpAny_mono h hQ fun _ _ x => x
end L2

namespace L2
open PySem PySem.Spec PyProof.Rows
section
variable {X : Cx}

/-! ### names and constants -/
noncomputable def tVar (i : Nat) : TE := fun σ H Q => ∃ v, σ[i]? = some (some v) ∧ Q v H
noncomputable def tC (v : V) : TE := fun _ H Q => Q v H
theorem pe_var {i : Nat} {x : Str} {pos : Pos} (hN : X.N[i]? = some x) (hv : Vis X.env.scope x) (hd : (x == ("__debug__" : Str)) = false := by decide) (hcd : (x == ("__classdict__" : Str)) = false := by decide) : PE X (.Name x pos) (tVar i) := .mk <| by
  intro pins s σ H Q I h
  obtain ⟨v, e, h⟩ := h
  obtain ⟨m, hn, hl⟩ := I.loc
  obtain ⟨u, r, l⟩ := hl i x v hN e hv
  have fin : EP X pins σ Q u s := ⟨v, H, I, r, h⟩
  rcases l with ⟨hk, hm⟩ | ⟨hk, c, hc, hcell⟩
  · exact wpAny_Name (wpAny_loadName_local I.ok.kind hk hn hm fin) hd
  · rcases hk with hk | hk
    · exact wpAny_Name (wpAny_loadName_cell I.ok.kind hk hc hcell fin) hd
    · exact wpAny_Name (wpAny_loadName_free I.ok.kind hk hc hcell fin hcd) hd
theorem pe_int {i j pos} : PE X (.Constant (.int i) j pos) (tC (.int i)) := .mk <| fun _ _ _ H _ I h => wpAny_Constant_int ⟨.int i, H, I.tok _, ⟨_, rfl⟩, h⟩
theorem pe_bl {b j pos} : PE X (.Constant (.bool b) j pos) (tC (.bl b)) := .mk <| fun _ _ _ H _ I h => Constant_bool ⟨.bl b, H, I, rfl, h⟩
theorem pe_non {j pos} : PE X (.Constant .none j pos) (tC .non) := .mk <| fun _ _ _ H _ I h => Constant_none ⟨.non, H, I, rfl, h⟩
theorem pe_str {x j pos} : PE X (.Constant (.str x) j pos) (tC (.str x)) := .mk <| fun _ _ _ H _ I h => Calls.Constant_str ⟨.str x, H, I.tok _, ⟨_, rfl⟩, h⟩

/-- a global name of the def -/
noncomputable def Gl (X : Cx) (x : Str) : Prop := X.env.kindOf x = some .globalImplicit
theorem ld_glob {E : Value → Shared → Prop} {pins : List (Addr × Obj)} {s : Shared} {σ : St} {H : Hp} {x : Str} {u : Value} {pos : Pos} {Q : Value → Shared → Prop} (I : Inv X pins σ H s) (hg : Gl X x) (hm : X.mg x = some u) (h : Q u s)
    (hd : (x == ("__debug__" : Str)) = false := by decide) : wpAny (model X.prog X.w) X.A (eval (.Name x pos) X.env) Q E s :=
  Calls.Name_function_global I.ok.kind hg (Calls.loadGlobal_global (by rw [I.ok.glob]; exact I.mod.glob.keeps I.bk) hm h) hd
theorem ld_blt {E : Value → Shared → Prop} {pins : List (Addr × Obj)} {s : Shared} {σ : St} {H : Hp} {x : Str} {u : Value} {pos : Pos} {Q : Value → Shared → Prop} (I : Inv X pins σ H s) (hg : Gl X x) (hm : X.mg x = none) (hv : bootBuiltins x = some u) (h : Q u s)
    (hn : x ≠ "__name__" := by decide) (hd : (x == ("__debug__" : Str)) = false := by decide) : wpAny (model X.prog X.w) X.A (eval (.Name x pos) X.env) Q E s := by
  obtain ⟨mb, h1, h2⟩ := I.mod.blt
  exact Calls.Name_function_global I.ok.kind hg (Calls.loadGlobal_builtin (by rw [I.ok.glob]; exact I.mod.glob.keeps I.bk) hm (by rw [I.ok.blt]; exact h1.keeps I.bk) ((h2 x hn).trans hv) h) hd
/-! ### arithmetic -/
variable {a b : Expr} {ta tb : TE} {pos : Pos}
/-! ### comparisons -/
/-- a comparison as a value, as a test -/
noncomputable def tB (t : TE) : TT := fun σ H Q => t σ H fun x H1 => ∃ c, x = .bl c ∧ Q c H1
/-- an expression whose value is a bool, as a test -/
theorem pt_val {e : Expr} {t : TE} (h : PE X e t) (he : ∀ whole, isTrue e X.env whole = (do let v ← whole; standAt e.pos; holding [v] (truthy v)) := by intro _; rfl) : PT X e (tB t) := .mk <| by
  intro pins s σ H Q I hw
  refine isTrue_plain (thn (h pins s σ H _ I hw) fun v s1 ⟨x, H1, I1, r1, q1⟩ => ?_) (he _)
  obtain ⟨d, rfl, q⟩ := q1
  cases r1
  exact wpAny_truthy_bool ⟨H1, I1, q⟩

/-! ### and, or, not -/
variable {tA tB' : TT} {rest : List Expr}
noncomputable def tAnd (t u : TT) : TT := fun σ H Q => t σ H fun c H1 => if c = true then u σ H1 Q else Q false H1
noncomputable def tOr (t u : TT) : TT := fun σ H Q => t σ H fun c H1 => if c = true then Q true H1 else u σ H1 Q
noncomputable def tNot (t : TT) : TT := fun σ H Q => t σ H fun c H1 => Q (!c) H1
theorem pw_and1 (ha : PT X a tA) : PW X (.BoolOp .And [a] pos) tA := .mk <| by
  intro wh pins s σ H Q I h
  refine isTrue_and (thn (ha pins s σ H Q I h) fun c s1 e => ?_)
  cases c with
  | true => exact isTrue_and_nil e
  | false => exact e
theorem pw_or1 (ha : PT X a tA) : PW X (.BoolOp .Or [a] pos) tA := .mk <| by
  intro wh pins s σ H Q I h
  refine isTrue_or (thn (ha pins s σ H Q I h) fun c s1 e => ?_)
  cases c with
  | false => exact isTrue_or_nil e
  | true => exact e
theorem pw_and (ha : PT X a tA) (hb : PW X (.BoolOp .And (b :: rest) pos) tB') : PW X (.BoolOp .And (a :: b :: rest) pos) (tAnd tA tB') := .mk <| by
  intro wh pins s σ H Q I h
  refine isTrue_and (thn (ha pins s σ H _ I h) fun c s1 ⟨H1, I1, q1⟩ => ?_)
  cases c with
  | true => exact hb wh pins s1 σ H1 Q I1 q1
  | false => exact ⟨H1, I1, q1⟩
theorem pw_or (ha : PT X a tA) (hb : PW X (.BoolOp .Or (b :: rest) pos) tB') : PW X (.BoolOp .Or (a :: b :: rest) pos) (tOr tA tB') := .mk <| by
  intro wh pins s σ H Q I h
  refine isTrue_or (thn (ha pins s σ H _ I h) fun c s1 ⟨H1, I1, q1⟩ => ?_)
  cases c with
  | true => exact ⟨H1, I1, q1⟩
  | false => exact hb wh pins s1 σ H1 Q I1 q1
theorem pt_not (ha : PT X a tA) : PT X (.UnaryOp .Not a pos) (tNot tA) := .mk <| by
  intro pins s σ H Q I h
  exact isTrue_not (ha pins s σ H (fun c H1 => Q (!c) H1) I h)
/-- .. as values (bools) -/
noncomputable def tAndV (ta tb : TE) : TE := fun σ H Q => ta σ H fun x H1 => ∃ c, x = .bl c ∧ if c = true then tb σ H1 Q else Q (.bl false) H1
theorem pe_one {op} {t : TE} (h : PE X a t) : PE X (.BoolOp op [a] pos) t := .mk <| fun pins s σ H Q I hw => BoolOp_one (h pins s σ H Q I hw)
theorem pe_and (ha : PE X a ta) (hb : PE X (.BoolOp .And (b :: rest) pos) tb) : PE X (.BoolOp .And (a :: b :: rest) pos) (tAndV ta tb) := .mk <| by
  intro pins s σ H Q I h
  refine BoolOp_and (thn (ha pins s σ H _ I h) fun v s1 ⟨x, H1, I1, r1, q1⟩ => ?_)
  obtain ⟨c, rfl, q1⟩ := q1
  cases r1
  refine wpAny_truthy_bool ?_
  cases c with
  | true => exact hb pins s1 σ H1 Q I1 q1
  | false => exact ⟨.bl false, H1, I1, rfl, q1⟩
end
end L2

namespace L2
open PySem PySem.Spec PyProof.Rows

/-! ### a list, a tuple that is read: tracked, frozen, or an object of the module -/
noncomputable def SqL (K : PySem.W.Frag) (H : Hp) (a : Addr) (xs : List V) : Prop :=
  Rd H a (.lst xs) ∨
    ∃ (o : Obj) (its : Array Value) (n : Nat), K.lookup a = some o ∧ o.cls = .type "list" ∧ o.dict = none ∧ o.data = .seq its n ∧ its.size ≤ sizeLine ∧ Vals xs its.toList
noncomputable def SqT (K : PySem.W.Frag) (H : Hp) (a : Addr) (xs : List V) : Prop :=
  Rd H a (.tup xs) ∨
    ∃ (o : Obj) (its : Array Value) (n : Nat), K.lookup a = some o ∧ o.cls = .type "tuple" ∧ o.data = .seq its n ∧ its.size ≤ sizeLine ∧ Vals xs its.toList
noncomputable def absV : Value → Option V
  | .none => some .non
  | .bool b => some (.bl b)
  | .int i _ => some (.int i)
  | .str x _ => some (.str x)
  | .bytes b _ => some (.byt b)
  | .float b _ => some (.flt b)
  | .ref a => some (.ref a)
  | .type n => some (.ty n)
  | _ => none
theorem RelV.abs {x : V} {u : Value} (r : RelV x u) : absV u = some x := by
  cases x with
  | non => cases r; rfl
  | bl _ => cases r; rfl
  | int _ => obtain ⟨t, rfl⟩ := r; rfl
  | str _ => obtain ⟨t, rfl⟩ := r; rfl
  | byt _ => obtain ⟨t, rfl⟩ := r; rfl
  | flt _ => obtain ⟨t, rfl⟩ := r; rfl
  | ref _ => cases r; rfl
  | ty _ => cases r; rfl
theorem RelV.inj {x y : V} {u : Value} (r : RelV x u) (q : RelV y u) : x = y := Option.some.inj (r.abs.symm.trans q.abs)
theorem Vals.inj : ∀ {xs ys : List V} {us : List Value}, Vals xs us → Vals ys us → xs = ys
  | _, _, _, .nil, .nil => rfl
  | _, _, _, .cons r t, .cons r' t' => by rw [r.inj r', Vals.inj t t']
section
variable {X : Cx} {pins : List (Addr × Obj)} {σ : St} {H : Hp} {s : Shared} {a : Addr} {xs ys : List V}
theorem SqL.of {K : PySem.W.Frag} (h : H a = some (.lst xs)) : SqL K H a xs := .inl (.inl h)
theorem SqT.of {K : PySem.W.Frag} (h : H a = some (.tup xs)) : SqT K H a xs := .inl (.inl h)
theorem Inv.list (I : Inv X pins σ H s) (h : SqL X.K H a xs) : ∃ its : List Value, Vals xs its ∧ PlainL s.heap a its.toArray ∧ xs.length ≤ sizeLine := by
  rcases h with h | ⟨o, its, n, hk, hc, hd, hs, hz, r⟩
  · obtain ⟨z, its, n, r, e⟩ := h.ok I.hok
    exact ⟨its, r, ⟨_, n, e, rfl, rfl, rfl⟩, z⟩
  · refine ⟨its.toList, r, ⟨o, n, I.kIn a o hk, hc, hd, by simpa using hs⟩, ?_⟩
    have e := r.length
    simp only [Array.length_toList] at e
    omega
theorem Inv.tuple (I : Inv X pins σ H s) (h : SqT X.K H a xs) : ∃ its : List Value, Vals xs its ∧ IsTup s.heap a its.toArray ∧ xs.length ≤ sizeLine := by
  rcases h with h | ⟨o, its, n, hk, hc, hs, hz, r⟩
  · obtain ⟨z, its, r, p⟩ := h.ok I.hok
    exact ⟨its, r, p, z⟩
  · refine ⟨its.toList, r, ⟨o, I.kIn a o hk, hc, n, by simpa using hs⟩, ?_⟩
    have e := r.length
    simp only [Array.length_toList] at e
    omega
theorem Inv.list_inj (I : Inv X pins σ H s) (h : SqL X.K H a xs) (h' : SqL X.K H a ys) : xs = ys := by
  obtain ⟨its, r, ⟨o, n, e, _, _, d⟩, _⟩ := I.list h
  obtain ⟨its', r', ⟨o', n', e', _, _, d'⟩, _⟩ := I.list h'
  rw [e] at e'; cases e'
  rw [d] at d'
  injection d' with d1 _
  have : its = its' := by simpa using congrArg Array.toList d1
  subst this
  exact r.inj r'
end

/-! ### another wish about exceptions -/
noncomputable abbrev Cx.wish (X : Cx) (E : Value → Shared → Prop) : Cx := { X with xe := E }
/-- no exception leaves -/
noncomputable abbrev Cx.nox (X : Cx) : Cx := X.wish fun _ _ => False
theorem Cx.Ok.wish {X : Cx} (ok : X.Ok) (E : Value → Shared → Prop) : (X.wish E).Ok :=
  ⟨ok.mod, ok.kind, ok.glob, ok.blt, ok.above, ok.inj, ok.has, ok.cab, ok.hd, ok.frames, ok.stk, ok.exf, ok.bs, ok.bsz, ok.noex, ok.exfs, ok.funs, ok.frf⟩
theorem Cx.Ok.unwish {X : Cx} {E : Value → Shared → Prop} (ok : (X.wish E).Ok) : X.Ok :=
  ⟨ok.mod, ok.kind, ok.glob, ok.blt, ok.above, ok.inj, ok.has, ok.cab, ok.hd, ok.frames, ok.stk, ok.exf, ok.bs, ok.bsz, ok.noex, ok.exfs, ok.funs, ok.frf⟩
section
variable {X : Cx} {pins : List (Addr × Obj)} {σ : St} {H : Hp} {s : Shared} {E : Value → Shared → Prop}
theorem Inv.wish (I : Inv X pins σ H s) (E : Value → Shared → Prop) : Inv (X.wish E) pins σ H s := ⟨I.ok.wish E, I.os, I.bare, I.base, I.loc, I.cell, I.free, I.freeC, I.pin, I.hok, I.len⟩
theorem Inv.unwish (I : Inv (X.wish E) pins σ H s) : Inv X pins σ H s := ⟨I.ok.unwish, I.os, I.bare, I.base, I.loc, I.cell, I.free, I.freeC, I.pin, I.hok, I.len⟩
theorem SP.unwish {D : Ends} {f : Flow} {s' : Shared} (h : SP (X.wish E) pins D f s') : SP X pins D f s' := by
  cases f with
  | next => obtain ⟨σ', H', I, q⟩ := h; exact ⟨σ', H', I.unwish, q⟩
  | brk => obtain ⟨σ', H', I, q⟩ := h; exact ⟨σ', H', I.unwish, q⟩
  | cont => obtain ⟨σ', H', I, q⟩ := h; exact ⟨σ', H', I.unwish, q⟩
  | ret u => obtain ⟨v, σ', H', I, r, q⟩ := h; exact ⟨v, σ', H', I.unwish, r, q⟩
theorem PSs.nox {st : List Stmt} {t : TS} (h : PSs X.nox st t) : PSs X st t := .mk <| fun pins s σ H D I hw =>
  wpAny_mono (h pins s σ H D (I.wish _) hw) (fun _ _ q => q.unwish) fun _ _ z => False.elim z
end

/-! ### blocks and small statements -/
section
variable {X : Cx} {st : Stmt} {rest : List Stmt} {t u : TS} {e : Expr} {te : TE} {pos : Pos}
noncomputable def tNext : TS := fun D σ H => D.nx σ H
noncomputable def tSeq (t u : TS) : TS := fun D σ H => t { D with nx := u D } σ H
theorem pss_nil : PSs X [] tNext := .mk <| fun _ _ σ H _ I h => wpAny_execs_nil ⟨σ, H, I, h⟩
theorem pss_cons (h1 : PS X st t) (h2 : PSs X rest u) : PSs X (st :: rest) (tSeq t u) := .mk <| by
  intro pins s σ H D I h
  refine wpAny_execs_cons (thn (h1 pins s σ H { D with nx := u D } I h) fun f s1 q => ?_)
  cases f with
  | next =>
    obtain ⟨σ', H', I', q⟩ := q
    exact h2 pins s1 σ' H' D I' q
  | ret v => exact q
  | brk => exact q
  | cont => exact q
theorem pss_one (h1 : PS X st t) : PSs X [st] t := .mk <| by
  intro pins s σ H D I h
  refine wpAny_execs_cons (thn (h1 pins s σ H D I h) fun f s1 q => ?_)
  cases f with
  | next => exact wpAny_execs_nil q
  | ret v => exact q
  | brk => exact q
  | cont => exact q
/-- in a def's body nothing is shown -/
theorem Inv.quiet {pins : List (Addr × Obj)} {σ : St} {H : Hp} {s : Shared} (I : Inv X pins σ H s) : interactive X.env = false := by simp [interactive, I.ok.kind]
/-- an expression whose value is dropped -/
noncomputable def tDrop (te : TE) : TS := fun D σ H => te σ H fun _ H1 => D.nx σ H1
theorem ps_expr (he : PE X e te) (hs : swapsWith e none pos.line X.env = pure false := by rfl) : PS X (.Expr e pos) (tDrop te) := .mk <| by
  intro pins s σ H D I h
  exact wpAny_Expr_any (thn (he pins s σ H _ I h) fun v s1 ⟨x, H1, I1, r1, q1⟩ => ⟨σ, H1, I1, q1⟩) I.quiet hs
noncomputable def tRet (te : TE) : TS := fun D σ H => te σ H D.rt
theorem ps_ret (he : PE X e te) : PS X (.Return (some e) pos) (tRet te) := .mk <| by
  intro pins s σ H D I h
  exact wpAny_Return_some (thn (he pins s σ H _ I h) fun v s1 ⟨x, H1, I1, r1, q1⟩ => ⟨x, σ, H1, I1, r1, q1⟩)
noncomputable def tIfS (c : TT) (t u : TS) : TS := fun D σ H => c σ H fun b H1 => if b = true then t D σ H1 else u D σ H1
theorem ps_if {c : Expr} {a b : List Stmt} {tc : TT} (hc : PT X c tc) (ha : PSs X a t) (hb : PSs X b u) : PS X (.If c a b pos) (tIfS tc t u) := .mk <| by
  intro pins s σ H D I h
  refine wpAny_If (thn (hc pins s σ H _ I h) fun d s1 ⟨H1, I1, q1⟩ => ?_)
  cases d with
  | true => exact ha pins s1 σ H1 D I1 q1
  | false => exact hb pins s1 σ H1 D I1 q1
end

/-! ### targets -/
noncomputable abbrev TG := V → St → Hp → (St → Hp → Prop) → Prop
noncomputable abbrev TGs := List V → St → Hp → (St → Hp → Prop) → Prop
structure PG (X : Cx) (target : Expr) (t : TG) : Prop where
  run :
  ∀ (pins : List (Addr × Obj)) (s : Shared) (σ : St) (H : Hp) (v : V) (u : Value) (Q : St → Hp → Prop), Inv X pins σ H s → RelV v u → t v σ H Q →
    wpAny (model X.prog X.w) X.A (assign target X.env u) (fun _ s' => ∃ σ' H', Inv X pins σ' H' s' ∧ Q σ' H') X.xe s
noncomputable instance {X : Cx} {target : Expr} {t : TG} : CoeFun (PG X target t) (fun _ =>
  ∀ (pins : List (Addr × Obj)) (s : Shared) (σ : St) (H : Hp) (v : V) (u : Value) (Q : St → Hp → Prop), Inv X pins σ H s → RelV v u → t v σ H Q →
    wpAny (model X.prog X.w) X.A (assign target X.env u) (fun _ s' => ∃ σ' H', Inv X pins σ' H' s' ∧ Q σ' H') X.xe s
  ) := ⟨fun h => h.run⟩
/-- several targets, one after another -/
structure PGs (X : Cx) (ts : List Expr) (t : TGs) : Prop where
  run :
  ∀ (pins : List (Addr × Obj)) (s : Shared) (σ : St) (H : Hp) (vs : List V) (us : List Value) (Q : St → Hp → Prop), Inv X pins σ H s → Vals vs us → t vs σ H Q →
    wpAny (model X.prog X.w) X.A (assignInOrder ((assignEach ts X.env).map (·.2)) us) (fun _ s' => ∃ σ' H', Inv X pins σ' H' s' ∧ Q σ' H') X.xe s
noncomputable instance {X : Cx} {ts : List Expr} {t : TGs} : CoeFun (PGs X ts t) (fun _ =>
  ∀ (pins : List (Addr × Obj)) (s : Shared) (σ : St) (H : Hp) (vs : List V) (us : List Value) (Q : St → Hp → Prop), Inv X pins σ H s → Vals vs us → t vs σ H Q →
    wpAny (model X.prog X.w) X.A (assignInOrder ((assignEach ts X.env).map (·.2)) us) (fun _ s' => ∃ σ' H', Inv X pins σ' H' s' ∧ Q σ' H') X.xe s
  ) := ⟨fun h => h.run⟩
section
variable {X : Cx} {pos : Pos}
noncomputable def gName (i : Nat) : TG := fun v σ H Q => Q (σ.set i (some v)) H
theorem pg_name {i : Nat} {x : Str} (hN : X.N.Nodup) (hi : X.N[i]? = some x) (hx : Loc X.env.scope x) (hf : X.fn x = true ∨ X.env.scope.names.lookup x = some .local := by first | exact .inl rfl | exact .inr rfl | assumption) : PG X (.Name x pos) (gName i) := .mk <| by
  intro pins s σ H v u Q I r h
  exact wpAny_assign_Name (store_ok I hN hi hx r (fun s' I' => ⟨_, H, I', h⟩) hf)
noncomputable def gNil : TGs := fun vs σ H Q => vs = [] ∧ Q σ H
noncomputable def gCons (t : TG) (u : TGs) : TGs := fun vs σ H Q => ∃ v r, vs = v :: r ∧ t v σ H fun σ' H' => u r σ' H' Q
theorem pgs_nil : PGs X [] gNil := .mk <| by
  intro pins s σ H vs us Q I r h
  obtain ⟨e, h⟩ := h
  subst e
  cases r
  exact assignInOrder_nil ⟨σ, H, I, h⟩
theorem pgs_cons {e : Expr} {es : List Expr} {t : TG} {u : TGs} (h1 : PG X e t) (h2 : PGs X es u)
    (hs : (assignEach (e :: es) X.env).map (·.2) = assign e X.env :: (assignEach es X.env).map (·.2) := by rfl) : PGs X (e :: es) (gCons t u) := .mk <| by
  intro pins s σ H vs us Q I r h
  obtain ⟨v, vr, e1, h⟩ := h
  subst e1
  cases r with
  | cons r rr =>
    rw [hs]
    refine assignInOrder_cons (thn (h1 pins s σ H _ _ _ I r h) fun _ s1 ⟨σ1, H1, I1, q1⟩ => ?_)
    exact h2 pins s1 σ1 H1 _ _ Q I1 rr q1
/-- (a, b, ..) = a tuple of that length -/
noncomputable def gTup (K : PySem.W.Frag) (n : Nat) (t : TGs) : TG := fun v σ H Q => ∃ a xs, v = .ref a ∧ SqT K H a xs ∧ xs.length = n ∧ t xs σ H Q
theorem pg_tup {es : List Expr} {k : Nat} {t : TGs} {n : Nat} (hc : X.calm = true) (h : PGs X es t)
    (hn : (assignEach es X.env).length = n := by rfl) (hst : (assignEach es X.env).findIdx? (·.1) = none := by rfl) : PG X (.Tuple es k pos) (gTup X.K n t) := .mk <| by
  intro pins s σ H v u Q I r hw
  obtain ⟨a, xs, e1, hq, hl, hw⟩ := hw
  subst e1
  cases r
  obtain ⟨its, rv, ht, hz⟩ := I.tuple hq
  refine assign_Tuple_tuple (I.ok.hd hc) ht (by simp [hn, ← hl, rv.length]) hst fun h' hx => ?_
  have I1 : Inv X pins σ H { s with heap := h' } := I.kept (t' := s.toks) fun b o e => hx b o (Nat.ne_of_lt (Heap.lt_size e)) e
  exact h pins _ σ H xs _ Q I1 (by simpa using rv) hw
/-- target = value -/
noncomputable def tAsg (te : TE) (g : TG) : TS := fun D σ H => te σ H fun x H1 => g x σ H1 D.nx
/-- name = value -/
theorem ps_set {i : Nat} {x : Str} {e : Expr} {te : TE} {pos' : Pos} (hN : X.N.Nodup) (hi : X.N[i]? = some x) (hx : Loc X.env.scope x) (he : PE X e te) (hs : swapsWith e (some (.Name x pos')) pos.line X.env = pure false := by rfl) (hf : X.fn x = true ∨ X.env.scope.names.lookup x = some .local := by first | exact .inl rfl | exact .inr rfl | assumption) :
    PS X (.Assign [.Name x pos'] e pos) (tAsg te (gName i)) := .mk <| by
  intro pins s σ H D I h
  refine wpAny_Assign_Name (thn (he pins s σ H _ I h) fun v s1 ⟨y, H1, I1, r1, q1⟩ => ?_) hs
  exact store_ok I1 hN hi hx r1 (fun s2 I2 => ⟨_, H1, I2, q1⟩) hf
end

/-! ### while -/
section
variable {X : Cx} {pos : Pos}
end

/-! ### what a loop or a comprehension walks -/
/-- at turn i: it yields x (the heap may grow), or it stops -/
structure It where
  go : Nat → Hp → Prop
  yld : Nat → Hp → V → Hp → Prop
  stop : Nat → Hp → Prop
/-- the iterator's own objects may turn: they are not the frame's, not pinned, younger than the entry (or a comprehension's own) -/
noncomputable def FpOk (X : Cx) (pins : List (Addr × Obj)) (H : Hp) (b : Addr) : Prop :=
  H b = none ∧ b ≠ X.env.locals ∧ b ∉ X.fs ∧ (b ∈ X.ex ∨ X.s₀.heap.objs.size ≤ b) ∧ (∀ x c, X.env.cells.lookup x = some c → c ≠ b) ∧ ∀ p ∈ X.pn ++ pins, p.1 ≠ b
theorem Inv.fpOk {X : Cx} {pins : List (Addr × Obj)} {σ : St} {H H' : Hp} {s : Shared} {b : Addr} (I : Inv X pins σ H s) (hb : s.heap.objs.size ≤ b) (hn : H' b = none) : FpOk X pins H' b := by
  refine ⟨hn, Nat.ne_of_gt (Nat.lt_of_lt_of_le I.lt hb), I.nofs hb, .inr (Nat.le_trans I.sz hb), fun x c e z => ?_, fun p hp z => ?_⟩
  · obtain ⟨v, q⟩ := I.cell x c e
    exact absurd (Nat.lt_of_lt_of_le q.lt (by rw [z]; exact hb)) (Nat.lt_irrefl _)
  · exact absurd (Nat.lt_of_lt_of_le (Heap.lt_size (I.pin p hp).1) (by rw [z]; exact hb)) (Nat.lt_irrefl _)
structure Turn (P : Program) (w : World) (K : PySem.W.Frag) (tg : Expr) (J : It) (fp : List Addr) (it : Addr) (tn : Nat → Heap → Prop) : Prop where
  mem : it ∈ fp
  obj : ∀ i h, tn i h → ∀ b ∈ fp, ∃ o, h.get? b = some o ∧ ∀ v, o.data ≠ .cell v
  keep : ∀ i h h', tn i h → (∀ b ∈ fp, ∀ o, h.get? b = some o → h'.get? b = some o) → tn i h'
  item : ∀ (X : Cx), X.prog = P → X.w = w → X.K = K → X.calm = true → ∀ (i : Nat) (pins : List (Addr × Obj)) (s : Shared) (σ : St) (H : Hp) (E : Value → Shared → Prop), Inv X pins σ H s → (∀ b ∈ fp, FpOk X pins H b) → tn i s.heap → J.go i H →
    wpAny (model P w) X.A (pyNext (.ref it)) (fun r s1 => ∃ u, r = some u ∧
      wpAny (model P w) X.A (letOwnedTupleGo tg (.ref it) u) (fun _ s2 => ∃ x H', Inv X pins σ H' s2 ∧ RelV x u ∧ J.yld i H x H' ∧ tn (i + 1) s2.heap ∧ ∀ b ∈ fp, H' b = none) E s1) E s
  done : ∀ (X : Cx), X.prog = P → X.w = w → X.K = K → X.calm = true → ∀ (i : Nat) (pins : List (Addr × Obj)) (s : Shared) (σ : St) (H : Hp) (E : Value → Shared → Prop), Inv X pins σ H s → (∀ b ∈ fp, FpOk X pins H b) → tn i s.heap → J.stop i H →
    wpAny (model P w) X.A (pyNext (.ref it)) (fun r s1 => r = none ∧ Inv X pins σ H s1) E s
  self : ∀ (A : Around) (i : Nat) (s : Shared) (Q : Value → Shared → Prop) (E : Value → Shared → Prop), tn i s.heap → Q (.ref it) s → wpAny (model P w) A (pyIter (.ref it)) Q E s
noncomputable abbrev TI := St → Hp → (It → Hp → Prop) → Prop
/-- an iterator has come -/
noncomputable def PIE (X : Cx) (pins : List (Addr × Obj)) (σ : St) (tg : Expr) (R : It → Hp → Prop) (itv : Value) (s2 : Shared) : Prop :=
  ∃ (it : Addr) (fp : List Addr) (tn : Nat → Heap → Prop) (J : It) (H' : Hp), itv = .ref it ∧ Inv X pins σ H' s2 ∧ Turn X.prog X.w X.K tg J fp it tn ∧ tn 0 s2.heap ∧ (∀ b ∈ fp, FpOk X pins H' b) ∧ R J H'
structure PI (X : Cx) (tg iter : Expr) (wi : TI) : Prop where
  run :
  ∀ (pins : List (Addr × Obj)) (s : Shared) (σ : St) (H : Hp) (R : It → Hp → Prop), Inv X pins σ H s → wi σ H R →
    wpAny (model X.prog X.w) X.A (eval iter X.env) (fun v s1 => wpAny (model X.prog X.w) X.A (pyIter v) (PIE X pins σ tg R) X.xe s1) X.xe s
noncomputable instance {X : Cx} {tg iter : Expr} {wi : TI} : CoeFun (PI X tg iter wi) (fun _ =>
  ∀ (pins : List (Addr × Obj)) (s : Shared) (σ : St) (H : Hp) (R : It → Hp → Prop), Inv X pins σ H s → wi σ H R →
    wpAny (model X.prog X.w) X.A (eval iter X.env) (fun v s1 => wpAny (model X.prog X.w) X.A (pyIter v) (PIE X pins σ tg R) X.xe s1) X.xe s
  ) := ⟨fun h => h.run⟩

/-- the step ahead of the store is nothing for an iterator that keeps no tuple -/
theorem go_of {M : Model} {A : Around} {E : Value → Shared → Prop} {s : Shared} {tg : Expr} {it : Addr} {u : Value} {o : Obj} {n : String} {vs : Array Value} {Q : Unit → Shared → Prop} (ho : s.heap.get? it = some o) (hc : o.cls = .type n) (hd : o.data = .fields vs)
    (hn : ["enumerate", "zip", "dict_itemiterator", "dict_reverseitemiterator", "odict_iterator", "itertools.zip_longest", "itertools.pairwise"].contains n = false) (hQ : Q () s) : wpAny M A (letOwnedTupleGo tg (.ref it) u) Q E s := by
  unfold letOwnedTupleGo
  cases tg <;> first
    | exact wpAny_pure hQ
    | (cases u <;> first
        | exact wpAny_pure hQ
        | (refine wpAny_bind (wpAny_load ho ?_)
           rw [hc, hd]
           show wpAny M A (if (["enumerate", "zip", "dict_itemiterator", "dict_reverseitemiterator", "odict_iterator", "itertools.zip_longest", "itertools.pairwise"].contains n && vs[0]? == some (rawInt _)) = true then _ else _) Q E s
           rw [if_neg (by intro h; rw [hn, Bool.false_and] at h; cases h)]
           exact wpAny_pure hQ))

/-- the list at a, as it stands at each turn (a loop may append to it) -/
noncomputable def Itl (K : PySem.W.Frag) (a : Addr) : It :=
  ⟨fun i H => ∃ xs x, SqL K H a xs ∧ xs[i]? = some x, fun i H x H' => H' = H ∧ ∀ xs, SqL K H a xs → xs[i]? = some x, fun i H => ∃ xs, SqL K H a xs ∧ xs.length ≤ i⟩
/-- lo, lo + 1, .. (n of them) -/
noncomputable def Itr (lo : Int) (n : Nat) : It := ⟨fun i _ => i < n, fun i H x H' => H' = H ∧ x = .int (lo + i), fun i _ => n ≤ i⟩
theorem turn_list {P : Program} {w : World} {K : PySem.W.Frag} {tg : Expr} (a it : Addr) : Turn P w K tg (Itl K a) [it] it (fun i h => h.IsListIter it a i) where
  mem := by simp
  obj := fun i h st b hb => by
    have e : b = it := by simpa using hb
    subst e
    obtain ⟨o, e, c, d⟩ := st
    exact ⟨o, e, fun v z => by rw [d] at z; cases z⟩
  keep := fun i h h' st k => st.at fun o e => k it (by simp) o e
  item := by
    intro X hP hw hK hc i pins s σ H E I hf st hg
    subst hP hw hK
    obtain ⟨xs, x, hq, hx⟩ := hg
    obtain ⟨its, rv, p, hz⟩ := I.list hq
    obtain ⟨u, hu, ru⟩ := rv.get hx
    obtain ⟨f0, f1, f2, f3, f4, f5⟩ := hf it (by simp)
    refine wpAny_pyNext_list_item st p.isList (x := u) (by simpa using hu) fun h' st' sb => ?_
    have I1 : Inv X pins σ H { s with heap := h' } := I.turned (t' := s.toks) (fun b o hb e => (sb.2 b hb).trans e) f0 f1 f3 f4 f5
    obtain ⟨o, e, c, d⟩ := id st'
    exact ⟨u, rfl, go_of (s := { s with heap := h' }) e c d (by decide) ⟨x, H, I1, ru, ⟨rfl, fun ys hy => by rw [I.list_inj hy hq]; exact hx⟩, st', fun b hb => (hf b hb).1⟩⟩
  done := by
    intro X hP hw hK hc i pins s σ H E I hf st hg
    subst hP hw hK
    obtain ⟨xs, hq, hx⟩ := hg
    obtain ⟨its, rv, p, hz⟩ := I.list hq
    obtain ⟨f0, f1, f2, f3, f4, f5⟩ := hf it (by simp)
    have hl := rv.length
    exact wpAny_pyNext_list_end (I.ok.hd hc) st p.isList (by simp; omega) fun h' eb => ⟨rfl, I.turned (t' := s.toks) (fun b o hb e => eb b o hb e) f0 f1 f3 f4 f5⟩
  self := fun _ _ _ _ _ st h => wpAny_pyIter_listiter st h
theorem turn_range {P : Program} {w : World} {K : PySem.W.Frag} {tg : Expr} (it : Addr) (lo : Int) (n : Nat) : Turn P w K tg (Itr lo n) [it] it (fun i h => IsRangeIter h it (lo + (i : Nat) * 1) ((n : Int) - (i : Nat)) 1) where
  mem := by simp
  obj := fun i h st b hb => by
    have e : b = it := by simpa using hb
    subst e
    exact ⟨_, st, fun v z => by
      have z' : Data.fields _ = Data.cell v := z
      cases z'⟩
  keep := fun i h h' st k => k it (by simp) _ st
  item := by
    intro X hP hw hK hc i pins s σ H E I hf st hg
    subst hP hw hK
    obtain ⟨f0, f1, f2, f3, f4, f5⟩ := hf it (by simp)
    have W := Walks.range (prog := X.prog) (w := X.w) (I.ok.hd hc) it lo 1 n
    refine W.item i s _ _ hg st fun v h' tk hv st' kk => ?_
    obtain ⟨t, rfl⟩ := hv
    have I1 : Inv X pins σ H { s with heap := h', toks := tk } := I.turned (fun b o hb e => kk b o (by simpa using hb) e) f0 f1 f3 f4 f5
    refine ⟨_, rfl, go_of (s := { s with heap := h', toks := tk }) (n := "range_iterator") st' rfl rfl (by decide) ⟨.int (lo + i), H, I1, ⟨t, ?_⟩, ⟨rfl, rfl⟩, st', fun b hb => (hf b hb).1⟩⟩
    rw [Int.mul_one]
  done := by
    intro X hP hw hK hc i pins s σ H E I hf st hg
    subst hP hw hK
    obtain ⟨f0, f1, f2, f3, f4, f5⟩ := hf it (by simp)
    exact wpAny_pyNext_range_end (I.ok.hd hc) st (by have : n ≤ i := hg; omega) fun h' eb => ⟨rfl, I.turned (t' := s.toks) (fun b o hb e => eb b o hb e) f0 f1 f3 f4 f5⟩
  self := fun _ _ _ _ _ st h => wpAny_pyIter_rangeiter st h
end L2

namespace L2
open PySem PySem.Spec PyProof.Rows
section
variable {X : Cx} {tg : Expr}
noncomputable def iList (K : PySem.W.Frag) (tl : TE) : TI := fun σ H R => tl σ H fun x H1 => ∃ a, x = .ref a ∧ (∃ xs, SqL K H1 a xs) ∧ R (Itl K a) H1
theorem pi_list {l : Expr} {tl : TE} (hl : PE X l tl) : PI X tg l (iList X.K tl) := .mk <| by
  intro pins s σ H R I h
  refine thn (hl pins s σ H _ I h) fun v s1 ⟨x, H1, I1, r1, q1⟩ => ?_
  obtain ⟨a, e, ⟨xs, hq⟩, q⟩ := q1
  subst e
  cases r1
  obtain ⟨its, rv, p, hz⟩ := I1.list hq
  refine wpAny_pyIter_list p.isList ?_
  refine ⟨s1.heap.objs.size, [s1.heap.objs.size], _, _, H1, rfl, I1.kept (t' := s1.toks) fun b o e => Heap.get?_push_of_some _ e, turn_list a _, ⟨_, Heap.get?_push_size _ rfl, rfl, rfl⟩, fun b hb => ?_, q⟩
  have e : b = s1.heap.objs.size := by simpa using hb
  subst e
  exact I1.fpOk (Nat.le_refl _) (I1.hok.fresh (Nat.le_refl _))
/-- a range object just made, walked -/
theorem range_it {pins : List (Addr × Obj)} {σ : St} {H : Hp} {s : Shared} {R : It → Hp → Prop} {E : Value → Shared → Prop} {lo hi : Int} {t u v : Tok} {tk : Nat} (I : Inv X pins σ H s) (h1 : -(2 ^ 62) ≤ lo) (h2 : lo < 2 ^ 62) (h3 : -(2 ^ 62) ≤ hi) (h4 : hi < 2 ^ 62)
    (q : R (Itr lo (hi - lo).toNat) H) : wpAny (model X.prog X.w) X.A (pyIter (.ref s.heap.objs.size)) (PIE X pins σ tg R) E { s with heap := s.heap.push { cls := .type "range", data := .fields #[.int lo t, .int hi u, .int 1 v] }, toks := tk } := by
  refine wpAny_pyIter_range (IsRange.new ..) (small_one h1 h2 h3 h4) ?_
  have I1 : Inv X pins σ H { s with heap := s.heap.push { cls := .type "range", data := .fields #[.int lo t, .int hi u, .int 1 v] }, toks := tk } := I.kept fun b o e => Heap.get?_push_of_some _ e
  refine ⟨(s.heap.push { cls := .type "range", data := .fields #[.int lo t, .int hi u, .int 1 v] }).objs.size, [(s.heap.push { cls := .type "range", data := .fields #[.int lo t, .int hi u, .int 1 v] }).objs.size], _, _, H, rfl,
    I1.kept (t' := tk) fun b o e => Heap.get?_push_of_some _ e, turn_range _ lo (hi - lo).toNat, ?_, fun b hb => ?_, q⟩
  · have e1 : lo + ((0 : Nat) : Int) * 1 = lo := by simp
    have e2 : (((hi - lo).toNat : Nat) : Int) - ((0 : Nat) : Int) = Builtin.Range.rangeSize lo hi 1 := by rw [rangeSize_one]; split <;> omega
    show IsRangeIter _ _ (lo + ((0 : Nat) : Int) * 1) ((((hi - lo).toNat : Nat) : Int) - ((0 : Nat) : Int)) 1
    rw [e1, e2]
    exact Heap.get?_push_size _ rfl
  · have e : b = (s.heap.push { cls := .type "range", data := .fields #[.int lo t, .int hi u, .int 1 v] }).objs.size := by simpa using hb
    subst e
    exact I1.fpOk (Nat.le_refl _) (I1.hok.fresh (Nat.le_refl _))
noncomputable def iRng1 (ta : TA) : TI := fun σ H R => ta σ H fun vs H1 => ∃ j : Int, vs = [.int j] ∧ -(2 ^ 62) ≤ j ∧ j < 2 ^ 62 ∧ R (Itr 0 j.toNat) H1
theorem pi_range1 {a : Expr} {ta : TA} {p pos : Pos} (hg : Gl X "range") (hm : X.mg "range" = none) (ha : PA X [a] ta) (hs : starEach [a] X.env = [(false, eval a X.env)] := by rfl) : PI X tg (.Call (.Name "range" p) [a] [] pos) (iRng1 ta) := .mk <| by
  intro pins s σ H R I h
  refine Call_ (ld_blt I hg hm boot_range (PyProof.Rows.callWith_type1 (thn (ha pos pins s σ H _ I h) fun us s1 ⟨vs, H1, I1, r1, q1⟩ => ?_) hs rfl))
  obtain ⟨j, e, q1, q2, q⟩ := q1
  subst e
  cases r1 with
  | cons r rr =>
    cases rr
    obtain ⟨t, rfl⟩ := r
    exact call_range_1 (range_it I1 (by omega) (by omega) q1 q2 (by simpa using q))
/-! ### for -/
/-- W: the invariant by the turn and a measure; N: what the body is to reach -/
noncomputable def tFor (wi : TI) (g : TG) (tb : TS) : TS := fun D σ H => wi σ H fun J H1 => ∃ W : Nat → Nat → St → Hp → Prop, (∃ m, W 0 m σ H1) ∧ ∀ i m σ H, W i m σ H →
  (J.stop i H ∧ D.nx σ H) ∨ (J.go i H ∧ ∃ N : St → Hp → Prop, (∀ σ' H', N σ' H' → ∃ m', m' < m ∧ W (i + 1) m' σ' H') ∧ ∀ x H', J.yld i H x H' → g x σ H' fun σ2 H2 => tb { D with nx := N, ct := N, bk := D.nx } σ2 H2)
/-- the records at fp as they stand -/
noncomputable def pinsAt (fp : List Addr) (h : Heap) : List (Addr × Obj) := fp.filterMap fun b => (h.get? b).map fun o => (b, o)
theorem mem_pinsAt {fp : List Addr} {h : Heap} {b : Addr} {o : Obj} (hb : b ∈ fp) (e : h.get? b = some o) : (b, o) ∈ pinsAt fp h := List.mem_filterMap.mpr ⟨b, hb, by rw [e]; rfl⟩
theorem of_pinsAt {fp : List Addr} {h : Heap} {p : Addr × Obj} (hp : p ∈ pinsAt fp h) : p.1 ∈ fp ∧ h.get? p.1 = some p.2 := by
  obtain ⟨b, hb, e⟩ := List.mem_filterMap.mp hp
  cases q : h.get? b with
  | none => rw [q] at e; cases e
  | some o =>
    rw [q] at e
    have e' : (b, o) = p := Option.some.inj e
    subst e'
    exact ⟨hb, q⟩
theorem Inv.pinned {pins : List (Addr × Obj)} {σ : St} {H : Hp} {s : Shared} {fp : List Addr} (I : Inv X pins σ H s) (hf : ∀ b ∈ fp, FpOk X pins H b) (ho : ∀ b ∈ fp, ∃ o, s.heap.get? b = some o ∧ ∀ v, o.data ≠ .cell v) : Inv X (pins ++ pinsAt fp s.heap) σ H s :=
  I.pins_of fun p hp => (List.mem_append.mp hp).elim (fun z => I.pin p (List.mem_append_right _ z)) fun z => by
    obtain ⟨hb, e⟩ := of_pinsAt z
    obtain ⟨f0, f1, f2, _⟩ := hf p.1 hb
    obtain ⟨o, e', d⟩ := ho p.1 hb
    rw [e] at e'; cases e'
    exact ⟨e, f0, f1, f2, d⟩
theorem Inv.unpinned {pins pl : List (Addr × Obj)} {σ : St} {H : Hp} {s : Shared} (I : Inv X (pins ++ pl) σ H s) : Inv X pins σ H s := I.pins_of fun p hp => I.pin p (List.mem_append_right _ (List.mem_append_left _ hp))
theorem ps_for {iter : Expr} {body : List Stmt} {wi : TI} {g : TG} {tb : TS} {pos : Pos} (hp : PassesOwn (model X.prog X.w) X.A X.env X.xe) (hc : X.calm = true) (hi : PI X tg iter wi) (hg : PG X tg g) (hb : PSs X body tb)
    (hs : ∀ x, foldedSetIterable iter X.env x = pure x := by intro _; rfl) : PS X (.For tg iter body [] pos) (tFor wi g tb) := .mk <| by
  intro pins s σ H D I h
  refine wpAny_For (thn (hi pins s σ H _ I h) fun v s1 h1 => thn h1 fun itv s2 h2 => ?_) hs
  obtain ⟨it, fp, tn, J, H2, e, I2, T, st2, f2, W, ⟨m0, w0⟩, turn⟩ := h2
  subst e
  -- what stays true of the iterator's objects through the loop
  have stat : ∀ {H' : Hp}, (∀ b ∈ fp, H' b = none) → ∀ b ∈ fp, FpOk X pins H' b := fun hn b hb => ⟨hn b hb, (f2 b hb).2⟩
  refine codeAny_forLoop_any (fun n s' => ∃ i σ' H', Inv X pins σ' H' s' ∧ tn i s'.heap ∧ (∀ b ∈ fp, H' b = none) ∧ W i n σ' H') ?_ m0 ⟨0, σ, H2, I2, st2, fun b hb => (f2 b hb).1, w0⟩
  rintro n s3 ⟨i, σ3, H3, I3, st3, fr3, w3⟩
  rcases turn i n σ3 H3 w3 with ⟨stop, qn⟩ | ⟨go, N, hN, step⟩
  · refine wpAny_passesOwn hp (thn (T.done X rfl rfl rfl hc i pins s3 σ3 H3 X.xe I3 (stat fr3) st3 stop) fun r s4 ⟨hr, I4⟩ => ?_)
    subst hr
    exact wpAny_execs_nil ⟨σ3, H3, I4, qn⟩
  · refine wpAny_passesOwn hp (thn (T.item X rfl rfl rfl hc i pins s3 σ3 H3 X.xe I3 (stat fr3) st3 go) fun r s4 ⟨u, hr, h4⟩ => ?_)
    subst hr
    refine wpAny_passesOwn hp (thn h4 fun _ s5 ⟨x, H5, I5, r5, y5, st5, fr5⟩ => ?_)
    have I5' := I5.pinned (stat fr5) (T.obj _ _ st5)
    refine wpAny_passesOwn hp (thn (hg _ s5 σ3 H5 x u _ I5' r5 (step x H5 y5)) fun _ s6 ⟨σ6, H6, I6, q6⟩ => ?_)
    refine wpAny_passesOwn hp (thn (hb _ s6 σ6 H6 _ I6 q6) fun f s7 q7 => ?_)
    have again : ∀ {σ7 : St} {H7 : Hp}, Inv X (pins ++ pinsAt fp s5.heap) σ7 H7 s7 → N σ7 H7 → ∃ m, m < n ∧ ∃ i σ' H', Inv X pins σ' H' s7 ∧ tn i s7.heap ∧ (∀ b ∈ fp, H' b = none) ∧ W i m σ' H' := fun {σ7 H7} I7 n7 => by
      obtain ⟨m', hm, w7⟩ := hN σ7 H7 n7
      refine ⟨m', hm, i + 1, σ7, H7, I7.unpinned, T.keep _ _ _ st5 fun b hb o e => (I7.pin (b, o) (List.mem_append_right _ (List.mem_append_right _ (mem_pinsAt hb e)))).1, fun b hb => ?_, w7⟩
      obtain ⟨o, e, d⟩ := T.obj _ _ st5 b hb
      exact (I7.pin (b, o) (List.mem_append_right _ (List.mem_append_right _ (mem_pinsAt hb e)))).2.1
    cases f with
    | next => obtain ⟨σ7, H7, I7, n7⟩ := q7; exact again I7 n7
    | cont => obtain ⟨σ7, H7, I7, n7⟩ := q7; exact again I7 n7
    | brk => obtain ⟨σ7, H7, I7, q7⟩ := q7; exact ⟨σ7, H7, I7.unpinned, q7⟩
    | ret v => obtain ⟨x7, σ7, H7, I7, r7, q7⟩ := q7; exact ⟨x7, σ7, H7, I7.unpinned, r7, q7⟩
end

/-! ### the forms one uses -/
/-- over a list that the body leaves as it is -/
theorem for_list {K : PySem.W.Frag} {a : Addr} {xs : List V} {g : TG} {tb : TS} {D : Ends} {σ : St} {H : Hp} (Pv : Nat → St → Hp → Prop) (h0 : Pv 0 σ H) (hl : ∀ i σ H, i ≤ xs.length → Pv i σ H → SqL K H a xs)
    (hs : ∀ i x σ H, xs[i]? = some x → Pv i σ H → g x σ H fun σ2 H2 => tb { D with nx := Pv (i + 1), ct := Pv (i + 1), bk := D.nx } σ2 H2) (hd : ∀ σ H, Pv xs.length σ H → D.nx σ H) :
    ∃ W : Nat → Nat → St → Hp → Prop, (∃ m, W 0 m σ H) ∧ ∀ i m σ H, W i m σ H →
      ((Itl K a).stop i H ∧ D.nx σ H) ∨ ((Itl K a).go i H ∧ ∃ N : St → Hp → Prop, (∀ σ' H', N σ' H' → ∃ m', m' < m ∧ W (i + 1) m' σ' H') ∧ ∀ x H', (Itl K a).yld i H x H' → g x σ H' fun σ2 H2 => tb { D with nx := N, ct := N, bk := D.nx } σ2 H2) := by
  refine ⟨fun i m σ H => m = xs.length - i ∧ i ≤ xs.length ∧ Pv i σ H, ⟨xs.length, by simp, Nat.zero_le _, h0⟩, ?_⟩
  rintro i m σ H ⟨rfl, hi, p⟩
  have q := hl i σ H hi p
  by_cases hlt : i < xs.length
  · refine .inr ⟨⟨xs, xs[i], q, by simp [hlt]⟩, Pv (i + 1), fun σ' H' p' => ⟨xs.length - (i + 1), by omega, rfl, hlt, p'⟩, fun x H' y => ?_⟩
    obtain ⟨e, y⟩ := y
    subst e
    exact hs i x σ _ (y xs q) p
  · have e : i = xs.length := by omega
    subst e
    exact .inl ⟨⟨xs, q, Nat.le_refl _⟩, hd σ H p⟩
theorem for_range {lo : Int} {n : Nat} {g : TG} {tb : TS} {D : Ends} {σ : St} {H : Hp} (Pv : Nat → St → Hp → Prop) (h0 : Pv 0 σ H)
    (hs : ∀ i σ H, i < n → Pv i σ H → g (.int (lo + i)) σ H fun σ2 H2 => tb { D with nx := Pv (i + 1), ct := Pv (i + 1), bk := D.nx } σ2 H2) (hd : ∀ σ H, Pv n σ H → D.nx σ H) :
    ∃ W : Nat → Nat → St → Hp → Prop, (∃ m, W 0 m σ H) ∧ ∀ i m σ H, W i m σ H →
      ((Itr lo n).stop i H ∧ D.nx σ H) ∨ ((Itr lo n).go i H ∧ ∃ N : St → Hp → Prop, (∀ σ' H', N σ' H' → ∃ m', m' < m ∧ W (i + 1) m' σ' H') ∧ ∀ x H', (Itr lo n).yld i H x H' → g x σ H' fun σ2 H2 => tb { D with nx := N, ct := N, bk := D.nx } σ2 H2) := by
  refine ⟨fun i m σ H => m = n - i ∧ i ≤ n ∧ Pv i σ H, ⟨n, by simp, Nat.zero_le _, h0⟩, ?_⟩
  rintro i m σ H ⟨rfl, hi, p⟩
  by_cases hlt : i < n
  · refine .inr ⟨hlt, Pv (i + 1), fun σ' H' p' => ⟨n - (i + 1), by omega, rfl, hlt, p'⟩, fun x H' y => ?_⟩
    obtain ⟨e, y⟩ := y
    subst e y
    exact hs i σ _ hlt p
  · have e : i = n := by omega
    subst e
    exact .inl ⟨Nat.le_refl _, hd σ H p⟩
end L2

namespace L2
open PySem PySem.Spec PyProof.Rows

noncomputable abbrev R2 := V → V → Hp → VK → Prop
/-- a two-place operation on values: f is binaryOp op, inplaceOp op or compareOp op -/
noncomputable def OpR (X : Cx) (f : Value → Value → Sem Value) (r : R2) : Prop :=
  ∀ (pins : List (Addr × Obj)) (s : Shared) (σ : St) (H : Hp) (x y : V) (v u : Value) (Q : VK), Inv X pins σ H s → RelV x v → RelV y u → r x y H Q →
    wpAny (model X.prog X.w) X.A (f v u) (EP X pins σ Q) X.xe s
/-- a one-place operation -/
noncomputable def UnR (X : Cx) (f : Value → Sem Value) (r : V → Hp → VK → Prop) : Prop :=
  ∀ (pins : List (Addr × Obj)) (s : Shared) (σ : St) (H : Hp) (x : V) (v : Value) (Q : VK), Inv X pins σ H s → RelV x v → r x H Q →
    wpAny (model X.prog X.w) X.A (f v) (EP X pins σ Q) X.xe s
/-- a call of a value that is known (a builtin, a type) with values -/
noncomputable def CallR (X : Cx) (f : Value) (r : List V → Hp → VK → Prop) : Prop :=
  ∀ (pins : List (Addr × Obj)) (s : Shared) (σ : St) (H : Hp) (xs : List V) (us : List Value) (Q : VK), Inv X pins σ H s → Vals xs us → r xs H Q →
    wpAny (model X.prog X.w) X.A (call f us) (EP X pins σ Q) X.xe s
noncomputable def tOp (r : R2) (ta tb : TE) : TE := fun σ H Q => ta σ H fun x H1 => tb σ H1 fun y H2 => r x y H2 Q
noncomputable def tUn (r : V → Hp → VK → Prop) (ta : TE) : TE := fun σ H Q => ta σ H fun x H1 => r x H1 Q
/-- ints in, under C, and a value out -/
noncomputable def rI (C : Int → Int → Prop) (g : Int → Int → V) : R2 := fun x y H Q => ∃ i j, x = .int i ∧ y = .int j ∧ C i j ∧ Q (g i j) H
noncomputable def rI0 (g : Int → Int → V) : R2 := fun x y H Q => ∃ i j, x = .int i ∧ y = .int j ∧ Q (g i j) H
noncomputable def rU (g : Int → V) : V → Hp → VK → Prop := fun x H Q => ∃ i, x = .int i ∧ Q (g i) H

section
variable {X : Cx} {a b c : Expr} {ta tb tc : TE} {pos : Pos}

theorem binT (ha : PE X a ta) (hb : PE X b tb) {pins : List (Addr × Obj)} {s : Shared} {σ : St} {H : Hp} {R : V → V → Hp → Prop} (I : Inv X pins σ H s)
    (h : ta σ H fun x H1 => tb σ H1 fun y H2 => R x y H2) {Q : Value → Shared → Prop} {f : Value → Value → Sem Value}
    (hf : ∀ v u s2 x y H2, Inv X pins σ H2 s2 → RelV x v → RelV y u → R x y H2 → wpAny (model X.prog X.w) X.A (f v u) Q X.xe s2) :
    wpAny (model X.prog X.w) X.A (eval a X.env) (fun v s₁ => wpAny (model X.prog X.w) X.A (eval b X.env) (fun u s₂ => wpAny (model X.prog X.w) X.A (f v u) Q X.xe s₂) X.xe s₁) X.xe s := by
  refine thn (ha pins s σ H _ I h) fun v s1 ⟨x, H1, I1, r1, q1⟩ => ?_
  refine thn (hb pins s1 σ H1 _ I1 q1) fun u s2 ⟨y, H2, I2, r2, q2⟩ => ?_
  exact hf v u s2 x y H2 I2 r1 r2 q2

theorem pe_op {op : Operator} {r : R2} (ho : OpR X (binaryOp op) r) (ha : PE X a ta) (hb : PE X b tb) : PE X (.BinOp a op b pos) (tOp r ta tb) := .mk <| by
  intro pins s σ H Q I h
  exact wpAny_BinOp (binT ha hb I h fun v u s2 x y H2 I2 rx ry q => ho pins s2 σ H2 x y v u Q I2 rx ry q)
theorem pe_un {op : UnaryOp} {r : V → Hp → VK → Prop} (ho : UnR X (unaryOp op) r) (ha : PE X a ta) : PE X (.UnaryOp op a pos) (tUn r ta) := .mk <| by
  intro pins s σ H Q I h
  exact UnaryOp_ (thn (ha pins s σ H _ I h) fun v s1 ⟨x, H1, I1, r1, q1⟩ => ho pins s1 σ H1 x v Q I1 r1 q1)
/-! ### ints -/
theorem opI {f : Value → Value → Sem Value} {C : Int → Int → Prop} {g : Int → Int → Int}
    (rule : ∀ (i j : Int) (t u : Tok) (s : Shared) (Q : Value → Shared → Prop) (E : Value → Shared → Prop), C i j → Q (.int (g i j) s.toks) { s with toks := s.toks + 1 } → wpAny (model X.prog X.w) X.A (f (.int i t) (.int j u)) Q E s) :
    OpR X f (rI C fun i j => .int (g i j)) := by
  intro pins s σ H x y v u Q I rx ry h
  obtain ⟨i, j, rfl, rfl, hc, q⟩ := h
  obtain ⟨t, rfl⟩ := rx
  obtain ⟨t', rfl⟩ := ry
  exact rule i j t t' s _ _ hc ⟨.int (g i j), H, I.tok _, ⟨_, rfl⟩, q⟩
theorem opI0 {f : Value → Value → Sem Value} {g : Int → Int → Int}
    (rule : ∀ (i j : Int) (t u : Tok) (s : Shared) (Q : Value → Shared → Prop) (E : Value → Shared → Prop), Q (.int (g i j) s.toks) { s with toks := s.toks + 1 } → wpAny (model X.prog X.w) X.A (f (.int i t) (.int j u)) Q E s) :
    OpR X f (rI0 fun i j => .int (g i j)) := by
  intro pins s σ H x y v u Q I rx ry h
  obtain ⟨i, j, rfl, rfl, q⟩ := h
  obtain ⟨t, rfl⟩ := rx
  obtain ⟨t', rfl⟩ := ry
  exact rule i j t t' s _ _ ⟨.int (g i j), H, I.tok _, ⟨_, rfl⟩, q⟩
theorem opB0 {f : Value → Value → Sem Value} {g : Int → Int → Bool}
    (rule : ∀ (i j : Int) (t u : Tok) (s : Shared) (Q : Value → Shared → Prop) (E : Value → Shared → Prop), Q (.bool (g i j)) s → wpAny (model X.prog X.w) X.A (f (.int i t) (.int j u)) Q E s) :
    OpR X f (rI0 fun i j => .bl (g i j)) := by
  intro pins s σ H x y v u Q I rx ry h
  obtain ⟨i, j, rfl, rfl, q⟩ := h
  obtain ⟨t, rfl⟩ := rx
  obtain ⟨t', rfl⟩ := ry
  exact rule i j t t' s _ _ ⟨.bl (g i j), H, I, rfl, q⟩

noncomputable def CDiv (i j : Int) : Prop := 0 < j ∧ j < 1073741824
noncomputable def CMul (i j : Int) : Prop := (-(2 ^ 64) < i ∧ i < 2 ^ 64) ∨ (-(2 ^ 64) < j ∧ j < 2 ^ 64)
theorem CMul.ok {i j : Int} (h : CMul i j) : IntMulOk i j := by
  rcases h with ⟨h1, h2⟩ | ⟨h1, h2⟩
  · exact .of_left (intBits_le_64 h1 h2)
  · exact .of_right (intBits_le_64 h1 h2)
theorem op_add : OpR X (binaryOp .Add) (rI0 fun i j => .int (i + j)) := opI0 fun _ _ _ _ _ _ _ q => add_int q
theorem op_sub : OpR X (binaryOp .Sub) (rI0 fun i j => .int (i - j)) := opI0 fun _ _ _ _ _ _ _ q => sub_int q
theorem op_mul : OpR X (binaryOp .Mult) (rI CMul fun i j => .int (i * j)) := opI fun _ _ _ _ _ _ _ hc q => mul_int q hc.ok
/-- // by a positive divisor -/
theorem op_fdiv : OpR X (binaryOp .FloorDiv) (rI CDiv fun i j => .int (i / j)) := opI fun i j _ _ _ _ _ hc q => by
  have h1 : (0 : Int) < j := hc.1
  have h2 : j < 1073741824 := hc.2
  exact floordiv_int (by omega) (by rw [Int.fdiv_eq_ediv_of_nonneg i (by omega)]; exact q) (.inl (PyProof.noPylong_small (by omega)))
/-- % by a positive divisor of any size -/
theorem op_mod : OpR X (binaryOp .Mod) (rI (fun _ j => 0 < j) fun i j => .int (i % j)) := opI fun i j _ _ _ _ _ hc q => by
  have h1 : (0 : Int) < j := hc
  exact mod_int' (by omega) (by rw [Int.fmod_eq_emod_of_nonneg i (by omega)]; exact q)
theorem unI {f : Value → Sem Value} {g : Int → Int}
    (rule : ∀ (i : Int) (t : Tok) (s : Shared) (Q : Value → Shared → Prop) (E : Value → Shared → Prop), Q (.int (g i) s.toks) { s with toks := s.toks + 1 } → wpAny (model X.prog X.w) X.A (f (.int i t)) Q E s) :
    UnR X f (rU fun i => .int (g i)) := by
  intro pins s σ H x v Q I rx h
  obtain ⟨i, rfl, q⟩ := h
  obtain ⟨t, rfl⟩ := rx
  exact rule i t s _ _ ⟨.int (g i), H, I.tok _, ⟨_, rfl⟩, q⟩
theorem un_neg : UnR X (unaryOp .USub) (rU fun i => .int (-i)) := unI fun _ _ _ _ _ q => neg_int q
/-! ### bools among ints: n += (a < b) -/
end

/-! ### comparisons -/
/-- the scalars that == tells apart as data does -/
noncomputable def scal : V → V → Bool
  | .non, .non => true | .non, .int _ => true | .int _, .non => true | .non, .bl _ => true | .bl _, .non => true | .non, .str _ => true | .str _, .non => true
  | .int _, .int _ => true | .bl _, .bl _ => true | .str _, .str _ => true | .byt _, .byt _ => true
  | .int _, .str _ => true | .str _, .int _ => true | .bl _, .str _ => true | .str _, .bl _ => true
  | _, _ => false
noncomputable def rEq : R2 := fun x y H Q => scal x y = true ∧ Q (.bl (decide (x = y))) H
theorem dec_int {i j : Int} : decide (V.int i = V.int j) = (i == j) := by
  rw [Bool.eq_iff_iff]
  simp
theorem dec_bl {i j : Bool} : decide (V.bl i = V.bl j) = (i == j) := by
  rw [Bool.eq_iff_iff]
  simp
theorem dec_str {i j : Str} : decide (V.str i = V.str j) = (i == j) := by
  rw [Bool.eq_iff_iff]
  simp
theorem dec_byt {i j : Array UInt8} : decide (V.byt i = V.byt j) = (i.toList == j.toList) := by
  rw [Bool.eq_iff_iff]
  cases i
  cases j
  simp

section
variable {X : Cx} {a b c : Expr} {ta tb tc : TE} {pos : Pos}
theorem fin_bl {pins : List (Addr × Obj)} {σ : St} {H : Hp} {s : Shared} {Q : VK} {k k' : Bool} (I : Inv X pins σ H s) (q : Q (.bl k) H) (e : k = k') : EP X pins σ Q (.bool k') s := by
  subst e
  exact ⟨.bl k, H, I, rfl, q⟩
theorem op_eq : OpR X (compareOp .Eq) rEq := by
  intro pins s σ H x y v u Q I rx ry h
  obtain ⟨hs, q⟩ := h
  cases x with
  | non =>
    cases rx
    cases y with
    | non => cases ry; exact PySem.EqNone.eq_none_none (fin_bl I q (by simp))
    | bl j => cases ry; exact PySem.EqNone.eq_none_bool (fin_bl I q (by simp))
    | int j => obtain ⟨t', rfl⟩ := ry; exact PySem.EqNone.eq_none_int (fin_bl I q (by simp))
    | str j => obtain ⟨t', rfl⟩ := ry; exact PySem.EqNone.eq_none_str (fin_bl I q (by simp))
    | _ => exact absurd (show false = true from hs) Bool.false_ne_true
  | bl i =>
    cases rx
    cases y with
    | non => cases ry; exact PySem.EqNone.eq_bool_none (fin_bl I q (by simp))
    | bl j => cases ry; exact eq_bool (fin_bl I q dec_bl)
    | str j => obtain ⟨t', rfl⟩ := ry; exact PySem.EqMixed.eq_bool_str (fin_bl I q (by simp))
    | _ => exact absurd (show false = true from hs) Bool.false_ne_true
  | int i =>
    obtain ⟨t, rfl⟩ := rx
    cases y with
    | non => cases ry; exact PySem.EqNone.eq_int_none (fin_bl I q (by simp))
    | int j => obtain ⟨t', rfl⟩ := ry; exact eq_int (fin_bl I q dec_int)
    | str j => obtain ⟨t', rfl⟩ := ry; exact PySem.EqMixed.eq_int_str (fin_bl I q (by simp))
    | _ => exact absurd (show false = true from hs) Bool.false_ne_true
  | str i =>
    obtain ⟨t, rfl⟩ := rx
    cases y with
    | non => cases ry; exact PySem.EqNone.eq_str_none (fin_bl I q (by simp))
    | bl j => cases ry; exact PySem.EqMixed.eq_str_bool (fin_bl I q (by simp))
    | int j => obtain ⟨t', rfl⟩ := ry; exact PySem.EqMixed.eq_str_int (fin_bl I q (by simp))
    | str j => obtain ⟨t', rfl⟩ := ry; exact eq_str (fin_bl I q dec_str)
    | _ => exact absurd (show false = true from hs) Bool.false_ne_true
  | byt i =>
    obtain ⟨t, rfl⟩ := rx
    cases y with
    | byt j => obtain ⟨t', rfl⟩ := ry; exact PySem.W.eq_bytes (fin_bl I q dec_byt)
    | _ => exact absurd (show false = true from hs) Bool.false_ne_true
  | _ => cases y <;> exact absurd (show false = true from hs) Bool.false_ne_true
theorem op_lt : OpR X (compareOp .Lt) (rI0 fun i j => .bl (decide (i < j))) := opB0 fun _ _ _ _ _ _ _ q => lt_int q
theorem nomark (b : Expr) {op : CmpOp} (h : op ≠ .In := by decide) (h2 : op ≠ .NotIn := by decide) : behindInMarks op b = false := by
  have e1 : (op == CmpOp.In) = false := by cases op <;> first | rfl | exact absurd rfl h
  have e2 : (op == CmpOp.NotIn) = false := by cases op <;> first | rfl | exact absurd rfl h2
  cases b <;> simp [behindInMarks, e1, e2]
/-- a comparison as a value; hm: nomark b, or (for in, not in) by with_unfolding_all rfl -/
theorem pe_cmpR {op : CmpOp} {r : R2} (ho : OpR X (compareOp op) r) (ha : PE X a ta) (hb : PE X b tb) (hm : behindInMarks op b = false) : PE X (.Compare a [op] [b] pos) (tOp r ta tb) := .mk <| by
  intro pins s σ H Q I h
  exact wpAny_Compare1 (binT ha hb I h fun v u s2 x y H2 I2 rx ry q => ho pins s2 σ H2 x y v u Q I2 rx ry q) hm
/-- a reading of a value as a test -/
noncomputable def tTest (t : TE) : TT := fun σ H Q => t σ H fun x H' => ∃ k, x = .bl k ∧ Q k H'
theorem pt_cmpR {op : CmpOp} {r : R2} (ho : OpR X (compareOp op) r) (ha : PE X a ta) (hb : PE X b tb) (hm : behindInMarks op b = false) : PT X (.Compare a [op] [b] pos) (tTest (tOp r ta tb)) := .mk <| by
  intro pins s σ H Q I h
  refine wpAny_isTrue_Compare1 (thn (ha pins s σ H _ I h) fun v s1 ⟨x, H1, I1, r1, q1⟩ => thn (hb pins s1 σ H1 _ I1 q1) fun u s2 ⟨y, H2, I2, r2, q2⟩ =>
    thn (ho pins s2 σ H2 x y v u _ I2 r1 r2 q2) fun c s3 ⟨z, H3, I3, r3, k, e, q3⟩ => ?_) hm
  subst e
  cases r3
  exact wpAny_truthy_bool ⟨H3, I3, q3⟩
/-! ### truth -/
theorem line63 : (sizeLine : Nat) < 2 ^ 63 := by rw [sizeLine_eq]; decide
/-! ### strs and bytes -/
/-! ### scalar builtins, by CallR -/
theorem vals1 {x : V} {us : List Value} (r : Vals [x] us) : ∃ u, us = [u] ∧ RelV x u := by
  cases r with
  | cons r1 r2 => cases r2; exact ⟨_, rfl, r1⟩
end
end L2

namespace L2
open PySem PySem.Spec PyProof.Rows

/-! ### an instance, its attributes a map -/
structure ObjM (h : Heap) (x dx C : Addr) (mA : Str → Option Value) : Prop where
  obj : h.get? x = some (PySem.W.instObj C dx)
  ns : h.Ns1 dx mA
  ne : dx ≠ x

theorem lookIn_ns {h : Heap} {dx : Addr} {mA : Str → Option Value} (n : h.Ns1 dx mA) : ∃ od, h.get? dx = some od ∧ ∀ name, PySem.W.lookIn name od = some (mA name) := by
  obtain ⟨o, es, ep, ho, hd, hk, _, hm⟩ := n
  refine ⟨o, ho, fun name => ?_⟩
  have e := hm name
  unfold nsFind findBy at e
  rw [← Array.find?_toList] at e
  unfold PySem.W.lookIn
  rw [hd]
  dsimp only
  split
  · rename_i y q
    rw [q] at e
    exact congrArg some e
  · rename_i q
    rw [q] at e
    have a : es.toList.any (·.refKey) = false := by
      rw [List.any_eq_false]
      intro y hy
      obtain ⟨z, t, hkey⟩ := hk y (Array.mem_toList_iff.mp hy)
      simp [DictEntry.refKey, hkey]
    have a' : ¬ es.toList.any (·.refKey) = true := by rw [a]; exact Bool.false_ne_true
    rw [if_neg a']
    exact congrArg some e

theorem ObjM.look {h : Heap} {x dx C : Addr} {mA : Str → Option Value} (I : ObjM h x dx C mA) : ∃ od, PySem.W.InstAt h x (PySem.W.instObj C dx) C (some od) ∧ ∀ name, PySem.W.lookIn name od = some (mA name) :=
  let ⟨od, ho, hl⟩ := lookIn_ns I.ns
  ⟨od, ⟨I.obj, rfl, rfl, ho⟩, hl⟩

section
variable {prog : Program} {w : World} {A : Around} {E : Value → Shared → Prop} {s : Shared} {K : PySem.W.Frag} {x dx C f : Addr} {mA : Str → Option Value} {name : Str} {v : Value}

theorem get_map {expr : Bool} {Q : Value → Shared → Prop} (X : K.In s.heap) (I : ObjM s.heap x dx C mA) (hg : PySem.W.plainGet K C name = true) (hh : PySem.W.hasDictIn K C = true)
    (ha : PySem.W.findIn K (.ref C) name = some none) (hv : mA name = some v) (hv' : PySem.W.handedIn v = true) (h : Q v { s with toks := s.toks + 1 }) :
    wpAny (model prog w) A (getAttr (.ref x) name expr) Q E s := by
  obtain ⟨od, J, hl⟩ := I.look
  exact PySem.W.get_value X J (PySem.W.plainGet_of hg).1 (PySem.W.findObj_own hh ha rfl (by rw [hl, hv])) hv' h

theorem get_meth {pl : Sem Bool} {Q : Value × List Value → Shared → Prop} (X : K.In s.heap) (I : ObjM s.heap x dx C mA) (hg : PySem.W.plainGet K C name = true)
    (hf : PySem.W.findIn K (.ref C) name = some (some (.ref f))) (ht : PySem.W.isFn K (.ref f) = true) (hv : mA name = none) (h : Q (.ref f, [.ref x]) s) :
    wpAny (model prog w) A (getMethod (.ref x) name pl) Q E s := by
  obtain ⟨od, J, hl⟩ := I.look
  exact PySem.W.method_fn X J (PySem.W.plainGet_of hg).1 (PySem.W.plainGet_of hg).2 hf (beq_iff_eq.mp ht) (by show (PySem.W.lookIn name od).map (·.isSome) = some false; rw [hl, hv]; rfl) h

theorem set_map {ns : List Str} {Q : Unit → Shared → Prop} (X : K.In s.heap) (I : ObjM s.heap x dx C mA)
    (hs : PySem.W.findIn K (.ref C) "__setattr__" = some (some (.builtin "object.__setattr__"))) (hp : PySem.W.plainOver K C = true) (ht : PySem.W.takerIn K C name = some none) (hh : PySem.W.hasDictIn K C = true)
    (hw : PySem.Within mA ns) (hsz : ns.length ≤ sizeLine)
    (h : ∀ h', ObjM h' x dx C (fun y => if y = name then some v else mA y) → Heap.SameBut dx s.heap h' → Q () { s with heap := h', toks := s.toks + 2 }) :
    wpAny (model prog w) A (setAttr (.ref x) name v) Q E s := by
  obtain ⟨od, J, hl⟩ := I.look
  refine PySem.W.set_plain X J hs (PySem.W.osa_open (s := { s with toks := s.toks + 1 }) (r := none) X J hp ht fun b => ?_)
  obtain ⟨cd, hc, hd'⟩ := PySem.W.any_some hh
  have hx : s.heap.get? x = some ⟨.ref C, some dx, .plain, #[]⟩ := I.obj
  refine wpAny_bind (wpAny_pure (wpAny_bind (wpAny_bind (wpAny_loadPart hx (wpAny_bind (PySem.W.Looks.here (s := { s with toks := s.toks + 1 }) (PySem.W.looks_clsIn X hc) ?_))))))
  rw [hd']
  refine wpAny_pure (a := some dx) (wpAny_bind (wpAny_pure (wpAny_bind ?_)))
  refine wpAny_nsSet1 (s := { s with toks := s.toks + 1 }) I.ns fun h' hn2 hs2 => ?_
  obtain ⟨oD, esD, epD, hoD, hdD, hcD⟩ := hn2.count (PySem.Within.cons name v hw)
  refine wpAny_bind (wpAny_lookBehind hoD (by rw [hdD]; exact pastItsLine_dict (Nat.le_trans hcD (by rw [List.length_cons]; omega))) ?_)
  exact wpAny_pure (h _ ⟨(hs2.2 _ (Ne.symm I.ne)).trans I.obj, hn2, I.ne⟩ hs2)

/-- C(..): the dict at the heap's end, the instance behind it; then its __init__ -/
theorem make_map {R : Result → Shared → Prop} {vs : List Value} {kw : List (Str × Value)} (X : K.In s.heap) (hm : PySem.W.makesIn K C = true)
    (hi : PySem.W.findIn K (.ref C) "__init__" = some (some (.ref f))) (hf : PySem.W.typeIn K (.ref f) = some (.type "function"))
    (h : codeAny (model prog w) (A.under (.builtin "type.__call__" ⟨.ref C :: vs, kw⟩)) (.call (.ref f) ⟨.ref (s.heap.objs.size + 1) :: vs, kw⟩) (PySem.W.InitBack (s.heap.objs.size + 1) R)
      { s with heap := (s.heap.push PySem.W.emptyDict).push (PySem.W.instObj C s.heap.objs.size) }) :
    codeAny (model prog w) A (.call (.ref C) ⟨vs, kw⟩) R s := by
  obtain ⟨hh, g, d, t, os⟩ := s
  exact PySem.W.make_core (PySem.W.makes_of X hm) (PySem.W.looks_findIn X hi) (fun self => PySem.W.bind_fn X self hf) (.inl rfl) h
end

/-! ### the attributes as a list of pairs -/
noncomputable def putF (f : Str) (v : V) : List (Str × V) → List (Str × V)
  | [] => [(f, v)]
  | (g, x) :: r => if g = f then (g, v) :: r else (g, x) :: putF f v r
theorem lookup_putF (f g : Str) (v : V) : ∀ fs : List (Str × V), (putF f v fs).lookup g = if g = f then some v else fs.lookup g
  | [] => by
    show List.lookup g [(f, v)] = _
    by_cases h : g = f
    · have hb : (g == f) = true := beq_iff_eq.mpr h
      simp only [List.lookup, hb, if_pos h]
    · have hb : (g == f) = false := beq_eq_false_iff_ne.mpr h
      simp only [List.lookup, hb, if_neg h]
  | (k, x) :: r => by
    have ih := lookup_putF f g v r
    rw [show putF f v ((k, x) :: r) = (if k = f then (k, v) :: r else (k, x) :: putF f v r) from rfl]
    by_cases hk : k = f
    · rw [if_pos hk]
      by_cases h : g = k
      · have hb : (g == k) = true := beq_iff_eq.mpr h
        simp only [List.lookup, hb, if_pos (h.trans hk)]
      · have hb : (g == k) = false := beq_eq_false_iff_ne.mpr h
        simp only [List.lookup, hb, if_neg (fun e : g = f => h (e.trans hk.symm))]
    · rw [if_neg hk]
      by_cases h : g = k
      · have hb : (g == k) = true := beq_iff_eq.mpr h
        simp only [List.lookup, hb, if_neg (fun e : g = f => hk (h.symm.trans e))]
      · have hb : (g == k) = false := beq_eq_false_iff_ne.mpr h
        simp only [List.lookup, hb]
        exact ih
theorem keys_putF (f : Str) (v : V) : ∀ fs : List (Str × V), f ∈ (putF f v fs).map (·.1) ∧ ∀ g, g ∈ fs.map (·.1) → g ∈ (putF f v fs).map (·.1)
  | [] => ⟨by simp [putF], fun g h => by simp at h⟩
  | (k, x) :: r => by
    obtain ⟨i1, i2⟩ := keys_putF f v r
    rw [show putF f v ((k, x) :: r) = (if k = f then (k, v) :: r else (k, x) :: putF f v r) from rfl]
    by_cases hk : k = f
    · rw [if_pos hk]
      subst hk
      exact ⟨by simp, fun g h => by simpa using h⟩
    · rw [if_neg hk]
      refine ⟨?_, fun g h => ?_⟩
      · rw [List.map_cons]
        exact List.mem_cons_of_mem _ i1
      · rw [List.map_cons] at h ⊢
        rcases List.mem_cons.mp h with e | e
        · exact List.mem_cons.mpr (.inl e)
        · exact List.mem_cons_of_mem _ (i2 g e)
theorem length_putF (f : Str) (v : V) : ∀ fs : List (Str × V), (putF f v fs).length ≤ fs.length + 1
  | [] => by simp [putF]
  | (k, x) :: r => by
    have ih := length_putF f v r
    rw [show putF f v ((k, x) :: r) = (if k = f then (k, v) :: r else (k, x) :: putF f v r) from rfl]
    by_cases hk : k = f
    · rw [if_pos hk, List.length_cons, List.length_cons]; omega
    · rw [if_neg hk, List.length_cons, List.length_cons]; omega

theorem RelO.some_of {v : V} {o : Option Value} (r : RelO (some v) o) : ∃ u, o = some u ∧ RelV v u := by
  cases o with
  | none => exact (show False from r).elim
  | some u => exact ⟨u, rfl, r⟩
theorem RelO.none_of {o : Option Value} (r : RelO none o) : o = none := by
  cases o with
  | none => rfl
  | some u => exact (show False from r).elim
theorem handed_of {v : V} {u : Value} (r : RelV v u) : PySem.W.handedIn u = true := by
  cases v with
  | non => cases (show u = Value.none from r); rfl
  | bl b => cases (show u = Value.bool b from r); rfl
  | int i => obtain ⟨t, e⟩ := (show ∃ t, u = Value.int i t from r); cases e; rfl
  | str x => obtain ⟨t, e⟩ := (show ∃ t, u = Value.str x t from r); cases e; rfl
  | byt b => obtain ⟨t, e⟩ := (show ∃ t, u = Value.bytes b t from r); cases e; rfl
  | flt b => obtain ⟨t, e⟩ := (show ∃ t, u = Value.float b t from r); cases e; rfl
  | ref a => cases (show u = Value.ref a from r); rfl
  | ty n => cases (show u = Value.type n from r); rfl

section
variable {P : Program} {w : World} {H H' : Hp} {h h' : Heap} {a C dx : Addr} {fs fs' : List (Str × V)}
theorem ins_get (hok : HOk P w H h) (e : H a = some (.ins C dx fs)) : ∃ mA, ObjM h a dx C mA ∧ (∀ f, RelO (fs.lookup f) (mA f)) ∧ PySem.Within mA (fs.map (·.1)) ∧ fs.length ≤ 1000 ∧ H dx = some (.own a) := by
  obtain ⟨d, z, ne, ob, mA, n, r, q⟩ := (show ObjOk P w H h a (.ins C dx fs) from hok a _ e)
  exact ⟨mA, ⟨ob, n, ne⟩, r, q, z, d⟩
end

/-! ### what of the text a class must have -/
structure Cls (K : PySem.W.Frag) (C : Addr) : Prop where
  pg : PySem.W.plainGet K C Str.empty = true
  hd : PySem.W.hasDictIn K C = true
  po : PySem.W.plainOver K C = true
  sa : PySem.W.findIn K (.ref C) "__setattr__" = some (some (.builtin "object.__setattr__"))
theorem Cls.get {K : PySem.W.Frag} {C : Addr} (c : Cls K C) (f : Str) : PySem.W.plainGet K C f = true := c.pg
/-- no class of it has the name -/
noncomputable def NoAttr (K : PySem.W.Frag) (C : Addr) (f : Str) : Prop := PySem.W.findIn K (.ref C) f = some none
theorem NoAttr.taker {K : PySem.W.Frag} {C : Addr} {f : Str} (n : NoAttr K C f) : PySem.W.takerIn K C f = some none := by
  unfold PySem.W.takerIn
  rw [show PySem.W.findIn K (.ref C) f = some none from n]
  rfl
/-- a method: a plain def of the class or of one above it -/
structure Meth (K : PySem.W.Frag) (C : Addr) (m : Str) (f : Addr) : Prop where
  at_ : PySem.W.findIn K (.ref C) m = some (some (.ref f))
  fn : PySem.W.isFn K (.ref f) = true
  kp : PySem.W.keepIn K (.ref f) = true

section
variable {X : Cx} {pins : List (Addr × Obj)} {σ : St} {H : Hp} {s : Shared} {a C dx : Addr} {fs : List (Str × V)} {f : Str} {v : V} {A : Around} {E : Value → Shared → Prop}

theorem getattr_ok {b : Bool} {Q : Value → Shared → Prop} (I : Inv X pins σ H s) (e : H a = some (.ins C dx fs)) (c : Cls X.K C) (n : NoAttr X.K C f) (l : fs.lookup f = some v)
    (h : ∀ u s', Inv X pins σ H s' → RelV v u → Q u s') : wpAny (model X.prog X.w) A (getAttr (.ref a) f b) Q E s := by
  obtain ⟨mA, O, r, _, _, _⟩ := ins_get I.hok e
  obtain ⟨u, hu, ru⟩ := RelO.some_of (v := v) (o := mA f) (by rw [← l]; exact r f)
  exact get_map I.kIn O (c.get f) c.hd n hu (handed_of ru) (h u _ (I.tok _) ru)

theorem getmeth_ok {m : Str} {g : Addr} {pl : Sem Bool} {Q : Value × List Value → Shared → Prop} (I : Inv X pins σ H s) (e : H a = some (.ins C dx fs)) (c : Cls X.K C) (k : Meth X.K C m g) (l : fs.lookup m = none)
    (h : Q (.ref g, [.ref a]) s) : wpAny (model X.prog X.w) A (getMethod (.ref a) m pl) Q E s := by
  obtain ⟨mA, O, r, _, _, _⟩ := ins_get I.hok e
  have hn : mA m = none := RelO.none_of (by rw [← l]; exact r m)
  exact get_meth I.kIn O (c.get m) k.at_ k.fn hn h

theorem setattr_ok {y : V} {u : Value} {Q : Unit → Shared → Prop} (I : Inv X pins σ H s) (e : H a = some (.ins C dx fs)) (c : Cls X.K C) (n : NoAttr X.K C f) (hl : fs.length < 1000) (ry : RelV y u)
    (h : ∀ s', Inv X pins σ (upd H a (.ins C dx (putF f y fs))) s' → Q () s') : wpAny (model X.prog X.w) A (setAttr (.ref a) f u) Q E s := by
  obtain ⟨mA, O, r, wi, _, ho⟩ := ins_get I.hok e
  have hz : (fs.map (·.1)).length ≤ sizeLine := by rw [List.length_map, sizeLine_eq]; omega
  refine set_map I.kIn O c.sa c.po n.taker c.hd wi hz fun h' O' sb => h _ ?_
  have hd : ∃ o, h'.get? dx = some o := let ⟨o, _, _, e', _⟩ := O'.ns; ⟨o, e'⟩
  refine I.write (x := a) (e := dx) (by rw [e]; exact True.intro) (.inr ho) (fun b q hb z => (sb.2 b hb).trans z) hd ?_
  refine ⟨by rw [upd_ne O.ne]; exact ho, ?_, O.ne, O'.obj, _, O'.ns, fun g => ?_, fun g hg => ?_⟩
  · have := length_putF f y fs; omega
  · show RelO ((putF f y fs).lookup g) (if g = f then some u else mA g)
    rw [lookup_putF]
    by_cases q : g = f
    · rw [if_pos q, if_pos q]; exact ry
    · rw [if_neg q, if_neg q]; exact r g
  · by_cases q : g = f
    · rw [q]; exact (keys_putF f y fs).1
    · refine (keys_putF f y fs).2 g (wi g fun z => hg ?_)
      show (if g = f then some u else mA g) = none
      rw [if_neg q]; exact z

/-- a new instance, tracked, without attributes -/
theorem Inv.made (I : Inv X pins σ H s) : Inv X pins σ (upd (upd H s.heap.objs.size (.own (s.heap.objs.size + 1))) (s.heap.objs.size + 1) (.ins C s.heap.objs.size []))
    { s with heap := (s.heap.push PySem.W.emptyDict).push (PySem.W.instObj C s.heap.objs.size) } := by
  have e1 : (s.heap.push PySem.W.emptyDict).get? s.heap.objs.size = some PySem.W.emptyDict := Heap.get?_push_size s.heap rfl
  have e2 : ((s.heap.push PySem.W.emptyDict).push (PySem.W.instObj C s.heap.objs.size)).get? (s.heap.objs.size + 1) = some (PySem.W.instObj C s.heap.objs.size) := by
    have := Heap.get?_push_size (s.heap.push PySem.W.emptyDict) (o := PySem.W.instObj C s.heap.objs.size) rfl
    rwa [Heap.size_push] at this
  have e3 : (s.heap.push PySem.W.emptyDict).Ns s.heap.objs.size (fun _ => none) := ⟨PySem.W.emptyDict, #[], _, e1, rfl, (fun e he => absurd he (by simp)), fun _ => rfl⟩
  have I1 := I.laid (a := s.heap.objs.size) (o := .own (s.heap.objs.size + 1)) (h' := s.heap.push PySem.W.emptyDict) (t' := s.toks) (fun b u q => Heap.get?_push_of_some _ q) (Nat.le_refl _) ⟨_, e1⟩
  refine I1.laid (a := s.heap.objs.size + 1) (o := .ins C s.heap.objs.size []) (t' := s.toks) (fun b u q => Heap.get?_push_of_some _ q) (Nat.le_of_eq (Heap.size_push _ _)) ?_
  have ne : s.heap.objs.size ≠ s.heap.objs.size + 1 := Nat.ne_of_lt (Nat.lt_succ_self _)
  refine ⟨by rw [upd_ne ne, upd_same], Nat.zero_le _, ne, e2, fun _ => none, (Heap.Ns1.of_empty e3).at fun o q => Heap.get?_push_of_some _ q, fun _ => True.intro, fun y hy => absurd rfl hy⟩

/-- e.f where nothing but the object is asked: through attributeBase (super) and the last hold -/
theorem attr_of {prog : Program} {w : World} {env : Env} {e : Expr} {f : Str} {pos : Pos} {s : Shared} {Q : Value → Shared → Prop} (hb : attributeBase e f env (eval e env) = eval e env)
    (h : wpAny (model prog w) A (eval e env) (fun o s₁ => wpAny (model prog w) A (getAttr o f true) Q E s₁) E s) : wpAny (model prog w) A (eval (.Attribute e f pos) env) Q E s :=
  Attribute_any_ h (by rw [arm_eval_Attribute, hb])
end

/-! ### readings and rules -/
/-- e.f, an attribute of the instance -/
noncomputable def tFld (K : PySem.W.Frag) (ta : TE) (f : Str) : TE := fun σ H Q => ta σ H fun x H1 => ∃ a C dx fs v, x = .ref a ∧ H1 a = some (.ins C dx fs) ∧ Cls K C ∧ NoAttr K C f ∧ fs.lookup f = some v ∧ Q v H1
/-- e.f = value -/
noncomputable def sFld (K : PySem.W.Frag) (ta tv : TE) (f : Str) : TS := fun D σ H => tv σ H fun y H1 => ta σ H1 fun x H2 => ∃ a C dx fs, x = .ref a ∧ H2 a = some (.ins C dx fs) ∧ Cls K C ∧ NoAttr K C f ∧ fs.length < 1000 ∧
  D.nx σ (upd H2 a (.ins C dx (putF f y fs)))
section
variable {X : Cx} {o e value : Expr} {f : Str} {pos pos' tpos : Pos} {ta tv : TE}
theorem pe_fld (he : PE X e ta) (hb : attributeBase e f X.env (eval e X.env) = eval e X.env) : PE X (.Attribute e f pos) (tFld X.K ta f) := .mk <| by
  intro pins s σ H Q I h
  refine attr_of hb (thn (he pins s σ H _ I h) fun u s1 ⟨x, H1, I1, rx, a, C, dx, fs, v, ex, ea, c, n, l, q⟩ => ?_)
  subst ex
  obtain rfl : u = Value.ref a := rx
  exact getattr_ok I1 ea c n l fun u' s2 I2 ru => ⟨v, H1, I2, ru, q⟩
theorem ps_fld (ha : PE X o ta) (hv : PE X value tv) (hs : swapsWith value (some (.Attribute o f pos')) pos.line X.env = pure false) : PS X (.Assign [.Attribute o f pos'] value pos) (sFld X.K ta tv f) := .mk <| by
  intro pins s σ H D I h
  refine plainObj_wpAny_Assign_Attribute (thn (hv pins s σ H _ I h) fun u s1 ⟨y, H1, I1, ry, q⟩ => thn (ha pins s1 σ H1 _ I1 q) fun ov s2 ⟨x, H2, I2, rx, a, C, dx, fs, ex, ea, c, n, l, q2⟩ => ?_) hs
  subst ex
  obtain rfl : ov = Value.ref a := rx
  exact setattr_ok I2 ea c n l ry fun s3 I3 => ⟨σ, _, I3, q2⟩
end

/-! ### isinstance -/
section
variable {X : Cx} {pins : List (Addr × Obj)} {σ : St} {H : Hp} {s : Shared} {A : Around} {E : Value → Shared → Prop} {Q : Value → Shared → Prop} {c : Value} {b : Bool}
end
end L2

namespace L2
open PySem PySem.Spec PyProof.Rows

/-! ### room -/
structure Room (k : Nat) (A : Around) : Prop where
  hd : A.handled = none
  dp : A.depth + 3 * k + 5 < recursionLimit
  un : A.units + 16 * k + 200 < cLine
theorem Room.mono {j k : Nat} {A : Around} (r : Room k A) (h : j ≤ k) : Room j A := ⟨r.hd, by have := r.dp; omega, by have := r.un; omega⟩
theorem Room.deeper {k : Nat} {A : Around} (r : Room (k + 1) A) (env : Env) : Room k (A.deeper env) :=
  ⟨r.hd, by have := r.dp; show A.depth + 1 + 3 * k + 5 < _; omega, by have := r.un; show A.units + 3 + 16 * k + 200 < _; omega⟩
theorem make_depth {A : Around} {C : Addr} {us : List Value} {kw : List (Str × Value)} : (A.under (.builtin "type.__call__" ⟨.ref C :: us, kw⟩)).depth = A.depth + 1 := by
  first | rfl | simp [Around.under, Code.weight, Code.isCreation, Code.isGuard, Code.isCaller, Code.frames, Code.isFrame, guardIds]
theorem make_units {A : Around} {C : Addr} {us : List Value} {kw : List (Str × Value)} : (A.under (.builtin "type.__call__" ⟨.ref C :: us, kw⟩)).units = A.units + 1 := by
  first | rfl | simp [Around.under, Code.cUnits, Code.frames, Code.isFrame]
theorem Room.make {k : Nat} {A : Around} (r : Room (k + 1) A) (C : Addr) (us : List Value) (kw : List (Str × Value)) : Room k (A.under (.builtin "type.__call__" ⟨.ref C :: us, kw⟩)) :=
  ⟨r.hd, by have := r.dp; rw [make_depth]; omega, by have := r.un; rw [make_units]; omega⟩
theorem Room.depth {k : Nat} {A : Around} (r : Room k A) : A.depth < recursionLimit := by have := r.dp; omega
theorem Room.units {k : Nat} {A : Around} (r : Room k A) : A.units + 64 < cLine := by have := r.un; omega
/-! ### argument lists and displays -/
noncomputable def tNil : TA := fun _ H Q => Q [] H
noncomputable def tCons (ta : TE) (tr : TA) : TA := fun σ H Q => ta σ H fun x H1 => tr σ H1 fun xs H2 => Q (x :: xs) H2
section
variable {X : Cx} {e : Expr} {es : List Expr} {te : TE} {t : TA} {pos : Pos}
theorem pa_nil : PA X [] tNil := .mk <| fun _ _ _ _ H Q I h => Calls.spliced_nil ⟨[], H, I, .nil, h⟩
theorem pa_cons (ha : PE X e te) (hr : PA X es t) (hs : starEach (e :: es) X.env = (false, eval e X.env) :: starEach es X.env := by rfl) : PA X (e :: es) (tCons te t) := .mk <| by
  intro pos pins s σ H Q I h
  rw [hs]
  show wpAny _ _ (spliced ((false, eval e X.env) :: backTo pos (starEach es X.env))) _ _ s
  refine Calls.spliced_cons (thn (ha pins s σ H _ I h) fun u s1 ⟨x, H1, I1, r1, q1⟩ => ?_)
  exact thn (hr pos pins s1 σ H1 _ I1 q1) fun us s2 ⟨xs, H2, I2, r2, q2⟩ => ⟨x :: xs, H2, I2, .cons r1 r2, q2⟩

/-- a tuple, a list of written items -/
noncomputable def tTup (t : TA) : TE := fun σ H Q => t σ H fun xs H1 => xs.length ≤ sizeLine ∧ ∀ p, H1 p = none → Q (.ref p) (upd H1 p (.tup xs))
noncomputable def tLst (t : TA) : TE := fun σ H Q => t σ H fun xs H1 => xs.length ≤ sizeLine ∧ ∀ p, H1 p = none → Q (.ref p) (upd H1 p (.lst xs))
theorem pe_tup {x1} (h : PA X es t) : PE X (.Tuple es x1 pos) (tTup t) := .mk <| by
  intro pins s σ H Q I hq
  refine wpAny_Tuple_spliced (thn (h pos pins s σ H _ I hq) fun us s1 ⟨xs, H1, I1, r, z, q⟩ => ⟨by rw [← r.length]; exact z, ?_⟩)
  have hf : H1 s1.heap.objs.size = none := I1.hok.fresh (Nat.le_refl _)
  refine ⟨.ref s1.heap.objs.size, upd H1 s1.heap.objs.size (.tup xs), I1.laid (t' := s1.toks) (fun b u e => Heap.get?_push_of_some _ e) (Nat.le_refl _) ?_, rfl, q _ hf⟩
  exact ⟨z, us, r, ⟨_, Heap.get?_push_size _ rfl, rfl, _, rfl⟩⟩
theorem pe_lst (h : PA X es t) : PE X (.List es pos) (tLst t) := .mk <| by
  intro pins s σ H Q I hq
  refine wpAny_List_spliced (thn (h pos pins s σ H _ I hq) fun us s1 ⟨xs, H1, I1, r, z, q⟩ => ⟨by rw [← r.length]; exact z, ?_⟩)
  have hf : H1 s1.heap.objs.size = none := I1.hok.fresh (Nat.le_refl _)
  refine ⟨.ref s1.heap.objs.size, upd H1 s1.heap.objs.size (.lst xs), I1.laid (t' := s1.toks) (fun b u e => Heap.get?_push_of_some _ e) (Nat.le_refl _) ?_, rfl, q _ hf⟩
  exact ⟨z, us, 0, r, Heap.get?_push_size _ rfl⟩
end

/-! ### what a def promises -/
/-- a def's promise: the bound arguments in the parameters' order, the heap, the wanted end, the wanted exception -/
noncomputable abbrev Sp := List V → Hp → VK → XK → Prop
/-- how an exception lies behind a call (file 08 gives it): the callers' frames, abstract heap and state ahead of the call, the wish, the exception, the state -/
noncomputable abbrev CXT := List Env → Hp → Shared → XK → Value → Shared → Prop

/-- the state at a call -/
structure Env0 (P : Program) (w : World) (K : PySem.W.Frag) (mg : Str → Option Value) (base : Heap) (A : Around) (outer : List Env) (s : Shared) (H : Hp) : Prop where
  frames : A.frames = some outer
  mod : Mod K mg base
  bs : ∀ b o, base.get? b = some o → s.heap.get? b = some o ∧ H b = none
  bsz : base.objs.size ≤ s.heap.objs.size
  funs : s.heap.FunFrames base outer
  frf : ∀ b ∈ frs outer, H b = none
  hok : HOk P w H s.heap
  bare : AllBare s.gens
/-- a call's end -/
noncomputable def CE (outer : List Env) (P : Program) (w : World) (H : Hp) (s : Shared) (Q : VK) (u : Value) (s' : Shared) : Prop :=
  ∃ v H', s'.os = s.os ∧ AllBare s'.gens ∧ Un (frs outer) [] H H' s.heap s'.heap ∧ HOk P w H' s'.heap ∧ RelV v u ∧ Q v H'
noncomputable def CR (CX : CXT) (outer : List Env) (P : Program) (w : World) (H : Hp) (s : Shared) (Q : VK) (E : XK) (r : Result) (s' : Shared) : Prop :=
  match r with
  | .ok (.ret u) => CE outer P w H s Q u s'
  | .ok _ => False
  | .error e => CX outer H s E e s'
structure FnOk (P : Program) (w : World) (K : PySem.W.Frag) (mg : Str → Option Value) (base : Heap) (CX : CXT) (k : Nat) (f : Addr) (fd : FuncData) (ps : List Str) (sp : Sp) : Prop where
  len : ∀ vs H Q E, sp vs H Q E → vs.length = ps.length
  run : ∀ (A : Around) (outer : List Env) (s : Shared) (H : Hp) (args : Args) (us : List Value) (vs : List V) (Q : VK) (E : XK), Room k A → Env0 P w K mg base A outer s H → BindsTo s fd args (ps.zip us) → Vals vs us → sp vs H Q E →
    codeAny (model P w) A (.call (.ref f) args) (CR CX outer P w H s Q E) s
theorem Env0.make {P : Program} {w : World} {K : PySem.W.Frag} {mg : Str → Option Value} {base : Heap} {A : Around} {outer : List Env} {s : Shared} {H : Hp} (e : Env0 P w K mg base A outer s H) (C : Addr) (us : List Value) (kw : List (Str × Value)) :
    Env0 P w K mg base (A.under (.builtin "type.__call__" ⟨.ref C :: us, kw⟩)) outer s H := ⟨by first | exact e.frames | (simpa [Around.under, Code.envs, Code.isFrame, pushEnvs] using e.frames), e.mod, e.bs, e.bsz, e.funs, e.frf, e.hok, e.bare⟩
section
variable {X : Cx} {pins : List (Addr × Obj)} {σ : St} {H : Hp} {s s' : Shared}
/-- from a body: what a callee wants -/
theorem Inv.env0 (I : Inv X pins σ H s) : Env0 X.prog X.w X.K X.mg X.base X.A X.stack s H :=
  ⟨I.ok.frames, I.ok.mod, I.bs, Nat.le_trans I.ok.bsz I.sz, I.stack, I.stkFree, I.hok, I.bare⟩
/-- behind a call -/
theorem Inv.after {Q : VK} {u : Value} (I : Inv X pins σ H s) (h : CE X.stack X.prog X.w H s Q u s') : EP X pins σ Q u s' := by
  obtain ⟨v, H', os, bare, un, hok, r, q⟩ := h
  obtain ⟨hh, g, d, t, os'⟩ := s'
  obtain rfl : os' = s.os := os
  exact ⟨v, H', I.call (h' := hh) (g' := g) (d' := d) (t' := t) (ch := []) un hok bare (fun b z => absurd z (by simp)), r, q⟩
end

/-! ### calls -/
/-- f(..): the written arguments, then the defaults dvs; E: what is wanted of an exception -/
noncomputable def tCall (sp : Sp) (dvs : List V) (E : XK) (t : TA) : TE := fun σ H Q => t σ H fun vs H1 => sp (vs ++ dvs) H1 Q E
/-- o.m(..) of an instance of the class at C -/
noncomputable def tMeth (C : Addr) (m : Str) (sp : Sp) (dvs : List V) (E : XK) (ta : TE) (t : TA) : TE := fun σ H Q => ta σ H fun x H1 => ∃ a dx fs, x = .ref a ∧ H1 a = some (.ins C dx fs) ∧ fs.lookup m = none ∧
  t σ H1 fun vs H2 => sp (x :: (vs ++ dvs)) H2 Q E
/-- C(..): a new instance and its dict, then __init__ -/
noncomputable def tMake (C : Addr) (sp : Sp) (dvs : List V) (E : XK) (t : TA) : TE := fun σ H Q => t σ H fun vs H1 => ∀ x dx, H1 x = none → H1 dx = none → dx ≠ x →
  sp (.ref x :: (vs ++ dvs)) (upd (upd H1 dx (.own x)) x (.ins C dx [])) (fun v H2 => v = .non ∧ Q (.ref x) H2) E

/-- how the parameters are bound: us the positional arguments, kw the keywords' values by name, ds the defaults that fill up -/
noncomputable def Binds (K : PySem.W.Frag) (fd : FuncData) (ps : List Str) (ds : List Value) : Prop :=
  ∀ (s : Shared) (us : List Value), K.In s.heap → (us ++ ds).length = ps.length → BindsTo s fd ⟨us, []⟩ (ps.zip (us ++ ds))
/-- every parameter is given -/
theorem Binds.all {K : PySem.W.Frag} {fd : FuncData} {ps : List Str} (h : ∀ us : List Value, us.length = ps.length → bindArgs fd ⟨us, []⟩ = pure (ps.zip us)) : Binds K fd ps [] := fun s us _ hl => by
  rw [List.append_nil] at hl ⊢
  exact .of_eq (h us hl)

/-- an exception of a callee reaches what this body wants of exceptions -/
noncomputable def Passes (CX : CXT) (X : Cx) (E : XK) : Prop := ∀ (pins : List (Addr × Obj)) (σ : St) (H : Hp) (s : Shared) (e : Value) (s' : Shared), Inv X pins σ H s → CX X.stack H s E e s' → X.xe e s'

section
variable {X : Cx} {CX : CXT} {k : Nat} {f C : Addr} {fd : FuncData} {ps : List Str} {sp : Sp} {dvs : List V} {ds : List Value} {E : XK} {x m : Str} {p pos apos : Pos} {e o : Expr} {es : List Expr} {ta : TE} {t : TA}

/-- the callee runs -/
theorem run_fn {pins : List (Addr × Obj)} {σ : St} {H : Hp} {s : Shared} {Q : VK} {us : List Value} {vs : List V} (F : FnOk X.prog X.w X.K X.mg X.base CX k f fd ps sp) (hr : Room k X.A) (hb : Binds X.K fd ps ds) (hd : Vals dvs ds) (hx : Passes CX X E)
    (I : Inv X pins σ H s) (r : Vals vs us) (h : sp (vs ++ dvs) H Q E) : wpAny (model X.prog X.w) X.A (call (.ref f) us) (EP X pins σ Q) X.xe s := by
  have r2 : Vals (vs ++ dvs) (us ++ ds) := r.append hd
  have hl : (us ++ ds).length = ps.length := by rw [← r2.length]; exact F.len _ _ _ _ h
  refine wpAny_call (codeAny_mono (F.run X.A X.stack s H ⟨us, []⟩ (us ++ ds) (vs ++ dvs) Q E hr I.env0 (hb s us I.kIn hl) r2 h) fun r s' hq => ?_)
  cases r with
  | error e => exact hx pins σ H s e s' I hq
  | ok fl =>
    cases fl with
    | ret u => exact I.after hq
    | next => exact False.elim hq
    | brk => exact False.elim hq
    | cont => exact False.elim hq

theorem pe_call (F : FnOk X.prog X.w X.K X.mg X.base CX k f fd ps sp) (hr : Room k X.A) (hg : Gl X x) (hm : X.mg x = some (.ref f)) (hk : PySem.W.keepIn X.K (.ref f) = true) (hb : Binds X.K fd ps ds) (hd : Vals dvs ds) (hx : Passes CX X E)
    (ha : PA X (e :: es) t) (hdb : (x == ("__debug__" : Str)) = false := by decide) (he : starEach (e :: es) X.env = (false, eval e X.env) :: starEach es X.env := by rfl) (hpl : (backTo pos (starEach es X.env)).any (·.1) = false := by rfl) :
    PE X (.Call (.Name x p) (e :: es) [] pos) (tCall sp dvs E t) := .mk <| by
  intro pins s σ H Q I h
  refine wpAny_Call_Name_kw (ld_glob I hg hm ?_ hdb)
  refine PySem.W.callWith_K (h₀ := X.base) I.ok.mod.kin hk (thn (ha pos pins s σ H _ I h) fun us s1 ⟨vs, H1, I1, r, q⟩ => ⟨I1.kIn, ?_⟩) he hpl
  exact run_fn F hr hb hd hx I1 r q
/-- o.m(e, ..) -/
theorem pe_meth {pl : Sem Bool} (he : PE X o ta) (c : Cls X.K C) (hm : Meth X.K C m f) (F : FnOk X.prog X.w X.K X.mg X.base CX k f fd ps sp) (hr : Room k X.A) (hb : Binds X.K fd ps ds) (hd : Vals dvs ds) (hx : Passes CX X E) (ha : PA X (e :: es) t)
    (hst : starEach (e :: es) X.env = (false, eval e X.env) :: starEach es X.env := by rfl) (hpl : (backTo pos (starEach es X.env)).any (·.1) = false := by rfl)
    (ht : eval (.Call (.Attribute o m apos) (e :: es) [] pos) X.env = (do
      let ov ← eval o X.env
      standAt apos.atName
      let (f, first) ← holding [ov] (getMethod ov m pl)
      callWith pos f first (backTo pos (starEach (e :: es) X.env)) (backToKw pos (keywordEach [] X.env))) := by rfl) :
    PE X (.Call (.Attribute o m apos) (e :: es) [] pos) (tMeth C m sp dvs E ta t) := .mk <| by
  intro pins s σ H Q I h
  refine PySem.W.methodCall_KW (pl := pl) (thn (he pins s σ H _ I h) fun u s1 ⟨x, H1, I1, rx, a, dx, fs, ex, ea, l, q⟩ => ?_) ht
  subst ex
  obtain rfl : u = Value.ref a := rx
  refine getmeth_ok I1 ea c hm l ?_
  refine PySem.W.callWith_K (first := [.ref a]) (h₀ := X.base) I.ok.mod.kin hm.kp (thn (ha pos pins s1 σ H1 _ I1 q) fun us s2 ⟨vs, H2, I2, r, q2⟩ => ⟨I2.kIn, ?_⟩) hst hpl
  exact run_fn (us := .ref a :: us) (vs := .ref a :: vs) F hr hb hd hx I2 (.cons rfl r) q2
/-- o.m() -/
theorem pe_meth0 {pl : Sem Bool} (he : PE X o ta) (c : Cls X.K C) (hm : Meth X.K C m f) (F : FnOk X.prog X.w X.K X.mg X.base CX k f fd ps sp) (hr : Room k X.A) (hb : Binds X.K fd ps ds) (hd : Vals dvs ds) (hx : Passes CX X E)
    (ht : eval (.Call (.Attribute o m apos) [] [] pos) X.env = (do
      let ov ← eval o X.env
      standAt apos.atName
      let (f, first) ← holding [ov] (getMethod ov m pl)
      callWith pos f first (backTo pos (starEach [] X.env)) (backToKw pos (keywordEach [] X.env))) := by rfl) :
    PE X (.Call (.Attribute o m apos) [] [] pos) (tMeth C m sp dvs E ta tNil) := .mk <| by
  intro pins s σ H Q I h
  refine PySem.W.methodCall_KW (pl := pl) (thn (he pins s σ H _ I h) fun u s1 ⟨x, H1, I1, rx, a, dx, fs, ex, ea, l, q⟩ => ?_) ht
  subst ex
  obtain rfl : u = Value.ref a := rx
  refine getmeth_ok I1 ea c hm l ?_
  exact PySem.W.callWith_K0 (first := [.ref a]) I1.kIn hm.kp (run_fn (us := [.ref a]) (vs := [.ref a]) F hr hb hd hx I1 (.cons rfl .nil) q)

/-- what a class must have to be made -/
structure Mk (K : PySem.W.Frag) (C f : Addr) : Prop where
  makes : PySem.W.makesIn K C = true
  init : PySem.W.findIn K (.ref C) "__init__" = some (some (.ref f))
  fn : PySem.W.isFn K (.ref f) = true
  kp : PySem.W.keepIn K (.ref C) = true

theorem run_make {pins : List (Addr × Obj)} {σ : St} {H : Hp} {s : Shared} {Q : VK} {us : List Value} {vs : List V} (M : Mk X.K C f) (F : FnOk X.prog X.w X.K X.mg X.base CX k f fd ps sp) (hr : Room (k + 1) X.A) (hb : Binds X.K fd ps ds) (hd : Vals dvs ds)
    (hx : Passes CX X E) (I : Inv X pins σ H s) (r : Vals vs us)
    (h : ∀ x dx, H x = none → H dx = none → dx ≠ x → sp (.ref x :: (vs ++ dvs)) (upd (upd H dx (.own x)) x (.ins C dx [])) (fun v H2 => v = .non ∧ Q (.ref x) H2) E) :
    wpAny (model X.prog X.w) X.A (call (.ref C) us) (EP X pins σ Q) X.xe s := by
  have hq := h (s.heap.objs.size + 1) s.heap.objs.size (I.hok.fresh (Nat.le_succ _)) (I.hok.fresh (Nat.le_refl _)) (Nat.ne_of_lt (Nat.lt_succ_self _))
  have I2 := Inv.made (C := C) I
  have r2 : Vals (V.ref (s.heap.objs.size + 1) :: (vs ++ dvs)) (Value.ref (s.heap.objs.size + 1) :: (us ++ ds)) := .cons rfl (r.append hd)
  have hl : (Value.ref (s.heap.objs.size + 1) :: us ++ ds).length = ps.length := by
    have e := r2.length
    rw [F.len _ _ _ _ hq] at e
    exact e.symm
  refine wpAny_call (make_map (f := f) I.kIn M.makes M.init (beq_iff_eq.mp M.fn) (codeAny_mono (F.run _ X.stack _ _ ⟨Value.ref (s.heap.objs.size + 1) :: us, []⟩ (Value.ref (s.heap.objs.size + 1) :: (us ++ ds)) _ _ E (hr.make C us [])
    (I2.env0.make C us []) (hb _ (Value.ref (s.heap.objs.size + 1) :: us) I2.kIn hl) r2 hq) fun r s' hq' => ?_))
  cases r with
  | error e => exact hx pins σ _ _ e s' I2 hq'
  | ok fl =>
    cases fl with
    | ret u =>
      obtain ⟨v, H', I3, rv, ev, q3⟩ := I2.after hq'
      subst ev
      exact ⟨rv, ⟨V.ref (s.heap.objs.size + 1), H', I3, rfl, q3⟩⟩
    | next => exact False.elim hq'
    | brk => exact False.elim hq'
    | cont => exact False.elim hq'
theorem pe_make0 (M : Mk X.K C f) (F : FnOk X.prog X.w X.K X.mg X.base CX k f fd ps sp) (hr : Room (k + 1) X.A) (hg : Gl X x) (hm : X.mg x = some (.ref C)) (hb : Binds X.K fd ps ds) (hd : Vals dvs ds) (hx : Passes CX X E)
    (hdb : (x == ("__debug__" : Str)) = false := by decide) : PE X (.Call (.Name x p) [] [] pos) (tMake C sp dvs E tNil) := .mk <| by
  intro pins s σ H Q I h
  refine wpAny_Call_Name_kw (ld_glob I hg hm ?_ hdb)
  exact PySem.W.callWith_K0 I.kIn M.kp (run_make (us := []) M F hr hb hd hx I .nil h)
end

/-! ### keywords -/
section
variable {X : Cx} {CX : CXT} {k : Nat} {f C : Addr} {fd : FuncData} {ps ks : List Str} {sp : Sp} {E : XK} {x m : Str} {p pos apos kpos : Pos} {e o : Expr} {es : List Expr} {kws : List Keyword} {te ta : TE} {t tk : TA} {nm : Option Str}
variable {g : List Value → List Value → List Value} {gV : List V → List V → List V}
end

/-! ### a def's body keeps its promise -/
/-- names: the parameters first -/
structure FnScope (N P : List Str) (sc : Scope) : Prop where
  kind : sc.kind = .function
  co : sc.isCoroutine = false
  gen : sc.isGenerator = false
  nd : N.Nodup
  pre : N.take P.length = P
  par : ∀ x ∈ P, sc.names.lookup x = some .local ∨ sc.names.lookup x = some .cell
  nofree : ∀ y ∈ sc.names, y.2 ≠ .free

theorem bindL_out {kindOf : Str → Option NameKind} {x : Str} : ∀ {binds : List (Str × Value)} {m : Str → Option Value}, (∀ v, (x, v) ∉ binds) → bindL kindOf binds m x = m x
  | [], _, _ => rfl
  | (n, v) :: r, m, h => by
    unfold bindL
    rw [bindL_out fun w hw => h w (List.mem_cons_of_mem _ hw)]
    split
    · have : x ≠ n := by rintro rfl; exact h v List.mem_cons_self
      simp [this]
    · rfl
theorem bindC_out {kindOf : Str → Option NameKind} {x : Str} : ∀ {binds : List (Str × Value)} {m : Str → Option Value}, (∀ v, (x, v) ∉ binds) → bindC kindOf binds m x = m x
  | [], _, _ => rfl
  | (n, v) :: r, m, h => by
    unfold bindC
    rw [bindC_out fun w hw => h w (List.mem_cons_of_mem _ hw)]
    split
    · rfl
    · have : x ≠ n := by rintro rfl; exact h v List.mem_cons_self
      simp [this]
theorem bindL_get {kindOf : Str → Option NameKind} {x : Str} {v : Value} : ∀ {P : List Str} {vs : List Value} {i : Nat} {m : Str → Option Value}, P.Nodup → P[i]? = some x → vs[i]? = some v → kindOf x = some .local →
    bindL kindOf (P.zip vs) m x = some v
  | [], _, _, _, _, h, _, _ => by simp at h
  | _ :: _, [], _, _, _, _, h, _ => by simp at h
  | p :: P, w :: vs, 0, m, nd, h1, h2, hk => by
    simp at h1 h2; subst h1; subst h2
    show bindL kindOf ((p, w) :: P.zip vs) m p = _
    unfold bindL
    rw [bindL_out fun v hv => (List.nodup_cons.mp nd).1 (List.of_mem_zip hv).1, if_pos hk]
    simp
  | p :: P, w :: vs, i + 1, m, nd, h1, h2, hk => by
    show bindL kindOf ((p, w) :: P.zip vs) m x = _
    unfold bindL
    exact bindL_get (i := i) (List.nodup_cons.mp nd).2 (by simpa using h1) (by simpa using h2) hk
theorem bindC_get {kindOf : Str → Option NameKind} {x : Str} {v : Value} : ∀ {P : List Str} {vs : List Value} {i : Nat} {m : Str → Option Value}, P.Nodup → P[i]? = some x → vs[i]? = some v → kindOf x ≠ some .local →
    bindC kindOf (P.zip vs) m x = some v
  | [], _, _, _, _, h, _, _ => by simp at h
  | _ :: _, [], _, _, _, _, h, _ => by simp at h
  | p :: P, w :: vs, 0, m, nd, h1, h2, hk => by
    simp at h1 h2; subst h1; subst h2
    show bindC kindOf ((p, w) :: P.zip vs) m p = _
    unfold bindC
    rw [bindC_out fun v hv => (List.nodup_cons.mp nd).1 (List.of_mem_zip hv).1, if_neg hk]
    simp
  | p :: P, w :: vs, i + 1, m, nd, h1, h2, hk => by
    show bindC kindOf ((p, w) :: P.zip vs) m x = _
    unfold bindC
    exact bindC_get (i := i) (List.nodup_cons.mp nd).2 (by simpa using h1) (by simpa using h2) hk

/-- the names' values at the entry -/
noncomputable def start (N : List Str) (vs : List V) : St := vs.map some ++ List.replicate (N.length - vs.length) none

/-- the context of a def's body, at its entry; an exception leaves the frame, then lies as CX says -/
noncomputable def cxOf (CX : CXT) (P : Program) (w : World) (K : PySem.W.Frag) (mg : Str → Option Value) (base : Heap) (N : List Str) (qual : Str) (scope : Scope) (f : Addr) (cd : Value) (A : Around) (outer : List Env) (s : Shared) (H : Hp) (E : XK) : Cx where
  prog := P
  w := w
  K := K
  mg := mg
  base := base
  A := A.deeper (envOfC qual scope s.heap.objs.size f cd)
  N := N
  s₀ := s
  H₀ := H
  env := envOfC qual scope s.heap.objs.size f cd
  outer := outer
  stack := envOfC qual scope s.heap.objs.size f cd :: outer
  ex := []
  calm := true
  fn := fun _ => true
  pn := []
  xe := fun e s' => wpAny (model P w) (A.deeper (envOfC qual scope s.heap.objs.size f cd)) (leaving (envOfC qual scope s.heap.objs.size f cd) e) (fun _ s'' => CX outer H s E e s'') (fun e' s'' => CX outer H s E e' s'') s'

theorem cell_has {sc : Scope} {n : Nat} {x : Str} (h : sc.names.lookup x = some .cell) : ∃ c, (cellsFrom n sc.names []).lookup x = some c := by
  have q := PySem.W.cellsFrom_some sc.names n [] (.inl h)
  exact Option.isSome_iff_exists.mp q

theorem inv_start {CX : CXT} {P : Program} {w : World} {K : PySem.W.Frag} {mg : Str → Option Value} {base : Heap} {N ps : List Str} {qual : Str} {scope : Scope} {f : Addr} {cd : Value} {A : Around} {outer : List Env} {s s1 : Shared} {H : Hp} {E : XK} {us : List Value} {vs : List V}
    (S : FnScope N ps scope) (hd : A.handled = none) (e0 : Env0 P w K mg base A outer s H) (hl : vs.length = ps.length) (r : Vals vs us)
    (x : InCallC s s.heap.objs.size (bindL (envOfC qual scope s.heap.objs.size f cd).kindOf (ps.zip us) fun _ => none) (cellsFrom (s.heap.objs.size + 1) scope.names []) (bindC (envOfC qual scope s.heap.objs.size f cd).kindOf (ps.zip us) fun _ => none) s1) :
    Inv (cxOf CX P w K mg base N qual scope f cd A outer s H E) [] (start N vs) H s1 := by
  have hpl : ps.length ≤ N.length := by have := congrArg List.length S.pre; rw [List.length_take] at this; omega
  obtain ⟨h1, tk, rfl, hk⟩ := x.done
  have noA : ∀ b : Addr, b ∉ (cxOf CX P w K mg base N qual scope f cd A outer s H E).ex := fun b z => absurd (show b ∈ ([] : List Addr) from z) (by simp)
  refine ⟨⟨e0.mod, S.kind, rfl, rfl, Nat.le_refl _, fun y z c h1 h2 => ?_, fun y hy => ?_, fun y c _ h => ?_, fun _ => hd, Around.frames_deeper e0.frames, .inr ⟨rfl, rfl⟩, fun b z => absurd z (noA b), e0.bs, e0.bsz, fun b _ _ => noA b, fun b z => absurd z (noA b), e0.funs, e0.frf⟩,
    rfl, e0.bare, Un.kept hk, ⟨_, x.toInCall.ns, fun i y v h1 h2 h3 => ?_⟩, fun y c h => ⟨_, x.cell y c h⟩, e0.hok.fresh (Nat.le_refl _), fun y c h => ?_, fun p hp => absurd (show p ∈ ([] : List (Addr × Obj)) from hp) (by simp), e0.hok.kept hk, ?_⟩
  · exact name_of_addr x.apart (PySem.mem_of_lookup h1) (PySem.mem_of_lookup h2)
  · have hy : scope.names.lookup y = some .cell ∨ scope.names.lookup y = some .free := hy
    rcases hy with hy | hy
    · exact cell_has hy
    · exact absurd rfl (S.nofree _ (PySem.mem_of_lookup hy))
  · exact Nat.le_of_lt (x.above y c (PySem.mem_of_lookup h))
  · have hi : i < vs.length := by
      unfold start at h2
      by_cases hi : i < vs.length
      · exact hi
      · rw [List.getElem?_append_right (by simpa using hi)] at h2
        rw [List.getElem?_replicate] at h2
        split at h2 <;> cases h2
    have ha : vs[i]? = some v := by
      unfold start at h2
      rw [List.getElem?_append_left (by simpa using hi), List.getElem?_map] at h2
      cases e : vs[i]? with
      | none => rw [e] at h2; cases h2
      | some a => rw [e] at h2; cases h2; rfl
    obtain ⟨u, hu, rv⟩ := r.get ha
    have hp : ps[i]? = some y := by
      rw [← S.pre, List.getElem?_take_of_lt (by omega)]; exact h1
    have ndP : ps.Nodup := by rw [← S.pre]; exact S.nd.sublist (List.take_sublist _ _)
    refine ⟨u, rv, ?_⟩
    rcases S.par y (List.mem_of_getElem? hp) with k | k
    · exact .inl ⟨k, bindL_get ndP hp hu k⟩
    · obtain ⟨c, e⟩ := cell_has (n := s.heap.objs.size + 1) k
      refine .inr ⟨.inl k, c, e, ?_⟩
      have q := x.cell y c e
      rw [bindC_get ndP hp hu (by show scope.names.lookup y ≠ _; rw [k]; decide)] at q
      exact q
  · exact e0.hok.fresh (Nat.le_of_lt (x.above y c (PySem.mem_of_lookup h)))
  · unfold start
    show _ = N.length
    rw [List.length_append, List.length_map, List.length_replicate]
    omega

/-- THE RULE: a def (or a method) of the text, by its body. The body's reading t is chosen for each entry; it is run at the parameters' values -/
theorem fn_of {CX : CXT} {P : Program} {w : World} {K : PySem.W.Frag} {mg : Str → Option Value} {base : Heap} {k : Nat} {f : Addr} {name qual : Str} {params : Arguments} {body : List Stmt} {scope : Scope} {dV kV doc pm cdv ct oc : Value} {an od : Option Addr}
    {osl : Array (Option Value)} {N ps : List Str} {sp : Sp} (lk : K.lookup f = some ⟨oc, od, .func (PySem.W.fnOf name qual params body scope dV kV doc pm an cdv ct), osl⟩) (hcd : PySem.W.codeIn K cdv qual = true) (S : FnScope N ps scope)
    (len : ∀ vs H Q E, sp vs H Q E → vs.length = ps.length)
    (hbody : ∀ (A : Around) (outer : List Env) (s : Shared) (H : Hp) (vs : List V) (Q : VK) (E : XK), Room k (A.deeper (envOfC qual scope s.heap.objs.size f cdv)) → sp vs H Q E →
      ∃ t, PSs (cxOf CX P w K mg base N qual scope f cdv A outer s H E) body t ∧ t { nx := fun _ H' => Q .non H', rt := Q } (start N vs) H) :
    FnOk P w K mg base CX (k + 1) f (PySem.W.fnOf name qual params body scope dV kV doc pm an cdv ct) ps sp := by
  refine ⟨len, fun A outer s H args us vs Q E hr e0 hb r hsp => ?_⟩
  have hl := len _ _ _ _ hsp
  have KX : K.In s.heap := e0.mod.kin.keeps fun b o e => (e0.bs b o e).1
  have lim : s.heap.NoLimit := e0.mod.nolimit.keeps fun b o e => (e0.bs b o e).1
  have hkind : ∀ y ∈ ps.zip us, scope.names.lookup y.1 = some .local ∨ (scope.names.lookup y.1 = some .cell ∧ ((cellsFrom (s.heap.objs.size + 1) scope.names []).lookup y.1).isSome = true) := fun ⟨n, v⟩ hy => by
    rcases S.par n (List.of_mem_zip hy).1 with q | q
    · exact .inl q
    · exact .inr ⟨q, PySem.W.cellsFrom_some _ _ _ (.inl q)⟩
  refine codeAny_call_function hr.depth (KX _ _ lk) rfl S.co S.gen rfl (PySem.W.codeRec_of KX hcd) (hb _ _ _ _ ?_)
  refine wpAny_newFunctionEnv_cells S.kind hkind fun env he s1 x => ?_
  subst he
  refine ⟨lim.keeps x.toInCall.keep, codeAny_func ?_⟩
  obtain ⟨t, ht, hq⟩ := hbody A outer s H vs Q E (hr.deeper _) hsp
  have I : Inv (cxOf CX P w K mg base N qual scope f cdv A outer s H E) [] (start N vs) H s1 := inv_start S hr.hd e0 hl r x
  refine wpAny_mono (ht [] s1 (start N vs) H _ I hq) (fun fl s' hs => ?_) fun e s' hs => hs
  have fin : ∀ {σ' : St} {H' : Hp} {v : V} {u : Value}, Inv (cxOf CX P w K mg base N qual scope f cdv A outer s H E) [] σ' H' s' → RelV v u → Q v H' → CE outer P w H s Q u s' :=
    fun {σ' H' v u} J rv q => ⟨v, H', J.os, J.bare, J.base, J.hok, rv, q⟩
  cases fl with
  | ret u =>
    obtain ⟨v, σ', H', J, rv, q⟩ := hs
    exact fin J rv q
  | next =>
    obtain ⟨σ', H', J, q⟩ := hs
    exact fin (v := V.non) (u := Value.none) J rfl q
  | brk =>
    obtain ⟨_, _, _, q⟩ := hs
    exact False.elim q
  | cont =>
    obtain ⟨_, _, _, q⟩ := hs
    exact False.elim q
end L2

namespace L2
open PySem PySem.Spec PyProof.Rows
section
variable {X : Cx} {x : Str} {p pos : Pos} {e : Expr} {es : List Expr} {t : TA} {id T : String} {r : List V → Hp → VK → Prop}

noncomputable def tCB (r : List V → Hp → VK → Prop) (t : TA) : TE := fun σ H Q => t σ H fun vs H1 => r vs H1 Q
/-- f(e, ..), f a built-in function -/
theorem pe_callB (hc : CallR X (.builtin id) r) (hg : Gl X x) (hm : X.mg x = none) (hv : bootBuiltins x = some (.builtin id)) (ha : PA X (e :: es) t) (hn : x ≠ "__name__" := by decide) (hdb : (x == ("__debug__" : Str)) = false := by decide)
    (he : starEach (e :: es) X.env = (false, eval e X.env) :: starEach es X.env := by rfl) (hpl : (backTo pos (starEach es X.env)).any (·.1) = false := by rfl) : PE X (.Call (.Name x p) (e :: es) [] pos) (tCB r t) := .mk <| by
  intro pins s σ H Q I h
  refine wpAny_Call_Name_kw (ld_blt I hg hm hv ?_ hn hdb)
  exact PyProof.Rows.callWith_builtin1 (thn (ha pos pins s σ H _ I h) fun us s1 ⟨vs, H1, I1, r1, q1⟩ => hc pins s1 σ H1 vs us Q I1 r1 q1) he hpl
/-- T(e, ..), T a built-in type -/
theorem pe_callTy (hc : CallR X (.type T) r) (hg : Gl X x) (hm : X.mg x = none) (hv : bootBuiltins x = some (.type T)) (ha : PA X (e :: es) t) (hn : x ≠ "__name__" := by decide) (hdb : (x == ("__debug__" : Str)) = false := by decide)
    (he : starEach (e :: es) X.env = (false, eval e X.env) :: starEach es X.env := by rfl) (hpl : (backTo pos (starEach es X.env)).any (·.1) = false := by rfl) : PE X (.Call (.Name x p) (e :: es) [] pos) (tCB r t) := .mk <| by
  intro pins s σ H Q I h
  refine wpAny_Call_Name_kw (ld_blt I hg hm hv ?_ hn hdb)
  exact PyProof.Rows.callWith_type1 (thn (ha pos pins s σ H _ I h) fun us s1 ⟨vs, H1, I1, r1, q1⟩ => hc pins s1 σ H1 vs us Q I1 r1 q1) he hpl
end
end L2

namespace HT
open PySem PyProof.Rows

section
open PySem.SeqAt
open PySem.AutoSeq1 (wpAny_loadPart')
open PySem.MeetsSeq PySem.MeetsSeq2 PySem.MeetsSeq3

end

section
variable {prog : Program} {w : World} {A : Around} {E : Value → Shared → Prop} {s : Shared}

/-! ### t[a:b], not the whole -/
/-- a slice's bound as a place among n (d where it is left out) -/
noncomputable def sIx (n d : Nat) : Option Int → Nat
  | none => d
  | some v => if v < 0 then (v + (n : Int)).toNat else min v.toNat n
theorem sIx_nat (n d k : Nat) : sIx n d (some (k : Int)) = min k n := by
  show (if (k : Int) < 0 then ((k : Int) + (n : Int)).toNat else min (k : Int).toNat n) = min k n
  rw [if_neg (by omega), Int.toNat_natCast]
end
end HT

namespace L2
open PySem PySem.Spec PyProof.Rows

/-! ### the parts of a slice -/
noncomputable abbrev TO := St → Hp → (Option Int → Hp → Prop) → Prop
/-- a slice's part (left out, or an int) -/
noncomputable def PO (X : Cx) (e : Option Expr) (t : TO) : Prop :=
  ∀ (pins : List (Addr × Obj)) (s : Shared) (σ : St) (H : Hp) (Q : Option Int → Hp → Prop), Inv X pins σ H s → t σ H Q →
    wpAny (model X.prog X.w) X.A (evalPart e X.env) (fun u s' => ∃ o H', Inv X pins σ H' s' ∧ IsPart u o ∧ Q o H') X.xe s
noncomputable def tNoPart : TO := fun _ H Q => Q none H
noncomputable def tPart (t : TE) : TO := fun σ H Q => t σ H fun x H1 => ∃ i, x = .int i ∧ Q (some i) H1

section
variable {X : Cx} {e : Expr} {te : TE} {lo hi : Option Expr} {tl th : TO} {pos p2 : Pos}

theorem po_none : PO X none tNoPart := by
  intro pins s σ H Q I h
  rw [evalPart_none]
  exact wpAny_pure ⟨none, H, I, .none, h⟩
theorem po_some (h : PE X e te) : PO X (some e) (tPart te) := by
  intro pins s σ H Q I hw
  rw [evalPart_some]
  refine thn (h pins s σ H _ I hw) fun u s1 ⟨x, H1, I1, r1, q1⟩ => ?_
  obtain ⟨i, rfl, q⟩ := q1
  obtain ⟨t, rfl⟩ := r1
  exact ⟨some i, H1, I1, .int i t, q⟩

/-- what a slice of a value is, by values: the slice object stands at sl -/
noncomputable def SlR (X : Cx) (r : V → Option Int → Option Int → Hp → VK → Prop) : Prop :=
  ∀ (pins : List (Addr × Obj)) (s : Shared) (σ : St) (H : Hp) (x : V) (v vl vu : Value) (lo hi : Option Int) (sl : Addr) (Q : VK), Inv X pins σ H s → RelV x v → s.heap.IsSliceOf sl vl vu .none → IsPart vl lo → IsPart vu hi → r x lo hi H Q →
    ∃ T id, typeLookup (.type T) "__getitem__" = pure (some (.builtin id)) ∧ s.TypeIs v T ∧ wpAny (model X.prog X.w) X.A (getItem v (.ref sl)) (EP X pins σ Q) X.xe s
noncomputable def tSl (r : V → Option Int → Option Int → Hp → VK → Prop) (te : TE) (tl th : TO) : TE := fun σ H Q => te σ H fun x H1 => tl σ H1 fun l H2 => th σ H2 fun u H3 => r x l u H3 Q
/-- a[lo:hi], any a -/
theorem pe_slice {r : V → Option Int → Option Int → Hp → VK → Prop} (hr : SlR X r) (he : PE X e te) (hl : PO X lo tl) (hu : PO X hi th) : PE X (.Subscript e (.Slice lo hi none p2) pos) (tSl r te tl th) := .mk <| by
  intro pins s σ H Q I h
  refine Subscript_ (thn (he pins s σ H _ I h) fun v s1 ⟨x, H1, I1, r1, q1⟩ => ?_)
  refine wpAny_Slice (thn (hl pins s1 σ H1 _ I1 q1) fun vl s2 ⟨l, H2, I2, pl, q2⟩ => thn (hu pins s2 σ H2 _ I2 q2) fun vu s3 ⟨u, H3, I3, pu, q3⟩ => ?_)
  rw [evalPart_none]
  refine wpAny_pure ?_
  have I4 : Inv X pins σ H3 { s3 with heap := s3.heap.push { cls := .type "slice", data := .fields #[vl, vu, .none] } } := I3.kept (t' := s3.toks) fun b ob q => Heap.get?_push_of_some _ q
  obtain ⟨T, id, hT, ht, hg⟩ := hr pins { s3 with heap := s3.heap.push { cls := .type "slice", data := .fields #[vl, vu, .none] } } σ H3 x v vl vu l u s3.heap.objs.size Q I4 r1 (Heap.IsSliceOf.new ..) pl pu q3
  show wpAny (model X.prog X.w) X.A (subscriptTail e (.Slice lo hi none p2) v (.ref s3.heap.objs.size)) (EP X pins σ Q) X.xe { s3 with heap := s3.heap.push { cls := .type "slice", data := .fields #[vl, vu, .none] } }
  exact tail_any (ops := [.ref s3.heap.objs.size, v]) ht hT hg (by with_unfolding_all rfl)

/-- the items of xs[lo:hi] -/
noncomputable def cutV (xs : List V) (lo hi : Option Int) : List V := (xs.drop (HT.sIx xs.length 0 lo)).take (HT.sIx xs.length xs.length hi - HT.sIx xs.length 0 lo)
theorem cutV_length (xs : List V) (lo hi : Option Int) : (cutV xs lo hi).length ≤ xs.length := by
  unfold cutV
  rw [List.length_take, List.length_drop]
  omega
/-! ### t < u, t + u -/
end
end L2

namespace L2
open PySem PySem.Spec PyProof.Rows

/-! ### places -/
/-- the place that an index of any sign means -/
noncomputable def ixN (n : Nat) (i : Int) : Option Nat := if 0 ≤ i then (if i < n then some i.toNat else none) else if -(n : Int) ≤ i then some (i + n).toNat else none
noncomputable def atI {α : Type} (xs : List α) (i : Int) : Option α := (ixN xs.length i).bind fun j => xs[j]?
theorem ixN_seq {n : Nat} {i : Int} {j : Nat} (h : ixN n i = some j) : seqIndex? i n = some j ∧ j < n ∧ -(n : Int) ≤ i ∧ i < n := by
  unfold ixN at h
  by_cases h0 : 0 ≤ i
  · rw [if_pos h0] at h
    by_cases h1 : i < n
    · rw [if_pos h1] at h
      have e : i.toNat = j := Option.some.inj h
      exact ⟨by rw [seqIndex_of h0 h1, e], by omega, by omega, h1⟩
    · rw [if_neg h1] at h; cases h
  · rw [if_neg h0] at h
    by_cases h1 : -(n : Int) ≤ i
    · rw [if_pos h1] at h
      have e : (i + n).toNat = j := Option.some.inj h
      exact ⟨by rw [seqIndex_neg (by omega) h1, e], by omega, h1, by omega⟩
    · rw [if_neg h1] at h; cases h
theorem atI_get {α : Type} {xs : List α} {i : Int} {v : α} (h : atI xs i = some v) : ∃ j, seqIndex? i xs.length = some j ∧ xs[j]? = some v ∧ j < xs.length ∧ -(xs.length : Int) ≤ i ∧ i < xs.length := by
  unfold atI at h
  cases e : ixN xs.length i with
  | none => rw [e] at h; cases h
  | some j =>
    rw [e] at h
    obtain ⟨h1, h2, h3, h4⟩ := ixN_seq e
    exact ⟨j, h1, h, h2, h3, h4⟩
theorem atI_nat {α : Type} {xs : List α} {j : Nat} {v : α} (h : xs[j]? = some v) : atI xs (j : Int) = some v := by
  have hj : j < xs.length := (List.getElem?_eq_some_iff.mp h).1
  have e : ixN xs.length (j : Int) = some j := by
    unfold ixN
    rw [if_pos (by omega), if_pos (by omega)]; simp
  unfold atI; rw [e]; exact h
/-! ### what may be subscripted -/
/-- what stands as an index of a plain subscript -/
noncomputable def PlainIx (b : Expr) : Prop := ∀ o i, subscripted b false o i = operate [o, i] (getItem o i)
/-- a subscript by values -/
noncomputable def IxR (X : Cx) (r : R2) : Prop :=
  ∀ (value slice : Expr) (pins : List (Addr × Obj)) (s : Shared) (σ : St) (H : Hp) (x y : V) (v u : Value) (Q : VK), Inv X pins σ H s → RelV x v → RelV y u → r x y H Q →
    subscripted slice false v u = operate [v, u] (getItem v u) → wpAny (model X.prog X.w) X.A (subscriptTail value slice v u) (EP X pins σ Q) X.xe s
/-- a call of a builtin's method by values: the receiver, the arguments -/
noncomputable def MtR (X : Cx) (id : String) (r : V → List V → Hp → VK → Prop) : Prop :=
  ∀ (pins : List (Addr × Obj)) (s : Shared) (σ : St) (H : Hp) (x : V) (xs : List V) (v : Value) (us : List Value) (Q : VK), Inv X pins σ H s → RelV x v → Vals xs us → r x xs H Q →
    wpAny (model X.prog X.w) X.A (call (.builtin id) (v :: us)) (EP X pins σ Q) X.xe s
section
variable {X : Cx} {a b : Expr} {ta tb : TE} {pos : Pos}
/-- a[b] -/
theorem pe_ix {r : R2} (hr : IxR X r) (ha : PE X a ta) (hb : PE X b tb) (hs : PlainIx b) : PE X (.Subscript a b pos) (tOp r ta tb) := .mk <| by
  intro pins s σ H Q I h
  exact Subscript_ (binT ha hb I h fun v u s2 x y H2 I2 rx ry q => hr a b pins s2 σ H2 x y v u Q I2 rx ry q (hs _ _))

noncomputable def rIxL (K : PySem.W.Frag) : R2 := fun x y H Q => ∃ p xs i v, x = .ref p ∧ y = .int i ∧ SqL K H p xs ∧ atI xs i = some v ∧ Q v H
theorem ix_list : IxR X (rIxL X.K) := by
  intro value slice pins s σ H x y v u Q I rx ry h hs
  obtain ⟨p, xs, i, z, rfl, rfl, hq, he, q⟩ := h
  cases rx
  obtain ⟨t, rfl⟩ := ry
  obtain ⟨its, r, pl, hz⟩ := I.list hq
  obtain ⟨j, h1, h2, h3, h4, h5⟩ := atI_get he
  obtain ⟨w, ew, rw'⟩ := r.get h2
  have hl := r.length
  have hn := line63
  have fin : EP X pins σ Q w s := ⟨z, H, I, rw', q⟩
  by_cases h0 : 0 ≤ i
  · have hj : i.toNat = j := by
      rw [seqIndex_of h0 h5] at h1
      exact Option.some.inj h1
    exact item_listR pl.isList h0 (by omega) (by rw [hj]; simpa using ew) fin hs
  · have hj : (i + (its.toArray.size : Int)).toNat = j := by
      rw [seqIndex_neg (by omega) h4] at h1
      rw [List.size_toArray, ← hl]
      exact Option.some.inj h1
    exact subscriptTail_builtinR (x := w) pl.isList.typeIs slot_list_getitem.lookup
      (wpAny_getItem_list_neg (Q := fun r s' => r = w ∧ EP X pins σ Q r s') pl.isList (by omega) (by rw [List.size_toArray] <;> omega) (by omega) (by rw [hj]; simpa using ew) ⟨rfl, fin⟩) hs
/-! ### xs[i] = v, any sign -/
/-! ### slices -/
theorem slice_bounds (lo hi : Option Int) (n : Nat) : (sliceBounds lo hi none n).1 = ((HT.sIx n 0 lo : Nat) : Int) ∧ (sliceBounds lo hi none n).2.1 = ((HT.sIx n n hi : Nat) : Int) ∧ (sliceBounds lo hi none n).2.2 = 1 := by
  refine ⟨?_, ?_, rfl⟩
  · cases lo with
    | none => simp [sliceBounds, HT.sIx]
    | some i =>
      simp only [sliceBounds, HT.sIx, Option.getD_none, show (1 : Int) > 0 by decide, if_true]
      by_cases h : i < 0
      · simp only [h, if_true] <;> omega
      · simp only [h, if_false] <;> omega
  · cases hi with
    | none => simp [sliceBounds, HT.sIx]
    | some i =>
      simp only [sliceBounds, HT.sIx, Option.getD_none, show (1 : Int) > 0 by decide, if_true]
      by_cases h : i < 0
      · simp only [h, if_true] <;> omega
      · simp only [h, if_false] <;> omega
theorem slicePick_cut (its : List Value) (lo hi : Option Int) : slicePick its.toArray lo hi none = ((its.drop (HT.sIx its.length 0 lo)).take (HT.sIx its.length its.length hi - HT.sIx its.length 0 lo)).toArray := by
  obtain ⟨h1, h2, h3⟩ := slice_bounds lo hi its.toArray.size
  unfold slicePick
  rw [h1, h2, h3]
  simp only [sliceRange_one, pick_run, List.size_toArray] <;> rfl
/-- xs[lo:hi] of a list: a new list -/
noncomputable def rSlL (K : PySem.W.Frag) : V → Option Int → Option Int → Hp → VK → Prop := fun x lo hi H Q => ∃ a xs, x = .ref a ∧ SqL K H a xs ∧ ∀ p, H p = none → Q (.ref p) (upd H p (.lst (cutV xs lo hi)))
theorem sl_list : SlR X (rSlL X.K) := by
  intro pins s σ H x v vl vu lo hi sl Q I rx hs pl pu h
  obtain ⟨a, xs, rfl, hx, q⟩ := h
  cases rx
  obtain ⟨its, r, ht, hz⟩ := I.list hx
  have hlen := r.length
  refine ⟨"list", _, slot_list_getitem.lookup, ht.isList.typeIs, ?_⟩
  refine wpAny_getItem_list_slice ht.isList hs pl pu .none (by simp) ?_ (by rw [List.size_toArray] <;> omega)
  rw [slicePick_cut, ← hlen]
  refine ⟨.ref s.heap.objs.size, _, I.laid (t' := s.toks) (o := .lst (cutV xs lo hi)) (fun b ob q => Heap.get?_push_of_some _ q) (Nat.le_refl _) ?_, rfl, q _ (I.hok.fresh (Nat.le_refl _))⟩
  exact ⟨Nat.le_trans (cutV_length xs lo hi) hz, _, 0, (r.drop (HT.sIx xs.length 0 lo)).take (HT.sIx xs.length xs.length hi - HT.sIx xs.length 0 lo), Heap.get?_push_size _ rfl⟩

/-! ### in, not in: flat items -/
/-! ### len, list(x), tuple(x) of any list or tuple that is read -/
theorem call_len_seq : CallR X (.builtin "len") (fun xs H Q => ∃ p ys, xs = [.ref p] ∧ (SqL X.K H p ys ∨ SqT X.K H p ys) ∧ Q (.int ys.length) H) := by
  intro pins s σ H xs us Q I r h
  obtain ⟨p, ys, rfl, hq, q⟩ := h
  obtain ⟨u, rfl, rx⟩ := vals1 r
  cases rx
  have hn := line63
  rcases hq with hq | hq
  · obtain ⟨its, r', pl, hz⟩ := I.list hq
    have hlen := r'.length
    exact Calls.call_len_list pl.isList (by simp only [List.size_toArray] <;> omega) ⟨.int ys.length, H, I.tok _, ⟨s.toks + 1, by rw [List.size_toArray, hlen]⟩, q⟩
  · obtain ⟨its, r', pl, hz⟩ := I.tuple hq
    have hlen := r'.length
    exact len_tuple pl (by simp only [List.size_toArray] <;> omega) ⟨.int ys.length, H, I.tok _, ⟨s.toks + 1, by rw [List.size_toArray, hlen]⟩, q⟩
theorem call_list_of : CallR X (.type "list") (fun xs H Q => ∃ p ys, xs = [.ref p] ∧ (SqL X.K H p ys ∨ SqT X.K H p ys) ∧ ∀ l, H l = none → Q (.ref l) (upd H l (.lst ys))) := by
  intro pins s σ H xs us Q I r h
  obtain ⟨p, ys, rfl, hq, q⟩ := h
  obtain ⟨u, rfl, rx⟩ := vals1 r
  cases rx
  have fin : ∀ (its : List Value), Vals ys its → ys.length ≤ sizeLine → ∀ (h' : Heap) (c' : Nat), (∀ b o', s.heap.get? b = some o' → h'.get? b = some o') →
      h'.get? s.heap.objs.size = some { cls := .type "list", dict := none, data := .seq its.toArray c', slots := #[] } → EP X pins σ Q (.ref s.heap.objs.size) { s with heap := h' } := fun its r' hz h' c' kp e =>
    ⟨.ref s.heap.objs.size, _, I.laid (t' := s.toks) kp (Nat.le_refl _) (show ObjOk X.prog X.w _ h' _ (.lst ys) from ⟨hz, its, c', r', e⟩), rfl, q _ (I.hok.fresh (Nat.le_refl _))⟩
  rcases hq with hq | hq
  · obtain ⟨its, r', pl, hz⟩ := I.list hq
    have hlen := r'.length
    obtain ⟨o, ho, hc, n, hd⟩ := pl.isList
    exact call_list_seq p (.inl rfl) ho hc hd (fun h' c' kp e => fin its r' hz h' c' kp e) (by simp only [List.size_toArray] <;> omega)
  · obtain ⟨its, r', pl, hz⟩ := I.tuple hq
    have hlen := r'.length
    obtain ⟨o, ho, hc, n, hd⟩ := pl
    exact call_list_seq p (.inr rfl) ho hc hd (fun h' c' kp e => fin its r' hz h' c' kp e) (by simp only [List.size_toArray] <;> omega)
/-! ### the call of a builtin's method: o.m(..) -/
/-- the value is of that builtin type -/
noncomputable def tyV (K : PySem.W.Frag) (T : String) (x : V) (H : Hp) : Prop := match x with
  | .str _ => T = "str"
  | .int _ => T = "int"
  | .ref p => (T = "list" ∧ ∃ xs, SqL K H p xs) ∨ (T = "tuple" ∧ ∃ o, K.lookup p = some o ∧ o.cls = .type "tuple" ∧ o.dict = none) ∨
      (T = "dict" ∧ ((∃ kvs, H p = some (.dK kvs)) ∨ ∃ kvs, H p = some (.dT kvs))) ∨ (T = "set" ∧ ∃ S n, H p = some (.set S n))
  | _ => False
theorem tyV_is {pins : List (Addr × Obj)} {σ : St} {H : Hp} {s : Shared} {T : String} {x : V} {v : Value} (I : Inv X pins σ H s) (r : RelV x v) (ty : tyV X.K T x H) :
    s.TypeIs v T ∧ ∀ a, v = .ref a → ∃ ob, s.heap.get? a = some ob ∧ ob.dict = none := by
  cases x with
  | str z =>
    obtain ⟨t, rfl⟩ := r
    cases (show T = "str" from ty)
    exact ⟨typeIs_str s z t, fun _ e => nomatch e⟩
  | int i =>
    obtain ⟨t, rfl⟩ := r
    cases (show T = "int" from ty)
    exact ⟨typeIs_int s i t, fun _ e => nomatch e⟩
  | ref p =>
    cases r
    rcases ty with ⟨rfl, xs, hq⟩ | ⟨rfl, o, hk, hc, hd⟩ | ⟨rfl, hk⟩ | ⟨rfl, S, n, hk⟩
    · obtain ⟨its, _, pl, _⟩ := I.list hq
      refine ⟨pl.isList.typeIs, fun a e => ?_⟩
      cases e
      obtain ⟨o, n, e, c, hd, _⟩ := pl
      exact ⟨o, e, hd⟩
    · refine ⟨⟨o, I.kIn p o hk, hc⟩, fun a e => ?_⟩
      cases e
      exact ⟨o, I.kIn _ o hk, hd⟩
    · have z : ∃ o, s.heap.get? p = some o ∧ o.ExactDict := by
        rcases hk with ⟨kvs, hk⟩ | ⟨kvs, hk⟩
        · obtain ⟨_, _, _, _, o, _, _, e, ex, _⟩ := I.hok p _ hk
          exact ⟨o, e, ex⟩
        · obtain ⟨_, _, _, _, o, _, _, e, ex, _⟩ := I.hok p _ hk
          exact ⟨o, e, ex⟩
      obtain ⟨o, e, ex⟩ := z
      refine ⟨⟨o, e, ex.1⟩, fun a e2 => ?_⟩
      cases e2
      exact ⟨o, e, ex.2.1⟩
    · obtain ⟨o, _, _, _, e, ex, _⟩ := I.hok p _ hk
      refine ⟨⟨o, e, ex.1⟩, fun a e2 => ?_⟩
      cases e2
      exact ⟨o, e, ex.2.1⟩
  | _ => exact False.elim ty
noncomputable def tBM0 (K : PySem.W.Frag) (T : String) (r : V → List V → Hp → VK → Prop) (to : TE) : TE := fun σ H Q => to σ H fun x H1 => tyV K T x H1 ∧ r x [] H1 Q
noncomputable def tBM (K : PySem.W.Frag) (T : String) (r : V → List V → Hp → VK → Prop) (to : TE) (t : TA) : TE := fun σ H Q => to σ H fun x H1 => tyV K T x H1 ∧ t σ H1 fun xs H2 => r x xs H2 Q
variable {o e : Expr} {es : List Expr} {to : TE} {t : TA} {name : Str} {apos cpos : Pos} {T id : String} {r : V → List V → Hp → VK → Prop}
theorem pe_bm0 (pa : PlainAttrs T) (slot : Slot T name id) (hty : typeOf (.builtin id) = pure (.type "method_descriptor")) (hm : MtR X id r) (ho : PE X o to)
    (hbase : attributeBase o name X.env (eval o X.env) = eval o X.env := by rfl) (hline : (apos.endLine == cpos.line) = true := by rfl) : PE X (.Call (.Attribute o name apos) [] [] cpos) (tBM0 X.K T r to) := .mk <| by
  intro pins s σ H Q I h
  refine wpAny_Call_method0_late hbase hline (thn (ho pins s σ H _ I h) fun v s1 ⟨x, H1, I1, r1, ty, q1⟩ => ?_)
  obtain ⟨h1, h2⟩ := tyV_is I1 r1 ty
  exact ⟨T, id, pa, slot, hty, h1, h2, Calls.callWith_builtin rfl (PySem.evalArgs_none (hm pins s1 σ H1 x [] v [] Q I1 r1 .nil q1))⟩
theorem pe_bm (pa : PlainAttrs T) (slot : Slot T name id) (hty : typeOf (.builtin id) = pure (.type "method_descriptor")) (hm : MtR X id r) (ho : PE X o to) (ha : PA X (e :: es) t)
    (hbase : attributeBase o name X.env (eval o X.env) = eval o X.env := by rfl)
    (hfew : ((backTo cpos (starEach (e :: es) X.env)).all (fun x => !x.1) && (backToKw cpos (keywordEach [] X.env)).all (fun x => x.1.isSome)
      && decide ((e :: es).length + ([] : List Keyword).length + (if ([] : List Keyword).isEmpty then 0 else 1) < 30)) = true := by rfl)
    (hline : (apos.endLine == cpos.line) = true := by rfl) (hs : starEach (e :: es) X.env = (false, eval e X.env) :: starEach es X.env := by rfl) (hplain : (backTo cpos (starEach es X.env)).any (·.1) = false := by rfl) :
    PE X (.Call (.Attribute o name apos) (e :: es) [] cpos) (tBM X.K T r to t) := .mk <| by
  intro pins s σ H Q I h
  refine wpAny_Call_method_late hbase hfew hline rfl (thn (ho pins s σ H _ I h) fun v s1 ⟨x, H1, I1, r1, ty, q1⟩ => ?_)
  obtain ⟨h1, h2⟩ := tyV_is I1 r1 ty
  refine ⟨T, id, pa, slot, hty, h1, h2, ?_⟩
  have hA := ha cpos pins s1 σ H1 _ I1 q1
  rw [hs] at hA ⊢
  refine Calls.callWith_builtin (by show (false || (backTo cpos (starEach es X.env)).any (·.1)) = false; rw [hplain] <;> rfl) (Calls.evalArgs_plain ?_)
  exact thn hA fun us s2 ⟨vs, H2, I2, r2, q2⟩ => hm pins s2 σ H2 x vs v us Q I2 r1 r2 q2
/- xs.append(e), list.index on a module's tuple .. are MtR facts of 06m -/
end
end L2

namespace L2
open PySem PySem.Spec PyProof.Rows

noncomputable def MtM (X : Cx) (id : String) (r : V → List V → Hp → VK → Prop) : Prop :=
  ∀ (pins : List (Addr × Obj)) (s : Shared) (σ : St) (H : Hp) (x : V) (xs : List V) (v : Value) (us : List Value) (Q : VK), Inv X pins σ H s → RelV x v → Vals xs us → r x xs H Q →
    wpAny (model X.prog X.w) X.A (call (.builtin id) (v :: us)) (EP X pins σ Q) X.xe s

/-! ### lists of values -/
theorem Vals.one : ∀ {x : V} {us : List Value}, Vals [x] us → ∃ u, us = [u] ∧ RelV x u
  | _, _, .cons r .nil => ⟨_, rfl, r⟩
theorem Vals.zero : ∀ {us : List Value}, Vals [] us → us = []
  | _, .nil => rfl
theorem Vals.dropLast {xs : List V} {us : List Value} (h : Vals xs us) : Vals xs.dropLast us.dropLast := by
  induction h with
  | nil => exact .nil
  | cons r t ih =>
    cases t with
    | nil => exact .nil
    | cons q t' => exact .cons r ih
theorem erase_last {α : Type} (l : List α) : l.eraseIdx (l.length - 1) = l.dropLast := by
  induction l with
  | nil => rfl
  | cons a r ih =>
    cases r with
    | nil => rfl
    | cons b r =>
      have e : (a :: b :: r).length - 1 = ((b :: r).length - 1) + 1 := by
        have h1 : (a :: b :: r).length = r.length + 2 := rfl
        have h2 : (b :: r).length = r.length + 1 := rfl
        omega
      rw [e, List.eraseIdx_cons_succ, ih]
      all_goals rfl
section
variable {X : Cx} {pins : List (Addr × Obj)} {σ : St} {H : Hp} {s : Shared} {l b : Addr} {xs ys zs : List V}

/-! ### the two steps: a tracked list is rewritten, a new list is laid -/
theorem Inv.lset {its its' : List Value} {n : Nat} {f : Array Value → Array Value} {t' : Nat} (I : Inv X pins σ H s) (hH : H l = some (.lst xs))
    (e : s.heap.get? l = some { cls := .type "list", data := .seq its.toArray n }) (hf : f its.toArray = its'.toArray) (hv : Vals ys its') (hz : ys.length ≤ sizeLine) :
    Inv X pins σ (upd H l (.lst ys)) { s with heap := s.heap.update l (Obj.mapSeq f), toks := t' } := by
  have q := PySem.IsL.update e f
  rw [hf] at q
  refine I.write (x := l) (e := l) (by rw [hH]; exact trivial) (.inl rfl) (fun b' u hb hu => (Heap.get?_update_other s.heap (Obj.mapSeq f) (Ne.symm hb)).trans hu) ⟨_, q⟩ ?_
  exact ⟨hz, its', _, hv, q⟩
theorem Inv.lnew {its : List Value} {t' : Nat} (I : Inv X pins σ H s) (hv : Vals ys its) (hz : ys.length ≤ sizeLine) :
    Inv X pins σ (upd H s.heap.objs.size (.lst ys)) { s with heap := s.heap.push { cls := .type "list", data := .seq its.toArray }, toks := t' } :=
  I.laid (fun _ _ q => Heap.get?_push_of_some _ q) (Nat.le_refl _) ⟨hz, its, 0, hv, Heap.get?_push_size _ rfl⟩
theorem Inv.fresh (I : Inv X pins σ H s) : H s.heap.objs.size = none := I.hok.fresh (Nat.le_refl _)
theorem Inv.lstM (I : Inv X pins σ H s) (hH : H l = some (.lst xs)) : xs.length ≤ sizeLine ∧ ∃ (its : List Value) (n : Nat), Vals xs its ∧ xs.length = its.length ∧ s.heap.get? l = some { cls := .type "list", data := .seq its.toArray n } := by
  obtain ⟨z, its, n, r, e⟩ := I.hok l _ hH
  exact ⟨z, its, n, r, r.length, e⟩

end

section
variable {X : Cx}

/-! ### methods -/
noncomputable def rAppend : V → List V → Hp → VK → Prop := fun x vs H Q => ∃ l xs y, x = .ref l ∧ vs = [y] ∧ H l = some (.lst xs) ∧ xs.length < sizeLine ∧ Q .non (upd H l (.lst (xs ++ [y])))
theorem mt_append : MtM X "list.append" rAppend := by
  intro pins s σ H x vs v us Q I rx rv h
  obtain ⟨l, xs, y, rfl, rfl, hH, hz, q⟩ := h
  cases rx
  obtain ⟨u, rfl, ru⟩ := rv.one
  obtain ⟨z, its, n, r, hl, e⟩ := I.lstM hH
  refine call_meets F.slot_list_append ⟨_, e, rfl⟩ F.entry_list_append (F.args_list_append_2 _ _) (PySem.list_append l its.toArray n u (by rw [List.size_toArray]; omega)) ⟨e, ?_⟩
  refine ⟨.non, _, I.lset (its' := its ++ [u]) hH e (by simp) (r.append (.cons ru .nil)) ?_, rfl, q⟩
  rw [List.length_append, List.length_singleton]
  omega

noncomputable def rPop : V → List V → Hp → VK → Prop := fun x vs H Q => ∃ l xs y, x = .ref l ∧ vs = [] ∧ H l = some (.lst xs) ∧ xs[xs.length - 1]? = some y ∧ Q y (upd H l (.lst xs.dropLast))
theorem mt_pop : MtM X "list.pop" rPop := by
  intro pins s σ H x vs v us Q I rx rv h
  obtain ⟨l, xs, y, rfl, rfl, hH, hy, q⟩ := h
  cases rx
  have hus := rv.zero
  subst hus
  obtain ⟨z, its, n, r, hl, e⟩ := I.lstM hH
  obtain ⟨u, hu, ru⟩ := r.get hy
  have hy' : its.toArray[its.toArray.size - 1]? = some u := by
    show its.toArray[its.length - 1]? = some u
    rw [← Array.getElem?_toList, ← hl]
    exact hu
  refine call_meets F.slot_list_pop ⟨_, e, rfl⟩ F.entry_list_pop (F.args_list_pop_1 _) (MeetsSeq.list_pop_last l its.toArray n u hy' (by rw [List.size_toArray]; omega)) ⟨e, ?_⟩
  refine ⟨y, _, I.lset (its' := its.dropLast) hH e ?_ r.dropLast ?_, ru, q⟩
  · show its.toArray.eraseIdxIfInBounds (its.toArray.size - 1) = its.dropLast.toArray
    rw [List.size_toArray, List.eraseIdxIfInBounds_toArray, erase_last]
  · rw [List.length_dropLast]
    omega

noncomputable def rClear : V → List V → Hp → VK → Prop := fun x vs H Q => ∃ l xs, x = .ref l ∧ vs = [] ∧ H l = some (.lst xs) ∧ Q .non (upd H l (.lst []))
theorem mt_clear : MtM X "list.clear" rClear := by
  intro pins s σ H x vs v us Q I rx rv h
  obtain ⟨l, xs, rfl, rfl, hH, q⟩ := h
  cases rx
  have hus := rv.zero
  subst hus
  obtain ⟨z, its, n, r, hl, e⟩ := I.lstM hH
  refine call_meets F.slot_list_clear ⟨_, e, rfl⟩ F.entry_list_clear (F.args_list_clear_1 _) (AutoSeq1.list_clear_list_0 l its.toArray n (by rw [List.size_toArray]; omega)) ⟨e, ?_⟩
  exact ⟨.non, _, I.lset (its' := []) (ys := []) hH e rfl .nil (Nat.zero_le _), rfl, q⟩

/-! ### list + list, list += list, list * int -/
noncomputable def rCat : R2 := fun x y H Q => ∃ l b xs zs, x = .ref l ∧ y = .ref b ∧ H l = some (.lst xs) ∧ H b = some (.lst zs) ∧ xs.length + zs.length ≤ sizeLine ∧ ∀ p, H p = none → Q (.ref p) (upd H p (.lst (xs ++ zs)))
theorem op_cat : OpR X (binaryOp .Add) rCat := by
  intro pins s σ H x y v u Q I rx ry h
  obtain ⟨l, b, xs, zs, rfl, rfl, hH, hB, hz, q⟩ := h
  cases rx
  cases ry
  obtain ⟨z, its, n, r, hl, e⟩ := I.lstM hH
  obtain ⟨z2, its2, n2, r2, hl2, e2⟩ := I.lstM hB
  refine PySem.P.add_list e e2 ?_ (by rw [List.size_toArray, List.size_toArray]; omega)
  have ea : its.toArray ++ its2.toArray = (its ++ its2).toArray := by simp
  rw [ea]
  exact ⟨.ref _, _, I.lnew (t' := s.toks) (r.append r2) (by rw [List.length_append]; omega), rfl, q _ I.fresh⟩
/-! ### del xs[i] -/
end

/-! ### xs[a:b] = ys -/
section
variable {prog : Program} {w : World} {A : Around} {E : Value → Shared → Prop} {s : Shared}
end

section
variable {X : Cx}
end
end L2

namespace Att
open PySem PySem.W PySem.Calls PyProof.Rows

/-! ### the script -/
theorem ints_of_wellAll {P : Params} {h : Heap} : ∀ (ns : List Int) (vs : List Value), WellAll P h vs (ns.map WData.int) → IntsAre vs ns := by
  intro ns
  induction ns with
  | nil =>
    intro vs w
    rw [List.map_nil] at w
    cases w
    exact .nil
  | cons n ns ih =>
    intro vs w
    rw [List.map_cons] at w
    cases w with
    | cons a b =>
      cases a
      exact .cons _ _ (ih _ b)

theorem script_of {l : OpenLaw} {n : Nat} (hn : l.most = some n) {P : Params} {h : Heap} {args : List WData} {vals : List Value}
    (hpre : l.row.toRowW.claim.pre args = true) (hwl : WellAll P h vals args) :
    ∃ a vs ns, vals = [Value.ref a] ∧ args = [WData.list (ns.map WData.int)] ∧ h.get? a = some { cls := .type "list", data := .seq vs.toArray } ∧ IntsAre vs ns ∧ ns.length ≤ n := by
  have hsh : WShape.hasAll [] args [.list .int] = true := (pre_splitW hpre).1
  have hc : l.pre.holds [] { args := args } = true := (pre_splitW hpre).2
  obtain ⟨d, r, rfl, h1, h2⟩ := hasAllW_cons hsh
  obtain rfl := hasAllW_nil h2
  obtain ⟨xs, rfl, h3⟩ := hasW_list h1
  obtain ⟨ns, rfl⟩ := items_int h3
  have hlen : ns.length ≤ n := by
    unfold OpenLaw.pre at hc
    have h4 : (WTm.not (.lt (.lit (.int (n : Int))) (.len (.arg 0)))).holds [] { args := [.list (ns.map .int)] } = true := by
      have h4 := (holds_andW hc).1
      rw [hn] at h4
      exact h4
    have h5 := condW_of h4 (w_not (w_lt w_lit (w_len_list (w_arg rfl))))
    rw [List.length_map] at h5
    refine Nat.le_of_not_lt fun q => ?_
    have q' : (n : Int) < ((ns.length : Nat) : Int) := by omega
    first
      | (rw [decide_eq_true q'] at h5; exact absurd h5 (by decide))
      | (simp at h5; omega)
  cases hwl with
  | cons w1 w2 =>
    cases w2
    cases w1 with
    | list ho hall => exact ⟨_, _, ns, rfl, rfl, ho, ints_of_wellAll ns _ hall, hlen⟩

theorem post_true (l : OpenLaw) (args : List WData) : l.row.toRowW.claim.post args (.bool true) args = true :=
  postW_of (r := l.row.toRowW) (X := (true == true))
    (show WShape.has [] (.bool true) .bool = true by first | rfl | decide | simp [WShape.has, WShape.arms, WShape.armsAll])
    (show (WTm.eq .res (.lit (.bool true))).value [] { args := args, res := some (.bool true), after := args } = some (.bool (true == true)) from w_eq_bool (w_res rfl) w_lit) rfl

/-! ### the attachment: holds_open's last premise (the goal 'hc' behind k_head) from a wpAny of the law's body -/
/-- the same from a codeAny of the CALL (for a layer whose function contracts speak of calls) -/
theorem attach_call {l : OpenLaw} {n : Nat} {q : Program} {loose : List Str} {XP : (Str → Option Value) → Heap → Prop} {YP : World → Heap → Prop} {d : DefRec}
    (hn : l.most = some n) (hdf : d.params.defaults = [])
    (call : ∀ (w : World) (s₀ s₁ : Shared) (mg mb : Str → Option Value) (fa : Addr) (o : Obj) (pm cd doc : Value) (a : Addr) (vs : List Value) (ns : List Int),
      Ground q loose [] XP w s₀ mg mb s₁.heap → YP w s₁.heap →
      s₁.heap.get? fa = some o → o.data = .func (docDef d.name d.params d.body d.scope pm cd doc) → s₁.heap.CodeRec cd d.name → mg d.name = some (.ref fa) →
      s₁.heap.get? a = some { cls := .type "list", data := .seq vs.toArray } → IntsAre vs ns → ns.length ≤ n → s₁.gens = #[] →
      codeAny (model l.prog w) callerA (.call (.ref fa) ⟨[.ref a], []⟩) (fun r s' => r = .ok (.ret (.bool true)) ∧ OldK s₁.heap s'.heap ∧ s'.os = s₁.os ∧ AllBare s'.gens) s₁) :
    WalkO q loose XP YP l.row.toRowW d [] (fun f vs => PySem.call f vs) := by
  intro w s₀ s₁ mg mb G Y fa o pm cd doc dV kV ho hd hcd hD hmg hg args vals as hpre hlay hrd hwl hlo
  obtain rfl : dV = .none := Dflts.none hD hdf
  obtain rfl : kV = .none := Dflts.noKw hD
  obtain ⟨a, vs, ns, rfl, rfl, hobj, hints, hlen⟩ := script_of hn hpre hwl
  refine enter_call (codeAny_mono (call w s₀ s₁ mg mb fa o pm cd doc a vs ns G Y ho (fd_plain hd) hcd hmg hobj hints hlen hg) fun r s' hq => ?_)
  obtain ⟨rfl, h2, h3, h4⟩ := hq
  exact ⟨.inl ⟨.bool true, .bool true, [], rfl, fun _ => rfl, .bool true, post_true l _, fun _ => ⟨List.Pairwise.nil, fun _ hm => (nomatch hm)⟩⟩, h2, h3, h4⟩

/-! ### rules over ANY heap (no ledger) from facts about the written part K: the library's own take a ledger (News) for what they write -/
section
variable {prog : Program} {w : World} {A : Around} {E : Value → Shared → Prop} {s : Shared} {K : Frag}

/-! the whole heap as the ledger: makes every rule that writes through a ledger a rule over any heap -/
end
end Att

namespace L2
open PySem PySem.Spec PyProof.Rows

theorem vals_ints : ∀ {vs : List Value} {ns : List Int}, IntsAre vs ns → Vals (ns.map V.int) vs
  | _, _, .nil => .nil
  | _, _, .cons n t h => .cons ⟨t, rfl⟩ (vals_ints h)

/-- nothing is tracked but the script, known to the object (or it is an object of the module) -/
noncomputable def Only (H : Hp) : Prop := ∀ b, H b = none ∨ ∃ o xs, H b = some (.frz o (.lst xs))

/-- THE HEAD: the law's promise, at the heap behind the top. F, the promise of the law's def, may use that base is part of the heap (so K.In base, base.Ns mainGlobals mg stand in Mod) -/
theorem law_call {P : Program} {w : World} {K : PySem.W.Frag} {mg mb : Str → Option Value} {CX : CXT} {k : Nat} {fa a : Addr} {fd : FuncData} {x : Str} {sp : Sp} {s₁ : Shared} {vs : List Value} {ns : List Int}
    (KX : K.In s₁.heap) (hns : s₁.heap.Ns mainGlobals mg) (hb : s₁.heap.Ns builtinsNs mb) (hbb : ∀ x : Str, x ≠ "__name__" → mb x = bootBuiltins x) (hlim : s₁.heap.NoLimit) (hg : s₁.gens = #[])
    (ha : s₁.heap.get? a = some { cls := .type "list", data := .seq vs.toArray }) (hi : IntsAre vs ns) (hl : ns.length ≤ sizeLine) (hr : Room k callerA)
    (F : ∀ base : Heap, K.In base → base.Ns mainGlobals mg → FnOk P w K mg base CX k fa fd [x] sp) (hbind : ∀ (s : Shared) (u : Value), BindsTo s fd ⟨[u], []⟩ [(x, u)])
    (hsp : ∀ H : Hp, Only H → SqL K H a (ns.map V.int) → sp [.ref a] H (fun v _ => v = .bl true) fun _ _ _ => False)
    (hCX : ∀ H e s', CX [] H s₁ (fun _ _ _ => False) e s' → False) :
    codeAny (model P w) callerA (.call (.ref fa) ⟨[.ref a], []⟩) (fun r s' => r = .ok (.ret (.bool true)) ∧ OldK s₁.heap s'.heap ∧ s'.os = s₁.os ∧ AllBare s'.gens) s₁ := by
  have rv := vals_ints hi
  have lenV := hi.length
  -- from an abstract heap in which nothing but the script may be tracked
  have core : ∀ H : Hp, Only H → SqL K H a (ns.map V.int) → HOk P w H s₁.heap → (∀ b, H b ≠ none → b = a) → (H a ≠ none → K.lookup a = none) →
      codeAny (model P w) callerA (.call (.ref fa) ⟨[.ref a], []⟩) (fun r s' => r = .ok (.ret (.bool true)) ∧ OldK s₁.heap s'.heap ∧ s'.os = s₁.os ∧ AllBare s'.gens) s₁ := by
    intro H hO hS hok hA hK
    have base_of : ∀ {b : Addr} {o : Obj}, s₁.heap.get? b = some o → H b = none → (hidT s₁.heap H).get? b = some o := fun e n => hidT_get e n
    have noA : ∀ {b : Addr} {o : Obj} {es : Array DictEntry} {ep : Nat}, s₁.heap.get? b = some o → o.data = .dict es ep → H b = none := fun {b o es ep} e d => by
      cases q : H b with
      | none => rfl
      | some u =>
        have e' : b = a := hA b (by rw [q]; simp)
        subst e'
        rw [ha] at e; cases e
        have d' : Data.seq vs.toArray _ = Data.dict es ep := d
        cases d'
    have nsK : ∀ {b : Addr} {m : Str → Option Value}, s₁.heap.Ns b m → (hidT s₁.heap H).Ns b m := fun {b m} ⟨o, es, ep, e, d, r⟩ => ⟨o, es, ep, base_of e (noA e d), d, r⟩
    have hKb : K.In (hidT s₁.heap H) := fun b o e => base_of (KX b o e) (by
      cases q : H b with
      | none => rfl
      | some u =>
        have e' : b = a := hA b (by rw [q]; simp)
        subst e'
        rw [hK (by rw [q]; simp)] at e; cases e)
    have hM : Mod K mg (hidT s₁.heap H) := ⟨hKb, nsK hns, ⟨mb, nsK hb, hbb⟩, let ⟨mc, h1, h2⟩ := hlim; ⟨mc, nsK h1, h2⟩⟩
    have e0 : Env0 P w K mg (hidT s₁.heap H) callerA [] s₁ H := ⟨rfl, hM, fun b o e => of_hidT e, Nat.le_of_eq (hidT_size _ _), trivial, fun b hb => absurd (show b ∈ ([] : List Addr) from hb) (by simp), hok, .of_eq hg⟩
    refine codeAny_mono ((F _ hKb (nsK hns)).run callerA [] s₁ H ⟨[.ref a], []⟩ [.ref a] [.ref a] _ _ hr e0 (hbind s₁ (.ref a)) (.cons rfl .nil) (hsp H hO hS)) fun r s' h => ?_
    cases r with
    | error e => exact (hCX H e s' h).elim
    | ok fl =>
      cases fl with
      | next => exact False.elim h
      | brk => exact False.elim h
      | cont => exact False.elim h
      | ret u =>
        obtain ⟨v, H', os, bare, un, hok', r', q⟩ := h
        have q' : v = .bl true := q
        subst q'
        obtain rfl : u = Value.bool true := r'
        refine ⟨rfl, OldK.of_keep fun b o e => ?_, os, bare⟩
        cases q : H b with
        | none => exact un.keep b o e q (by intro z; exact absurd (show b ∈ ([] : List Addr) from z) (by simp)) (by simp)
        | some u =>
          rcases hO b with z | ⟨ob, xs, z⟩
          · rw [q] at z; cases z
          · have z2 := un.frzs b ob _ z
            obtain ⟨e1, _⟩ := hok b _ z
            obtain ⟨e2, _⟩ := hok' b _ z2
            rw [e] at e1; cases e1
            exact e2
  cases hk : K.lookup a with
  | some o =>
    -- the script is one of the module's own objects
    have e := KX a o hk
    rw [ha] at e
    cases e
    refine core (fun _ => none) (fun _ => .inl rfl) (.inr ⟨_, vs.toArray, _, hk, rfl, rfl, rfl, by rw [List.size_toArray, lenV]; exact hl, by simpa using rv⟩) (fun b u z => by have z' : (none : Option HO) = some u := z; cases z') (fun b z => absurd rfl z) fun z => absurd rfl z
  | none =>
    refine core (fun b => if b = a then some (.frz { cls := .type "list", data := .seq vs.toArray } (.lst (ns.map V.int))) else none) (fun b => ?_) (.inl (.inr ⟨{ cls := .type "list", data := .seq vs.toArray }, if_pos rfl⟩)) (fun b u z => ?_) (fun b z => ?_) fun _ => hk
    · by_cases hb : b = a
      · exact .inr ⟨_, _, if_pos hb⟩
      · exact .inl (if_neg hb)
    · by_cases hb : b = a
      · have z' := (if_pos hb).symm.trans z
        cases z'
        subst hb
        exact ⟨ha, by rw [List.length_map]; exact hl, vs, _, rv, ha⟩
      · have z' := (if_neg hb).symm.trans z
        cases z'
    · by_cases hb : b = a
      · exact hb
      · exact absurd (if_neg hb) z
end L2

namespace L2
open PySem PySem.Spec PyProof.Rows

/-- the goal that k_head leaves (case hc), from the law's promise. F gives the function object fd (K's own) once, then the promise over every base -/
theorem walk_of {l : PySem.W.OpenLaw} {n k : Nat} {q : Program} {loose : List Str} {XP : (Str → Option Value) → Heap → Prop} {YP : World → Heap → Prop} {d : DefRec} {K : Params → PySem.W.Frag} {CX : World → CXT} {sp : World → Sp} {x : Str}
    (hn : l.most = some n) (hn2 : n ≤ sizeLine) (hdf : d.params.defaults = []) (hr : Room k callerA)
    (hY : ∀ (w : World) (h : Heap), YP w h → (K w.params).In h)
    (F : ∀ (w : World) (mg : Str → Option Value) (fa : Addr) (h : Heap), (K w.params).In h → h.Ns mainGlobals mg → mg d.name = some (.ref fa) →
      ∃ fd : FuncData, (∀ (s : Shared) (u : Value), BindsTo s fd ⟨[u], []⟩ [(x, u)]) ∧
        ∀ base : Heap, (K w.params).In base → base.Ns mainGlobals mg → FnOk l.prog w (K w.params) mg base (CX w) k fa fd [x] (sp w))
    (hsp : ∀ (w : World) (H : Hp) (a : Addr) (ns : List Int), ns.length ≤ n → Only H → SqL (K w.params) H a (ns.map V.int) → sp w [.ref a] H (fun v _ => v = .bl true) fun _ _ _ => False)
    (hCX : ∀ (w : World) (H : Hp) (s : Shared) (e : Value) (s' : Shared), CX w [] H s (fun _ _ _ => False) e s' → False) :
    PySem.W.WalkO q loose XP YP l.row.toRowW d [] (fun f vs => PySem.call f vs) := by
  refine Att.attach_call hn hdf fun w s₀ s₁ mg mb fa o pm cd doc a vs ns G Y ho hd hcd hmg hobj hints hlen hg => ?_
  have KX := hY w _ Y
  obtain ⟨fd, hb, hF⟩ := F w mg fa _ KX G.T.g hmg
  exact law_call KX G.T.g G.T.b G.T.builtins G.T.nolimit hg hobj hints (Nat.le_trans hlen hn2) hr hF hb (fun H hO hS => hsp w H a ns hlen hO hS) fun H e s' => hCX w H s₁ e s'
end L2

/- THE LAST THEOREM (shape; LID, My.* are yours):
   My.Adr: a structure of the addresses that your layer names (classes, functions); My.Txt K t: a structure (Prop) of the equations over K;
   My.txt_mk : {K} {implicit addresses ..} (e1 : nsIn K mainGlobals "law" = some (some (.ref f))) (e2 : K.lookup f = some ⟨oc, od, .func (fnOf "law" "law" params body scope dV kV doc pm an cdv ct), sl⟩) (e3 : codeIn K cdv "law" = true) .. : ∃ t, My.Txt K t

set_option maxRecDepth 100000 in
set_option maxHeartbeats 0 in
theorem PySem.Challenge.cw_LID_holds : PySem.Challenge.rw_LID.Holds := by
  w_on; o_law; k_head; (case hw => w_witness2)
  k_fill
  refine L2.walk_of (l := PySem.Challenge.rw_LID) (n := 63) (k := 40) (x := "script") (CX := fun w => ..) (sp := fun _ => My.sp_law) rfl (by decide) rfl ⟨rfl, by decide, by decide⟩ (fun w h Y => PySem.W.kIn_of Y) ?F ?S ?C
  case F =>
    intro w mg fa h KX G hmg
    have T : ∃ t, My.Txt (L2.KOf KX) t := by
      dsimp only [L2.KOf]                          -- K must stand as «<heap const> w.params» for k_is
      refine' My.txt_mk ?e1 ?e2 ?e3 ..
      (case e1 => PySem.W.k_is)                    -- in the order: a name -> its address -> its object -> its parts
      (case e2 => PySem.W.k_is)
      ..
    obtain ⟨t, T⟩ := T
    have e0 := hmg.symm.trans (PySem.W.mg_of KX G T.law)
    cases e0                                       -- fa is the law's own address
    exact ⟨_, fun s u => .of_eq rfl, fun base kb nb => My.law_fn T kb nb⟩     -- if «.of_eq rfl» comes too early: refine' ⟨_, ?b, fun base kb nb => My.law_fn T kb nb⟩; exact fun s u => .of_eq rfl
  case S => exact fun w H a ns hl hO hS => ..
  case C => exact ..
(the tactic k_is has no namespace: write k_is) -/

/-! SHORT WORDS over the layer: a def of the text, its body, what a loop and a test want. -/
namespace L2
open PySem PySem.Spec PyProof.Rows

/-! ### the text by places -/
/-- the j-th statement of a class's body -/
noncomputable def inClass (s : Stmt) (j : Nat) : Stmt := match s with
  | .ClassDef _ _ _ body _ _ _ _ _ _ _ => body.getD j (.Pass ⟨0, 0, 0, 0⟩)
  | _ => .Pass ⟨0, 0, 0, 0⟩
noncomputable def defArgs (s : Stmt) : Arguments := match s with
  | .FunctionDef _ a _ _ _ _ _ _ _ _ => a
  | _ => { posonlyargs := [], args := [], vararg := none, kwonlyargs := [], kw_defaults := [], kwarg := none, defaults := [] }
noncomputable def defBody (s : Stmt) : List Stmt := match s with
  | .FunctionDef _ _ b _ _ _ _ _ _ _ => b
  | _ => []
noncomputable def defScope (s : Stmt) : Scope := match s with
  | .FunctionDef _ _ _ _ _ _ sc _ _ _ => sc
  | _ => { kind := .function, names := [], isGenerator := false, isCoroutine := false }

/-! ### no exception leaves a def -/
noncomputable abbrev E0 : XK := fun _ _ _ => False
/-! ### a def (or method) of the text as it stands behind the top -/
structure Fun (K : PySem.W.Frag) (x qual : Str) (st : Stmt) (f : Addr) (fd : FuncData) : Prop where
  ex : ∃ (oc : Value) (od : Option Addr) (kV doc pm : Value) (an : Option Addr) (cdv ct : Value) (osl : Array (Option Value)),
    fd = PySem.W.fnOf x qual (defArgs st) (defBody st) (defScope st) .none kV doc pm an cdv ct ∧ K.lookup f = some ⟨oc, od, .func fd, osl⟩ ∧ PySem.W.codeIn K cdv qual = true
  kp : PySem.W.keepIn K (.ref f) = true
section
variable {P : Program} {w : World} {K : PySem.W.Frag} {mg : Str → Option Value} {base : Heap}
/-- how its arguments bind (no defaults): h is «fun _ _ _ _ _ _ us hl => match us, hl with | [_, _], _ => rfl», one _ a parameter -/
theorem Fun.binds {x qual : Str} {st : Stmt} {f : Addr} {fd : FuncData} {ps : List Str} (F : Fun K x qual st f fd)
    (h : ∀ (kV doc pm : Value) (an : Option Addr) (cdv ct : Value) (us : List Value), us.length = ps.length → bindArgs (PySem.W.fnOf x qual (defArgs st) (defBody st) (defScope st) .none kV doc pm an cdv ct) ⟨us, []⟩ = pure (ps.zip us)) : Binds K fd ps [] := by
  obtain ⟨oc, od, kV, doc, pm, an, cdv, ct, osl, rfl, lk, hcd⟩ := F.ex
  exact .all (h kV doc pm an cdv ct)
theorem fun_mk {x qual : Str} {st : Stmt} {f : Addr} {oc : Value} {od an : Option Addr} {osl : Array (Option Value)} {kV doc pm cdv ct : Value} (l : K.lookup f = some ⟨oc, od, .func (PySem.W.fnOf x qual (defArgs st) (defBody st) (defScope st) .none kV doc pm an cdv ct), osl⟩)
    (c : PySem.W.codeIn K cdv qual = true) (k : PySem.W.keepIn K (.ref f) = true) : Fun K x qual st f (PySem.W.fnOf x qual (defArgs st) (defBody st) (defScope st) .none kV doc pm an cdv ct) := ⟨⟨oc, od, kV, doc, pm, an, cdv, ct, osl, rfl, l, c⟩, k⟩
end
theorem small1000 {n : Nat} (h : n ≤ 1000) : n < sizeLine := Nat.lt_of_le_of_lt h (by decide)

/-! ### expressions in short: the name that stands in the i-th slot -/
section
variable {X : Cx}
theorem pv (i : Nat) {x : Str} {pos : Pos} (hN : X.N[i]? = some x := by rfl) (hv : Vis X.env.scope x := by first | exact Or.inl rfl | exact Or.inr (Or.inl rfl) | exact Or.inr (Or.inr rfl)) (hd : (x == ("__debug__" : Str)) = false := by decide)
    (hcd : (x == ("__classdict__" : Str)) = false := by decide) : PE X (.Name x pos) (tVar i) := pe_var hN hv hd hcd
end

/-! ### tests -/
theorem iteF {A B : Prop} (h : B) : if false = true then A else B := by
  rw [if_neg Bool.false_ne_true]
  exact h
theorem iteT {A B : Prop} (h : A) : if true = true then A else B := by
  rw [if_pos rfl]
  exact h
/-! ### heaps -/
/-- all that was tracked is as it was -/
noncomputable def Same (H H' : Hp) : Prop := ∀ b o, H b = some o → H' b = some o
theorem Same.refl (H : Hp) : Same H H := fun _ _ h => h
theorem Same.trans {H H1 H2 : Hp} (a : Same H H1) (b : Same H1 H2) : Same H H2 := fun c o h => b c o (a c o h)
theorem Same.free {H H' : Hp} (e : Same H H') {l : Addr} (h : H' l = Option.none) : H l = Option.none := by
  cases q : H l with
  | none => rfl
  | some o =>
    rw [e l o q] at h
    cases h
theorem Same.seq {K : PySem.W.Frag} {H H' : Hp} {a : Addr} {xs : List V} (e : Same H H') (h : SqL K H a xs) : SqL K H' a xs := by
  rcases h with (h | ⟨o, h⟩) | h
  · exact .inl (.inl (e _ _ h))
  · exact .inl (.inr ⟨o, e _ _ h⟩)
  · exact .inr h

end L2

namespace L2
open PySem PySem.Spec PyProof.Rows
section
variable {X : Cx} {pins : List (Addr × Obj)} {σ : St} {H : Hp} {s : Shared} {h' : Heap}
/-- untracked records of ours have turned, and a new object is laid and tracked -/
theorem Inv.turnLay {t' : Nat} {ch : List Addr} {T : Addr} {o : HO} (I : Inv X pins σ H s) (hf : ∀ b ∈ ch, FpOk X pins H b)
    (k : ∀ b u, b ∉ ch → s.heap.get? b = some u → h'.get? b = some u) (hT : s.heap.objs.size ≤ T)
    (new : ObjOk X.prog X.w (upd H T o) h' T o) : Inv X pins σ (upd H T o) { s with heap := h', toks := t' } := by
  have hn : H T = none := I.hok.fresh hT
  have nT : ∀ b u, s.heap.get? b = some u → b ≠ T := fun b u e => Nat.ne_of_lt (Nat.lt_of_lt_of_le (Heap.lt_size e) hT)
  have nch : ∀ b u, H b = some u → b ∉ ch := fun b u e hb => by rw [(hf b hb).1] at e; cases e
  have nTH : ∀ b u, H b = some u → b ≠ T := fun b u e => ne_of_none e hn
  refine I.step (g' := s.gens) (d' := s.drawn) (ch := ch) (fun b hb => ?_) (fun b o _ _ hc e _ => k b o hc e) (fun b o _ _ hc e _ => ⟨o.slots, k b o hc e⟩)
    (fun b u hc e n => by rw [upd_ne (nT b u e)]; exact n) (fun b u hc e => ⟨u, k b u hc e⟩) (fun b xs e => by rw [upd_ne (nTH b _ e)]; exact e) (fun b o' u e => by rw [upd_ne (nTH b _ e)]; exact e)
    (fun b ps e => ⟨#[], by rw [upd_ne (nTH b _ e), e]; simp⟩) (fun m hm => ?_) (fun b u e => ?_) I.bare
  · obtain ⟨f0, f1, f2, f3, f4, f5⟩ := hf b hb
    exact ⟨f3, f1, f4, f5⟩
  · obtain ⟨ob, es, ep, ho, r⟩ := hm
    exact ⟨ob, es, ep, k _ ob (fun z => (hf _ z).2.1 rfl) ho, r⟩
  · by_cases hb : b = T
    · subst hb; rw [upd_same] at e; cases e; exact new
    · rw [upd_ne hb] at e
      refine (I.hok b u e).stay (fun c v hc q => k c v ?_ q) (fun c q => by rw [upd_ne (nTH c _ q)]; exact q) fun c xs q => by rw [upd_ne (nTH c _ q)]; exact q
      rcases hc with z | z
      · rw [z]; exact nch b u e
      · exact nch c _ z
/-- untracked records of ours have turned -/
theorem Inv.turnedL {t' : Nat} {ch : List Addr} (I : Inv X pins σ H s) (hf : ∀ b ∈ ch, FpOk X pins H b)
    (k : ∀ b u, b ∉ ch → s.heap.get? b = some u → h'.get? b = some u) : Inv X pins σ H { s with heap := h', toks := t' } := by
  have nch : ∀ b u, H b = some u → b ∉ ch := fun b u e hb => by rw [(hf b hb).1] at e; cases e
  refine I.step (g' := s.gens) (d' := s.drawn) (ch := ch) (fun b hb => ?_) (fun b o _ _ hc e _ => k b o hc e) (fun b o _ _ hc e _ => ⟨o.slots, k b o hc e⟩)
    (fun b u hc e n => n) (fun b u hc e => ⟨u, k b u hc e⟩) (fun b xs e => e) (fun b o' u e => e)
    (fun b ps e => ⟨#[], by rw [e]; simp⟩) (fun m hm => ?_) (fun b u e => ?_) I.bare
  · obtain ⟨f0, f1, f2, f3, f4, f5⟩ := hf b hb
    exact ⟨f3, f1, f4, f5⟩
  · obtain ⟨ob, es, ep, ho, r⟩ := hm
    exact ⟨ob, es, ep, k _ ob (fun z => (hf _ z).2.1 rfl) ho, r⟩
  · refine (I.hok b u e).stay (fun c v hc q => k c v ?_ q) (fun c q => q) fun c xs q => q
    rcases hc with z | z
    · rw [z]; exact nch b u e
    · exact nch c _ z
end

/-! ### the signs of a text -/
section
variable {X : Cx} {tg : Expr}
end
/-! ### enumerate over a list -/
noncomputable def Ite (K : PySem.W.Frag) (a : Addr) : It :=
  ⟨fun i H => ∃ xs x, SqL K H a xs ∧ xs[i]? = some x, fun i H v H' => ∃ T y, v = .ref T ∧ H T = none ∧ H' = upd H T (.tup [.int i, y]) ∧ ∀ xs, SqL K H a xs → xs[i]? = some y, fun i H => ∃ xs, SqL K H a xs ∧ xs.length ≤ i⟩
theorem turn_enum {P : Program} {w : World} {K : PySem.W.Frag} {elts : List Expr} {kk : Nat} {tp : Pos} (a e it : Addr) (hne : e ≠ it) :
    Turn P w K (.Tuple elts kk tp) (Ite K a) [e, it] e (fun i h => (∃ old, IsEnum h e it (i : Nat) old) ∧ h.IsListIter it a i) where
  mem := by simp
  obj := fun i h st b hb => by
    obtain ⟨⟨old, he⟩, o, e', c, d⟩ := st
    have : b = e ∨ b = it := by simpa using hb
    rcases this with rfl | rfl
    · exact ⟨_, he, fun v z => nomatch z⟩
    · exact ⟨o, e', fun v z => by rw [d] at z; cases z⟩
  keep := fun i h h' st k => ⟨let ⟨old, he⟩ := st.1; ⟨old, k e (by simp) _ he⟩, st.2.at fun o q => k it (by simp) o q⟩
  item := by
    intro X hP hw hK hc i pins s σ H E I hf st hg
    subst hP hw hK
    obtain ⟨⟨old, he⟩, hit⟩ := st
    obtain ⟨xs, x, hq, hx⟩ := hg
    obtain ⟨its, rv, p, hz⟩ := I.list hq
    obtain ⟨u, hu, ru⟩ := rv.get hx
    have helt : e < s.heap.objs.size := Heap.lt_size he
    refine wpAny_pyNext_enum_item he hit p.isList (x := u) (by simpa using hu) hne fun h1 heo hit1 ht1 hz1 hk1 => ?_
    refine ⟨_, rfl, wpAny_letOwnedTupleGo_enum heo fun h2 he2 hs2 => ?_⟩
    have hT2 : h2.get? s.heap.objs.size = some { cls := .type "tuple", data := .seq #[.int i s.toks, u] } := (hs2.2 _ (Nat.ne_of_gt helt)).trans ht1
    have I2 : Inv X pins σ (upd H s.heap.objs.size (.tup [.int i, x])) { s with heap := h2, toks := s.toks + 1 } := by
      refine I.turnLay (ch := [e, it]) hf (fun b o hb q => ?_) (Nat.le_refl _) ?_
      · have n1 : b ≠ e := fun z => hb (by simp [z])
        have n2 : b ≠ it := fun z => hb (by simp [z])
        exact (hs2.2 b n1).trans (hk1 b o n1 n2 q)
      · exact ⟨by show 2 ≤ sizeLine; decide, [.int i s.toks, u], .cons ⟨_, rfl⟩ (.cons ru .nil), ⟨_, hT2, rfl, _, rfl⟩⟩
    have hn : H s.heap.objs.size = none := I.hok.fresh (Nat.le_refl _)
    refine ⟨.ref s.heap.objs.size, _, I2, rfl, ⟨_, x, rfl, hn, rfl, fun ys hy => by rw [I.list_inj hy hq]; exact hx⟩, ⟨⟨u, by simpa using he2⟩, hit1.at fun o q => (hs2.2 it (Ne.symm hne)).trans q⟩, fun b hb => ?_⟩
    have hb' : b < s.heap.objs.size := by
      have : b = e ∨ b = it := by simpa using hb
      rcases this with rfl | rfl
      · exact helt
      · obtain ⟨o, q, _⟩ := hit; exact Heap.lt_size q
    rw [upd_ne (Nat.ne_of_lt hb')]
    exact (hf b hb).1
  done := by
    intro X hP hw hK hc i pins s σ H E I hf st hg
    subst hP hw hK
    obtain ⟨⟨old, he⟩, hit⟩ := st
    obtain ⟨xs, hq, hx⟩ := hg
    obtain ⟨its, rv, p, hz⟩ := I.list hq
    have hl := rv.length
    exact wpAny_pyNext_enum_end (I.ok.hd hc) he hit p.isList (by simp; omega) fun h' eb => ⟨rfl, I.turnedL (t' := s.toks) hf fun b o hb q => eb b o (fun z => hb (by simp [z])) q⟩
  self := fun A i s Q E st h => by
    obtain ⟨⟨old, he⟩, hit⟩ := st
    have hT : s.TypeIs (.ref e) "enumerate" := ⟨_, he, rfl⟩
    refine wpAny_pyIter_slot hT F.slot_enumerate_iter (wpAny_call_entry F.slot_enumerate_iter hT F.entry_enumerate_iter ?_ (F.args_enumerate_iter_1 _))
    show wpAny _ _ (ret (.ref e)) _ _ s
    exact wpAny_pure ⟨_, rfl, "enumerate", _, hT, F.slot_enumerate_next.lookup, h⟩
end L2

namespace L2
open PySem PySem.Spec PyProof.Rows

/-! ### enumerate, as a loop walks it -/
section
variable {X : Cx}
noncomputable def iEnum (K : PySem.W.Frag) (ta : TA) : TI := fun σ H R => ta σ H fun vs H1 => ∃ a, vs = [.ref a] ∧ (∃ xs, SqL K H1 a xs) ∧ R (Ite K a) H1
theorem pi_enum {elts : List Expr} {kk : Nat} {tp : Pos} {a : Expr} {ta : TA} {p pos : Pos} (hg : Gl X "enumerate") (hm : X.mg "enumerate" = none) (hb : bootBuiltins "enumerate" = some (.type "enumerate")) (ha : PA X [a] ta) (hs : starEach [a] X.env = [(false, eval a X.env)] := by rfl) :
    PI X (.Tuple elts kk tp) (.Call (.Name "enumerate" p) [a] [] pos) (iEnum X.K ta) := .mk <| by
  intro pins s σ H R I h
  refine Call_ (ld_blt I hg hm hb (PyProof.Rows.callWith_type1 (thn (ha pos pins s σ H _ I h) fun us s1 ⟨vs, H1, I1, r1, q1⟩ => ?_) hs rfl))
  obtain ⟨b, e, ⟨xs, hq⟩, q⟩ := q1
  subst e
  cases r1 with
  | cons r rr =>
    cases rr
    cases r
    obtain ⟨its, rv, pl, hz⟩ := I1.list hq
    refine call_enumerate_list pl.isList fun h' he hi hsz hk => ?_
    have I2 : Inv X pins σ H1 { s1 with heap := h' } := I1.kept (t' := s1.toks) hk
    have T := turn_enum (P := X.prog) (w := X.w) (K := X.K) (elts := elts) (kk := kk) (tp := tp) b (s1.heap.objs.size + 1) s1.heap.objs.size (Nat.succ_ne_self _)
    have t0 : (∃ old, IsEnum h' (s1.heap.objs.size + 1) s1.heap.objs.size ((0 : Nat) : Int) old) ∧ h'.IsListIter s1.heap.objs.size b 0 := ⟨⟨.none, by simpa using he⟩, hi⟩
    refine T.self X.A 0 _ _ _ t0 ⟨_, _, _, _, H1, rfl, I2, T, t0, fun c hc => ?_, q⟩
    have hc' : s1.heap.objs.size ≤ c := by
      have : c = s1.heap.objs.size + 1 ∨ c = s1.heap.objs.size := by simpa using hc
      rcases this with rfl | rfl
      · exact Nat.le_succ _
      · exact Nat.le_refl _
    exact I1.fpOk hc' (I1.hok.fresh hc')
end
theorem for_enum {K : PySem.W.Frag} {a : Addr} {xs : List V} {g : TG} {tb : TS} {D : Ends} {σ : St} {H : Hp} (Pv : Nat → St → Hp → Prop) (h0 : Pv 0 σ H) (hl : ∀ i σ H, i ≤ xs.length → Pv i σ H → SqL K H a xs)
    (hs : ∀ i x T σ H, xs[i]? = some x → Pv i σ H → H T = none → g (.ref T) σ (upd H T (.tup [.int i, x])) fun σ2 H2 => tb { D with nx := Pv (i + 1), ct := Pv (i + 1), bk := D.nx } σ2 H2) (hd : ∀ σ H, Pv xs.length σ H → D.nx σ H) :
    ∃ W : Nat → Nat → St → Hp → Prop, (∃ m, W 0 m σ H) ∧ ∀ i m σ H, W i m σ H →
      ((Ite K a).stop i H ∧ D.nx σ H) ∨ ((Ite K a).go i H ∧ ∃ N : St → Hp → Prop, (∀ σ' H', N σ' H' → ∃ m', m' < m ∧ W (i + 1) m' σ' H') ∧ ∀ x H', (Ite K a).yld i H x H' → g x σ H' fun σ2 H2 => tb { D with nx := N, ct := N, bk := D.nx } σ2 H2) := by
  refine ⟨fun i m σ H => m = xs.length - i ∧ i ≤ xs.length ∧ Pv i σ H, ⟨xs.length, by simp, Nat.zero_le _, h0⟩, ?_⟩
  rintro i m σ H ⟨rfl, hi, p⟩
  have q := hl i σ H hi p
  by_cases hlt : i < xs.length
  · refine .inr ⟨⟨xs, xs[i], q, by simp [hlt]⟩, Pv (i + 1), fun σ' H' p' => ⟨xs.length - (i + 1), by omega, rfl, hlt, p'⟩, fun x H' y => ?_⟩
    obtain ⟨T, z, rfl, hT, rfl, y⟩ := y
    exact hs i z T σ H (y xs q) p hT
  · have e : i = xs.length := by omega
    subst e
    exact .inl ⟨⟨xs, q, Nat.le_refl _⟩, hd σ H p⟩

/-! ### a comprehension's block -/
noncomputable def clStep (env : Env) (cs : List (Str × Addr)) (p : Str × NameKind) : List (Str × Addr) := if p.2 = .free then (match env.cells.lookup p.1 with | some c => (p.1, c) :: cs | none => cs) else cs
noncomputable def clOf (scope : Scope) (env : Env) : List (Str × Addr) := scope.names.foldl (clStep env) []
noncomputable def compOk (scope : Scope) (env : Env) : Bool :=
  scope.names.all (fun p => p.2 != .cell) && scope.names.all (fun p => p.2 != .local || scope.names.lookup p.1 == some .local) && scope.names.all (fun p => p.2 != .free || (env.scope.names.lookup p.1 == some .cell || env.scope.names.lookup p.1 == some .free))

theorem closure_go {env : Env} : ∀ (ns : List (Str × NameKind)) (cs : List (Str × Addr)), (∀ p ∈ ns, p.2 = .free → ∃ c, env.cells.lookup p.1 = some c) →
    (forIn (m := Sem) ns cs fun (p : Str × NameKind) (cs : List (Str × Addr)) => (if (p.2 == .free) = true then do
        let c ← cellOf env p.1
        pure (ForInStep.yield ((p.1, c) :: cs)) else pure (ForInStep.yield cs))) = pure (ns.foldl (clStep env) cs)
  | [], cs, _ => rfl
  | p :: ns, cs, h => by
    rw [List.forIn_cons, List.foldl_cons]
    have ih := closure_go (env := env) ns
    have hr : ∀ q ∈ ns, q.2 = .free → ∃ c, env.cells.lookup q.1 = some c := fun q hq => h q (List.mem_cons_of_mem _ hq)
    by_cases hk : p.2 = .free
    · obtain ⟨c, e⟩ := h p List.mem_cons_self hk
      have e1 : (p.2 == NameKind.free) = true := by simp [hk]
      have e2 : clStep env cs p = (p.1, c) :: cs := by unfold clStep; rw [if_pos hk, e]
      have e3 : cellOf env p.1 = pure c := by unfold cellOf; rw [e]
      rw [if_pos e1, e3, e2]
      exact ih _ hr
    · have e1 : ¬ ((p.2 == NameKind.free) = true) := by simp [hk]
      have e2 : clStep env cs p = cs := by unfold clStep; rw [if_neg hk]
      rw [if_neg e1, e2]
      exact ih _ hr
theorem closure_is {scope : Scope} {env : Env} (h : ∀ p ∈ scope.names, p.2 = .free → ∃ c, env.cells.lookup p.1 = some c) : closureFor scope env = pure (clOf scope env) := by
  have e := closure_go (env := env) scope.names [] h
  have e2 := congrArg (fun (z : Sem (List (Str × Addr))) => z >>= fun s => pure s) e
  exact e2
theorem cl_in {env : Env} {x : Str} {c : Addr} : ∀ (ns : List (Str × NameKind)) (cs : List (Str × Addr)), (∀ y d, cs.lookup y = some d → env.cells.lookup y = some d) → (ns.foldl (clStep env) cs).lookup x = some c → env.cells.lookup x = some c
  | [], cs, h, e => h x c e
  | p :: ns, cs, h, e => by
    refine cl_in ns (clStep env cs p) (fun y d q => ?_) e
    unfold clStep at q
    split at q
    · split at q
      · rename_i c' ec
        rw [List.lookup_cons] at q
        split at q
        · rename_i he
          have : y = p.1 := by simpa using he
          subst this; rw [← q]; exact ec
        · exact h y d q
      · exact h y d q
    · exact h y d q
theorem cl_mono {env : Env} {x : Str} {c : Addr} (hx : env.cells.lookup x = some c) : ∀ (ns : List (Str × NameKind)) (cs : List (Str × Addr)), cs.lookup x = some c → (ns.foldl (clStep env) cs).lookup x = some c
  | [], cs, e => e
  | p :: ns, cs, e => by
    refine cl_mono hx ns (clStep env cs p) ?_
    unfold clStep
    split
    · split
      · rename_i c' ec
        rw [List.lookup_cons]
        split
        · rename_i he
          have : x = p.1 := by simpa using he
          subst this; rw [hx] at ec; exact ec.symm
        · exact e
      · exact e
    · exact e
theorem cl_has {env : Env} {x : Str} {c : Addr} (hx : env.cells.lookup x = some c) : ∀ (ns : List (Str × NameKind)) (cs : List (Str × Addr)), (x, NameKind.free) ∈ ns → (ns.foldl (clStep env) cs).lookup x = some c
  | [], cs, e => by simp at e
  | p :: ns, cs, e => by
    rcases List.mem_cons.mp e with e | e
    · subst e
      refine cl_mono hx ns _ ?_
      unfold clStep
      rw [if_pos rfl, hx]
      simp
    · exact cl_has hx ns _ e

theorem compOk_cell {scope : Scope} {env : Env} (h : compOk scope env = true) : ∀ p ∈ scope.names, p.2 ≠ .cell := fun p hp => by
  unfold compOk at h
  simp only [Bool.and_eq_true, List.all_eq_true] at h
  simpa using h.1.1 p hp
theorem compOk_local {scope : Scope} {env : Env} (h : compOk scope env = true) : ∀ p ∈ scope.names, p.2 = .local → scope.names.lookup p.1 = some .local := fun p hp e => by
  unfold compOk at h
  simp only [Bool.and_eq_true, List.all_eq_true] at h
  have := h.1.2 p hp
  rw [e] at this
  simpa using this
theorem compOk_free {scope : Scope} {env : Env} (h : compOk scope env = true) : ∀ p ∈ scope.names, p.2 = .free → env.kindOf p.1 = some .cell ∨ env.kindOf p.1 = some .free := fun p hp e => by
  unfold compOk at h
  simp only [Bool.and_eq_true, List.all_eq_true] at h
  have := h.2 p hp
  rw [e] at this
  simpa [Env.kindOf] using this

theorem lookup_relabel {env : Env} : ∀ {names : List (Str × NameKind)} {x : Str} {k : NameKind},
    (names.map fun (n, k) => if (k == NameKind.free && env.scope.kind == .function && env.kindOf n == some .cell) then (n, NameKind.cell) else (n, k)).lookup x = some k →
      names.lookup x = some k ∨ (names.lookup x = some .free ∧ k = .cell)
  | [], _, _, h => by simp at h
  | (n, j) :: r, x, k, h => by
    have ih := @lookup_relabel env r x k
    rw [List.map_cons] at h
    by_cases hx : (x == n) = true
    · rw [List.lookup_cons, hx]
      by_cases hc : (j == NameKind.free && env.scope.kind == .function && env.kindOf n == some .cell) = true
      · simp only [hc, if_true] at h
        rw [List.lookup_cons, hx] at h
        have hj : j = .free := by
          simp only [Bool.and_eq_true] at hc
          simpa using hc.1.1
        exact .inr ⟨by simp [hj], (Option.some.inj h).symm⟩
      · simp only [hc, if_false] at h
        have h' : List.lookup x ((n, j) :: List.map (fun x => if (x.snd == NameKind.free && env.scope.kind == ScopeKind.function && env.kindOf x.fst == some NameKind.cell) = true then (x.fst, NameKind.cell) else (x.fst, x.snd)) r) = some k := by simpa using h
        rw [List.lookup_cons, hx] at h'
        exact .inl h'
    · have hx' : (x == n) = false := by simpa using hx
      rw [List.lookup_cons, hx']
      apply ih
      by_cases hc : (j == NameKind.free && env.scope.kind == .function && env.kindOf n == some .cell) = true
      · simp only [hc, if_true] at h
        rw [List.lookup_cons, hx'] at h
        exact h
      · have h' : List.lookup x ((n, j) :: List.map (fun x => if (x.snd == NameKind.free && env.scope.kind == ScopeKind.function && env.kindOf x.fst == some NameKind.cell) = true then (x.fst, NameKind.cell) else (x.fst, x.snd)) r) = some k := by simpa [hc] using h
        rw [List.lookup_cons, hx'] at h'
        exact h'
theorem relabel_free {env : Env} : ∀ {names : List (Str × NameKind)} {x : Str}, names.lookup x = some .free →
    ∃ k, (names.map fun (n, k) => if (k == NameKind.free && env.scope.kind == .function && env.kindOf n == some .cell) then (n, NameKind.cell) else (n, k)).lookup x = some k ∧ (k = .cell ∨ k = .free)
  | [], _, h => by simp at h
  | (n, j) :: r, x, h => by
    have ih := @relabel_free env r x
    by_cases hx : (x == n) = true
    · rw [List.lookup_cons, hx] at h
      have hj : j = .free := Option.some.inj h
      subst hj
      by_cases hc : (env.scope.kind == .function && env.kindOf n == some .cell) = true
      · refine ⟨.cell, ?_, .inl rfl⟩
        show List.lookup x ((if (NameKind.free == NameKind.free && env.scope.kind == .function && env.kindOf n == some .cell) = true then (n, NameKind.cell) else (n, NameKind.free)) :: _) = _
        rw [if_pos (by simpa using hc), List.lookup_cons, hx]
      · refine ⟨.free, ?_, .inr rfl⟩
        show List.lookup x ((if (NameKind.free == NameKind.free && env.scope.kind == .function && env.kindOf n == some .cell) = true then (n, NameKind.cell) else (n, NameKind.free)) :: _) = _
        rw [if_neg (by simpa using hc), List.lookup_cons, hx]
    · have hx' : (x == n) = false := by simpa using hx
      rw [List.lookup_cons, hx'] at h
      obtain ⟨k, e, hk⟩ := ih h
      refine ⟨k, ?_, hk⟩
      rw [List.map_cons]
      by_cases hc : (j == NameKind.free && env.scope.kind == .function && env.kindOf n == some .cell) = true
      · simp only [hc, if_true, List.lookup_cons, hx']
        exact e
      · show List.lookup x ((if (j == NameKind.free && env.scope.kind == .function && env.kindOf n == some .cell) = true then (n, NameKind.cell) else (n, j)) :: _) = _
        rw [if_neg hc, List.lookup_cons, hx']
        exact e

noncomputable def Cx.comp (X : Cx) (scope : Scope) (C : Addr) (s₀ : Shared) (H₀ : Hp) (fp : List Addr) (N' : List Str) (E' : Value → Shared → Prop) : Cx :=
  { X with N := N', s₀ := s₀, H₀ := H₀, env := compEnvC scope (clOf scope X.env) C X.env, outer := X.stack, ex := fp, fn := fun _ => false, pn := [], xe := E' }
noncomputable def caps (cap : List Nat) (σ : St) : St := cap.map fun j => (σ[j]?).join
noncomputable def capOk (X : Cx) (scope : Scope) (N' : List Str) (nt : Nat) (cap : List Nat) : Bool :=
  (N'.length == nt + cap.length) && ((List.range cap.length).all fun j => match cap[j]?, N'[nt + j]? with
    | some i, some x => X.N[i]? == some x && scope.names.lookup x == some .free
    | _, _ => false)
section
variable {X : Cx}
theorem capOk_get {scope : Scope} {N' : List Str} {nt : Nat} {cap : List Nat} (h : capOk X scope N' nt cap = true) : N'.length = nt + cap.length ∧ ∀ j i, cap[j]? = some i → ∃ x, N'[nt + j]? = some x ∧ X.N[i]? = some x ∧ scope.names.lookup x = some .free := by
  unfold capOk at h
  simp only [Bool.and_eq_true, List.all_eq_true, beq_iff_eq] at h
  refine ⟨h.1, fun j i e => ?_⟩
  have hj : j < cap.length := (List.getElem?_eq_some_iff.mp e).1
  have q := h.2 j (List.mem_range.mpr hj)
  rw [e] at q
  cases q2 : N'[nt + j]? with
  | none => rw [q2] at q; simp at q
  | some x =>
    rw [q2] at q
    simp only [Bool.and_eq_true, beq_iff_eq] at q
    exact ⟨x, rfl, q.1, q.2⟩
/-- the block's context, at its entry -/
theorem comp_start {pins : List (Addr × Obj)} {σ : St} {H : Hp} {s3 : Shared} {scope : Scope} {fp : List Addr} {N' : List Str} {nt : Nat} {cap : List Nat} {h4 : Heap} {t4 : Nat} {E' : Value → Shared → Prop} {m : Str → Option Value}
    (I : Inv X pins σ H s3) (hk : scope.kind = .function) (hb : compOk scope X.env = true) (hc : capOk X scope N' nt cap = true) (hf : ∀ b ∈ fp, FpOk X pins H b) (hfl : ∀ b ∈ fp, b < s3.heap.objs.size)
    (hn : h4.Ns s3.heap.objs.size m) (kp : ∀ b o, s3.heap.get? b = some o → h4.get? b = some o) :
    Inv (X.comp scope s3.heap.objs.size s3 H fp N' E') [] (List.replicate nt none ++ caps cap σ) H { s3 with heap := h4, toks := t4 } := by
  obtain ⟨hlen, hcap⟩ := capOk_get hc
  have cin : ∀ x c, (clOf scope X.env).lookup x = some c → X.env.cells.lookup x = some c := fun x c e => cl_in scope.names [] (fun y d q => by simp at q) e
  have kin : ∀ x, ((X.comp scope s3.heap.objs.size s3 H fp N' E').env.kindOf x = some .cell ∨ (X.comp scope s3.heap.objs.size s3 H fp N' E').env.kindOf x = some .free) → scope.names.lookup x = some .free := fun x hx => by
    have one : ∀ k, (k = NameKind.cell ∨ k = NameKind.free) → (X.comp scope s3.heap.objs.size s3 H fp N' E').env.kindOf x = some k → scope.names.lookup x = some .free := fun k hk' e => by
      rcases lookup_relabel (env := X.env) (names := scope.names) (x := x) (k := k) e with z | z
      · rcases hk' with rfl | rfl
        · exact absurd rfl (compOk_cell hb _ (PySem.mem_of_lookup z))
        · exact z
      · exact z.1
    rcases hx with hx | hx
    · exact one _ (.inl rfl) hx
    · exact one _ (.inr rfl) hx
  have has : ∀ x, scope.names.lookup x = some .free → ∃ c, X.env.cells.lookup x = some c ∧ (clOf scope X.env).lookup x = some c := fun x hx => by
    have hm := PySem.mem_of_lookup hx
    obtain ⟨c, e⟩ := I.ok.has x (compOk_free hb _ hm rfl)
    exact ⟨c, e, cl_has e _ _ hm⟩
  refine ⟨⟨I.ok.mod, hk, I.ok.glob, I.ok.blt, Nat.le_refl _, fun x y c e1 e2 => I.ok.inj x y c (cin x c e1) (cin y c e2), fun x hx => ?_, fun x c z _ => absurd z Bool.false_ne_true, I.ok.hd, I.ok.frames, .inl rfl, fun b hb' => ⟨Nat.ne_of_lt (hfl b hb'), fun x c e => (hf b hb').2.2.2.2.1 x c (cin x c e)⟩,
    I.bs, Nat.le_trans I.ok.bsz I.sz, fun b o e hb' => ?_, fun b hb' hs => ?_, I.stack, I.stkFree⟩, rfl, I.bare, Un.kept kp, ⟨m, hn, fun i x v h1 h2 h3 => ?_⟩, fun x c e => ?_, I.hok.fresh (Nat.le_refl _), fun x c e => I.freeC x c (cin x c e), fun p hp => absurd hp (by simp [Cx.comp]), I.hok.kept kp, ?_⟩
  · obtain ⟨c, _, e⟩ := has x (kin x hx)
    exact ⟨c, e⟩
  · rcases (hf b hb').2.2.2.1 with z | z
    · exact I.ok.noex b o e z
    · exact absurd (Nat.lt_of_lt_of_le (Heap.lt_size e) (Nat.le_trans I.ok.bsz z)) (Nat.lt_irrefl _)
  · rcases List.mem_cons.mp (I.stkSub b hs) with z | z
    · exact (hf b hb').2.1 z
    · exact (hf b hb').2.2.1 z
  · have hge : nt ≤ i := by
      by_cases hlt : i < nt
      · rw [List.getElem?_append_left (by simpa using hlt), List.getElem?_replicate] at h2
        split at h2 <;> cases h2
      · omega
    obtain ⟨j, rfl⟩ : ∃ j, i = nt + j := ⟨i - nt, by omega⟩
    rw [List.getElem?_append_right (by simp), List.length_replicate, Nat.add_sub_cancel_left] at h2
    unfold caps at h2
    rw [List.getElem?_map] at h2
    cases ej : cap[j]? with
    | none => rw [ej] at h2; cases h2
    | some i' =>
      rw [ej] at h2
      have h2' : (σ[i']?).join = some v := Option.some.inj h2
      obtain ⟨x', e1, e2, e3⟩ := hcap j i' ej
      have : x' = x := by
        have h1' : N'[nt + j]? = some x := h1
        rw [e1] at h1'; exact Option.some.inj h1'
      subst this
      have hσ : σ[i']? = some (some v) := by
        cases q : σ[i']? with
        | none => rw [q] at h2'; cases h2'
        | some o => rw [q] at h2'; exact congrArg some h2'
      have hkx := compOk_free hb _ (PySem.mem_of_lookup e3) rfl
      obtain ⟨m', hn', hl'⟩ := I.loc
      obtain ⟨u, ru, lk⟩ := hl' i' x' v e2 hσ (hkx.elim (fun z => .inr (.inl z)) fun z => .inr (.inr z))
      refine ⟨u, ru, .inr ⟨?_, ?_⟩⟩
      · obtain ⟨k, ek, hk'⟩ := relabel_free (env := X.env) e3
        rcases hk' with rfl | rfl
        · exact .inl ek
        · exact .inr ek
      · rcases lk with ⟨kl, _⟩ | ⟨_, c, ec, icell⟩
        · rcases hkx with z | z <;> (rw [kl] at z; cases z)
        · exact ⟨c, cl_has ec _ _ (PySem.mem_of_lookup e3), icell.keeps kp⟩
  · obtain ⟨v, z⟩ := I.cell x c (cin x c e)
    exact ⟨v, z.keeps kp⟩
  · show (List.replicate nt none ++ caps cap σ).length = N'.length
    rw [hlen]
    simp [caps]
end
end L2

namespace L2
open PySem PySem.Spec PyProof.Rows
section
variable {prog : Program} {w : World} {A : Around} {E : Value → Shared → Prop} {R : Result → Shared → Prop} {s : Shared}
theorem compLoop_gen {elt target iter : Expr} {ifs : List Expr} {scope : Scope} {pos : Pos} {it acc : Value} {env : Env} (I : Nat → Shared → Prop)
    (turn : ∀ n s, I n s → wpAny (model prog w) A (pyNext it) (fun r s₁ => match r with
      | none => R (.ok .next) s₁
      | some v => wpAny (model prog w) A (letOwnedTupleGo target it v) (fun _ s₁' => wpAny (model prog w) A (assign target env v) (fun _ s₂ =>
          wpAny (model prog w) A (forIn ifs true fun c r => if r = true then do let ok ← isTrue c env (eval c env); pure (ForInStep.yield ok) else pure (ForInStep.yield r)) (fun ok s₃ =>
            if ok = true then wpAny (model prog w) A (eval elt env) (fun x s₄ =>
              wpAny (model prog w) A (call (.builtin "list.append") [acc, x]) (fun _ s₅ => ∃ m, m < n ∧ I m s₅) (notedBy (model prog w) A env fun e s' => R (.error e) s') s₄) (notedBy (model prog w) A env fun e s' => R (.error e) s') s₃
            else ∃ m, m < n ∧ I m s₃) (notedBy (model prog w) A env fun e s' => R (.error e) s') s₂) (notedBy (model prog w) A env fun e s' => R (.error e) s') s₁') (notedBy (model prog w) A env fun e s' => R (.error e) s') s₁) (notedBy (model prog w) A env fun e s' => R (.error e) s') s)
    (n : Nat) (h : I n s) : codeAny (model prog w) A (.compLoop (.ListComp elt [⟨target, iter, ifs, 0⟩] scope pos) 0 it acc env) R s := by
  refine codeAny_loop rfl I (fun n s hI => ?_) n h
  show wpAny _ A ((compTurn (.ListComp elt [⟨target, iter, ifs, 0⟩] scope pos) 0 it acc env).onRaise (fun x => do noteFrame x env; theTreesLotGoes x)) _ _ s
  refine wpAny_noted ?_
  rw [compTurn_list]
  refine wpAny_bind (wpAny_standAt (wpAny_bind (wpAny_mono (turn n s hI) (fun r s₁ h₁ => ?_) fun _ _ h' => h')))
  cases r with
  | none => exact wpAny_pure h₁
  | some v =>
    refine wpAny_bind (wpAny_mono h₁ (fun _ s₁' h₁' => ?_) fun _ _ h' => h')
    refine wpAny_bind (wpAny_mono h₁' (fun _ s₂ h₂ => wpAny_bind (wpAny_mono h₂ (fun ok s₃ h₃ => ?_) fun _ _ h' => h')) fun _ _ h' => h')
    cases ok with
    | false => exact wpAny_pure ⟨rfl, h₃⟩
    | true =>
      exact wpAny_bind (wpAny_bind (wpAny_mono h₃ (fun x s₄ h₄ => wpAny_bind (wpAny_mono h₄ (fun _ s₅ h₅ => wpAny_pure (wpAny_pure ⟨rfl, h₅⟩)) fun _ _ h' => h')) fun _ _ h' => h'))
end
/-- the tests of a clause -/
structure PIf (X : Cx) (ifs : List Expr) (t : TT) : Prop where
  run :
  ∀ (pins : List (Addr × Obj)) (s : Shared) (σ : St) (H : Hp) (Q : Bool → Hp → Prop), Inv X pins σ H s → t σ H Q →
    wpAny (model X.prog X.w) X.A (forIn ifs true fun c r => if r = true then do let ok ← isTrue c X.env (eval c X.env); pure (ForInStep.yield ok) else pure (ForInStep.yield r)) (TP X pins σ Q) X.xe s
noncomputable instance {X : Cx} {ifs : List Expr} {t : TT} : CoeFun (PIf X ifs t) (fun _ =>
  ∀ (pins : List (Addr × Obj)) (s : Shared) (σ : St) (H : Hp) (Q : Bool → Hp → Prop), Inv X pins σ H s → t σ H Q →
    wpAny (model X.prog X.w) X.A (forIn ifs true fun c r => if r = true then do let ok ← isTrue c X.env (eval c X.env); pure (ForInStep.yield ok) else pure (ForInStep.yield r)) (TP X pins σ Q) X.xe s
  ) := ⟨fun h => h.run⟩
noncomputable def tYes : TT := fun _ H Q => Q true H
noncomputable def CompW (J : It) (D : Addr) (nt : Nat) (cap : List Nat) (g : TG) (ti : TT) (te : TE) (σ : St) (H1 : Hp) (Q : VK) : Prop := ∃ W : Nat → Nat → List V → Hp → Prop, (∃ m, W 0 m [] (upd H1 D (.lst []))) ∧
  ∀ i m ys H2, W i m ys H2 → H2 D = some (.lst ys) ∧ ((J.stop i H2 ∧ Q (.ref D) H2) ∨ (J.go i H2 ∧ ys.length < sizeLine ∧ ∀ x H3, J.yld i H2 x H3 → g x (List.replicate nt none ++ caps cap σ) H3 fun σ4 H4 => ti σ4 H4 fun b H5 =>
    if b = true then te σ4 H5 fun y H6 => H6 D = some (.lst ys) ∧ ∃ m', m' < m ∧ W (i + 1) m' (ys ++ [y]) (upd H6 D (.lst (ys ++ [y]))) else ∃ m', m' < m ∧ W (i + 1) m' ys H5))
noncomputable def tComp (wi : TI) (nt : Nat) (cap : List Nat) (g : TG) (ti : TT) (te : TE) : TE := fun σ H Q => wi σ H fun J H1 => ∀ D, H1 D = none → CompW J D nt cap g ti te σ H1 Q
/-- the targets' slots stand first, and are the only ones stored -/
noncomputable def GKeeps (nt : Nat) (g : TG) : Prop := ∀ (x : V) (c : St) (H : Hp) (Q : St → Hp → Prop), g x (List.replicate nt none ++ c) H Q →
  g x (List.replicate nt none ++ c) H fun σ' H' => Q σ' H' ∧ ∀ (j : Nat) v, (List.replicate nt none ++ c)[j]? = some (some v) → σ'[j]? = some (some v)
section
variable {X : Cx}
theorem pif_nil : PIf X [] tYes := .mk <| fun _ _ _ H _ I h => wpAny_tests_nil ⟨H, I, h⟩
theorem comp_back {pins pins' : List (Addr × Obj)} {σ σ' : St} {H H' : Hp} {s3 s' : Shared} {scope : Scope} {fp : List Addr} {N' : List Str} {E' : Value → Shared → Prop}
    (I3 : Inv X pins σ H s3) (hf : ∀ b ∈ fp, FpOk X pins H b) (I' : Inv (X.comp scope s3.heap.objs.size s3 H fp N' E') pins' σ' H' s') : Inv X pins σ H' s' := by
  refine I3.call' (ch := fp) I'.os I'.base I'.hok I'.bare fun b hb => ?_
  obtain ⟨f0, f1, f2, f3, f4, f5⟩ := hf b hb
  exact ⟨f3, f1, f4, f5⟩

theorem comp_core {elt tg iter : Expr} {ifs : List Expr} {scope : Scope} {pos : Pos} {N' : List Str} {nt : Nat} {cap : List Nat} {wi : TI} {g : TG} {ti : TT} {te : TE}
    (EK : Addr → Shared → Hp → List Addr → (Value → Shared → Prop) → Prop)
    (hE : ∀ (pins : List (Addr × Obj)) (σ : St) (s3 : Shared) (H3 : Hp) (fp : List Addr) (Q : VK) (D : Addr), Inv X pins σ H3 s3 → (∀ b ∈ fp, FpOk X pins H3 b) →
      EK s3.heap.objs.size s3 H3 fp (notedBy (model X.prog X.w) X.A (compEnvC scope (clOf scope X.env) s3.heap.objs.size X.env) fun e s' => compPost (model X.prog X.w) X.A X.xe none (EP X pins σ Q) (.ref D) s3.heap.objs.size (.error e) s'))
    (hc : X.calm = true) (hi : PI X tg iter wi)
    (hg : ∀ C s₀ H₀ fp E', EK C s₀ H₀ fp E' → PG (X.comp scope C s₀ H₀ fp N' E') tg g)
    (hif : ∀ C s₀ H₀ fp E', EK C s₀ H₀ fp E' → PIf (X.comp scope C s₀ H₀ fp N' E') ifs ti)
    (he : ∀ C s₀ H₀ fp E', EK C s₀ H₀ fp E' → PE (X.comp scope C s₀ H₀ fp N' E') elt te)
    (hk : scope.kind = .function) (hb : compOk scope X.env = true) (hcap : capOk X scope N' nt cap = true)
    (hgk : GKeeps nt g) (hs : ∀ x, foldedSetIterable iter X.env x = pure x) : PE X (.ListComp elt [⟨tg, iter, ifs, 0⟩] scope pos) (tComp wi nt cap g ti te) := .mk <| by
  intro pins s σ H Q I h
  rw [eval_ListComp]
  have hclos : closureFor scope X.env = pure (clOf scope X.env) := closure_is fun p hp e => I.ok.has p.1 (compOk_free hb p hp e)
  refine wpAny_comprehension_free (use := none) rfl hs hclos hk (compOk_local hb) (thn (hi pins s σ H _ I h) fun v s1 h1 => thn h1 fun itv s2 h2 => ?_)
  obtain ⟨it, fp, tn, J, H2, e, I2, T, st2, f2, q2⟩ := h2
  subst e
  refine wpAny_newObj_type (wpAny_newFunctionEnv (compOk_cell hb) (by intro y hy; simp at hy) (fun h₁ hns₁ hsb₁ => ?_) hk)
  have I3 := I2.lnew (ys := []) (its := []) (t' := s2.toks) .nil (Nat.zero_le _)
  have hfl : ∀ b ∈ fp, b < s2.heap.objs.size := fun b hb' => let ⟨o, e, _⟩ := T.obj 0 _ st2 b hb'; Heap.lt_size e
  obtain ⟨W, ⟨m0, w0⟩, turn⟩ := q2 s2.heap.objs.size (I2.hok.fresh (Nat.le_refl _))
  have nD : ∀ b ∈ fp, b ≠ s2.heap.objs.size := fun b hb' => Nat.ne_of_lt (hfl b hb')
  have f3 : ∀ b ∈ fp, FpOk X pins (upd H2 s2.heap.objs.size (.lst [])) b := fun b hb' => ⟨by rw [upd_ne (nD b hb')]; exact (f2 b hb').1, (f2 b hb').2⟩
  obtain ⟨s3, hs3⟩ : ∃ s3 : Shared, s3 = { s2 with heap := s2.heap.push { cls := .type "list", data := .seq ([] : List Value).toArray }, toks := s2.toks } := ⟨_, rfl⟩
  have hs3' : s3.heap = s2.heap.push { cls := .type "list", data := .seq ([] : List Value).toArray } := by rw [hs3]
  rw [← hs3] at I3
  have hsz : s3.heap.objs.size = s2.heap.objs.size + 1 := by rw [hs3', Heap.size_push]
  have hfl3 : ∀ b ∈ fp, b < s3.heap.objs.size := fun b hb' => by rw [hsz]; exact Nat.lt_succ_of_lt (hfl b hb')
  have hC : (s2.heap.push { cls := Value.type "list", dict := none, data := Data.seq ([] : List Value).toArray }).objs.size = s3.heap.objs.size := by rw [hs3']
  dsimp only at hns₁ hsb₁ ⊢
  rw [hC] at hns₁ hsb₁ ⊢
  rw [← hs3'] at hsb₁
  have kp : ∀ b o, s3.heap.get? b = some o → h₁.get? b = some o := fun b o e => hsb₁.extBut b o (Nat.ne_of_lt (Heap.lt_size e)) (Heap.get?_push_of_some _ e)
  have hEE := hE pins σ s3 _ fp Q s2.heap.objs.size I3 f3
  generalize hE' : (notedBy (model X.prog X.w) X.A (compEnvC scope (clOf scope X.env) s3.heap.objs.size X.env) fun e s' => compPost (model X.prog X.w) X.A X.xe none (EP X pins σ Q) (.ref s2.heap.objs.size) s3.heap.objs.size (.error e) s') = E' at hEE
  have I4 := comp_start (t4 := s2.toks + ([] : List (Str × Value)).length) (E' := E') I3 hk hb hcap f3 hfl3 hns₁ kp
  have st4 : tn 0 h₁ := T.keep 0 _ _ st2 fun b hb' o e => kp b o (by rw [hs3']; exact Heap.get?_push_of_some _ e)
  obtain ⟨s4, hs4⟩ : ∃ s4 : Shared, s4 = { s3 with heap := h₁, toks := s2.toks + ([] : List (Str × Value)).length } := ⟨_, rfl⟩
  rw [← hs4] at I4
  have st4' : tn 0 s4.heap := by rw [hs4]; exact st4
  have cin : ∀ x c, (clOf scope X.env).lookup x = some c → X.env.cells.lookup x = some c := fun x c e => cl_in scope.names [] (fun y d q => by simp at q) e
  have stat : ∀ {H' : Hp}, (∀ b ∈ fp, H' b = none) → ∀ b ∈ fp, FpOk (X.comp scope s3.heap.objs.size s3 (upd H2 s2.heap.objs.size (.lst [])) fp N' E') [] H' b := fun hn b hb' => by
    refine ⟨hn b hb', Nat.ne_of_lt (hfl3 b hb'), fun z => ?_, .inl hb', fun x c e => (f3 b hb').2.2.2.2.1 x c (cin x c e), fun p hp => absurd hp (by simp [Cx.comp])⟩
    rcases List.mem_cons.mp (I3.stkSub b z) with z | z
    · exact (f3 b hb').2.1 z
    · exact (f3 b hb').2.2.1 z
  have loop : codeAny (model X.prog X.w) X.A (.compLoop (.ListComp elt [⟨tg, iter, ifs, 0⟩] scope pos) 0 (.ref it) (.ref s2.heap.objs.size) (compEnvC scope (clOf scope X.env) s3.heap.objs.size X.env))
      (compPost (model X.prog X.w) X.A X.xe none (EP X pins σ Q) (.ref s2.heap.objs.size) s3.heap.objs.size) s4 := by
    refine compLoop_gen (fun n s' => ∃ i ys H', Inv (X.comp scope s3.heap.objs.size s3 (upd H2 s2.heap.objs.size (.lst [])) fp N' E') [] (List.replicate nt none ++ caps cap σ) H' s' ∧ tn i s'.heap ∧ (∀ b ∈ fp, H' b = none) ∧ W i n ys H') ?_ m0
      ⟨0, [], _, I4, st4', fun b hb' => (f3 b hb').1, w0⟩
    rintro n s5 ⟨i, ys, H5, I5, st5, fr5, w5⟩
    rw [hE']
    obtain ⟨hD5, alt⟩ := turn i n ys H5 w5
    rcases alt with ⟨stop, qn⟩ | ⟨go, hyl, step⟩
    · refine thn (T.done (X.comp scope s3.heap.objs.size s3 (upd H2 s2.heap.objs.size (.lst [])) fp N' E') rfl rfl rfl hc i [] s5 _ H5 E' I5 (stat fr5) st5 stop) fun r s6 ⟨hr, I6⟩ => ?_
      subst hr
      obtain ⟨m6, hn6, _⟩ := I6.loc
      refine ⟨m6, hn6, fun h' hsb' => ?_⟩
      have I7 := comp_back I3 f3 I6
      refine ⟨.ref s2.heap.objs.size, H5, ?_, rfl, qn⟩
      refine I7.turnedL (ch := [s3.heap.objs.size]) (t' := s6.toks) (fun b hb' => ?_) fun b u hb' e => (hsb'.2 b fun z => hb' (by simp [z])).trans e
      have eb : b = s3.heap.objs.size := by simpa using hb'
      subst eb
      exact I3.fpOk (Nat.le_refl _) I6.free
    · refine thn (T.item (X.comp scope s3.heap.objs.size s3 (upd H2 s2.heap.objs.size (.lst [])) fp N' E') rfl rfl rfl hc i [] s5 _ H5 E' I5 (stat fr5) st5 go) fun r s6 ⟨u, hr, h6⟩ => ?_
      subst hr
      refine thn h6 fun _ s7 ⟨x, H7, I7, r7, y7, st7, fr7⟩ => ?_
      have I7' := I7.pinned (stat fr7) (T.obj _ _ st7)
      have again : ∀ {σ8 : St} {H8 : Hp} {ys' : List V} {s8 : Shared}, Inv (X.comp scope s3.heap.objs.size s3 (upd H2 s2.heap.objs.size (.lst [])) fp N' E') ([] ++ pinsAt fp s7.heap) σ8 H8 s8 → (∃ m', m' < n ∧ W (i + 1) m' ys' H8) → (∀ (j : Nat) v, (List.replicate nt none ++ caps cap σ)[j]? = some (some v) → σ8[j]? = some (some v)) →
          ∃ m, m < n ∧ ∃ i ys H', Inv (X.comp scope s3.heap.objs.size s3 (upd H2 s2.heap.objs.size (.lst [])) fp N' E') [] (List.replicate nt none ++ caps cap σ) H' s8 ∧ tn i s8.heap ∧ (∀ b ∈ fp, H' b = none) ∧ W i m ys H' := fun {σ8 H8 ys' s8} I8 ⟨m', hm, w8⟩ hσ => by
        refine ⟨m', hm, i + 1, ys', H8, I8.unpinned.weak (by rw [I8.len, I5.len]) hσ, T.keep _ _ _ st7 fun b hb o e => (I8.pin (b, o) (List.mem_append_right _ (List.mem_append_right _ (mem_pinsAt hb e)))).1, fun b hb => ?_, w8⟩
        obtain ⟨o, e, d⟩ := T.obj _ _ st7 b hb
        exact (I8.pin (b, o) (List.mem_append_right _ (List.mem_append_right _ (mem_pinsAt hb e)))).2.1
      refine thn (hg _ _ _ _ _ hEE _ s7 _ H7 x u _ I7' r7 (hgk x _ H7 _ (step x H7 y7))) fun _ s8 ⟨σ8, H8, I8, q8, hσ⟩ => ?_
      refine thn (hif _ _ _ _ _ hEE _ s8 σ8 H8 _ I8 q8) fun ok s9 ⟨H9, I9, q9⟩ => ?_
      cases ok with
      | false =>
        rw [if_neg Bool.false_ne_true] at q9 ⊢
        exact again I9 q9 hσ
      | true =>
        rw [if_pos rfl] at q9 ⊢
        refine thn (he _ _ _ _ _ hEE _ s9 σ8 H9 _ I9 q9) fun y s10 ⟨vy, H10, I10, r10, hD10, hm10⟩ => ?_
        exact thn (mt_append (X := X.comp scope s3.heap.objs.size s3 (upd H2 s2.heap.objs.size (.lst [])) fp N' E') _ s10 σ8 H10 (.ref s2.heap.objs.size) [vy] (.ref s2.heap.objs.size) [y] (fun _ H' => H' = upd H10 s2.heap.objs.size (.lst (ys ++ [vy]))) I10 rfl (.cons r10 .nil) ⟨_, _, _, rfl, rfl, hD10, hyl, rfl⟩) fun _ s11 ⟨_, H11, I11, _, e11⟩ => by
          subst e11
          exact again I11 hm10 hσ
  have e4 : ({ s2 with heap := h₁, toks := s2.toks + ([] : List (Str × Value)).length } : Shared) = s4 := by rw [hs4, hs3]
  show codeAny _ _ _ _ { s2 with heap := h₁, toks := s2.toks + ([] : List (Str × Value)).length }
  rw [e4]
  exact codeAny_compStart_list loop (T.self X.A 0 s4 _ _ st4' loop)
/-- a comprehension of one clause, nothing raised in it -/
theorem pe_comp {elt tg iter : Expr} {ifs : List Expr} {scope : Scope} {pos : Pos} {wi : TI} {g : TG} {ti : TT} {te : TE} (N' : List Str) (nt : Nat) (cap : List Nat)
    (hc : X.calm = true) (hi : PI X tg iter wi) (hgk : GKeeps nt g)
    (hg : ∀ C s₀ H₀ fp E', PG (X.comp scope C s₀ H₀ fp N' E') tg g)
    (hif : ∀ C s₀ H₀ fp E', PIf (X.comp scope C s₀ H₀ fp N' E') ifs ti)
    (he : ∀ C s₀ H₀ fp E', PE (X.comp scope C s₀ H₀ fp N' E') elt te)
    (hk : scope.kind = .function := by rfl) (hb : compOk scope X.env = true := by rfl) (hcap : capOk X scope N' nt cap = true := by rfl)
    (hs : ∀ x, foldedSetIterable iter X.env x = pure x := by intro _; rfl) : PE X (.ListComp elt [⟨tg, iter, ifs, 0⟩] scope pos) (tComp wi nt cap g ti te) :=
  comp_core (fun _ _ _ _ _ => True) (fun _ _ _ _ _ _ _ _ _ => trivial) hc hi (fun C s₀ H₀ fp E' _ => hg C s₀ H₀ fp E') (fun C s₀ H₀ fp E' _ => hif C s₀ H₀ fp E') (fun C s₀ H₀ fp E' _ => he C s₀ H₀ fp E') hk hb hcap hgk hs
end
/-! ### the forms one uses: what a comprehension makes, item by item -/
end L2

namespace L2
open PySem PySem.Spec PyProof.Rows
section
variable {X : Cx}
/-! ### texts: a slice, join, upper -/
/-! ### all of a list of bools -/
/-! ### isinstance of plain values -/
end
end L2

namespace L2
open PySem PySem.Spec PyProof.Rows
/-! ### heaps without what leans on other things -/
noncomputable def okHO : HO → Prop
  | .dT _ => False
  | .frz _ (.lst _) => True
  | .frz _ _ => False
  | _ => True
noncomputable def Plain (H : Hp) : Prop := ∀ a o, H a = some o → okHO o
theorem Plain.upd {H : Hp} {l : Addr} {o : HO} (p : Plain H) (h : okHO o) : Plain (upd H l o) := fun a u e => by
  by_cases ha : a = l
  · subst ha; rw [upd_same] at e; cases e; exact h
  · rw [upd_ne ha] at e; exact p a u e
theorem Plain.lst {H : Hp} {l : Addr} {xs : List V} (p : Plain H) : Plain (L2.upd H l (.lst xs)) := p.upd trivial
theorem Plain.tup {H : Hp} {l : Addr} {xs : List V} (p : Plain H) : Plain (L2.upd H l (.tup xs)) := p.upd trivial
theorem Only.plain {H : Hp} (h : Only H) : Plain H := fun a o e => by
  rcases h a with z | ⟨o', xs, z⟩
  · rw [z] at e; cases e
  · rw [z] at e; cases e; exact trivial
section
variable {P : Program} {w : World} {K : PySem.W.Frag} {mg : Str → Option Value} {base : Heap} {CX : CXT} {k : Nat} {f : Addr} {fd : FuncData} {ps : List Str}
end
theorem Same.upd {H H' : Hp} {l : Addr} {o : HO} (s : Same H H') (hl : H l = none) : Same H (L2.upd H' l o) := fun b z e => by
  rw [upd_ne (ne_of_none e hl)]; exact s b z e
theorem same_upd {H : Hp} {l : Addr} {o : HO} (hl : H l = none) : Same H (upd H l o) := (Same.refl H).upd hl
theorem ite2d {p : Prop} [Decidable p] {A B : Prop} (h1 : p → A) (h2 : ¬ p → B) : if decide p = true then A else B := by
  by_cases h : p
  · rw [if_pos (decide_eq_true h)]; exact h1 h
  · rw [if_neg (by simpa using h)]; exact h2 h
theorem cut_int {ns : List Int} {lo hi : Option Int} {i : Nat} {x : V} (h : (cutV (ns.map V.int) lo hi)[i]? = some x) : ∃ n, x = V.int n := by
  have hm := List.mem_of_getElem? h
  unfold cutV at hm
  have hm := List.mem_of_mem_drop (List.mem_of_mem_take hm)
  obtain ⟨n, _, e⟩ := List.mem_map.mp hm
  exact ⟨n, e.symm⟩
end L2

namespace L2
open PySem PySem.Spec PyProof.Rows
/-! ### an exception of an own class, in flight -/
/-- new: what the exception's own records may be -/
structure Fly (new : Addr → Prop) (H : Hp) (x C : Addr) (h : Heap) : Prop where
  ob : ∃ oe vs, h.get? x = some oe ∧ oe.cls = .ref C ∧ oe.dict = none ∧ oe.data = .fields vs ∧ 1 < vs.size ∧
    (vs[1]? = some .none ∨ ∃ T oT ts, vs[1]? = some (.ref T) ∧ T ≠ x ∧ h.get? T = some oT ∧ oT.data = .fields ts ∧ 3 < ts.size ∧ new T ∧ H T = none)
  new : new x
  free : H x = none
theorem Fly.imp {n n' : Addr → Prop} {H : Hp} {x C : Addr} {h : Heap} (f : Fly n H x C h) (k : ∀ b, n b → n' b) : Fly n' H x C h := by
  obtain ⟨⟨oe, vs, a, b, c, d, e, g⟩, hn, hf⟩ := f
  refine ⟨⟨oe, vs, a, b, c, d, e, g.imp id ?_⟩, k _ hn, hf⟩
  rintro ⟨T, oT, ts, a, b, c, d, e, f, g⟩
  exact ⟨T, oT, ts, a, b, c, d, e, k _ f, g⟩
theorem mapF_dict (o : Obj) (f : Array Value → Array Value) : (o.mapFields f).dict = o.dict := by
  obtain ⟨c, d, dt, sl⟩ := o
  cases dt <;> rfl
section
variable {M : Model} {A : Around} {E : Value → Shared → Prop} {s : Shared}
theorem frameOf_same {env env' : Env} (h : env.frame = env'.frame) : PySem.frameOf env = PySem.frameOf env' := by
  unfold PySem.frameOf
  rw [h]
theorem noteFrame_same {env env' : Env} {e : Value} (h : env.frame = env'.frame) : noteFrame e env = noteFrame e env' := by
  unfold noteFrame
  rw [frameOf_same h, h]
/-- what noting a frame, or setting the flight, leaves of the heap -/
structure Kept (x T : Addr) (frames : List Addr) (h h' : Heap) : Prop where
  keep : ∀ b o, b ≠ x → b ≠ T → b ∉ frames → h.get? b = some o → h'.get? b = some o
  slot : ∀ b o, b ≠ x → b ≠ T → h.get? b = some o → ∃ sl, h'.get? b = some { o with slots := sl }
/-- the entry of the frame at hand, made and hung on -/
theorem entry_fly {base : Heap} {env : Env} {outer : List Env} {L x : Addr} {oe : Obj} {vs : Array Value} {head : Value} {hadNext : Bool} {Q : Unit → Shared → Prop}
    (hfr : A.frames = some (env :: outer)) (hl : s.heap.FunFrames base (env :: outer)) (hf : env.frame = some L)
    (he : s.heap.get? x = some oe) (hd : oe.data = .fields vs) (hz : 1 < vs.size)
    (h : ∀ h' T, (∃ oe' vs', h'.get? x = some oe' ∧ oe'.cls = oe.cls ∧ oe'.dict = oe.dict ∧ oe'.data = .fields vs' ∧ 1 < vs'.size ∧ vs'[1]? = some (.ref T)) → (∃ oT ts, h'.get? T = some oT ∧ oT.data = .fields ts ∧ 3 < ts.size) → s.heap.objs.size ≤ T →
      Kept x x (frs (env :: outer)) s.heap h' → Q () { s with heap := h' }) :
    wpAny M A (do let a ← PySem.frameOf env; let pl ← entryPlaceOf L hadNext; let b ← EntryCells.newEntry head a .none (rawInt L) .none pl; setField (.ref x) 1 b) Q E s := by
  have xnf : x ∉ (env :: outer).filterMap (·.frame) := fun hm => by
    obtain ⟨_, o, ho, hnf⟩ := hl.mem hm
    rw [he] at ho
    cases ho
    exact hnf vs hd
  refine wpAny_bind (wpAny_frameOf_fun hfr hl hf fun h1 g1 => ?_)
  refine wpAny_bind (wpAny_entryPlaceOf fun pl hpl => ?_)
  unfold EntryCells.newEntry newFields
  refine wpAny_bind (wpAny_newObj_type ?_ (hpl.sizeOk5 _ _ _ _ _))
  have e1 : h1.get? x = some oe := (g1.2.1 x xnf).trans he
  have lt1 : x < h1.objs.size := Heap.lt_size e1
  have e2 := Heap.get?_push_of_some (h := h1) { cls := .type "traceback", dict := none, data := .fields ([head, .ref L, .none, rawInt L, .none] ++ (if pl.isEmpty then List.replicate 6 Value.none else pl)).toArray } e1
  have dm := Obj.data_mapFields hd (·.setIfInBounds 1 (Value.ref h1.objs.size))
  refine wpAny_setField e2 hd hz (h _ h1.objs.size ⟨_, _, Heap.get?_update_self _ e2 (Obj.isFreed_of_fields dm), Obj.cls_mapFields _ _, mapF_dict _ _, dm, by simpa using hz, by simp [hz]⟩
    ⟨_, _, (Heap.get?_update_other _ _ (Nat.ne_of_lt lt1)).trans (Heap.get?_push_size _ rfl), rfl, by simp only [List.size_toArray, List.length_append, List.length_cons]; omega⟩ (by rw [g1.1]; exact Nat.le_refl _) ⟨fun b o bx _ bf eb => ?_, fun b o bx _ eb => ?_⟩)
  · rw [Heap.get?_update_other _ _ (Ne.symm bx)]
    exact Heap.get?_push_of_some _ ((g1.2.1 b bf).trans eb)
  · obtain ⟨sl, q⟩ := g1.2.2 b o eb
    exact ⟨sl, by rw [Heap.get?_update_other _ _ (Ne.symm bx)]; exact Heap.get?_push_of_some _ q⟩
end
section
variable {X : Cx} {σ : St} {H : Hp} {s : Shared} {x C : Addr}
/-- what is new to a context -/
noncomputable def Cx.new (X : Cx) (b : Addr) : Prop := (∀ o, X.s₀.heap.get? b = some o → b ∈ X.ex) ∧ ∀ p ∈ X.pn, p.1 ≠ b
theorem Inv.stepN {h' : Heap} {t' : Nat} {ch : List Addr} (I : Inv X [] σ H s) (hch : ∀ b ∈ ch, X.new b ∧ H b = none ∧ b ≠ X.env.locals ∧ ∀ y c, X.env.cells.lookup y = some c → c ≠ b)
    (keep : ∀ b o, b ∉ ch → b ∉ frs X.stack → s.heap.get? b = some o → h'.get? b = some o) (slot : ∀ b o, b ∉ ch → s.heap.get? b = some o → ∃ sl, h'.get? b = some { o with slots := sl }) :
    Inv X [] σ H { s with heap := h', toks := t' } := by
  have old : ∀ b o, X.s₀.heap.get? b = some o → b ∉ X.ex → b ∉ ch := fun b o e hx hb => hx ((hch b hb).1.1 o e)
  have neL : ∀ b o, X.s₀.heap.get? b = some o → b ≠ X.env.locals := fun b o e => Nat.ne_of_lt (Nat.lt_of_lt_of_le (Heap.lt_size e) I.ok.above)
  have trk : ∀ b u, H b = some u → b ∉ ch := fun b u e hb => by have := (hch b hb).2.1; rw [e] at this; cases this
  have trs : ∀ b u, H b = some u → b ∉ frs X.stack := fun b u e hb => by have := I.stkFree b hb; rw [e] at this; cases this
  have nfs : ∀ b, b ≠ X.env.locals → b ∉ X.fs → b ∉ frs X.stack := fun b h1 h2 z => (List.mem_cons.mp (I.stkSub b z)).elim h1 h2
  have cellK : ∀ y c, X.env.cells.lookup y = some c → ∀ v, s.heap.IsCell c v → h'.IsCell c v := fun y c e v ⟨o, ho, hd⟩ => by
    obtain ⟨sl, q⟩ := slot c o (fun z => (hch c z).2.2.2 y c e rfl) ho
    exact ⟨_, q, hd⟩
  refine ⟨I.ok, I.os, I.bare, ⟨fun b o e n hb hx => ?_, fun b o e n hb hx => ?_, I.base.free, fun b o e hx => ?_, I.base.tups, I.base.frzs, I.base.tbls⟩, ?_, fun y c e => ?_, I.free, I.freeC, fun p hp => ?_, fun b u e => ?_, I.len⟩
  · exact keep b o (old b o e hx) (nfs b (neL b o e) hb) (I.base.keep b o e n hb hx)
  · obtain ⟨sl, q⟩ := I.base.slot b o e n hb hx
    obtain ⟨sl', q'⟩ := slot b _ (old b o e hx) q
    exact ⟨sl', q'⟩
  · obtain ⟨o', q⟩ := I.base.there b o e hx
    obtain ⟨sl, q'⟩ := slot b o' (old b o e hx) q
    exact ⟨_, q'⟩
  · obtain ⟨m, ⟨o, es, ep, ho, r⟩, hl⟩ := I.loc
    obtain ⟨sl, q⟩ := slot _ o (fun z => (hch _ z).2.2.1 rfl) ho
    refine ⟨m, ⟨_, es, ep, q, r⟩, fun i y v e1 e2 e3 => ?_⟩
    obtain ⟨u, ru, lk⟩ := hl i y v e1 e2 e3
    exact ⟨u, ru, lk.imp id fun ⟨k, c, e, z⟩ => ⟨k, c, e, cellK y c e _ z⟩⟩
  · obtain ⟨v, z⟩ := I.cell y c e
    exact ⟨v, cellK y c e v z⟩
  · obtain ⟨e, n, ne, nf, d⟩ := I.pin p hp
    have hp' : p ∈ X.pn := by simpa using hp
    exact ⟨keep p.1 p.2 (fun z => (hch p.1 z).1.2 p hp' rfl) (nfs p.1 ne nf) e, n, ne, nf, d⟩
  · refine (I.hok b u e).stay (fun c v hc q => ?_) (fun _ q => q) fun _ _ q => q
    rcases hc with rfl | hc
    · exact keep c v (trk c u e) (trs c u e) q
    · exact keep c v (trk c _ hc) (trs c _ hc) q
/-- records (fields) are no frame, no cell, not the frame's own -/
theorem Inv.fieldsNe (I : Inv X [] σ H s) {b : Addr} {o : Obj} {vs : Array Value} (e : s.heap.get? b = some o) (d : o.data = .fields vs) : b ≠ X.env.locals ∧ (∀ y c, X.env.cells.lookup y = some c → c ≠ b) ∧ b ∉ frs X.stack := by
  refine ⟨fun z => ?_, fun y c ec z => ?_, fun z => ?_⟩
  · obtain ⟨m, ⟨o', es, ep, ho, r, _⟩, _⟩ := I.loc
    rw [← z, e] at ho
    cases ho
    rw [d] at r
    cases r
  · obtain ⟨v, o', ho, hd⟩ := I.cell y c ec
    rw [z, e] at ho
    cases ho
    rw [d] at hd
    cases hd
  · obtain ⟨_, o', ho, hnf⟩ := I.stack.mem z
    rw [e] at ho
    cases ho
    exact hnf vs d
theorem Inv.kept2 {h' : Heap} {T : Addr} (I : Inv X [] σ H s) (F : Fly X.new H x C s.heap) (hT : T = x ∨ ∃ oe vs oT ts, s.heap.get? x = some oe ∧ oe.data = .fields vs ∧ vs[1]? = some (.ref T) ∧ s.heap.get? T = some oT ∧ oT.data = .fields ts)
    (k : Kept x T (frs X.stack) s.heap h') : Inv X [] σ H { s with heap := h' } := by
  obtain ⟨oe, vs, e, _, _, d, _, tb⟩ := F.ob
  have one : X.new x ∧ H x = none ∧ x ≠ X.env.locals ∧ ∀ y c, X.env.cells.lookup y = some c → c ≠ x := ⟨F.new, F.free, (I.fieldsNe e d).1, (I.fieldsNe e d).2.1⟩
  have two : X.new T ∧ H T = none ∧ T ≠ X.env.locals ∧ ∀ y c, X.env.cells.lookup y = some c → c ≠ T := by
    rcases hT with rfl | ⟨oe', vs', oT, ts, e', d', v', eT, dT⟩
    · exact one
    · rw [e] at e'
      cases e'
      rw [d] at d'
      cases d'
      rcases tb with z | ⟨T', oT', ts', v, _, _, _, _, hn, hf⟩
      · rw [z] at v'; cases v'
      · rw [v] at v'
        cases v'
        exact ⟨hn, hf, (I.fieldsNe eT dT).1, (I.fieldsNe eT dT).2.1⟩
  refine I.stepN (ch := [x, T]) (fun b hb => ?_) (fun b o hb hs q => k.keep b o (fun z => hb (by simp [z])) (fun z => hb (by simp [z])) hs q) fun b o hb q => k.slot b o (fun z => hb (by simp [z])) (fun z => hb (by simp [z])) q
  have : b = x ∨ b = T := by simpa using hb
  rcases this with rfl | rfl
  · exact one
  · exact two
/-- the context's own frame heads the frames -/
structure Cx.Top (X : Cx) : Prop where
  top : ∃ env outer L, X.stack = env :: outer ∧ env.frame = some L ∧ X.env.frame = some L
theorem Cx.newAt {X : Cx} {σ : St} {H : Hp} {s : Shared} (I : Inv X [] σ H s) {T : Addr} (h : s.heap.objs.size ≤ T) : X.new T := by
  refine ⟨fun o q => ?_, fun p hp z => ?_⟩
  · exact absurd (Nat.lt_of_lt_of_le (Heap.lt_size q) (Nat.le_trans I.sz h)) (Nat.lt_irrefl _)
  · have := Heap.lt_size (I.pin p (List.mem_append_left _ hp)).1
    rw [z] at this
    exact absurd (Nat.lt_of_lt_of_le this h) (Nat.lt_irrefl _)
/-- noteFrame: the exception stays in flight -/
theorem note_fly {E : Value → Shared → Prop} {Q : Unit → Shared → Prop} (I : Inv X [] σ H s) (tp : X.Top) (F : Fly X.new H x C s.heap)
    (h : ∀ h', Inv X [] σ H { s with heap := h' } → Fly X.new H x C h' → (∃ oe vs T, h'.get? x = some oe ∧ oe.data = .fields vs ∧ vs[1]? = some (.ref T)) → Q () { s with heap := h' }) :
    wpAny (model X.prog X.w) X.A (noteFrame (.ref x) X.env) Q E s := by
  obtain ⟨env, outer, L, hst, hf, hfe⟩ := tp.top
  have hfr : X.A.frames = some (env :: outer) := by rw [I.ok.frames, hst]
  have hl : s.heap.FunFrames X.base (env :: outer) := by rw [← hst]; exact I.stack
  obtain ⟨oe, vs, e, ec, ed, d, z, tb⟩ := id F.ob
  rw [noteFrame_same (show X.env.frame = env.frame by rw [hfe, hf])]
  unfold noteFrame
  simp only [hf]
  rcases tb with v | ⟨T, oT, ts, v, nx, eT, dT, zT, hn, hfT⟩
  · refine wpAny_bind (wpAny_field e d v ?_)
    rw [if_neg (by decide)]
    refine entry_fly hfr hl hf e d z fun h' T ⟨oe', vs', a1, a2, a3, a4, a5, a6⟩ ⟨oT, ts, b1, b2, b3⟩ hz k => ?_
    rw [← hst] at k
    refine h h' (I.kept2 F (.inl rfl) k) ⟨⟨oe', vs', a1, a2.trans ec, a3.trans ed, a4, a5, .inr ⟨T, oT, ts, a6, ?_, b1, b2, b3, Cx.newAt I hz, I.hok.fresh hz⟩⟩, F.new, F.free⟩ ⟨_, _, _, a1, a4, a6⟩
    exact Nat.ne_of_gt (Nat.lt_of_lt_of_le (Heap.lt_size e) hz)
  · refine wpAny_bind (wpAny_field e d v ?_)
    rw [if_pos (show (Value.ref T != Value.none) = true from by simp)]
    have v3 : ts[3]? = some ts[3] := by simp [zT]
    refine wpAny_bind (wpAny_field eT dT v3 ?_)
    by_cases hq : (ts[3] == rawInt L) = true
    · rw [if_pos hq]
      exact wpAny_pure (h s.heap I F ⟨_, _, _, e, d, v⟩)
    · rw [if_neg hq]
      refine wpAny_bind (wpAny_setField eT dT zT ?_)
      have oth : ∀ b, b ≠ T → (s.heap.update T (Obj.mapFields (·.setIfInBounds 3 Value.none))).get? b = s.heap.get? b := fun b hb => Heap.get?_update_other _ _ (Ne.symm hb)
      have e2 : (s.heap.update T (Obj.mapFields (·.setIfInBounds 3 Value.none))).get? x = some oe := (oth x (Ne.symm nx)).trans e
      have hl2 : (s.heap.update T (Obj.mapFields (·.setIfInBounds 3 Value.none))).FunFrames X.base (env :: outer) := hl.of_keeps fun b o ho hnf => ⟨o, (oth b fun q => by rw [q, eT] at ho; cases ho; exact hnf ts dT).trans ho, rfl⟩
      refine entry_fly (s := { s with heap := s.heap.update T (Obj.mapFields (·.setIfInBounds 3 Value.none)) }) hfr hl2 hf e2 d z fun h' T' ⟨oe', vs', a1, a2, a3, a4, a5, a6⟩ ⟨oT', ts', b1, b2, b3⟩ hz k => ?_
      rw [← hst] at k
      have hz' : s.heap.objs.size ≤ T' := by
        have e3 : (s.heap.update T (Obj.mapFields (·.setIfInBounds 3 Value.none))).objs.size = s.heap.objs.size := Heap.size_after_update ..
        have hz2 : (s.heap.update T (Obj.mapFields (·.setIfInBounds 3 Value.none))).objs.size ≤ T' := hz
        omega
      have k' : Kept x T (frs X.stack) s.heap h' := ⟨fun b o b1 b2 b3 q => k.keep b o b1 b1 b3 ((oth b b2).trans q), fun b o b1 b2 q => k.slot b o b1 b1 ((oth b b2).trans q)⟩
      refine h h' (I.kept2 F (.inr ⟨_, _, _, _, e, d, v, eT, dT⟩) k') ⟨⟨oe', vs', a1, a2.trans ec, a3.trans ed, a4, a5, .inr ⟨T', oT', ts', a6, ?_, b1, b2, b3, Cx.newAt I hz', I.hok.fresh hz'⟩⟩, F.new, F.free⟩ ⟨_, _, _, a1, a4, a6⟩
      exact Nat.ne_of_gt (Nat.lt_of_lt_of_le (Heap.lt_size e) hz')
/-- setFlight, where there is a traceback -/
theorem flight_fly {A : Around} {E : Value → Shared → Prop} {Q : Unit → Shared → Prop} {f : Option Addr} (I : Inv X [] σ H s) (F : Fly X.new H x C s.heap) (ht : ∃ oe vs T, s.heap.get? x = some oe ∧ oe.data = .fields vs ∧ vs[1]? = some (.ref T))
    (h : ∀ h', Inv X [] σ H { s with heap := h' } → Fly X.new H x C h' → (∃ oe vs T, h'.get? x = some oe ∧ oe.data = .fields vs ∧ vs[1]? = some (.ref T)) → Q () { s with heap := h' }) :
    wpAny (model X.prog X.w) A (setFlight (.ref x) f) Q E s := by
  obtain ⟨oe, vs, e, ec, ed, d, z, tb⟩ := id F.ob
  obtain ⟨oe', vs', T, e', d', v⟩ := ht
  rw [e] at e'
  cases e'
  rw [d] at d'
  cases d'
  rcases tb with v' | ⟨T', oT, ts, v', nx, eT, dT, zT, hn, hfT⟩
  · rw [v'] at v; cases v
  rw [v'] at v
  cases v
  unfold setFlight
  refine wpAny_bind (wpAny_field e d v' ?_)
  rw [if_pos (show (Value.ref T != Value.none) = true from by simp)]
  refine wpAny_setField eT dT zT ?_
  have oth : ∀ b, b ≠ T → (s.heap.update T (Obj.mapFields (·.setIfInBounds 3 (f.elim Value.none fun f => rawInt f)))).get? b = s.heap.get? b := fun b hb => Heap.get?_update_other _ _ (Ne.symm hb)
  have dm := Obj.data_mapFields dT (·.setIfInBounds 3 (f.elim Value.none fun f => rawInt f))
  have e2 := (oth x (Ne.symm nx)).trans e
  refine h _ (I.kept2 F (.inr ⟨_, _, _, _, e, d, v', eT, dT⟩) ⟨fun b o _ b2 _ q => (oth b b2).trans q, fun b o _ b2 q => ⟨o.slots, (oth b b2).trans q⟩⟩)
    ⟨⟨oe, vs, e2, ec, ed, d, z, .inr ⟨T, _, _, v', nx, Heap.get?_update_self _ eT (Obj.isFreed_of_fields dm), dm, by simpa using zT, hn, hfT⟩⟩, F.new, F.free⟩ ⟨_, _, _, e2, d, v'⟩
end
end L2

namespace L2
open PySem PySem.Spec PyProof.Rows
/-! ### how an exception lies behind a call -/
noncomputable def CX1 (P : Program) (w : World) (base : Heap) : CXT := fun outer H s E e s' => ∃ (x C : Addr) (H' : Hp), e = .ref x ∧ s'.os = s.os ∧ AllBare s'.gens ∧ Un (frs outer) [] H H' s.heap s'.heap ∧ HOk P w H' s'.heap ∧
  Fly (fun b => s.heap.get? b = none) H' x C s'.heap ∧ E (.ref C) none H'
/-- the context takes an exception that is as E says -/
noncomputable def Wants (X : Cx) (E : XK) : Prop := ∀ (σ : St) (H' : Hp) (s' : Shared) (x C : Addr), Inv X [] σ H' s' → Fly X.new H' x C s'.heap → E (.ref C) none H' → X.xe (.ref x) s'
theorem newOf {X : Cx} {pins : List (Addr × Obj)} {σ : St} {H : Hp} {s : Shared} (I : Inv X pins σ H s) {b : Addr} (h : s.heap.get? b = none) : X.new b := by
  refine ⟨fun o e => ?_, fun p hp z => ?_⟩
  · by_cases hx : b ∈ X.ex
    · exact hx
    · obtain ⟨o', q⟩ := I.base.there b o e hx
      rw [h] at q
      cases q
  · have := (I.pin p (List.mem_append_left _ hp)).1
    rw [z, h] at this
    cases this
theorem Inv.nopins {X : Cx} {pins : List (Addr × Obj)} {σ : St} {H : Hp} {s : Shared} (I : Inv X pins σ H s) : Inv X [] σ H s := I.pins_of fun p hp => absurd hp (by simp)
theorem Wants.passes {X : Cx} {E : XK} (W : Wants X E) : Passes (CX1 X.prog X.w X.base) X E := fun pins σ H s e s' I ⟨x, C, H', ee, os, bare, un, hok, F, q⟩ => by
  subst ee
  have J : Inv X pins σ H' s' := I.call' (ch := []) os un hok bare fun b z => absurd z (by simp)
  exact W σ H' s' x C J.nopins (F.imp fun b hb => newOf I hb) q
theorem pass1 {P : Program} {w : World} {base : Heap} {X : Cx} : Passes (CX1 P w base) X E0 := fun _ _ _ _ _ _ _ ⟨_, _, _, _, _, _, _, _, _, q⟩ => q.elim
theorem wants_fn {P : Program} {w : World} {K : PySem.W.Frag} {mg : Str → Option Value} {base : Heap} {N : List Str} {qual : Str} {scope : Scope} {f : Addr} {cd : Value} {A : Around} {outer : List Env} {s : Shared} {H : Hp} {E : XK} :
    Wants (cxOf (CX1 P w base) P w K mg base N qual scope f cd A outer s H E) E := fun σ H' s' x C I F q => by
  refine wpAny_bind (note_fly I ⟨⟨_, _, _, rfl, rfl, rfl⟩⟩ F fun h1 I1 F1 t1 => ?_)
  refine flight_fly I1 F1 t1 fun h2 I2 F2 _ => ?_
  refine ⟨x, C, H', rfl, I2.os, I2.bare, I2.base, I2.hok, F2.imp fun b hb => ?_, q⟩
  cases e : s.heap.get? b with
  | none => rfl
  | some o => exact absurd (hb.1 o e) (by simp [cxOf])
section
variable {P : Program} {w : World} {K : PySem.W.Frag} {mg : Str → Option Value} {base : Heap}
theorem Fun.okX {x qual : Str} {st : Stmt} {f : Addr} {fd : FuncData} {N ps : List Str} {k : Nat} {sp : Sp} (F : Fun K x qual st f fd) (S : FnScope N ps (defScope st)) (len : ∀ vs H Q E, sp vs H Q E → vs.length = ps.length)
    (hbody : ∀ (cdv : Value) (A : Around) (outer : List Env) (s : Shared) (H : Hp) (vs : List V) (Q : VK) (E : XK), Room k (A.deeper (envOfC qual (defScope st) s.heap.objs.size f cdv)) → sp vs H Q E →
      ∃ t, PSs (cxOf (CX1 P w base) P w K mg base N qual (defScope st) f cdv A outer s H E) (defBody st) t ∧ t { nx := fun _ H' => Q .non H', rt := Q } (start N vs) H) : FnOk P w K mg base (CX1 P w base) (k + 1) f fd ps sp := by
  obtain ⟨oc, od, kV, doc, pm, an, cdv, ct, osl, rfl, lk, hcd⟩ := F.ex
  exact fn_of lk hcd S len fun A outer s H vs Q E hr hsp => hbody cdv A outer s H vs Q E hr hsp
/-- a def that raises nothing -/
theorem Fun.okN {x qual : Str} {st : Stmt} {f : Addr} {fd : FuncData} {N ps : List Str} {k : Nat} {sp : Sp} (F : Fun K x qual st f fd) (S : FnScope N ps (defScope st)) (len : ∀ vs H Q E, sp vs H Q E → vs.length = ps.length)
    (hbody : ∀ (cdv : Value) (A : Around) (outer : List Env) (s : Shared) (H : Hp) (vs : List V) (Q : VK) (E : XK), Room k (A.deeper (envOfC qual (defScope st) s.heap.objs.size f cdv)) → sp vs H Q E →
      ∃ t, PSs (cxOf (CX1 P w base) P w K mg base N qual (defScope st) f cdv A outer s H E).nox (defBody st) t ∧ t { nx := fun _ H' => Q .non H', rt := Q } (start N vs) H) : FnOk P w K mg base (CX1 P w base) (k + 1) f fd ps sp :=
  F.okX S len fun cdv A outer s H vs Q E hr hsp => let ⟨t, h, q⟩ := hbody cdv A outer s H vs Q E hr hsp; ⟨t, h.nox, q⟩
end
/-! ### classes of exceptions, as the top has made them -/
abbrev bmV : List Value := [.type "ValueError", .type "Exception", .type "BaseException", .type "object"]
structure XCls (K : PySem.W.Frag) (C : Addr) : Prop where
  ex : PySem.W.excIn K C bmV "ValueError.__new__" = true
  ga : PySem.W.findIn K (.ref C) "__getattribute__" = some (some (.builtin "BaseException.__getattribute__"))
  gn : PySem.W.findIn K (.ref C) "__getattr__" = some none
  be : PySem.W.subIn K (.ref C) (.type "BaseException") = some true
  hd : PySem.W.hasDictIn K C = true
  ca : PySem.W.findIn K (.ref C) "__class__" = some (some (.builtin "object.__class__"))
  mo : PySem.W.mroIn K C (.type "object") = some true
  gs : PySem.W.specialIn K (.builtin "object.__class__") "__get__" = some (some (.builtin "getset_descriptor.__get__"))
  tk : PySem.W.takesIn K (.builtin "object.__class__") = some true
theorem XCls.obj {K : PySem.W.Frag} {C : Addr} {h : Heap} (c : XCls K C) (X : K.In h) : ∃ bm N nm q bs hdct sn sub ab col dd k0 k1 k2 k3 k5 mN,
    h.get? C = some (excClassObj nm q C N bs bm hdct sn sub ab col dd k0 k1 k2 k3 k5 "ValueError.__new__") ∧ h.Ns N mN ∧ mN "__init__" = none ∧ OwnTail h bmV bm ∧
    ∀ b r, PySem.W.mroIn K C b = some r → (Value.ref C :: bm).contains b = r := by
  have q := c.ex
  unfold PySem.W.excIn at q
  split at q
  · rename_i dd cd sl ho
    split at q
    · rename_i C' bm k0 k1 k2 k3 n k5 hm hs
      simp only [Bool.and_eq_true, beq_iff_eq, Bool.not_eq_true'] at q
      obtain ⟨⟨⟨⟨⟨rfl, rfl⟩, hdel⟩, ht⟩, hok⟩, hni⟩ := q
      have hmro : ∀ b r, PySem.W.mroIn K C' b = some r → (Value.ref C' :: bm).contains b = r := fun b r e => by
        unfold PySem.W.mroIn PySem.W.clsIn at e
        rw [ho] at e
        simp only [Option.bind_some, hm] at e
        simpa using e
      obtain ⟨nm, bs, mro, ns, qn, hd, sn, sub, ab, col, del⟩ := cd
      dsimp only at hm hdel hok hni
      subst hm hdel
      have hsl : sl = #[k0, k1, k2, k3, some (.builtin "ValueError.__new__"), k5] := by
        obtain ⟨l⟩ := sl
        simp only at hs
        rw [hs]
      subst hsl
      exact ⟨bm, ns, nm, qn, bs, hd, sn, sub, ab, col, dd, k0, k1, k2, k3, k5, _, X _ _ ho, .of_isNs (PySem.W.isNs_of_in X hok), PySem.W.nsMap_none_of_in X hok hni, PySem.W.tail_of_in X ht, hmro⟩
    · cases q
  · cases q
/-! ### raise -/
section
variable {X : Cx}
noncomputable def tRaise (C : Addr) (E : XK) (ta : TA) : TS := fun _ σ H => ta σ H fun vs H1 => vs.length ≤ sizeLine ∧ E (.ref C) none H1
theorem ps_raise {C : Addr} {E : XK} {n : Str} {e : Expr} {es : List Expr} {ta : TA} {np cpos pos : Pos} (xc : XCls X.K C) (W : Wants X E) (hc : X.calm = true) (hg : Gl X n) (hm : X.mg n = some (.ref C)) (ha : PA X (e :: es) ta)
    (hs : starEach (e :: es) X.env = (false, eval e X.env) :: starEach es X.env := by rfl) (hp : (backTo cpos (starEach es X.env)).any (·.1) = false := by rfl) (hdb : (n == ("__debug__" : Str)) = false := by decide) :
    PS X (.Raise (some (.Call (.Name n np) (e :: es) [] cpos)) none pos) (tRaise C E ta) := .mk <| by
  intro pins s σ H D I h
  obtain ⟨bm, N, nm, q, bs, hdct, sn, sub, ab, col, dd, k0, k1, k2, k3, k5, mN, hC, hN, hni, T, _⟩ := xc.obj I.mod.kin
  refine wpAny_Raise_call_subT (C := C) (nm := nm) (q := q) (N := N) (bs := bs) (bm := bm) (hdct := hdct) (sn := sn) (sub := sub) (ab := ab) (col := col) (dd := dd) (k0 := k0) (k1 := k1) (k2 := k2) (k3 := k3) (k5 := k5)
    PySem.F.excBase_ValueError (mN := mN) (T.hasType (by decide)) (I.ok.hd hc) (by rw [hs]; show (false || (backTo cpos (starEach es X.env)).any (·.1)) = false; rw [hp]; rfl) hni (ld_glob I hg hm ⟨rfl, ?_⟩ hdb)
  have hA := ha cpos pins s σ H _ I h
  rw [hs] at hA ⊢
  refine Calls.evalArgs_plain (thn hA fun us s1 ⟨vs, H1, I1, r1, hl, hE⟩ => ⟨rfl, by rw [← r1.length]; exact hl, I1.bk _ _ hC, hN.keeps I1.bk, T.keeps I1.bk, fun h' x mk => ?_⟩)
  obtain ⟨t, e1, _, _⟩ := mk.there
  have J : Inv X [] σ H1 { s1 with heap := h' } := (I1.kept (t' := s1.toks) mk.keeps).nopins
  refine W σ H1 _ x C J ⟨⟨_, _, e1, rfl, rfl, rfl, by simp, .inl rfl⟩, newOf I1 mk.new, ?_⟩ hE
  cases z : H1 x with
  | none => rfl
  | some o =>
    have := (I1.hok x o z)
    have lt : ∃ ob, s1.heap.get? x = some ob := by
      cases o with
      | lst xs => obtain ⟨_, _, _, _, e⟩ := this; exact ⟨_, e⟩
      | tup xs => obtain ⟨_, _, _, p⟩ := this; obtain ⟨ob, e, _⟩ := p; exact ⟨_, e⟩
      | dK kvs => obtain ⟨_, _, _, _, o, _, _, e, _⟩ := this; exact ⟨_, e⟩
      | dT kvs => obtain ⟨_, _, _, _, o, _, _, e, _⟩ := this; exact ⟨_, e⟩
      | set S n => obtain ⟨o, _, _, _, e, _⟩ := this; exact ⟨_, e⟩
      | ins C dx fs => obtain ⟨_, _, _, e, _⟩ := this; exact ⟨_, e⟩
      | own y => exact this
      | xd fs => obtain ⟨_, ⟨_, _, _, e, _⟩, _⟩ := this; exact ⟨_, e⟩
      | rng lo hi => obtain ⟨_, _, _, e⟩ := this; exact ⟨_, e⟩
      | frz ob u => obtain ⟨e, _⟩ := this; exact ⟨_, e⟩
      | tbl ps => exact ⟨_, (show s1.heap.get? x = some _ from this)⟩
      | met f y => exact ⟨_, (show s1.heap.get? x = some _ from this)⟩
      | ext φ => obtain ⟨_, e, _⟩ := this; exact e
    obtain ⟨ob, e⟩ := lt
    rw [mk.new] at e
    cases e
end
end L2

namespace L2
open PySem PySem.Spec PyProof.Rows
noncomputable def Cx.tryC (X : Cx) (E' : Value → Shared → Prop) (pn' : List (Addr × Obj)) : Cx := { X with xe := E', pn := X.pn ++ pn' }
noncomputable def Cx.hand (X : Cx) (x : Addr) : Cx := { X with A := X.A.mark (some (.ref x)), calm := false, xe := fun _ _ => False }
section
variable {X : Cx} {pins : List (Addr × Obj)} {σ : St} {H : Hp} {s : Shared} {x C D : Addr}
theorem Inv.toTry (I : Inv X pins σ H s) (E' : Value → Shared → Prop) : Inv (X.tryC E' pins) [] σ H s :=
  ⟨⟨I.ok.mod, I.ok.kind, I.ok.glob, I.ok.blt, I.ok.above, I.ok.inj, I.ok.has, I.ok.cab, I.ok.hd, I.ok.frames, I.ok.stk, I.ok.exf, I.ok.bs, I.ok.bsz, I.ok.noex, I.ok.exfs, I.ok.funs, I.ok.frf⟩, I.os, I.bare, I.base, I.loc, I.cell, I.free, I.freeC, fun p hp => I.pin p (by simpa [Cx.tryC] using hp), I.hok, I.len⟩
theorem Inv.ofTry {E' : Value → Shared → Prop} (I : Inv (X.tryC E' pins) [] σ H s) : Inv X pins σ H s :=
  ⟨⟨I.ok.mod, I.ok.kind, I.ok.glob, I.ok.blt, I.ok.above, I.ok.inj, I.ok.has, I.ok.cab, I.ok.hd, I.ok.frames, I.ok.stk, I.ok.exf, I.ok.bs, I.ok.bsz, I.ok.noex, I.ok.exfs, I.ok.funs, I.ok.frf⟩, I.os, I.bare, I.base, I.loc, I.cell, I.free, I.freeC, fun p hp => I.pin p (by simpa [Cx.tryC] using hp), I.hok, I.len⟩
theorem Inv.toHand (I : Inv X pins σ H s) (x : Addr) : Inv (X.hand x) pins σ H s :=
  ⟨⟨I.ok.mod, I.ok.kind, I.ok.glob, I.ok.blt, I.ok.above, I.ok.inj, I.ok.has, I.ok.cab, fun z => absurd z Bool.false_ne_true, I.ok.frames, I.ok.stk, I.ok.exf, I.ok.bs, I.ok.bsz, I.ok.noex, I.ok.exfs, I.ok.funs, I.ok.frf⟩, I.os, I.bare, I.base, I.loc, I.cell, I.free, I.freeC, I.pin, I.hok, I.len⟩
theorem Inv.ofHand {y : Addr} (I : Inv (X.hand y) pins σ H s) (hd : X.calm = true → X.A.handled = none) : Inv X pins σ H s :=
  ⟨⟨I.ok.mod, I.ok.kind, I.ok.glob, I.ok.blt, I.ok.above, I.ok.inj, I.ok.has, I.ok.cab, hd, I.ok.frames, I.ok.stk, I.ok.exf, I.ok.bs, I.ok.bsz, I.ok.noex, I.ok.exfs, I.ok.funs, I.ok.frf⟩, I.os, I.bare, I.base, I.loc, I.cell, I.free, I.freeC, I.pin, I.hok, I.len⟩
/-- except D: an exception of class C -/
theorem match_own {M : Model} {A : Around} {E : Value → Shared → Prop} {K : PySem.W.Frag} {oe : Obj} {b : Bool} {Q : Bool → Shared → Prop} (X : K.In s.heap) (xd : XCls K D) (xc : XCls K C) (hs : PySem.W.mroIn K C (.ref D) = some b)
    (he : s.heap.get? x = some oe) (hcls : oe.cls = .ref C) (hq : Q b s) : wpAny M A (excMatches (.ref x) (.ref D)) Q E s := by
  obtain ⟨bm, N, nm, q, bs, hdct, sn, sub, ab, col, dd, k0, k1, k2, k3, k5, mN, hD, _, _, T, _⟩ := xd.obj X
  obtain ⟨bm', N', nm', q', bs', hdct', sn', sub', ab', col', dd', l0, l1, l2, l3, l5, mN', hC, _, _, T', hmC⟩ := xc.obj X
  have hcB : (Value.ref D :: bm).contains (.type "BaseException") = true := by rw [List.contains_cons, T.hasType (b := true) (by decide), Bool.or_true]
  have hcC := hmC _ _ hs
  have f := tc_notTuple
  obtain ⟨h, g, d, t, os⟩ := s
  unfold excMatches
  repeat (first | (with_reducible refine wpAny_loadPart_at he ?_; rw [hcls]) | with_reducible refine wpAny_loadPart_at hD ?_ | (with_reducible refine wpAny_isSubtype_exc hD ?_; rw [hcB]) | (with_reducible refine wpAny_isSubtype_exc hC ?_; rw [hcC]) | wp_step)
  cases b <;> (wp_walk; exact hq)
/-! ### a call whose exception is caught here: the frame's slots are as they were -/
noncomputable def PassesS (CX : CXT) (X : Cx) (σ : St) (E : XK) : Prop := ∀ (pins : List (Addr × Obj)) (H : Hp) (s : Shared) (e : Value) (s' : Shared), Inv X pins σ H s → CX X.stack H s E e s' → X.xe e s'
/-! ### try: y = e, except D as n: .. -/
end
end L2

namespace L2
open PySem PySem.Spec PyProof.Rows
/-! ### isinstance of an exception that is held -/
section
variable {X : Cx}
end
/-! ### a comprehension in which a call may raise -/
section
variable {X : Cx}
end
/-! ### the law's own head, where exceptions are caught within -/
theorem walk_ofX {l : PySem.W.OpenLaw} {n k : Nat} {q : Program} {loose : List Str} {XP : (Str → Option Value) → Heap → Prop} {YP : World → Heap → Prop} {d : DefRec} {K : Params → PySem.W.Frag} {sp : World → Sp} {x : Str}
    (hn : l.most = some n) (hn2 : n ≤ sizeLine) (hdf : d.params.defaults = []) (hr : Room k callerA) (hY : ∀ (w : World) (h : Heap), YP w h → (K w.params).In h)
    (F : ∀ (w : World) (mg : Str → Option Value) (fa : Addr) (h : Heap), (K w.params).In h → h.Ns mainGlobals mg → mg d.name = some (.ref fa) →
      ∃ fd : FuncData, (∀ (s : Shared) (u : Value), BindsTo s fd ⟨[u], []⟩ [(x, u)]) ∧ ∀ base : Heap, (K w.params).In base → base.Ns mainGlobals mg → FnOk l.prog w (K w.params) mg base (CX1 l.prog w base) k fa fd [x] (sp w))
    (hsp : ∀ (w : World) (H : Hp) (a : Addr) (ns : List Int), ns.length ≤ n → Only H → SqL (K w.params) H a (ns.map V.int) → sp w [.ref a] H (fun v _ => v = .bl true) fun _ _ _ => False) :
    PySem.W.WalkO q loose XP YP l.row.toRowW d [] (fun f vs => PySem.call f vs) := by
  refine walk_of (x := x) (K := K) (CX := fun _ _ _ _ _ _ _ => False) (sp := fun w vs H Q E => sp w vs H Q fun _ _ _ => False) hn hn2 hdf hr hY (fun w mg fa h a b c => ?_) (fun w H a ns h1 h2 h3 => hsp w H a ns h1 h2 h3) fun _ _ _ _ _ z => z
  obtain ⟨fd, hb, hF⟩ := F w mg fa h a b c
  refine ⟨fd, hb, fun base h1 h2 => ?_⟩
  have G := hF base h1 h2
  refine ⟨fun vs H Q E h => G.len vs H Q _ h, fun A outer s H args us vs Q E hr he hbi hv h => codeAny_mono (G.run A outer s H args us vs Q _ hr he hbi hv h) fun r s' z => ?_⟩
  cases r with
  | error e => obtain ⟨_, _, _, _, _, _, _, _, _, z⟩ := z; exact z
  | ok fl => cases fl <;> exact z
end L2

namespace L2
open PySem PySem.Spec PyProof.Rows PySem.NumText
/-! ### promises whose premise speaks of the heap -/
section
variable {P : Program} {w : World} {K : PySem.W.Frag} {mg : Str → Option Value} {base : Heap} {CX : CXT} {k : Nat} {f : Addr} {fd : FuncData} {ps : List Str}
end
/-! ### texts by their codes -/
/-! ### figures -/
section
variable {X : Cx}
end
end L2

namespace L2
open PySem PySem.Spec PyProof.Rows PySem.NumText
/-! ### a text cut at a sign -/
section
variable {X : Cx}
/-! ### the greatest of a tuple of ints -/
end

/-! ### comprehensions over a list, a tuple -/
theorem Same.seqT {K : PySem.W.Frag} {H H' : Hp} {a : Addr} {xs : List V} (e : Same H H') (h : SqT K H a xs) : SqT K H' a xs := by
  rcases h with h | h
  · rcases h with h | ⟨o, h⟩
    · exact .inl (.inl (e _ _ h))
    · exact .inl (.inr ⟨o, e _ _ h⟩)
  · exact .inr h
/-- a comprehension whose items may lay new things: R holds of each item made, and goes on holding -/
theorem comp_gen {J : It} {n : Nat} {nt : Nat} {cap : List Nat} {g : TG} {te : TE} {σ : St} {H1 : Hp} {Q : VK} {D : Addr} (val : Nat → V) (R : Nat → V → Hp → Prop) (hD : H1 D = none) (hP : Plain H1) (hx : n ≤ sizeLine)
    (hJ : ∀ i H2, Same H1 H2 → (i < n → J.go i H2) ∧ (J.stop n H2) ∧ ∀ x H3, i < n → J.yld i H2 x H3 → H3 = H2 ∧ x = val i)
    (mono : ∀ i y H H', R i y H → (∀ b o, b ≠ D → H b = some o → H' b = some o) → (∃ zs, H D = some (.lst zs)) → R i y H')
    (step : ∀ (i : Nat) H2 (T : VK), i < n → Plain H2 → Same H1 H2 → (∀ y H6, R i y H6 → Same H2 H6 → Plain H6 → T y H6) → g (val i) (List.replicate nt none ++ caps cap σ) H2 fun σ4 H4 => te σ4 H4 T)
    (fin : ∀ ys H2, ys.length = n → (∀ (i : Nat) y, ys[i]? = some y → R i y H2) → H2 D = some (.lst ys) → Same H1 H2 → Plain H2 → Q (.ref D) H2) :
    CompW J D nt cap g tYes te σ H1 Q := by
  refine ⟨fun i m ys H2 => m = n - i ∧ i ≤ n ∧ ys.length = i ∧ H2 D = some (.lst ys) ∧ Same H1 H2 ∧ Plain H2 ∧ ∀ (j : Nat) y, ys[j]? = some y → R j y H2, ⟨_, rfl, Nat.zero_le _, rfl, upd_same, same_upd hD, hP.lst, fun j y e => by simp at e⟩, ?_⟩
  rintro i m ys H2 ⟨rfl, hi, hl, hd, hs, hp, hr⟩
  refine ⟨hd, ?_⟩
  obtain ⟨j1, j2, j3⟩ := hJ i H2 hs
  by_cases hlt : i < n
  · refine .inr ⟨j1 hlt, by omega, fun v H3 hy => ?_⟩
    obtain ⟨rfl, rfl⟩ := j3 v H3 hlt hy
    simp only [tYes, if_true]
    refine step i _ _ hlt hp hs fun y H6 hR hs6 hp6 => ⟨hs6 _ _ hd, _, by omega, rfl, hlt, by simp [hl], upd_same, ?_, hp6.lst, ?_⟩
    · exact (hs.trans hs6).upd hD
    · intro j z e
      have up : ∀ b o, b ≠ D → H6 b = some o → (upd H6 D (.lst (ys ++ [y]))) b = some o := fun b o hb e => by rw [upd_ne hb]; exact e
      rcases Nat.lt_or_ge j ys.length with hj | hj
      · rw [List.getElem?_append_left hj] at e
        refine mono j z H6 _ (mono j z _ H6 (hr j z e) (fun b o _ e => hs6 b o e) ⟨_, hd⟩) up ⟨_, hs6 _ _ hd⟩
      · rw [List.getElem?_append_right hj] at e
        have hj0 : j - ys.length = 0 := by
          rcases Nat.eq_zero_or_pos (j - ys.length) with h0 | h0
          · exact h0
          · rw [List.getElem?_eq_none (by simp; omega)] at e; cases e
        rw [hj0] at e
        simp at e
        subst e
        have : j = i := by omega
        subst this
        exact mono j y H6 _ hR up ⟨_, hs6 _ _ hd⟩
  · have e : i = n := by omega
    subst e
    exact .inl ⟨j2, fin ys H2 hl hr hd hs hp⟩
theorem itl_ok {K : PySem.W.Frag} {a : Addr} {xs : List V} {H1 : Hp} (h : SqL K H1 a xs) : ∀ i H2, Same H1 H2 → (i < xs.length → (Itl K a).go i H2) ∧ ((Itl K a).stop xs.length H2) ∧ ∀ x H3, i < xs.length → (Itl K a).yld i H2 x H3 → H3 = H2 ∧ x = xs.getD i .non := fun i H2 e => by
  refine ⟨fun hi => ⟨xs, xs[i], e.seq h, by simp [hi]⟩, ⟨xs, e.seq h, Nat.le_refl _⟩, fun x H3 hi y => ⟨y.1, ?_⟩⟩
  have := y.2 xs (e.seq h)
  rw [List.getD_eq_getElem?_getD, this]; rfl
/-! ### == of plain data, however deep -/
mutual
noncomputable def DV (K : PySem.W.Frag) (H : Hp) : PyData → V → Prop
  | .none, v => v = .non
  | .bool b, v => v = .bl b
  | .int i, v => v = .int i
  | .str x, v => v = .str x
  | .list xs, v => ∃ a vs, v = .ref a ∧ SqL K H a vs ∧ DVs K H xs vs
  | .tuple xs, v => ∃ a vs, v = .ref a ∧ SqT K H a vs ∧ DVs K H xs vs
  | .dict _, _ => False
noncomputable def DVs (K : PySem.W.Frag) (H : Hp) : List PyData → List V → Prop
  | [], vs => vs = []
  | d :: ds, vs => ∃ v r, vs = v :: r ∧ DV K H d v ∧ DVs K H ds r
end
mutual
theorem DV.same {K : PySem.W.Frag} {H H' : Hp} (e : Same H H') : ∀ (d : PyData) (v : V), DV K H d v → DV K H' d v
  | .none, v, h => h
  | .bool b, v, h => h
  | .int i, v, h => h
  | .str x, v, h => h
  | .list xs, v, ⟨a, vs, h1, h2, h3⟩ => ⟨a, vs, h1, e.seq h2, DVs.same e xs vs h3⟩
  | .tuple xs, v, ⟨a, vs, h1, h2, h3⟩ => ⟨a, vs, h1, e.seqT h2, DVs.same e xs vs h3⟩
  | .dict _, v, h => h.elim
theorem DVs.same {K : PySem.W.Frag} {H H' : Hp} (e : Same H H') : ∀ (ds : List PyData) (vs : List V), DVs K H ds vs → DVs K H' ds vs
  | [], vs, h => h
  | d :: ds, vs, ⟨v, r, h1, h2, h3⟩ => ⟨v, r, h1, DV.same e d v h2, DVs.same e ds r h3⟩
end
section
variable {X : Cx} {pins : List (Addr × Obj)} {σ : St} {H : Hp} {s : Shared}
mutual
theorem DV.reads (I : Inv X pins σ H s) : ∀ (d : PyData) (v : V) (u : Value), DV X.K H d v → RelV v u → ∃ as, Reads s.heap u d as
  | .none, v, u, h, r => by cases (show v = V.non from h); cases r; exact ⟨_, .none⟩
  | .bool b, v, u, h, r => by cases (show v = V.bl b from h); cases r; exact ⟨_, .bool b⟩
  | .int i, v, u, h, r => by cases (show v = V.int i from h); obtain ⟨t, rfl⟩ := r; exact ⟨_, .int i t⟩
  | .str x, v, u, h, r => by cases (show v = V.str x from h); obtain ⟨t, rfl⟩ := r; exact ⟨_, .str x t⟩
  | .list xs, v, u, h, r => by
    obtain ⟨a, vs, rfl, h2, h3⟩ := h
    cases r
    obtain ⟨its, rv, pl, _⟩ := I.list h2
    obtain ⟨o, ho, hc, n, hd⟩ := pl.isList
    obtain ⟨as, ra⟩ := DVs.reads I xs vs its h3 rv
    exact ⟨_, .list ho hc hd (by simpa using ra)⟩
  | .tuple xs, v, u, h, r => by
    obtain ⟨a, vs, rfl, h2, h3⟩ := h
    cases r
    obtain ⟨its, rv, pl, _⟩ := I.tuple h2
    obtain ⟨o, ho, hc, n, hd⟩ := pl
    obtain ⟨as, ra⟩ := DVs.reads I xs vs its h3 rv
    exact ⟨_, .tuple ho hc hd (by simpa using ra)⟩
  | .dict _, v, u, h, r => h.elim
theorem DVs.reads (I : Inv X pins σ H s) : ∀ (ds : List PyData) (vs : List V) (us : List Value), DVs X.K H ds vs → Vals vs us → ∃ as, ReadsAll s.heap us ds as
  | [], vs, us, h, r => by cases (show vs = [] from h); cases r; exact ⟨_, .nil⟩
  | d :: ds, vs, us, h, r => by
    obtain ⟨v, rest, rfl, h2, h3⟩ := h
    cases r with
    | cons r rr =>
      obtain ⟨as, ra⟩ := DV.reads I d _ _ h2 r
      obtain ⟨bs, rb⟩ := DVs.reads I ds _ _ h3 rr
      exact ⟨_, .cons ra rb⟩
end
end
section
variable {X : Cx}
noncomputable def rEqD (K : PySem.W.Frag) : R2 := fun x y H Q => ∃ d e, DV K H d x ∧ DV K H e y ∧ SeqAt.shaped d = true ∧ SeqAt.shaped e = true ∧ Q (.bl (PyData.eqv d e)) H
noncomputable def rNeD (K : PySem.W.Frag) : R2 := fun x y H Q => ∃ d e, DV K H d x ∧ DV K H e y ∧ SeqAt.shaped d = true ∧ SeqAt.shaped e = true ∧ Q (.bl (!PyData.eqv d e)) H
theorem op_eqD (hu : X.A.units + 64 < cLine) : OpR X (compareOp .Eq) (rEqD X.K) := by
  intro pins s σ H x y v u Q I rx ry h
  obtain ⟨d, e, hd, he, sd, se, q⟩ := h
  obtain ⟨as, ra⟩ := DV.reads I d x v hd rx
  obtain ⟨bs, rb⟩ := DV.reads I e y u he ry
  exact SeqAt.compareEq_shaped ra rb sd se hu ⟨.bl _, H, I, rfl, q⟩
theorem op_neD (hu : X.A.units + 64 < cLine) : OpR X (compareOp .NotEq) (rNeD X.K) := by
  intro pins s σ H x y v u Q I rx ry h
  obtain ⟨d, e, hd, he, sd, se, q⟩ := h
  obtain ⟨as, ra⟩ := DV.reads I d x v hd rx
  obtain ⟨bs, rb⟩ := DV.reads I e y u he ry
  exact SeqAt.compareNe_shaped ra rb sd se hu ⟨.bl _, H, I, rfl, q⟩
end
/-! ### a promise of any kind -/
end L2

namespace L2
open PySem PySem.Spec PyProof.Rows PySem.NumText
/-! ### a comprehension that is given to a name: the name is stored ahead of the variables' end -/
section
variable {X : Cx}
end
end L2

namespace HT
open PySem PySem.Spec PyProof.Rows
section
variable {prog : Program} {w : World} {A : Around} {E : Value → Shared → Prop} {s : Shared}
end
end HT
namespace L2
open PySem PySem.Spec PyProof.Rows PySem.NumText
section
variable {X : Cx}
end
/-! ### data without lists: what becomes of a list elsewhere is nothing to it -/
mutual
noncomputable def noL : PyData → Bool
  | .list _ => false
  | .tuple xs => noLs xs
  | _ => true
noncomputable def noLs : List PyData → Bool
  | [] => true
  | d :: ds => noL d && noLs ds
end
theorem SqT.mono {K : PySem.W.Frag} {H H' : Hp} {a D : Addr} {xs : List V} (k : ∀ b o, b ≠ D → H b = some o → H' b = some o) (hd : ∃ zs, H D = some (.lst zs)) (h : SqT K H a xs) : SqT K H' a xs := by
  obtain ⟨zs, hd⟩ := hd
  rcases h with h | h
  · rcases h with h | ⟨o, h⟩
    · exact .inl (.inl (k _ _ (ne_of h hd (fun e => nomatch e)) h))
    · exact .inl (.inr ⟨o, k _ _ (ne_of h hd (fun e => nomatch e)) h⟩)
  · exact .inr h
mutual
theorem DV.mono {K : PySem.W.Frag} {H H' : Hp} {D : Addr} (k : ∀ b o, b ≠ D → H b = some o → H' b = some o) (hd : ∃ zs, H D = some (.lst zs)) : ∀ (d : PyData) (v : V), noL d = true → DV K H d v → DV K H' d v
  | .none, v, _, h => h
  | .bool b, v, _, h => h
  | .int i, v, _, h => h
  | .str x, v, _, h => h
  | .list xs, v, n, _ => by cases n
  | .tuple xs, v, n, ⟨a, vs, h1, h2, h3⟩ => ⟨a, vs, h1, h2.mono k hd, DVs.mono k hd xs vs n h3⟩
  | .dict _, v, _, h => h.elim
theorem DVs.mono {K : PySem.W.Frag} {H H' : Hp} {D : Addr} (k : ∀ b o, b ≠ D → H b = some o → H' b = some o) (hd : ∃ zs, H D = some (.lst zs)) : ∀ (ds : List PyData) (vs : List V), noLs ds = true → DVs K H ds vs → DVs K H' ds vs
  | [], vs, _, h => h
  | d :: ds, vs, n, ⟨v, r, h1, h2, h3⟩ => by
    have n : noL d = true ∧ noLs ds = true := by rw [noLs, Bool.and_eq_true] at n; exact n
    exact ⟨v, r, h1, DV.mono k hd d v n.1 h2, DVs.mono k hd ds r n.2 h3⟩
end
theorem DVs.length {K : PySem.W.Frag} {H : Hp} : ∀ {ds : List PyData} {vs : List V}, DVs K H ds vs → vs.length = ds.length
  | [], vs, h => by cases (show vs = [] from h); rfl
  | d :: ds, vs, ⟨v, r, h1, h2, h3⟩ => by subst h1; simp [DVs.length h3]
theorem DVs.get {K : PySem.W.Frag} {H : Hp} : ∀ {ds : List PyData} {vs : List V} {i : Nat} {d : PyData}, DVs K H ds vs → ds[i]? = some d → ∃ v, vs[i]? = some v ∧ DV K H d v
  | [], vs, i, d, h, e => by simp at e
  | d :: ds, vs, 0, e', ⟨v, r, h1, h2, h3⟩, e => by subst h1; simp at e; subst e; exact ⟨v, rfl, h2⟩
  | d :: ds, vs, i + 1, e', ⟨v, r, h1, h2, h3⟩, e => by subst h1; simp at e; obtain ⟨u, hu, q⟩ := DVs.get h3 e; exact ⟨u, by simpa using hu, q⟩
theorem DVs.append {K : PySem.W.Frag} {H : Hp} : ∀ {ds es : List PyData} {vs us : List V}, DVs K H ds vs → DVs K H es us → DVs K H (ds ++ es) (vs ++ us)
  | [], es, vs, us, h, h' => by cases (show vs = [] from h); exact h'
  | d :: ds, es, vs, us, ⟨v, r, h1, h2, h3⟩, h' => by subst h1; exact ⟨v, r ++ us, rfl, h2, DVs.append h3 h'⟩
/-- the items of a comprehension are data -/
theorem DVs.of {α : Type} {K : PySem.W.Frag} {H : Hp} {f : α → PyData} : ∀ {xs : List α} {vs : List V}, vs.length = xs.length → (∀ (i : Nat) v x, vs[i]? = some v → xs[i]? = some x → DV K H (f x) v) → DVs K H (xs.map f) vs
  | [], vs, hl, h => by cases vs with | nil => rfl | cons _ _ => simp at hl
  | x :: xs, vs, hl, h => by
    cases vs with
    | nil => simp at hl
    | cons v vs => exact ⟨v, vs, rfl, h 0 v x rfl rfl, DVs.of (by simpa using hl) fun i u y e1 e2 => h (i + 1) u y (by simpa using e1) (by simpa using e2)⟩
theorem gk3 {K : PySem.W.Frag} : GKeeps 3 (gTup K 3 (gCons (gName 0) (gCons (gName 1) (gCons (gName 2) gNil)))) := fun x c H Q h => by
  obtain ⟨a, xs, e1, hq, hl, v, r, e2, v', r', e3, v2, r2, e4, e5, h⟩ := h
  refine ⟨a, xs, e1, hq, hl, v, r, e2, v', r', e3, v2, r2, e4, e5, h, fun j v e => ?_⟩
  match j, e with
  | 0, e => simp [List.replicate] at e
  | 1, e => simp [List.replicate] at e
  | 2, e => simp [List.replicate] at e
  | j + 3, e => simpa [List.replicate, List.set] using e
/-! ### the same rules, the module's objects named -/
section
variable {X : Cx} {K : PySem.W.Frag}
end
end L2

namespace L2
open PySem PySem.Spec PyProof.Rows PySem.NumText
/-! ### steps and places, as data -/
noncomputable abbrev Stp := Int × Int × Int
noncomputable def stp (s : Stp) : PyData := .tuple [.int s.1, .int s.2.1, .int s.2.2]
noncomputable def plc (ss : List Stp) : PyData := .tuple (ss.map stp)
noncomputable abbrev sV (s : Stp) : List V := [.int s.1, .int s.2.1, .int s.2.2]
theorem stp_mk {K : PySem.W.Frag} {H : Hp} {s : Stp} {t : Addr} (h : SqT K H t (sV s)) : DV K H (stp s) (.ref t) := ⟨t, _, rfl, h, _, _, rfl, rfl, _, _, rfl, rfl, _, _, rfl, rfl, rfl⟩
theorem noL_stp (s : Stp) : noL (stp s) = true := rfl
theorem noLs_stp : ∀ ss : List Stp, noLs (ss.map stp) = true
  | [] => rfl
  | s :: ss => by rw [List.map_cons, noLs, noL_stp, noLs_stp ss]; rfl
theorem noL_plc (ss : List Stp) : noL (plc ss) = true := noLs_stp ss
theorem canLay_stps : ∀ ss : List Stp, PyData.canLayAll0 (ss.map stp) = true
  | [] => rfl
  | s :: ss => by
    rw [List.map_cons, PyData.canLayAll0, canLay_stps ss]
    rfl
theorem depth_stps : ∀ ss : List Stp, PyData.depthAll (ss.map stp) ≤ 1
  | [] => Nat.zero_le _
  | s :: ss => by
    rw [List.map_cons, PyData.depthAll]
    have h1 : PyData.depth (stp s) = 1 := rfl
    have h2 := depth_stps ss
    rw [h1]
    omega
theorem plc_lay (ss : List Stp) : PyData.canLay0 (plc ss) = true := canLay_stps ss
/-! ### readings in short -/
end L2

namespace L2
open PySem PySem.Spec PyProof.Rows PySem.NumText
/-! ### tuples compared: the first two items that are not alike tell it -/
noncomputable def lexD (e r : Nat → Bool) (d : Bool) : List Nat → Bool
  | [] => d
  | j :: js => if e j = true then lexD e r d js else r j
noncomputable def CmpAt (op : CmpOp) (A : Around) (s : Shared) (y x : Value) (b : Bool) : Prop :=
  ∀ (prog : Program) (w : World) (E : Value → Shared → Prop) (Q : Value → Shared → Prop), Q (.bool b) s → wpAny (model prog w) A (richCompare op y x) Q E s
section
open PySem.SeqAt
open PySem.AutoSeq1 (wpAny_loadPart')
open PySem.MeetsSeq PySem.MeetsSeq2 PySem.MeetsSeq3

end

theorem lexD_map (e r : Nat → Bool) (d : Bool) : ∀ js : List Nat, lexD e r d (js.map Nat.succ) = lexD (fun j => e (j + 1)) (fun j => r (j + 1)) d js
  | [] => rfl
  | j :: js => by
    rw [List.map_cons, lexD, lexD, lexD_map e r d js]
section
variable {X : Cx} {pins : List (Addr × Obj)} {σ : St} {H : Hp} {s : Shared} {A : Around}
end
section
variable {X : Cx} {K : PySem.W.Frag}
end
theorem Room.u100 {k : Nat} {A : Around} (r : Room k A) : A.units + 100 < cLine := by have := r.un; omega
end L2

namespace L2
open PySem PySem.Spec PyProof.Rows PySem.NumText
section
open PySem.SeqAt
open PySem.AutoSeq1 (wpAny_loadPart')
open PySem.MeetsSeq PySem.MeetsSeq2 PySem.MeetsSeq3
theorem tuple_ltAt1 (l b : Addr) (items items2 : Array Value) (n n2 : Nat) (dd dd2 : Option Addr) (sl sl2 : Array (Option Value)) (e r : Nat → Bool) :
    Meets (Builtin.«tuple.__lt__» ⟨[.ref l, .ref b], []⟩)
      (fun A R s => s.heap.get? l = some { cls := .type "tuple", dict := dd, data := .seq items n, slots := sl } ∧ s.heap.get? b = some { cls := .type "tuple", dict := dd2, data := .seq items2 n2, slots := sl2 } ∧
        (∀ j (h1 : j < items.size) (h2 : j < items2.size), EqAt A.in1 s items[j] items2[j] (e j)) ∧
        (∀ j (h1 : j < items.size) (h2 : j < items2.size), (∀ i, i < j → e i = true) → e j = false → CmpAt .Lt A.in1 s items[j] items2[j] (r j)) ∧
        R (.ok (.ret (.bool (lexD e r (decide (items.size < items2.size)) (List.range (min items.size items2.size)))))) s) :=
  .of_wp fun prog w A R s h => by
    obtain ⟨hp, g, d, tk, os⟩ := s; obtain ⟨hl, hb, he, hc, h⟩ := h
    have f2 := AutoSeq1.sub_tuple_tuple
    have hZ : (items.toList.zip items2.toList).length = min items.size items2.size := by simp
    wp_walk using wpAny_loadPart' hl, wpAny_loadPart' hb, wpAny_forIn_list _ (fun rest b s' => b.1 = none ∧ s' = ⟨hp, g, d, tk, os⟩ ∧ ∃ i, rest = (items.toList.zip items2.toList).drop i ∧ (∀ k, k < i → e k = true) ∧
      R (.ok (.ret (.bool (lexD e r (decide (items.size < items2.size)) ((List.range (min items.size items2.size)).drop i))))) ⟨hp, g, d, tk, os⟩) _
    case turn =>
      rintro ⟨y, x⟩ rest b s' ⟨hb', rfl, i, hz, hall, hR⟩
      have hlt : i < (items.toList.zip items2.toList).length := by
        rcases Nat.lt_or_ge i (items.toList.zip items2.toList).length with h' | h'
        · exact h'
        · rw [List.drop_of_length_le h'] at hz; cases hz
      have hm : i < min items.size items2.size := hZ ▸ hlt
      have h1 : i < items.size := Nat.lt_of_lt_of_le hm (Nat.min_le_left _ _)
      have h2 : i < items2.size := Nat.lt_of_lt_of_le hm (Nat.min_le_right _ _)
      rw [List.drop_eq_getElem_cons hlt] at hz
      injection hz with hyx hrest
      have hy : y = items[i] := by have := congrArg Prod.fst hyx; simpa using this
      have hx : x = items2[i] := by have := congrArg Prod.snd hyx; simpa using this
      subst hy hx
      have hd : (List.range (min items.size items2.size)).drop i = i :: (List.range (min items.size items2.size)).drop (i + 1) := by simp [List.drop_eq_getElem_cons, hm]
      rw [hd, lexD] at hR
      refine wpAny_bind (he i h1 h2 prog w _ _ ?_)
      cases hy : e i with
      | true =>
        rw [hy, if_pos rfl] at hR
        wp_walk
        exact ⟨rfl, rfl, i + 1, hrest, fun k hk => by
          rcases Nat.lt_or_ge k i with h' | h'
          · exact hall k h'
          · have : k = i := by omega
            rw [this]; exact hy, hR⟩
      | false =>
        rw [hy, if_neg Bool.false_ne_true] at hR
        have hri := hc i h1 h2 hall hy prog w
        wp_walk using hri
        exact ⟨_, rfl, by simpa using hR⟩
    case fin =>
      rintro ⟨b1, b2⟩ s' ⟨hb', rfl, i, hz, hall, hR⟩
      simp only at hb'
      subst hb'
      have hge : min items.size items2.size ≤ i := by
        rw [← hZ]
        rcases Nat.lt_or_ge i (items.toList.zip items2.toList).length with h' | h'
        · rw [List.drop_eq_getElem_cons h'] at hz; cases hz
        · exact h'
      rw [List.drop_of_length_le (by simpa using hge), lexD] at hR
      wp_walk
      exact ⟨_, rfl, by simpa [Builtin.Tuple.tupleCompareSizes] using hR⟩
    case h =>
      exact ⟨rfl, rfl, 0, rfl, fun k hk => absurd hk (Nat.not_lt_zero _), h⟩
theorem lt_tupAt1 {prog : Program} {w : World} {A : Around} {E : Value → Shared → Prop} {s : Shared} {l b : Addr} {items items2 : Array Value} {e r : Nat → Bool} {Q : Value → Shared → Prop} (hl : IsTup s.heap l items) (hb : IsTup s.heap b items2)
    (he : ∀ j (h1 : j < items.size) (h2 : j < items2.size), EqAt A.in1 s items[j] items2[j] (e j)) (hc : ∀ j (h1 : j < items.size) (h2 : j < items2.size), (∀ i, i < j → e i = true) → e j = false → CmpAt .Lt A.in1 s items[j] items2[j] (r j))
    (hu : A.units < cLine) (h : Q (.bool (lexD e r (decide (items.size < items2.size)) (List.range (min items.size items2.size)))) s) : wpAny (model prog w) A (compareOp .Lt (.ref l) (.ref b)) Q E s := by
  obtain ⟨⟨cls, dd, data, sl⟩, ho, hc1, n, hd⟩ := id hl
  obtain ⟨⟨cls2, dd2, data2, sl2⟩, ho2, hc2, n2, hd2⟩ := id hb
  simp only at hc1 hd hc2 hd2
  subst hc1 hd hc2 hd2
  refine richCompare_meets_room (op := .Lt) ⟨_, ho, rfl⟩ ⟨_, ho2, rfl⟩ PySem.F.slot_tuple_lt PySem.F.entry_tuple_lt (PySem.F.args_tuple_lt_2 _ _) (tuple_ltAt1 l b items items2 n n2 dd dd2 sl sl2 e r) ⟨ho, ho2, he, hc, ?_⟩ hu
  exact (show Value.bool _ ≠ Value.notImplemented ∧ Q (.bool _) s from ⟨(fun x => nomatch x), h⟩)

theorem tuple_geAt1 (l b : Addr) (items items2 : Array Value) (n n2 : Nat) (dd dd2 : Option Addr) (sl sl2 : Array (Option Value)) (e r : Nat → Bool) :
    Meets (Builtin.«tuple.__ge__» ⟨[.ref l, .ref b], []⟩)
      (fun A R s => s.heap.get? l = some { cls := .type "tuple", dict := dd, data := .seq items n, slots := sl } ∧ s.heap.get? b = some { cls := .type "tuple", dict := dd2, data := .seq items2 n2, slots := sl2 } ∧
        (∀ j (h1 : j < items.size) (h2 : j < items2.size), EqAt A.in1 s items[j] items2[j] (e j)) ∧
        (∀ j (h1 : j < items.size) (h2 : j < items2.size), (∀ i, i < j → e i = true) → e j = false → CmpAt .GtE A.in1 s items[j] items2[j] (r j)) ∧
        R (.ok (.ret (.bool (lexD e r (decide (items2.size ≤ items.size)) (List.range (min items.size items2.size)))))) s) :=
  .of_wp fun prog w A R s h => by
    obtain ⟨hp, g, d, tk, os⟩ := s; obtain ⟨hl, hb, he, hc, h⟩ := h
    have f2 := AutoSeq1.sub_tuple_tuple
    have hZ : (items.toList.zip items2.toList).length = min items.size items2.size := by simp
    wp_walk using wpAny_loadPart' hl, wpAny_loadPart' hb, wpAny_forIn_list _ (fun rest b s' => b.1 = none ∧ s' = ⟨hp, g, d, tk, os⟩ ∧ ∃ i, rest = (items.toList.zip items2.toList).drop i ∧ (∀ k, k < i → e k = true) ∧
      R (.ok (.ret (.bool (lexD e r (decide (items2.size ≤ items.size)) ((List.range (min items.size items2.size)).drop i))))) ⟨hp, g, d, tk, os⟩) _
    case turn =>
      rintro ⟨y, x⟩ rest b s' ⟨hb', rfl, i, hz, hall, hR⟩
      have hlt : i < (items.toList.zip items2.toList).length := by
        rcases Nat.lt_or_ge i (items.toList.zip items2.toList).length with h' | h'
        · exact h'
        · rw [List.drop_of_length_le h'] at hz; cases hz
      have hm : i < min items.size items2.size := hZ ▸ hlt
      have h1 : i < items.size := Nat.lt_of_lt_of_le hm (Nat.min_le_left _ _)
      have h2 : i < items2.size := Nat.lt_of_lt_of_le hm (Nat.min_le_right _ _)
      rw [List.drop_eq_getElem_cons hlt] at hz
      injection hz with hyx hrest
      have hy : y = items[i] := by have := congrArg Prod.fst hyx; simpa using this
      have hx : x = items2[i] := by have := congrArg Prod.snd hyx; simpa using this
      subst hy hx
      have hd : (List.range (min items.size items2.size)).drop i = i :: (List.range (min items.size items2.size)).drop (i + 1) := by simp [List.drop_eq_getElem_cons, hm]
      rw [hd, lexD] at hR
      refine wpAny_bind (he i h1 h2 prog w _ _ ?_)
      cases hy : e i with
      | true =>
        rw [hy, if_pos rfl] at hR
        wp_walk
        exact ⟨rfl, rfl, i + 1, hrest, fun k hk => by
          rcases Nat.lt_or_ge k i with h' | h'
          · exact hall k h'
          · have : k = i := by omega
            rw [this]; exact hy, hR⟩
      | false =>
        rw [hy, if_neg Bool.false_ne_true] at hR
        have hri := hc i h1 h2 hall hy prog w
        wp_walk using hri
        exact ⟨_, rfl, by simpa using hR⟩
    case fin =>
      rintro ⟨b1, b2⟩ s' ⟨hb', rfl, i, hz, hall, hR⟩
      simp only at hb'
      subst hb'
      have hge : min items.size items2.size ≤ i := by
        rw [← hZ]
        rcases Nat.lt_or_ge i (items.toList.zip items2.toList).length with h' | h'
        · rw [List.drop_eq_getElem_cons h'] at hz; cases hz
        · exact h'
      rw [List.drop_of_length_le (by simpa using hge), lexD] at hR
      wp_walk
      exact ⟨_, rfl, by simpa [Builtin.Tuple.tupleCompareSizes] using hR⟩
    case h =>
      exact ⟨rfl, rfl, 0, rfl, fun k hk => absurd hk (Nat.not_lt_zero _), h⟩
theorem ge_tupAt1 {prog : Program} {w : World} {A : Around} {E : Value → Shared → Prop} {s : Shared} {l b : Addr} {items items2 : Array Value} {e r : Nat → Bool} {Q : Value → Shared → Prop} (hl : IsTup s.heap l items) (hb : IsTup s.heap b items2)
    (he : ∀ j (h1 : j < items.size) (h2 : j < items2.size), EqAt A.in1 s items[j] items2[j] (e j)) (hc : ∀ j (h1 : j < items.size) (h2 : j < items2.size), (∀ i, i < j → e i = true) → e j = false → CmpAt .GtE A.in1 s items[j] items2[j] (r j))
    (hu : A.units < cLine) (h : Q (.bool (lexD e r (decide (items2.size ≤ items.size)) (List.range (min items.size items2.size)))) s) : wpAny (model prog w) A (compareOp .GtE (.ref l) (.ref b)) Q E s := by
  obtain ⟨⟨cls, dd, data, sl⟩, ho, hc1, n, hd⟩ := id hl
  obtain ⟨⟨cls2, dd2, data2, sl2⟩, ho2, hc2, n2, hd2⟩ := id hb
  simp only at hc1 hd hc2 hd2
  subst hc1 hd hc2 hd2
  refine richCompare_meets_room (op := .GtE) ⟨_, ho, rfl⟩ ⟨_, ho2, rfl⟩ PySem.F.slot_tuple_ge PySem.F.entry_tuple_ge (PySem.F.args_tuple_ge_2 _ _) (tuple_geAt1 l b items items2 n n2 dd dd2 sl sl2 e r) ⟨ho, ho2, he, hc, ?_⟩ hu
  exact (show Value.bool _ ≠ Value.notImplemented ∧ Q (.bool _) s from ⟨(fun x => nomatch x), h⟩)

end
/-! ### < of plain data: ints, texts, tuples of these, however deep -/
mutual
noncomputable def ltD : PyData → PyData → Option Bool
  | .int a, .int b => some (decide (a < b))
  | .str a, .str b => some (decide (a.cps.toList < b.cps.toList))
  | .tuple xs, .tuple ys => ltDs xs ys
  | _, _ => none
noncomputable def ltDs : List PyData → List PyData → Option Bool
  | [], [] => some false
  | [], _ :: _ => some true
  | _ :: _, [] => some false
  | x :: xs, y :: ys => if PyData.eqv x y = true then ltDs xs ys else ltD x y
end
/-- the first two that are not alike -/
theorem lexD_ltDs {e r : Nat → Bool} : ∀ {xs ys : List PyData} {b : Bool}, ltDs xs ys = some b → (∀ (j : Nat) x y, xs[j]? = some x → ys[j]? = some y → e j = PyData.eqv x y) →
    (∀ (j : Nat) x y c, xs[j]? = some x → ys[j]? = some y → (∀ i, i < j → e i = true) → e j = false → ltD x y = some c → r j = c) →
    lexD e r (decide (xs.length < ys.length)) (List.range (min xs.length ys.length)) = b := by
  intro xs
  induction xs generalizing e r with
  | nil =>
    intro ys b h _ _
    cases ys with
    | nil => cases h; rfl
    | cons y ys => cases h; rw [List.length_nil, Nat.zero_min]; exact decide_eq_true (Nat.succ_pos _)
  | cons x xs ih =>
    intro ys b h he hr
    cases ys with
    | nil => cases h; rw [List.length_nil, Nat.min_zero]; exact decide_eq_false (Nat.not_lt_zero _)
    | cons y ys =>
      have h0 := he 0 x y rfl rfl
      rw [List.length_cons, List.length_cons, Nat.succ_min_succ, List.range_succ_eq_map, lexD]
      rw [ltDs] at h
      by_cases hxy : PyData.eqv x y = true
      · rw [if_pos hxy] at h
        rw [if_pos (h0.trans hxy), lexD_map]
        have := ih (ys := ys) (e := fun j => e (j + 1)) (r := fun j => r (j + 1)) h (fun j a b h1 h2 => he (j + 1) a b (by simpa using h1) (by simpa using h2))
          (fun j a b c h1 h2 h3 h4 h5 => hr (j + 1) a b c (by simpa using h1) (by simpa using h2) (fun i hi => by
            cases i with
            | zero => exact h0.trans hxy
            | succ i => exact h3 i (by omega)) h4 h5)
        rw [← this]
        congr 1
        exact decide_eq_decide.mpr (by omega)
      · rw [if_neg hxy] at h
        have hf : e 0 = false := by rw [h0]; simpa using hxy
        rw [if_neg (by rw [hf]; exact Bool.false_ne_true)]
        exact hr 0 x y b rfl rfl (fun i hi => absurd hi (Nat.not_lt_zero _)) hf h
theorem lexD_not {e r : Nat → Bool} {d : Bool} : ∀ js : List Nat, lexD e (fun j => !r j) (!d) js = !lexD e r d js
  | [] => rfl
  | j :: js => by
    rw [lexD, lexD, lexD_not js]
    split <;> rfl
theorem readsAll_at {h : Heap} : ∀ {xs : List PyData} {vs : List Value} {as : List Addr} {j : Nat} {v : Value}, ReadsAll h vs xs as → vs[j]? = some v → ∃ d bs, xs[j]? = some d ∧ Reads h v d bs ∧ d ∈ xs
  | _, _, _, 0, v, .cons (v := u) (d := d) r rr, e => by
    have : u = v := by simpa using e
    subst this
    exact ⟨_, _, rfl, r, List.mem_cons_self⟩
  | _, _, _, j + 1, v, .cons r rr, e => by
    obtain ⟨d, bs, h1, h2, h3⟩ := readsAll_at rr (j := j) (by simpa using e)
    exact ⟨d, bs, by simpa using h1, h2, List.mem_cons_of_mem _ h3⟩
theorem canLay_mem : ∀ {xs : List PyData} {d : PyData}, d ∈ xs → PyData.canLayAll0 xs = true → PyData.canLay0 d = true
  | x :: xs, d, h, c => by
    rw [PyData.canLayAll0, Bool.and_eq_true] at c
    rcases List.mem_cons.mp h with rfl | h
    · exact c.1
    · exact canLay_mem h c.2
theorem depth_mem : ∀ {xs : List PyData} {d : PyData}, d ∈ xs → PyData.depth d ≤ PyData.depthAll xs
  | x :: xs, d, h => by
    rw [PyData.depthAll]
    rcases List.mem_cons.mp h with rfl | h
    · omega
    · have := depth_mem h
      omega
theorem cmpAt_data : ∀ (n : Nat) (da db : PyData) (c : Bool) (A : Around) (s : Shared) (a b : Value) (as bs : List Addr), PyData.depth da ≤ n → Reads s.heap a da as → Reads s.heap b db bs → da.canLay0 = true → db.canLay0 = true → ltD da db = some c →
    A.units + n + 2 < cLine → CmpAt .Lt A s a b c ∧ CmpAt .GtE A s a b (!c) := by
  intro n
  induction n with
  | zero =>
    intro da db c A s a b as bs hd ra rb _ _ hc hu
    cases ra with
    | int i t =>
      cases rb with
      | int j u =>
        have hc : decide (i < j) = c := by simpa [ltD] using hc
        subst hc
        refine ⟨fun prog w E Q hq => (PyProof.Rows.lt_int hq : wpAny (model prog w) A (compareOp .Lt (.int i t) (.int j u)) Q E s), fun prog w E Q hq => ?_⟩
        have e : (!decide (i < j)) = decide (j ≤ i) := by rw [← decide_not]; exact decide_eq_decide.mpr (by omega)
        rw [e] at hq
        exact (PyProof.Rows.ge_int hq : wpAny (model prog w) A (compareOp .GtE (.int i t) (.int j u)) Q E s)
      | _ => simp [ltD] at hc
    | str x t =>
      cases rb with
      | str y u =>
        have hc : decide (x.cps.toList < y.cps.toList) = c := by simpa [ltD] using hc
        subst hc
        exact ⟨fun prog w E Q hq => (PyProof.Rows.lt_str hq : wpAny (model prog w) A (compareOp .Lt (.str x t) (.str y u)) Q E s), fun prog w E Q hq => (PySem.P.ge_str hq : wpAny (model prog w) A (compareOp .GtE (.str x t) (.str y u)) Q E s)⟩
      | _ => simp [ltD] at hc
    | tuple h1 h2 h3 h4 => simp [PyData.depth] at hd
    | _ => simp [ltD] at hc
  | succ n ih =>
    intro da db c A s a b as bs hd ra rb la lb hc hu
    cases ra with
    | int i t =>
      cases rb with
      | int j u =>
        have hc : decide (i < j) = c := by simpa [ltD] using hc
        subst hc
        refine ⟨fun prog w E Q hq => (PyProof.Rows.lt_int hq : wpAny (model prog w) A (compareOp .Lt (.int i t) (.int j u)) Q E s), fun prog w E Q hq => ?_⟩
        have e : (!decide (i < j)) = decide (j ≤ i) := by rw [← decide_not]; exact decide_eq_decide.mpr (by omega)
        rw [e] at hq
        exact (PyProof.Rows.ge_int hq : wpAny (model prog w) A (compareOp .GtE (.int i t) (.int j u)) Q E s)
      | _ => simp [ltD] at hc
    | str x t =>
      cases rb with
      | str y u =>
        have hc : decide (x.cps.toList < y.cps.toList) = c := by simpa [ltD] using hc
        subst hc
        exact ⟨fun prog w E Q hq => (PyProof.Rows.lt_str hq : wpAny (model prog w) A (compareOp .Lt (.str x t) (.str y u)) Q E s), fun prog w E Q hq => (PySem.P.ge_str hq : wpAny (model prog w) A (compareOp .GtE (.str x t) (.str y u)) Q E s)⟩
      | _ => simp [ltD] at hc
    | @tuple l o vs m xs as h1 h2 h3 h4 =>
      cases rb with
      | @tuple l2 o2 vs2 m2 ys bs g1 g2 g3 g4 =>
        have hc : ltDs xs ys = some c := by simpa [ltD] using hc
        have z1 : vs.size = xs.length := by have := SeqAt.ReadsAll.length _ _ _ h4; simpa using this
        have z2 : vs2.size = ys.length := by have := SeqAt.ReadsAll.length _ _ _ g4; simpa using this
        have la' : PyData.canLayAll0 xs = true := la
        have lb' : PyData.canLayAll0 ys = true := lb
        have hd' : PyData.depthAll xs ≤ n := by have : PyData.depth (.tuple xs) = PyData.depthAll xs + 1 := rfl; omega
        have at1 : ∀ j (h : j < vs.size), ∃ d bs, xs[j]? = some d ∧ Reads s.heap vs[j] d bs ∧ d ∈ xs := fun j h => readsAll_at h4 (by simp [h])
        have at2 : ∀ j (h : j < vs2.size), ∃ d bs, ys[j]? = some d ∧ Reads s.heap vs2[j] d bs ∧ d ∈ ys := fun j h => readsAll_at g4 (by simp [h])
        have he : ∀ j (k1 : j < vs.size) (k2 : j < vs2.size), SeqAt.EqAt A.in1 s vs[j] vs2[j] (PyData.eqv ((xs[j]?).getD .none) ((ys[j]?).getD .none)) := fun j k1 k2 => by
          obtain ⟨d, b1, e1, r1, m1⟩ := at1 j k1
          obtain ⟨d2, b2, e2, r2, m2⟩ := at2 j k2
          rw [e1, e2]
          refine SeqAt.eqAt_reads d d2 A.in1 s _ _ b1 b2 r1 r2 (canLay_mem m1 la') (canLay_mem m2 lb') ?_
          have := depth_mem m1
          have : min d.depth d2.depth ≤ d.depth := Nat.min_le_left _ _
          show A.units + 1 + min d.depth d2.depth < cLine
          omega
        have hl : IsTup s.heap l vs := ⟨o, h1, h2, m, h3⟩
        have hr : IsTup s.heap l2 vs2 := ⟨o2, g1, g2, m2, g3⟩
        have e0 : ∀ (j : Nat) x y, xs[j]? = some x → ys[j]? = some y → PyData.eqv ((xs[j]?).getD .none) ((ys[j]?).getD .none) = PyData.eqv x y := fun j x y e1 e2 => by rw [e1, e2]; rfl
        have lexlt := lexD_ltDs (e := fun j => PyData.eqv ((xs[j]?).getD .none) ((ys[j]?).getD .none)) (r := fun j => (ltD ((xs[j]?).getD .none) ((ys[j]?).getD .none)).getD false) hc e0 (fun j x y c' e1 e2 _ _ e3 => by rw [e1, e2]; simp only [Option.getD_some]; rw [e3]; rfl)
        -- at the first two that are not alike < has an answer
        have ans : ∀ (xs ys : List PyData) (c : Bool), ltDs xs ys = some c → ∀ (j : Nat) x y, xs[j]? = some x → ys[j]? = some y → (∀ i x y, i < j → xs[i]? = some x → ys[i]? = some y → PyData.eqv x y = true) → PyData.eqv x y = false → ∃ c', ltD x y = some c' := by
          intro xs
          induction xs with
          | nil => intro ys c _ j x y e1; simp at e1
          | cons x0 xs ih2 =>
            intro ys c h j x y e1 e2 hall hne
            cases ys with
            | nil => simp at e2
            | cons y0 ys =>
              rw [ltDs] at h
              cases j with
              | zero =>
                simp at e1 e2
                subst e1 e2
                rw [if_neg (by rw [hne]; exact Bool.false_ne_true)] at h
                exact ⟨c, h⟩
              | succ j =>
                rw [if_pos (hall 0 x0 y0 (Nat.succ_pos _) rfl rfl)] at h
                exact ih2 ys c h j x y (by simpa using e1) (by simpa using e2) (fun i a b hi h1 h2 => hall (i + 1) a b (by omega) (by simpa using h1) (by simpa using h2)) hne
        have hu1 : A.in1.units + n + 2 < cLine := by show A.units + 1 + n + 2 < cLine; omega
        have cmp : ∀ j (k1 : j < vs.size) (k2 : j < vs2.size), (∀ i, i < j → PyData.eqv ((xs[i]?).getD .none) ((ys[i]?).getD .none) = true) → PyData.eqv ((xs[j]?).getD .none) ((ys[j]?).getD .none) = false →
            CmpAt .Lt A.in1 s vs[j] vs2[j] ((ltD ((xs[j]?).getD .none) ((ys[j]?).getD .none)).getD false) ∧ CmpAt .GtE A.in1 s vs[j] vs2[j] (!(ltD ((xs[j]?).getD .none) ((ys[j]?).getD .none)).getD false) := fun j k1 k2 hall hne => by
          obtain ⟨d, b1, e1, r1, m1⟩ := at1 j k1
          obtain ⟨d2, b2, e2, r2, m2⟩ := at2 j k2
          rw [e1, e2] at hne ⊢
          obtain ⟨c', hc'⟩ := ans xs ys c hc j d d2 e1 e2 (fun i x y hi h1 h2 => by have := hall i hi; rw [h1, h2] at this; exact this) hne
          simp only [Option.getD_some]
          rw [hc']
          exact ih d d2 c' A.in1 s _ _ b1 b2 (Nat.le_trans (depth_mem m1) hd') r1 r2 (canLay_mem m1 la') (canLay_mem m2 lb') hc' hu1
        refine ⟨fun prog w E Q hq => ?_, fun prog w E Q hq => ?_⟩
        · refine (lt_tupAt1 hl hr he (fun j k1 k2 h3 h4 => (cmp j k1 k2 h3 h4).1) (by omega) ?_ : wpAny (model prog w) A (compareOp .Lt (.ref l) (.ref l2)) Q E s)
          rw [z1, z2, lexlt]
          exact hq
        · refine (ge_tupAt1 hl hr he (fun j k1 k2 h3 h4 => (cmp j k1 k2 h3 h4).2) (by omega) ?_ : wpAny (model prog w) A (compareOp .GtE (.ref l) (.ref l2)) Q E s)
          have e : decide (vs2.size ≤ vs.size) = !decide (vs.size < vs2.size) := by rw [← decide_not]; exact decide_eq_decide.mpr (by omega)
          rw [e, lexD_not, z1, z2, lexlt]
          exact hq
      | _ => simp [ltD] at hc
    | _ => simp [ltD] at hc
section
variable {X : Cx}
end
end L2

namespace L2
open PySem
/-! ### the search of a set's table: an empty slot is always met -/
noncomputable abbrev ST := SetTable
/-- a table that no element has left, its places rising and within it -/
structure Fit (t : ST) : Prop where
  dum : t.dummies = #[]
  sz : t.place.size ≤ t.mask
  msk : t.mask = 7 ∨ t.mask = 31 ∨ t.mask = 127 ∨ t.mask = 511
noncomputable def lcg (m i : Nat) : Nat := (i * 5 + 1) % m
noncomputable def orb (m : Nat) : Nat → Nat → Nat
  | 0, i => i
  | n + 1, i => orb m n (lcg m i)
theorem orb_add (m : Nat) : ∀ (a b i : Nat), orb m (a + b) i = orb m b (orb m a i)
  | 0, b, i => by rw [Nat.zero_add]; rfl
  | a + 1, b, i => by rw [Nat.succ_add]; exact orb_add m a b (lcg m i)
noncomputable def orbList (m : Nat) : Nat → Nat → List Nat
  | 0, _ => []
  | n + 1, i => i :: orbList m n (lcg m i)
theorem mem_orbList {m : Nat} : ∀ {n i j : Nat}, j ∈ orbList m n i → ∃ k, k < n ∧ orb m k i = j
  | n + 1, i, j, h => by
    rcases List.mem_cons.mp h with rfl | h
    · exact ⟨0, Nat.succ_pos _, rfl⟩
    · obtain ⟨k, hk, e⟩ := mem_orbList h
      exact ⟨k + 1, by omega, e⟩
noncomputable def covers (m : Nat) : Bool := (List.range m).all (fun j => (orbList m m 0).contains j) && (orb m m 0 == 0)
theorem cov8 : covers 8 = true := by decide +kernel
theorem cov32 : covers 32 = true := by decide +kernel
theorem cov128 : covers 128 = true := by decide +kernel
theorem cov512 : covers 512 = true := by decide +kernel
theorem covers_of {t : ST} (f : Fit t) : covers (t.mask + 1) = true := by
  rcases f.msk with e | e | e | e <;> rw [e]
  · exact cov8
  · exact cov32
  · exact cov128
  · exact cov512
theorem reach0 {m j : Nat} (c : covers m = true) (hj : j < m) : ∃ k, k < m ∧ orb m k 0 = j := by
  unfold covers at c
  rw [Bool.and_eq_true] at c
  have := List.all_eq_true.mp c.1 j (List.mem_range.mpr hj)
  exact mem_orbList (by simpa using this)
theorem period {m : Nat} (c : covers m = true) : orb m m 0 = 0 := by
  unfold covers at c
  rw [Bool.and_eq_true] at c
  exact eq_of_beq c.2
/-- from any place each place is come to -/
theorem reach {m i j : Nat} (c : covers m = true) (hi : i < m) (hj : j < m) : ∃ k, k < m ∧ orb m k i = j := by
  obtain ⟨a, ha, ea⟩ := reach0 c hi
  obtain ⟨b, hb, eb⟩ := reach0 c hj
  rcases Nat.lt_or_ge b a with h | h
  · refine ⟨m - a + b, by omega, ?_⟩
    rw [← ea, ← orb_add, show a + (m - a + b) = m + b by omega, orb_add, period c, eb]
  · refine ⟨b - a, by omega, ?_⟩
    rw [← ea, ← orb_add, show a + (b - a) = b by omega, eb]
/-! ### the leaps -/
noncomputable abbrev leap2 (mask : Nat) (p : Nat × Nat) : Nat × Nat := SetTable.leap mask p.1 p.2
noncomputable def leaps (mask : Nat) : Nat → Nat × Nat → Nat × Nat
  | 0, p => p
  | n + 1, p => leaps mask n (leap2 mask p)
theorem leaps_add (mask : Nat) : ∀ (a b : Nat) (p : Nat × Nat), leaps mask (a + b) p = leaps mask b (leaps mask a p)
  | 0, b, p => by rw [Nat.zero_add]; rfl
  | a + 1, b, p => by rw [Nat.succ_add]; exact leaps_add mask a b (leap2 mask p)
theorem leaps_perturb (mask : Nat) : ∀ (n : Nat) (p : Nat × Nat), (leaps mask n p).2 = p.2 / 32 ^ n
  | 0, p => by simp [leaps]
  | n + 1, p => by
    show (leaps mask n (leap2 mask p)).2 = _
    rw [leaps_perturb mask n]
    show p.2 / 32 / 32 ^ n = _
    rw [Nat.div_div_eq_div_mul, Nat.pow_succ, Nat.mul_comm]
theorem leaps_zero (mask : Nat) : ∀ (n i : Nat), leaps mask n (i, 0) = (orb (mask + 1) n i, 0)
  | 0, i => rfl
  | n + 1, i => by
    show leaps mask n ((i * 5 + 1 + 0 / 32) % (mask + 1), 0 / 32) = _
    rw [Nat.zero_div, Nat.add_zero, leaps_zero mask n]
    rfl
theorem leaps_lt (mask : Nat) : ∀ (n : Nat) (p : Nat × Nat), p.1 < mask + 1 → (leaps mask n p).1 < mask + 1
  | 0, p, h => h
  | n + 1, p, h => leaps_lt mask n _ (Nat.mod_lt _ (Nat.succ_pos _))
/-- behind thirteen leaps and as many as there are slots, each slot has been a start -/
theorem all_starts {mask i perturb j : Nat} (c : covers (mask + 1) = true) (hi : i < mask + 1) (hp : perturb < 2 ^ 64) (hj : j < mask + 1) : ∃ k, k < mask + 14 ∧ (leaps mask k (i, perturb)).1 = j := by
  have h13 : (leaps mask 13 (i, perturb)).2 = 0 := by
    rw [leaps_perturb]
    exact Nat.div_eq_of_lt (Nat.lt_of_lt_of_le hp (by decide))
  have hl := leaps_lt mask 13 (i, perturb) hi
  generalize hq : leaps mask 13 (i, perturb) = q at h13 hl
  obtain ⟨qi, qp⟩ := q
  dsimp only at h13 hl
  subst h13
  obtain ⟨k, hk, e⟩ := reach c hl hj
  refine ⟨13 + k, by omega, ?_⟩
  rw [leaps_add, hq, leaps_zero]
  exact e

/-! ### the path of a search -/
open SetTable in
noncomputable def path (t : ST) : Nat → Probe → Probe
  | 0, p => p
  | n + 1, p => path t n (t.advance p)
theorem path_add (t : ST) : ∀ (a b : Nat) (p : SetTable.Probe), path t (a + b) p = path t b (path t a p)
  | 0, b, p => by rw [Nat.zero_add]; rfl
  | a + 1, b, p => by rw [Nat.succ_add]; exact path_add t a b (t.advance p)
theorem path_succ (t : ST) (n : Nat) (p : SetTable.Probe) : path t (n + 1) p = t.advance (path t n p) := by
  rw [path_add]; rfl
theorem adv_dummy (t : ST) (p : SetTable.Probe) : (t.advance p).dummy = p.dummy := by
  unfold SetTable.advance
  split <;> rfl
theorem path_dummy (t : ST) : ∀ (n : Nat) (p : SetTable.Probe), (path t n p).dummy = p.dummy
  | 0, p => rfl
  | n + 1, p => by show (path t n (t.advance p)).dummy = _; rw [path_dummy t n, adv_dummy]
/-- to the end of a run -/
theorem run_end (t : ST) : ∀ (m : Nat) (p : SetTable.Probe), p.more = m → path t (m + 1) p = { p with j := (SetTable.leap t.mask p.i p.perturb).1, more := SetTable.runEnd t.mask (SetTable.leap t.mask p.i p.perturb).1 - (SetTable.leap t.mask p.i p.perturb).1, i := (SetTable.leap t.mask p.i p.perturb).1, perturb := (SetTable.leap t.mask p.i p.perturb).2 }
  | 0, p, h => by
    show t.advance p = _
    unfold SetTable.advance
    rw [if_neg (by omega)]
  | m + 1, p, h => by
    show path t (m + 1) (t.advance p) = _
    have e : t.advance p = { p with j := p.j + 1, more := p.more - 1 } := by
      unfold SetTable.advance
      rw [if_pos (by omega)]
    rw [e, run_end t m _ (by show p.more - 1 = m; omega)]
theorem run_len (mask i : Nat) : SetTable.runEnd mask i - i ≤ 9 := by
  unfold SetTable.runEnd
  split <;> omega
/-- the start of each run is come to in time -/
theorem run_starts (t : ST) : ∀ (k : Nat) (p : SetTable.Probe), p.more ≤ 9 → ∃ n, n ≤ 10 + 10 * k ∧ (path t n p).j = (leaps t.mask (k + 1) (p.i, p.perturb)).1
  | 0, p, h => by
    refine ⟨p.more + 1, by omega, ?_⟩
    rw [run_end t p.more p rfl]
    rfl
  | k + 1, p, h => by
    have e := run_end t p.more p rfl
    obtain ⟨n, hn, e2⟩ := run_starts t k (path t (p.more + 1) p) (by rw [e]; exact run_len _ _)
    refine ⟨(p.more + 1) + n, by omega, ?_⟩
    rw [path_add, e2, e]
    rfl
/-- each slot is come to in time -/
theorem met {t : ST} (f : Fit t) {p : SetTable.Probe} {j : Nat} (h9 : p.more ≤ 9) (hp : p.perturb < 2 ^ 64) (hj : j < t.mask + 1) : ∃ n, n < 10 * SetTable.turns t.mask ∧ (path t n p).j = j := by
  have hl : (SetTable.leap t.mask p.i p.perturb).1 < t.mask + 1 := Nat.mod_lt _ (Nat.succ_pos _)
  have hp2 : (SetTable.leap t.mask p.i p.perturb).2 < 2 ^ 64 := Nat.lt_of_le_of_lt (Nat.div_le_self _ _) hp
  obtain ⟨k, hk, e⟩ := all_starts (covers_of f) hl hp2 hj
  obtain ⟨n, hn, e2⟩ := run_starts t k p h9
  refine ⟨n, ?_, ?_⟩
  · unfold SetTable.turns
    omega
  · rw [e2]; exact e
theorem slot_empty {t : ST} (f : Fit t) (j : Nat) : t.slot j = .empty ∨ ∃ i, t.slot j = .live i ∧ t.place[i]? = some j := by
  unfold SetTable.slot
  dsimp only
  by_cases h : (t.place[SetTable.below t.place j]? == some j) = true
  · rw [if_pos h]
    exact .inr ⟨_, rfl, eq_of_beq h⟩
  · rw [if_neg h]
    have hd : SetTable.has t.dummies j = false := by rw [f.dum]; unfold SetTable.has; simp
    rw [hd, if_neg Bool.false_ne_true]
    exact .inl rfl
theorem pigeon : ∀ (n : Nat) (g : Nat → Nat) (m : Nat), (∀ j, j < n → g j < m) → (∀ i j, i < n → j < n → g i = g j → i = j) → n ≤ m := by
  intro n g m hm hi
  have h1 : ((List.range n).map g).Nodup := by
    unfold List.Nodup
    rw [List.pairwise_map]
    refine List.Pairwise.imp_of_mem (fun ha hb hab e => ?_) (List.nodup_range (n := n))
    exact hab (hi _ _ (List.mem_range.mp ha) (List.mem_range.mp hb) e)
  have h2 : ((List.range n).map g).length ≤ (List.range m).length := List.Nodup.length_le_of_subset h1 (fun x hx => by
    obtain ⟨j, hj, rfl⟩ := List.mem_map.mp hx
    exact List.mem_range.mpr (hm j (List.mem_range.mp hj)))
  simpa using h2
theorem some_empty {t : ST} (f : Fit t) : ∃ j, j < t.mask + 1 ∧ t.slot j = .empty := by
  refine Classical.byContradiction fun hn => ?_
  have h : ∀ j, j < t.mask + 1 → t.place[SetTable.below t.place j]? = some j := fun j hj => by
    rcases slot_empty f j with e | ⟨i, e, e2⟩
    · exact absurd ⟨j, hj, e⟩ hn
    · unfold SetTable.slot at e
      dsimp only at e
      by_cases h : (t.place[SetTable.below t.place j]? == some j) = true
      · exact eq_of_beq h
      · rw [if_neg h] at e
        split at e <;> cases e
  have := pigeon (t.mask + 1) (fun j => SetTable.below t.place j) t.place.size (fun j hj => (Array.getElem?_eq_some_iff.mp (h j hj)).1) (fun i j hi hj e => by
    have h1 := h i hi
    have h2 := h j hj
    have e : SetTable.below t.place i = SetTable.below t.place j := e
    rw [e, h2] at h1
    exact (Option.some.inj h1).symm)
  have := f.sz
  omega
/-- the search ends: behind N steps, all of them at elements, stands an empty slot -/
theorem search_ends {t : ST} (f : Fit t) {p : SetTable.Probe} (h9 : p.more ≤ 9) (hp : p.perturb < 2 ^ 64) : ∃ N, N < 10 * SetTable.turns t.mask ∧ t.slot (path t N p).j = .empty ∧ ∀ k, k < N → ∃ i, t.slot (path t k p).j = .live i ∧ t.place[i]? = some (path t k p).j := by
  obtain ⟨j, hj, he⟩ := some_empty f
  obtain ⟨n, hn, e⟩ := met f h9 hp hj
  have hex : ∃ n, t.slot (path t n p).j = .empty := ⟨n, by rw [e]; exact he⟩
  have hfirst : ∀ m, t.slot (path t m p).j = .empty → ∃ N, N ≤ m ∧ t.slot (path t N p).j = .empty ∧ ∀ k, k < N → t.slot (path t k p).j ≠ .empty := by
    intro m
    induction m using Nat.strongRecOn with
    | ind m ih =>
      intro hm
      by_cases h : ∃ k, k < m ∧ t.slot (path t k p).j = .empty
      · obtain ⟨k, hk, hk2⟩ := h
        obtain ⟨N, h1, h2, h3⟩ := ih k hk hk2
        exact ⟨N, by omega, h2, h3⟩
      · exact ⟨m, Nat.le_refl _, hm, fun k hk hk2 => h ⟨k, hk, hk2⟩⟩
  obtain ⟨N, h1, h2, h3⟩ := hfirst n (by rw [e]; exact he)
  refine ⟨N, by omega, h2, fun k hk => ?_⟩
  rcases slot_empty f (path t k p).j with e | e
  · exact absurd e (h3 k hk)
  · exact e
theorem go_spec {t : ST} {hashAt : Nat → Int} {h : Int} {p : SetTable.Probe} {N : Nat} (hd : p.dummy = none) (he : t.slot (path t N p).j = .empty) (hl : ∀ k, k < N → ∃ i, t.slot (path t k p).j = .live i ∧ t.place[i]? = some (path t k p).j) :
    ∀ (d m fuel : Nat), d = N - m → m ≤ N → d < fuel →
      (∃ k i, m ≤ k ∧ k < N ∧ t.slot (path t k p).j = .live i ∧ (hashAt i == h) = true ∧ SetTable.probe.go t hashAt h fuel (path t m p) = some (.candidate (path t k p).j i (path t (k + 1) p))) ∨ SetTable.probe.go t hashAt h fuel (path t m p) = some (.empty (path t N p).j none) := by
  intro d
  induction d with
  | zero =>
    intro m fuel hdm hm hf
    have e : m = N := by omega
    subst e
    cases fuel with
    | zero => omega
    | succ fuel =>
      right
      unfold SetTable.probe.go
      rw [he, path_dummy, hd]
  | succ d ih =>
    intro m fuel hdm hm hf
    cases fuel with
    | zero => omega
    | succ fuel =>
      obtain ⟨i, hi, _⟩ := hl m (by omega)
      unfold SetTable.probe.go
      rw [hi]
      dsimp only
      by_cases hh : (hashAt i == h) = true
      · left
        refine ⟨m, i, Nat.le_refl _, by omega, hi, hh, ?_⟩
        rw [if_pos hh, path_succ]
      · rw [if_neg hh, ← path_succ]
        rcases ih (m + 1) fuel (by omega) (by omega) (by omega) with ⟨k, i', h1, h2, h3, h4, h5⟩ | h5
        · exact .inl ⟨k, i', by omega, h2, h3, h4, h5⟩
        · exact .inr h5
end L2

namespace L2
open PySem
/-! ### a set's table laid anew -/
noncomputable abbrev own (o : Array (Option Nat)) (j : Nat) : Option Nat := o.getD j none
theorem free_some {mask : Nat} {owner : Array (Option Nat)} (hs : owner.size = mask + 1) {j0 : Nat} (hj : j0 < mask + 1) (he : own owner j0 = none) :
    ∀ (k fuel i perturb : Nat), k < fuel → i < mask + 1 → (leaps mask k (i, perturb)).1 = j0 → ∃ j, SetTable.layClean.free mask owner fuel i perturb = some j ∧ j < mask + 1 ∧ own owner j = none := by
  have get0 : ∀ j, (owner.getD j (some 0)).isNone = true → j < mask + 1 ∧ own owner j = none := fun j h => by
    rcases Nat.lt_or_ge j owner.size with hj | hj
    · rw [Array.getD_eq_getD_getElem?, Array.getElem?_eq_getElem hj] at h
      refine ⟨by omega, ?_⟩
      show owner.getD j none = none
      rw [Array.getD_eq_getD_getElem?, Array.getElem?_eq_getElem hj]
      cases e : owner[j] with
      | none => rfl
      | some v => rw [e] at h; cases h
    · rw [Array.getD_eq_getD_getElem?, Array.getElem?_eq_none hj] at h
      cases h
  intro k
  induction k with
  | zero =>
    intro fuel i perturb hf hi e
    cases fuel with
    | zero => omega
    | succ fuel =>
      have e : i = j0 := e
      subst e
      unfold SetTable.layClean.free
      cases hfd : (List.range (SetTable.runEnd mask i + 1 - i)).find? fun k => (owner.getD (i + k) (some 0)).isNone with
      | some q =>
        have := List.find?_some hfd
        obtain ⟨h1, h2⟩ := get0 _ this
        exact ⟨_, rfl, h1, h2⟩
      | none =>
        exfalso
        have hr : 0 ∈ List.range (SetTable.runEnd mask i + 1 - i) := by
          rw [List.mem_range]
          unfold SetTable.runEnd
          split <;> omega
        have := List.find?_eq_none.mp hfd 0 hr
        apply this
        rw [Nat.add_zero, Array.getD_eq_getD_getElem?, Array.getElem?_eq_getElem (by omega)]
        have he2 : owner.getD i none = none := he
        rw [Array.getD_eq_getD_getElem?, Array.getElem?_eq_getElem (by omega)] at he2
        have he3 : owner[i] = none := he2
        rw [Option.getD_some, he3]
        rfl
  | succ k ih =>
    intro fuel i perturb hf hi e
    cases fuel with
    | zero => omega
    | succ fuel =>
      unfold SetTable.layClean.free
      cases hfd : (List.range (SetTable.runEnd mask i + 1 - i)).find? fun k => (owner.getD (i + k) (some 0)).isNone with
      | some q =>
        have := List.find?_some hfd
        obtain ⟨h1, h2⟩ := get0 _ this
        exact ⟨_, rfl, h1, h2⟩
      | none => exact ih fuel _ _ (by omega) (Nat.mod_lt _ (Nat.succ_pos _)) e
noncomputable def lives (M : Nat) (o : Array (Option Nat)) : List (Nat × Nat) := (List.range M).filterMap fun j => (own o j).map (j, ·)
theorem fm_congr {β : Type} {f g : Nat → Option β} : ∀ {l : List Nat}, (∀ x ∈ l, g x = f x) → l.filterMap g = l.filterMap f := by
  intro l
  induction l with
  | nil => intro _; rfl
  | cons x l ih =>
    intro h
    have h1 := ih fun y hy => h y (List.mem_cons_of_mem _ hy)
    have h2 := h x List.mem_cons_self
    rw [List.filterMap_cons, List.filterMap_cons, h2, h1]
theorem filterMap_one {β : Type} {f g : Nat → Option β} {y : β} {j : Nat} : ∀ {l : List Nat}, l.Nodup → j ∈ l → f j = none → g j = some y → (∀ x, x ≠ j → g x = f x) → (l.filterMap g).Perm (y :: l.filterMap f) := by
  intro l hn hj hf hg he
  obtain ⟨a, b, rfl⟩ := List.append_of_mem hj
  have hna : ∀ x ∈ a, x ≠ j := fun x hx e => by
    subst e
    have := List.nodup_append.mp hn
    exact this.2.2 x hx x List.mem_cons_self rfl
  have hnb : ∀ x ∈ b, x ≠ j := fun x hx e => by
    subst e
    have := (List.nodup_append.mp hn).2.1
    exact (List.nodup_cons.mp this).1 hx
  have ea : a.filterMap g = a.filterMap f := by
    refine fm_congr fun x hx => he x (hna x hx)
  have eb : b.filterMap g = b.filterMap f := by
    refine fm_congr fun x hx => he x (hnb x hx)
  rw [List.filterMap_append, List.filterMap_append, List.filterMap_cons_some hg, List.filterMap_cons_none hf, ea, eb]
  exact List.perm_middle
theorem lives_set {M j k : Nat} {o : Array (Option Nat)} (hs : o.size = M) (hj : j < M) (he : own o j = none) : (lives M (o.setIfInBounds j (some k))).Perm ((j, k) :: lives M o) := by
  refine filterMap_one List.nodup_range (List.mem_range.mpr hj) (by rw [he]; rfl) ?_ fun x hx => ?_
  · have : own (o.setIfInBounds j (some k)) j = some k := by
      show (o.setIfInBounds j (some k)).getD j none = some k
      rw [Array.getD_eq_getD_getElem?, Array.getElem?_setIfInBounds_self_of_lt (by omega)]
      rfl
    rw [this]
    rfl
  · have : own (o.setIfInBounds j (some k)) x = own o x := by
      show (o.setIfInBounds j (some k)).getD x none = o.getD x none
      rw [Array.getD_eq_getD_getElem?, Array.getD_eq_getD_getElem?, Array.getElem?_setIfInBounds_ne (fun e => hx e.symm)]
    rw [this]
theorem some_free {M n : Nat} {o : Array (Option Nat)} (h : ((lives M o).map (·.2)).Perm (List.range n)) (hn : n < M) : ∃ j, j < M ∧ own o j = none := by
  refine Classical.byContradiction fun hno => ?_
  have hl : (lives M o).length = M := by
    have : ∀ l : List Nat, (∀ x ∈ l, x < M) → (l.filterMap fun j => (own o j).map (j, ·)).length = l.length := by
      intro l
      induction l with
      | nil => intro _; rfl
      | cons x l ih =>
        intro hx
        have h1 := ih fun y hy => hx y (List.mem_cons_of_mem _ hy)
        cases e : own o x with
        | none => exact absurd ⟨x, hx x List.mem_cons_self, e⟩ hno
        | some v => rw [List.filterMap_cons_some (by rw [e]; rfl), List.length_cons, List.length_cons, h1]
    have h2 := this (List.range M) fun x hx => List.mem_range.mp hx
    rw [List.length_range] at h2
    exact h2
  have := h.length_eq
  rw [List.length_map, hl, List.length_range] at this
  omega
end L2

namespace L2
open PySem PySem.Spec PyProof.Rows PySem.NumText
mutual
noncomputable def onlyI : PyData → Bool
  | .int _ => true
  | .tuple xs => onlyIs xs
  | _ => false
noncomputable def onlyIs : List PyData → Bool
  | [] => true
  | x :: xs => onlyI x && onlyIs xs
end
section
variable {prog : Program} {w : World}
theorem quiet_data : ∀ (n : Nat) (d : PyData) (A : Around) (E : Value → Shared → Prop) (s : Shared) (v : Value) (as : List Addr), d.depth ≤ n → Reads s.heap v d as → onlyI d = true → ∀ (k : Nat) (Q : Bool → Shared → Prop), n ≤ k → Q true s → wpAny (model prog w) A (eqIsQuiet k v) Q E s := by
  intro n
  induction n with
  | zero =>
    intro d A E s v as hd r ho k Q hk h
    cases r with
    | int i t => rw [eqIsQuiet_byValue _ rfl]; exact wpAny_pure h
    | tuple => simp [PyData.depth] at hd
    | _ => simp [onlyI] at ho
  | succ n ih =>
    intro d A E s v as hd r ho k Q hk h
    cases r with
    | int i t => rw [eqIsQuiet_byValue _ rfl]; exact wpAny_pure h
    | @tuple a o vs m xs as h1 h2 h3 h4 =>
      have hT : s.TypeIs (.ref a) "tuple" := ⟨o, h1, h2⟩
      have hdx : PyData.depthAll xs ≤ n := by have : PyData.depth (.tuple xs) = PyData.depthAll xs + 1 := rfl; omega
      have hox : onlyIs xs = true := ho
      obtain ⟨k, rfl⟩ : ∃ k', k = k' + 1 := ⟨k - 1, by omega⟩
      unfold eqIsQuiet
      refine wpAny_bind (wpAny_specialOf hT F.slot_tuple_eq.lookup ?_)
      show wpAny _ _ (isInstance (.ref a) (.type "tuple") >>= _) _ _ s
      refine wpAny_bind (wpAny_isInstance hT isSubtype_tuple_tuple ?_)
      simp only [Bool.not_true, Bool.false_eq_true, if_false]
      refine wpAny_bind (wpAny_seqItems h1 h3 ?_)
      refine wpAny_bind ?_
      show wpAny _ _ (forIn vs _ _) _ _ s
      rw [← Array.forIn_toList]
      refine wpAny_forIn_list _ (fun rest r s' => r.1 = none ∧ s' = s ∧ ∃ ds bs, ReadsAll s.heap rest ds bs ∧ PyData.depthAll ds ≤ n ∧ onlyIs ds = true) _ ?_ ?_ _ _ ⟨rfl, rfl, xs, as, h4, hdx, hox⟩
      · rintro x rest r s' ⟨hr, rfl, ds, bs, hrd, hd', ho'⟩
        cases hrd with
        | @cons _ _ d1 ds1 as1 bs1 r1 rr =>
          rw [PyData.depthAll] at hd'
          rw [onlyIs, Bool.and_eq_true] at ho'
          refine wpAny_bind (ih d1 _ _ _ x as1 (by omega) r1 ho'.1 k _ (by omega) ?_)
          simp only [Bool.not_true, Bool.false_eq_true, if_false]
          exact wpAny_pure ⟨rfl, rfl, ds1, bs1, rr, by omega, ho'.2⟩
      · rintro ⟨r1, r2⟩ s' ⟨hr, rfl, _⟩
        simp only at hr
        subst hr
        exact wpAny_pure h
    | _ => simp [onlyI] at ho
end
end L2

namespace L2
open PySem PySem.Spec PyProof.Rows PySem.NumText
mutual
theorem rd_kept {h h' : Heap} (k : ∀ b o, h.get? b = some o → h'.get? b = some o) : ∀ (d : PyData) (v : Value) (as : List Addr), onlyI d = true → Reads h v d as → Reads h' v d as
  | .int i, _, _, _, .int _ t => .int i t
  | .tuple xs, _, _, ho, .tuple h1 h2 h3 h4 => .tuple (k _ _ h1) h2 h3 (rds_kept k xs _ _ ho h4)
theorem rds_kept {h h' : Heap} (k : ∀ b o, h.get? b = some o → h'.get? b = some o) : ∀ (ds : List PyData) (vs : List Value) (as : List Addr), onlyIs ds = true → ReadsAll h vs ds as → ReadsAll h' vs ds as
  | [], _, _, _, .nil => .nil
  | d :: ds, _, _, ho, .cons r rr => by
    rw [onlyIs, Bool.and_eq_true] at ho
    exact .cons (rd_kept k d _ _ ho.1 r) (rds_kept k ds _ _ ho.2 rr)
end
section
variable {prog : Program} {w : World}
theorem cls_data : ∀ (n : Nat) (d : PyData) (A : Around) (E : Value → Shared → Prop) (s : Shared) (v : Value) (as : List Addr), d.depth ≤ n → Reads s.heap v d as → onlyI d = true → ∀ (k : Nat) (Q : Bool → Shared → Prop), n ≤ k → Q false s → wpAny (model prog w) A (ofAClassStatement k v) Q E s := by
  intro n
  induction n with
  | zero =>
    intro d A E s v as hd r ho k Q hk h
    cases r with
    | int i t => unfold ofAClassStatement; exact wpAny_pure h
    | tuple => simp [PyData.depth] at hd
    | _ => simp [onlyI] at ho
  | succ n ih =>
    intro d A E s v as hd r ho k Q hk h
    cases r with
    | int i t => unfold ofAClassStatement; exact wpAny_pure h
    | @tuple a o vs m xs as h1 h2 h3 h4 =>
      have hT : s.TypeIs (.ref a) "tuple" := ⟨o, h1, h2⟩
      have hdx : PyData.depthAll xs ≤ n := by have : PyData.depth (.tuple xs) = PyData.depthAll xs + 1 := rfl; omega
      have hox : onlyIs xs = true := ho
      obtain ⟨k, rfl⟩ : ∃ k', k = k' + 1 := ⟨k - 1, by omega⟩
      unfold ofAClassStatement
      refine wpAny_bind (wpAny_typeOf hT ?_)
      dsimp only
      rw [if_pos (by decide)]
      refine wpAny_bind (wpAny_pure ?_)
      simp only [Bool.not_true, Bool.false_eq_true, if_false]
      refine wpAny_bind (wpAny_seqItems h1 h3 ?_)
      dsimp only
      refine wpAny_bind ?_
      rw [← Array.forIn_toList]
      refine wpAny_forIn_list _ (fun rest r s' => r.1 = none ∧ s' = s ∧ ∃ ds bs, ReadsAll s.heap rest ds bs ∧ PyData.depthAll ds ≤ n ∧ onlyIs ds = true) _ ?_ ?_ _ _ ⟨rfl, rfl, xs, as, h4, hdx, hox⟩
      · rintro x rest r s' ⟨hr, rfl, ds, bs, hrd, hd', ho'⟩
        cases hrd with
        | @cons _ _ d1 ds1 as1 bs1 r1 rr =>
          rw [PyData.depthAll] at hd'
          rw [onlyIs, Bool.and_eq_true] at ho'
          refine wpAny_bind (ih d1 _ _ _ x as1 (by omega) r1 ho'.1 k _ (by omega) ?_)
          simp only [Bool.false_eq_true, if_false]
          exact wpAny_pure ⟨rfl, rfl, ds1, bs1, rr, by omega, ho'.2⟩
      · rintro ⟨r1, r2⟩ s' ⟨hr, rfl, _⟩
        simp only at hr
        subst hr
        exact wpAny_pure h
    | _ => simp [onlyI] at ho
theorem byval_data : ∀ (n : Nat) (d : PyData) (A : Around) (E : Value → Shared → Prop) (s : Shared) (v : Value) (as : List Addr), d.depth ≤ n → Reads s.heap v d as → onlyI d = true → ∀ (k : Nat) (Q : Bool → Shared → Prop), n ≤ k → Q true s → wpAny (model prog w) A (hashByValue k v) Q E s := by
  intro n
  induction n with
  | zero =>
    intro d A E s v as hd r ho k Q hk h
    cases r with
    | int i t => cases k <;> exact wpAny_pure h
    | tuple => simp [PyData.depth] at hd
    | _ => simp [onlyI] at ho
  | succ n ih =>
    intro d A E s v as hd r ho k Q hk h
    cases r with
    | int i t => cases k <;> exact wpAny_pure h
    | @tuple a o vs m xs as h1 h2 h3 h4 =>
      have hT : s.TypeIs (.ref a) "tuple" := ⟨o, h1, h2⟩
      have hdx : PyData.depthAll xs ≤ n := by have : PyData.depth (.tuple xs) = PyData.depthAll xs + 1 := rfl; omega
      have hox : onlyIs xs = true := ho
      obtain ⟨k, rfl⟩ : ∃ k', k = k' + 1 := ⟨k - 1, by omega⟩
      unfold hashByValue
      refine wpAny_bind (wpAny_specialOf hT F.slot_tuple_hash.lookup ?_)
      dsimp only
      refine wpAny_bind (wpAny_seqItems h1 h3 ?_)
      refine wpAny_bind ?_
      show wpAny _ _ (forIn vs _ _) _ _ s
      rw [← Array.forIn_toList]
      refine wpAny_forIn_list _ (fun rest r s' => r.1 = none ∧ s' = s ∧ ∃ ds bs, ReadsAll s.heap rest ds bs ∧ PyData.depthAll ds ≤ n ∧ onlyIs ds = true) _ ?_ ?_ _ _ ⟨rfl, rfl, xs, as, h4, hdx, hox⟩
      · rintro x rest r s' ⟨hr, rfl, ds, bs, hrd, hd', ho'⟩
        cases hrd with
        | @cons _ _ d1 ds1 as1 bs1 r1 rr =>
          rw [PyData.depthAll] at hd'
          rw [onlyIs, Bool.and_eq_true] at ho'
          refine wpAny_bind (ih d1 _ _ _ x as1 (by omega) r1 ho'.1 k _ (by omega) ?_)
          simp only [Bool.not_true, Bool.false_eq_true, if_false]
          exact wpAny_pure ⟨rfl, rfl, ds1, bs1, rr, by omega, ho'.2⟩
      · rintro ⟨r1, r2⟩ s' ⟨hr, rfl, _⟩
        simp only at hr
        subst hr
        exact wpAny_pure h
    | _ => simp [onlyI] at ho
/-- what may lie in such a set -/
structure El (h : Heap) (v : Value) (d : PyData) : Prop where
  rd : ∃ as, Reads h v d as
  oi : onlyI d = true
  dp : d.depth ≤ 4
  rf : ∃ a, v = .ref a
theorem seen_no {s : Shared} {A : Around} {E : Value → Shared → Prop} {x : Value} {dx : PyData} (hx : El s.heap x dx) : ∀ (l : List Value) (Q : Bool → Shared → Prop), (∀ y ∈ l, ∃ d, El s.heap y d) → Q false s → wpAny (model prog w) A (searchCouldBeSeen x l) Q E s := by
  intro l Q hl h
  obtain ⟨as, rx⟩ := hx.rd
  unfold searchCouldBeSeen
  refine wpAny_bind ?_
  refine wpAny_forIn_list _ (fun rest r s' => r.1 = none ∧ s' = s ∧ ∀ y ∈ rest, ∃ d, El s.heap y d) _ ?_ ?_ _ _ ⟨rfl, rfl, hl⟩
  · rintro y rest r s' ⟨hr, rfl, hall⟩
    obtain ⟨d, hy⟩ := hall y List.mem_cons_self
    obtain ⟨bs, ry⟩ := hy.rd
    obtain ⟨a, rfl⟩ := hx.rf
    obtain ⟨b, rfl⟩ := hy.rf
    have nxt : (none : Option Bool) = none ∧ s' = s' ∧ ∀ y ∈ rest, ∃ d, El s'.heap y d := ⟨rfl, rfl, fun z hz => hall z (List.mem_cons_of_mem _ hz)⟩
    dsimp only
    split
    · exact wpAny_pure nxt
    · refine wpAny_bind (quiet_data 4 dx A _ _ _ as hx.dp rx hx.oi 8 _ (by decide) ?_)
      simp only [Bool.not_true, Bool.false_eq_true, if_false]
      refine wpAny_bind (quiet_data 4 d A _ _ _ bs hy.dp ry hy.oi 8 _ (by decide) ?_)
      simp only [Bool.not_true, Bool.false_eq_true, if_false]
      refine wpAny_bind (cls_data 4 dx A _ _ _ as hx.dp rx hx.oi 8 _ (by decide) ?_)
      simp only [Bool.false_eq_true, if_false]
      refine wpAny_bind (cls_data 4 d A _ _ _ bs hy.dp ry hy.oi 8 _ (by decide) ?_)
      simp only [Bool.false_eq_true, if_false]
      exact wpAny_pure nxt
  · rintro ⟨r1, r2⟩ s' ⟨hr, rfl, _⟩
    simp only at hr
    subst hr
    exact wpAny_pure h
end
end L2

namespace L2
open PySem PySem.Spec PyProof.Rows PySem.NumText
mutual
theorem lay_onlyI : ∀ (d : PyData), onlyI d = true → PyData.canLay0 d = true
  | .int _, _ => rfl
  | .tuple xs, h => lay_onlyIs xs h
  | .none, h => by cases h
  | .bool _, h => by cases h
  | .str _, h => by cases h
  | .list _, h => by cases h
  | .dict _, h => by cases h
theorem lay_onlyIs : ∀ (ds : List PyData), onlyIs ds = true → PyData.canLayAll0 ds = true
  | [], _ => rfl
  | d :: ds, h => by
    rw [onlyIs, Bool.and_eq_true] at h
    rw [PyData.canLayAll0, lay_onlyI d h.1, lay_onlyIs ds h.2]
    rfl
end
theorem start_ok (t : ST) (h : Int) : (t.probeStart h).more ≤ 9 ∧ (t.probeStart h).perturb < 2 ^ 64 ∧ (t.probeStart h).dummy = none := by
  refine ⟨run_len _ _, ?_, rfl⟩
  show SetTable.bits h < 2 ^ 64
  unfold SetTable.bits
  have := Int.emod_nonneg h (show (2 ^ 64 : Int) ≠ 0 by decide)
  have := Int.emod_lt_of_pos h (show (0 : Int) < 2 ^ 64 by decide)
  omega
section
variable {prog : Program} {w : World} {A : Around} {E : Value → Shared → Prop} {s : Shared}
end
end L2

namespace L2
open PySem PySem.Spec PyProof.Rows PySem.NumText
theorem ins_list {α : Type} (xs : Array α) (p : Nat) (x : α) : (SetTable.insertAt xs p x).toList = xs.toList.take p ++ x :: xs.toList.drop p := by
  unfold SetTable.insertAt
  simp [Array.toList_append, Array.toList_push, Array.toList_extract]
  rw [List.take_of_length_le (by rw [List.length_drop, Array.length_toList]; exact Nat.le_refl _)]
theorem ins_size {α : Type} (xs : Array α) (p : Nat) (x : α) : (SetTable.insertAt xs p x).size = xs.size + 1 := by
  rw [← Array.length_toList, ins_list, List.length_append, List.length_cons, List.length_take, List.length_drop, Array.length_toList]
  omega
theorem El.kept {h h' : Heap} {v : Value} {d : PyData} (e : El h v d) (k : ∀ b o, h.get? b = some o → h'.get? b = some o) : El h' v d :=
  ⟨let ⟨as, r⟩ := e.rd; ⟨as, rd_kept k d v as e.oi r⟩, e.oi, e.dp, e.rf⟩
section
variable {prog : Program} {w : World} {A : Around} {E : Value → Shared → Prop} {s : Shared}
end
end L2

namespace L2
open PySem PySem.Spec PyProof.Rows PySem.NumText
section
variable {prog : Program} {w : World} {A : Around} {R : Result → Shared → Prop} {I : Addr} {fp wr : List Addr} {G : Array GenState → Array GenState → Prop} {n : Nat} {P : Nat → Value → Prop} {St : Nat → Shared → Prop}
end
section
variable {prog : Program} {w : World} {A : Around} {E : Value → Shared → Prop} {s : Shared}
end
end L2

namespace L2
open PySem PySem.Spec PyProof.Rows PySem.NumText
section
variable {X : Cx}
end
end L2

namespace L2
open PySem PySem.Spec PyProof.Rows PySem.NumText
/-! ### hashes of data of ints -/
noncomputable def redH (i : Int) : Int :=
  if (decide (-(2 : Int) ^ 63 ≤ i) && decide (i < 2 ^ 63)) = true then (if (i == -1) = true then -2 else i)
  else if ((if i < 0 then -((i.natAbs : Int) % (2 ^ 61 - 1)) else (i.natAbs : Int) % (2 ^ 61 - 1)) == -1) = true then -2 else (if i < 0 then -((i.natAbs : Int) % (2 ^ 61 - 1)) else (i.natAbs : Int) % (2 ^ 61 - 1))
mutual
noncomputable def hashD : PyData → Int
  | .int i => hashInt i
  | .tuple xs => redH (Builtin.Tuple.tupleHashOf (hashDs xs))
  | _ => 0
noncomputable def hashDs : List PyData → List Int
  | [] => []
  | x :: xs => hashD x :: hashDs xs
end
theorem hashDs_append : ∀ (xs ys : List PyData), hashDs (xs ++ ys) = hashDs xs ++ hashDs ys
  | [], ys => rfl
  | x :: xs, ys => by rw [List.cons_append, hashDs, hashDs, hashDs_append xs ys, List.cons_append]
section
variable {prog : Program} {w : World}
theorem hash_fun : ∀ (n : Nat) (d : PyData) (A : Around) (E : Value → Shared → Prop) (s : Shared) (v : Value) (as : List Addr), d.depth ≤ n → Reads s.heap v d as → onlyI d = true → A.units + n < cLine → ∀ (Q : Int → Shared → Prop), (∀ tk, s.toks ≤ tk → Q (hashD d) { s with toks := tk }) → wpAny (model prog w) A (pyHash v) Q E s := by
  intro n
  induction n with
  | zero =>
    intro d A E s v as hd r ho hu Q h
    cases r with
    | int i t => exact (intKind prog w).pyHash (k := i) (intKind_is _ _ _ _) (h _ (Nat.le_succ _))
    | tuple => simp [PyData.depth] at hd
    | _ => simp [onlyI] at ho
  | succ n ih =>
    intro d A E s v as hd r ho hu Q h
    cases r with
    | int i t => exact (intKind prog w).pyHash (k := i) (intKind_is _ _ _ _) (h _ (Nat.le_succ _))
    | @tuple a o vs m xs as h1 h2 h3 h4 =>
      have hT : s.TypeIs (.ref a) "tuple" := ⟨o, h1, h2⟩
      have hdx : PyData.depthAll xs ≤ n := by have : PyData.depth (.tuple xs) = PyData.depthAll xs + 1 := rfl; omega
      have hox : onlyIs xs = true := ho
      unfold pyHash
      first | unfold pyHashByItsType | skip
      first | refine wpAny_bind (wpAny_cRoomFor_or (.inr (by omega)) ?_) | skip
      refine wpAny_bind (wpAny_specialOf hT F.slot_tuple_hash.lookup ?_)
      show wpAny _ _ (if (some (Value.builtin "tuple.__hash__") == some Value.none) = true then _ else _) Q E s
      rw [if_neg (by rw [beq_builtin_none]; exact Bool.false_ne_true)]
      refine wpAny_bind (wpAny_specialOf hT F.slot_tuple_hash.lookup ?_)
      show wpAny _ _ (callSpecialIfBoundUnlessNone? (.ref a) "__hash__" _ >>= _) Q E s
      refine wpAny_bind (wpAny_callSpecialIfBoundUnlessNone?_slot hT F.slot_tuple_hash (wpAny_call_entry F.slot_tuple_hash hT F.entry_tuple_hash ?_ (F.args_tuple_hash_1 _)))
      show wpAny _ _ (Builtin.Tuple.tupleItemsOf (.ref a) >>= _) _ _ s
      refine wpAny_bind (wpAny_tupleItemsOf h1 h3 ?_)
      refine wpAny_bind ?_
      rw [← Array.forIn_toList]
      refine wpAny_forIn_list _ (fun rest (b : Array Int) s' => ∃ tk gone ds bs, s.toks ≤ tk ∧ s' = { s with toks := tk } ∧ ReadsAll s.heap rest ds bs ∧ PyData.depthAll ds ≤ n ∧ onlyIs ds = true ∧ xs = gone ++ ds ∧ b.toList = hashDs gone) _ ?_ ?_ _ _ ⟨s.toks, [], xs, as, Nat.le_refl _, rfl, h4, hdx, hox, rfl, rfl⟩
      · rintro x rest b s' ⟨tk, gone, ds, bs, htk, rfl, hr, hd', ho', hx, hb⟩
        cases hr with
        | @cons _ _ d1 ds1 as1 bs1 r1 rr =>
          rw [PyData.depthAll] at hd'
          rw [onlyIs, Bool.and_eq_true] at ho'
          refine wpAny_bind (ih d1 _ _ { s with toks := tk } x as1 (by omega) r1 ho'.1 (by show A.units + 1 + n < cLine; omega) _ fun tk' htk' => ?_)
          have e1 : xs = (gone ++ [d1]) ++ ds1 := by rw [hx, List.append_assoc]; rfl
          have e2 : (b.push (hashD d1)).toList = hashDs (gone ++ [d1]) := by rw [Array.toList_push, hb, hashDs_append]; rfl
          first
            | exact wpAny_pure ⟨tk', _, ds1, bs1, Nat.le_trans htk htk', rfl, rr, by omega, ho'.2, e1, e2⟩
            | exact wpAny_bind (wpAny_pure (wpAny_pure ⟨tk', _, ds1, bs1, Nat.le_trans htk htk', rfl, rr, by omega, ho'.2, e1, e2⟩))
      · rintro b s' ⟨tk, gone, ds, bs, htk, rfl, hr, hd', ho', hx, hb⟩
        cases hr
        rw [List.append_nil] at hx
        subst hx
        show wpAny _ _ (retInt (Builtin.Tuple.tupleHashOf b.toList)) _ _ _
        refine wpAny_ret_mkInt ?_
        rw [hb]
        have hq : ∀ tk, s.toks ≤ tk → Q (redH (Builtin.Tuple.tupleHashOf (hashDs xs))) { s with toks := tk } := h
        generalize Builtin.Tuple.tupleHashOf (hashDs xs) = hv at hq ⊢
        show wpAny _ _ (if (decide (-(2 : Int) ^ 63 ≤ hv) && decide (hv < 2 ^ 63)) = true then _ else _) Q E _
        unfold redH at hq
        by_cases hr : (decide (-(2 : Int) ^ 63 ≤ hv) && decide (hv < 2 ^ 63)) = true
        · rw [if_pos hr] at hq ⊢
          exact wpAny_pure (hq _ (Nat.le_succ_of_le htk))
        · rw [if_neg hr] at hq ⊢
          exact wpAny_bind (wpAny_rule (wpAny_pure (hq _ (Nat.le_succ_of_le htk))))
    | _ => simp [onlyI] at ho
end
mutual
theorem eqv_eq : ∀ (d e : PyData), onlyI d = true → onlyI e = true → PyData.eqv d e = true → d = e
  | .int a, .int b, _, _, h => by
    have h : (a == b) = true := by simpa [PyData.eqv] using h
    rw [eq_of_beq h]
  | .tuple xs, .tuple ys, h1, h2, h => by
    have h : PyData.eqvAll xs ys = true := h
    rw [eqvAll_eq xs ys h1 h2 h]
  | .int a, .tuple ys, _, _, h => by simp [PyData.eqv] at h
  | .tuple xs, .int b, _, _, h => by simp [PyData.eqv] at h
theorem eqvAll_eq : ∀ (ds es : List PyData), onlyIs ds = true → onlyIs es = true → PyData.eqvAll ds es = true → ds = es
  | [], [], _, _, _ => rfl
  | d :: ds, e :: es, h1, h2, h => by
    rw [onlyIs, Bool.and_eq_true] at h1 h2
    have h : (PyData.eqv d e && PyData.eqvAll ds es) = true := h
    rw [Bool.and_eq_true] at h
    rw [eqv_eq d e h1.1 h2.1 h.1, eqvAll_eq ds es h1.2 h2.2 h.2]
  | [], e :: es, _, _, h => by simp [PyData.eqvAll] at h
  | d :: ds, [], _, _, h => by simp [PyData.eqvAll] at h
end
theorem eqv_self {d : PyData} (h : onlyI d = true) : PyData.eqv d d = true := by
  cases d with
  | int i => simp [PyData.eqv]
  | tuple xs => exact SeqAt.eqvAll_refl xs (lay_onlyIs xs h)
  | _ => simp [onlyI] at h
/-! ### where a table's places lie -/
noncomputable def Mono (xs : Array Nat) : Prop := ∀ (a b u v : Nat), a < b → xs[a]? = some u → xs[b]? = some v → u < v
theorem below_go {xs : Array Nat} {j : Nat} (hs : Mono xs) : ∀ (fuel lo hi : Nat), hi - lo ≤ fuel → lo ≤ hi → hi ≤ xs.size → (∀ i v, i < lo → xs[i]? = some v → v < j) → (∀ i v, hi ≤ i → xs[i]? = some v → j ≤ v) →
    SetTable.below.go xs j fuel lo hi ≤ xs.size ∧ (∀ i v, i < SetTable.below.go xs j fuel lo hi → xs[i]? = some v → v < j) ∧ (∀ i v, SetTable.below.go xs j fuel lo hi ≤ i → xs[i]? = some v → j ≤ v) := by
  intro fuel
  induction fuel with
  | zero =>
    intro lo hi h1 h2 h3 h4 h5
    have e : lo = hi := by omega
    subst e
    unfold SetTable.below.go
    exact ⟨h3, h4, h5⟩
  | succ fuel ih =>
    intro lo hi h1 h2 h3 h4 h5
    unfold SetTable.below.go
    by_cases hl : lo < hi
    · rw [if_pos hl]
      dsimp only
      have hm : (lo + hi) / 2 < xs.size := by omega
      have em : xs[(lo + hi) / 2]? = some (xs.getD ((lo + hi) / 2) j) := by rw [Array.getD_eq_getD_getElem?, Array.getElem?_eq_getElem hm]; rfl
      by_cases hx : xs.getD ((lo + hi) / 2) j < j
      · rw [if_pos hx]
        refine ih _ _ (by omega) (by omega) h3 (fun i v hi' e => ?_) h5
        rcases Nat.lt_or_ge i ((lo + hi) / 2) with hlt | hge
        · exact Nat.lt_trans (hs _ _ _ _ hlt e em) hx
        · have : i = (lo + hi) / 2 := by omega
          subst this
          rw [em] at e
          cases e
          exact hx
      · rw [if_neg hx]
        refine ih _ _ (by omega) (by omega) (by omega) h4 (fun i v hi' e => ?_)
        rcases Nat.lt_or_ge ((lo + hi) / 2) i with hlt | hge
        · exact Nat.le_of_lt (Nat.lt_of_le_of_lt (Nat.le_of_not_lt hx) (hs _ _ _ _ hlt em e))
        · have : i = (lo + hi) / 2 := by omega
          subst this
          rw [em] at e
          cases e
          exact Nat.le_of_not_lt hx
    · rw [if_neg hl]
      exact ⟨by omega, h4, fun i v hi' e => h5 i v (by omega) e⟩
theorem below_spec {xs : Array Nat} (hs : Mono xs) (j : Nat) : SetTable.below xs j ≤ xs.size ∧ (∀ i v, i < SetTable.below xs j → xs[i]? = some v → v < j) ∧ (∀ i v, SetTable.below xs j ≤ i → xs[i]? = some v → j ≤ v) := by
  unfold SetTable.below
  exact below_go hs _ _ _ (by omega) (Nat.zero_le _) (Nat.le_refl _) (fun i v h => by omega) (fun i v h e => by rw [Array.getElem?_eq_none h] at e; cases e)
theorem below_at {xs : Array Nat} (hs : Mono xs) {i j : Nat} (h : xs[i]? = some j) : SetTable.below xs j = i := by
  obtain ⟨h1, h2, h3⟩ := below_spec hs j
  rcases Nat.lt_trichotomy (SetTable.below xs j) i with hl | he | hg
  · have hb : SetTable.below xs j < xs.size := Nat.lt_trans hl (Array.getElem?_eq_some_iff.mp h).1
    have e := Array.getElem?_eq_getElem hb
    have a1 := h3 _ _ (Nat.le_refl _) e
    have a2 := hs _ _ _ _ hl e h
    omega
  · exact he
  · have := h2 _ _ hg h
    omega
theorem slot_at {t : ST} (hs : Mono t.place) {i j : Nat} (h : t.place[i]? = some j) : t.slot j = .live i := by
  unfold SetTable.slot
  dsimp only
  rw [below_at hs h, h, if_pos (beq_self_eq_true _)]
theorem ins_at {α : Type} {xs : Array α} {p : Nat} {x : α} (hp : p ≤ xs.size) (i : Nat) : (SetTable.insertAt xs p x)[i]? = if i < p then xs[i]? else if i = p then some x else xs[i - 1]? := by
  rw [← Array.getElem?_toList, ins_list]
  by_cases h1 : i < p
  · rw [if_pos h1, List.getElem?_append_left (by rw [List.length_take, Array.length_toList]; omega), List.getElem?_take, if_pos h1, Array.getElem?_toList]
  · rw [if_neg h1, List.getElem?_append_right (by rw [List.length_take, Array.length_toList]; omega), List.length_take, Array.length_toList, Nat.min_eq_left hp]
    by_cases h2 : i = p
    · subst h2
      rw [if_pos rfl, Nat.sub_self]
      rfl
    · rw [if_neg h2]
      obtain ⟨k, hk⟩ : ∃ k, i - p = k + 1 := ⟨i - p - 1, by omega⟩
      rw [hk, List.getElem?_cons_succ, List.getElem?_drop, Array.getElem?_toList]
      congr 1
      omega
theorem ins_mono {xs : Array Nat} (hs : Mono xs) {j : Nat} (hn : ∀ i : Nat, xs[i]? ≠ some j) : Mono (SetTable.insertAt xs (SetTable.below xs j) j) := by
  obtain ⟨h1, h2, h3⟩ := below_spec hs j
  have h3' : ∀ (i v : Nat), SetTable.below xs j ≤ i → xs[i]? = some v → j < v := fun i v hi e => by
    have := h3 i v hi e
    rcases Nat.lt_or_eq_of_le this with hl | he
    · exact hl
    · subst he; exact absurd e (hn i)
  intro a b u v hab ea eb
  rw [ins_at h1] at ea eb
  by_cases a1 : a < SetTable.below xs j
  · rw [if_pos a1] at ea
    have a2 := h2 _ _ a1 ea
    by_cases b1 : b < SetTable.below xs j
    · rw [if_pos b1] at eb
      exact hs _ _ _ _ hab ea eb
    · rw [if_neg b1] at eb
      by_cases b2 : b = SetTable.below xs j
      · rw [if_pos b2] at eb; cases eb; exact a2
      · rw [if_neg b2] at eb
        exact Nat.lt_trans a2 (h3' _ _ (by omega) eb)
  · rw [if_neg a1] at ea
    rw [if_neg (by omega : ¬ b < SetTable.below xs j)] at eb
    rw [if_neg (by omega : ¬ b = SetTable.below xs j)] at eb
    by_cases a2 : a = SetTable.below xs j
    · rw [if_pos a2] at ea; cases ea
      exact h3' _ _ (by omega) eb
    · rw [if_neg a2] at ea
      exact hs _ _ _ _ (by omega) ea eb
/-! ### each one is met on its own path -/
theorem adv_mask {t t' : ST} (h : t.mask = t'.mask) (p : SetTable.Probe) : t.advance p = t'.advance p := by
  unfold SetTable.advance
  rw [h]
theorem path_mask {t t' : ST} (h : t.mask = t'.mask) : ∀ (n : Nat) (p : SetTable.Probe), path t n p = path t' n p
  | 0, p => rfl
  | n + 1, p => by rw [path_succ, path_succ, path_mask h n p, adv_mask h]
theorem start_mask {t t' : ST} (h : t.mask = t'.mask) (x : Int) : t.probeStart x = t'.probeStart x := by
  unfold SetTable.probeStart
  rw [h]
structure Wp (t : ST) (es : Array (Int × Value)) : Prop where
  mono : Mono t.place
  rch : ∀ (i j : Nat) (e : Int × Value), t.place[i]? = some j → es[i]? = some e → ∃ n, (path t n (t.probeStart e.1)).j = j ∧ ∀ k, k < n → ∃ i' : Nat, t.place[i']? = some (path t k (t.probeStart e.1)).j
/-- one more, at the first free place of its path -/
theorem Wp.ins {t t1 : ST} {es : Array (Int × Value)} (h : Wp t es) (hz : t.place.size = es.size) {j N : Nat} {e : Int × Value} (he : (path t N (t.probeStart e.1)).j = j) (hf : ∀ i : Nat, t.place[i]? ≠ some j) (hl : ∀ k, k < N → ∃ i' : Nat, t.place[i']? = some (path t k (t.probeStart e.1)).j)
    (hm : t1.mask = t.mask) (hp : t1.place = SetTable.insertAt t.place (SetTable.below t.place j) j) : Wp t1 (SetTable.insertAt es (SetTable.below t.place j) e) := by
  obtain ⟨b1, b2, b3⟩ := below_spec h.mono j
  have grow : ∀ (i' v : Nat), t.place[i']? = some v → ∃ i'' : Nat, t1.place[i'']? = some v := fun i' v hv => by
    rw [hp]
    by_cases hi : i' < SetTable.below t.place j
    · exact ⟨i', by rw [ins_at b1, if_pos hi]; exact hv⟩
    · exact ⟨i' + 1, by rw [ins_at b1, if_neg (by omega), if_neg (by omega), Nat.add_sub_cancel]; exact hv⟩
  have mk : ∀ (e' : Int × Value) (j' : Nat), (∃ n, (path t n (t.probeStart e'.1)).j = j' ∧ ∀ k, k < n → ∃ i' : Nat, t.place[i']? = some (path t k (t.probeStart e'.1)).j) → ∃ n, (path t1 n (t1.probeStart e'.1)).j = j' ∧ ∀ k, k < n → ∃ i' : Nat, t1.place[i']? = some (path t1 k (t1.probeStart e'.1)).j := by
    rintro e' j' ⟨n, q1, q2⟩
    refine ⟨n, ?_, fun k hk => ?_⟩
    · rw [path_mask hm, start_mask hm]; exact q1
    · obtain ⟨i', hi'⟩ := q2 k hk
      rw [path_mask hm, start_mask hm]
      exact grow i' _ hi'
  refine ⟨by rw [hp]; exact ins_mono h.mono hf, fun i j' e' h1 h2 => mk e' j' ?_⟩
  rw [hp, ins_at b1] at h1
  rw [ins_at (by rw [← hz]; exact b1)] at h2
  by_cases i1 : i < SetTable.below t.place j
  · rw [if_pos i1] at h1 h2
    exact h.rch i j' e' h1 h2
  · rw [if_neg i1] at h1 h2
    by_cases i2 : i = SetTable.below t.place j
    · rw [if_pos i2] at h1 h2
      cases h1
      cases h2
      exact ⟨N, he, hl⟩
    · rw [if_neg i2] at h1 h2
      exact h.rch (i - 1) j' e' h1 h2
/-! ### a table laid anew -/
noncomputable abbrev tm (mask : Nat) : ST := { mask, place := #[], dummies := #[], finger := 0, led := false, moves := 0, plain := false }
theorem run_steps (t : ST) : ∀ (q : Nat) (p : SetTable.Probe), q ≤ p.more → path t q p = { p with j := p.j + q, more := p.more - q }
  | 0, p, _ => rfl
  | q + 1, p, h => by
    rw [path_succ, run_steps t q p (by omega)]
    unfold SetTable.advance
    dsimp only
    rw [if_pos (by omega)]
    congr 1
theorem free_path {mask : Nat} {owner : Array (Option Nat)} (hs : owner.size = mask + 1) : ∀ (fuel i perturb j : Nat) (p : SetTable.Probe), i < mask + 1 → p.j = i → p.more = SetTable.runEnd mask i - i → p.i = i → p.perturb = perturb → SetTable.layClean.free mask owner fuel i perturb = some j →
    ∃ N, (path (tm mask) N p).j = j ∧ ∀ k, k < N → own owner (path (tm mask) k p).j ≠ none := by
  have occ : ∀ j, j < mask + 1 → ¬ (owner.getD j (some 0)).isNone = true → own owner j ≠ none := fun j hj h e => by
    apply h
    rw [Array.getD_eq_getD_getElem?, Array.getElem?_eq_getElem (by omega)]
    have e : owner.getD j none = none := e
    rw [Array.getD_eq_getD_getElem?, Array.getElem?_eq_getElem (by omega)] at e
    have e : owner[j] = none := e
    rw [e]
    rfl
  have rng : ∀ i k, i < mask + 1 → k < SetTable.runEnd mask i + 1 - i → i + k < mask + 1 := fun i k hi hk => by
    unfold SetTable.runEnd at hk
    split at hk <;> omega
  intro fuel
  induction fuel with
  | zero =>
    intro i perturb j p hi h1 h2 h3 h4 hf
    unfold SetTable.layClean.free at hf
    cases hf
  | succ fuel ih =>
    intro i perturb j p hi h1 h2 h3 h4 hf
    unfold SetTable.layClean.free at hf
    cases hfd : (List.range (SetTable.runEnd mask i + 1 - i)).find? fun k => (owner.getD (i + k) (some 0)).isNone with
    | some q =>
      rw [hfd] at hf
      have hf : some (i + q) = some j := hf
      cases hf
      have hq : q < SetTable.runEnd mask i + 1 - i := List.mem_range.mp (List.mem_of_find?_eq_some hfd)
      refine ⟨q, ?_, fun k hk => ?_⟩
      · rw [run_steps _ q p (by rw [h2]; omega)]
        show p.j + q = i + q
        rw [h1]
      · rw [run_steps _ k p (by rw [h2]; omega)]
        show own owner (p.j + k) ≠ none
        rw [h1]
        refine occ _ (rng i k hi (by omega)) ?_
        have := (List.find?_range_eq_some.mp hfd).2.2 k hk
        intro hc
        rw [hc] at this
        exact absurd this (by decide)
    | none =>
      rw [hfd] at hf
      have hall := List.find?_eq_none.mp hfd
      have hrun : ∀ k, k ≤ p.more → (path (tm mask) k p).j = i + k ∧ own owner (i + k) ≠ none := fun k hk => by
        have hk' : k < SetTable.runEnd mask i + 1 - i := by
          rw [h2] at hk
          have : i ≤ SetTable.runEnd mask i := by unfold SetTable.runEnd; split <;> omega
          omega
        refine ⟨?_, occ _ (rng i k hi hk') (hall k (List.mem_range.mpr hk'))⟩
        rw [run_steps _ k p hk]
        show p.j + k = i + k
        rw [h1]
      have he := run_end (tm mask) p.more p rfl
      obtain ⟨N, n1, n2⟩ := ih _ _ j (path (tm mask) (p.more + 1) p) (Nat.mod_lt _ (Nat.succ_pos mask)) (by rw [he]; show (SetTable.leap mask p.i p.perturb).1 = _; rw [h3, h4]; rfl) (by rw [he]; show SetTable.runEnd mask (SetTable.leap mask p.i p.perturb).1 - (SetTable.leap mask p.i p.perturb).1 = _; rw [h3, h4]; rfl) (by rw [he]; show (SetTable.leap mask p.i p.perturb).1 = _; rw [h3, h4]; rfl) (by rw [he]; show (SetTable.leap mask p.i p.perturb).2 = _; rw [h3, h4]; rfl) hf
      refine ⟨p.more + 1 + N, by rw [path_add]; exact n1, fun k hk => ?_⟩
      rcases Nat.lt_or_ge k (p.more + 1) with hl | hg
      · obtain ⟨e1, e2⟩ := hrun k (by omega)
        rw [e1]
        exact e2
      · obtain ⟨d, rfl⟩ : ∃ d, k = p.more + 1 + d := ⟨k - (p.more + 1), by omega⟩
        rw [path_add]
        exact n2 d (by omega)
end L2

namespace L2
open PySem PySem.Spec PyProof.Rows PySem.NumText
/-! ### > of plain data -/
section
variable {X : Cx}
end
/-! ### the best of some values: comparisons that read the heap -/
noncomputable abbrev Ext (h h' : Heap) : Prop := ∀ b o, h.get? b = some o → h'.get? b = some o
section
variable {prog : Program} {w : World} {A : Around} {R : Result → Shared → Prop} {I : Addr} {fp wr : List Addr} {n : Nat} {P : Nat → Value → Prop} {St : Nat → Heap → Prop} {h0 : Heap} {kw : List (Str × Value)}

end
section
variable {X : Cx}
mutual
theorem reads_ext {h h' : Heap} (e : Ext h h') : ∀ {v : Value} {d : PyData} {as : List Addr}, Reads h v d as → Reads h' v d as
  | _, _, _, .none => .none
  | _, _, _, .bool b => .bool b
  | _, _, _, .int i t => .int i t
  | _, _, _, .str x t => .str x t
  | _, _, _, .list a b c d => .list (e _ _ a) b c (readsAll_ext e d)
  | _, _, _, .tuple a b c d => .tuple (e _ _ a) b c (readsAll_ext e d)
  | _, _, _, .dict a b c d f => .dict (e _ _ a) b c (readsAll_ext e d) (readsAll_ext e f)
theorem readsAll_ext {h h' : Heap} (e : Ext h h') : ∀ {vs : List Value} {ds : List PyData} {as : List Addr}, ReadsAll h vs ds as → ReadsAll h' vs ds as
  | _, _, _, .nil => .nil
  | _, _, _, .cons a b => .cons (reads_ext e a) (readsAll_ext e b)
end
end
end L2

namespace L2
open PySem PySem.Spec PyProof.Rows
/-! ### calls whose exception is caught here, the frame's slots as they were: methods, makers -/
section
variable {X : Cx} {CX : CXT} {k : Nat} {f C D : Addr} {fd : FuncData} {ps : List Str} {sp : Sp} {dvs : List V} {ds : List Value} {EX : XK} {x m : Str} {p pos apos : Pos} {e o : Expr} {es : List Expr} {ta : TE} {t : TA} {σ₀ : St}
theorem run_fnS {pins : List (Addr × Obj)} {σ : St} {H : Hp} {s : Shared} {Q : VK} {us : List Value} {vs : List V} (F : FnOk X.prog X.w X.K X.mg X.base CX k f fd ps sp) (room : Room k X.A) (hb : Binds X.K fd ps ds) (hd : Vals dvs ds) (hx : PassesS CX X σ EX)
    (I : Inv X pins σ H s) (r : Vals vs us) (h : sp (vs ++ dvs) H Q EX) : wpAny (model X.prog X.w) X.A (call (.ref f) us) (EP X pins σ Q) X.xe s := by
  have r2 : Vals (vs ++ dvs) (us ++ ds) := r.append hd
  have ln : (us ++ ds).length = ps.length := by rw [← r2.length]; exact F.len _ _ _ _ h
  refine wpAny_call (codeAny_mono (F.run X.A X.stack s H ⟨us, []⟩ (us ++ ds) (vs ++ dvs) Q EX room I.env0 (hb s us I.kIn ln) r2 h) fun r s' hq => ?_)
  cases r with
  | error e => exact hx pins H s e s' I hq
  | ok fl =>
    cases fl with
    | ret u => exact I.after hq
    | next => exact hq.elim
    | brk => exact hq.elim
    | cont => exact hq.elim
theorem pe_meth0S {pl : Sem Bool} (he : PE X o ta) (c : Cls X.K C) (hm : Meth X.K C m f) (F : FnOk X.prog X.w X.K X.mg X.base CX k f fd ps sp) (room : Room k X.A) (hb : Binds X.K fd ps ds) (hd : Vals dvs ds) (hx : PassesS CX X σ₀ EX)
    (ht : eval (.Call (.Attribute o m apos) [] [] pos) X.env = (do
      let ov ← eval o X.env
      standAt apos.atName
      let (f, first) ← holding [ov] (getMethod ov m pl)
      callWith pos f first (backTo pos (starEach [] X.env)) (backToKw pos (keywordEach [] X.env))) := by rfl) :
    PE X (.Call (.Attribute o m apos) [] [] pos) (fun σ H Q => σ = σ₀ ∧ tMeth C m sp dvs EX ta tNil σ H Q) := .mk <| by
  rintro pins s σ H Q I ⟨rfl, h⟩
  refine PySem.W.methodCall_KW (pl := pl) (thn (he pins s σ H _ I h) fun u s1 ⟨x, H1, I1, rx, a, dx, fs, ex, ea, l, q⟩ => ?_) ht
  subst ex
  obtain rfl : u = Value.ref a := rx
  exact getmeth_ok I1 ea c hm l (PySem.W.callWith_K0 (first := [.ref a]) I1.kIn hm.kp (run_fnS (us := [.ref a]) (vs := [.ref a]) F room hb hd hx I1 (.cons rfl .nil) q))
/-! ### try: any suite -/
/-- except D: without a name -/
noncomputable def tTryN (K : PySem.W.Frag) (D : Addr) (tb : St → XK → TS) (th : TS) : TS := fun Dn σ H => ∃ E1 : XK, tb σ E1 Dn σ H ∧
  ∀ (C : Addr) (H1 : Hp), E1 (.ref C) none H1 → XCls K C ∧ PySem.W.mroIn K C (.ref D) = some true ∧ th Dn σ H1
theorem ps_tryN {dn : Str} {body : List Stmt} {tb : St → XK → TS} {b₀ : Stmt} {suite : List Stmt} {th : TS} {p3 p4 pos : Pos} (xd : XCls X.K D) (hg : Gl X dn) (hm : X.mg dn = some (.ref D)) (tp : X.Top)
    (hb : ∀ σ₀ E' pn' E1, PassesS (CX1 X.prog X.w X.base) (X.tryC E' pn') σ₀ E1 → PSs (X.tryC E' pn') body (tb σ₀ E1))
    (hh : ∀ x, PSs (X.hand x) (b₀ :: suite) th) (hdb : (dn == ("__debug__" : Str)) = false := by decide) :
    PS X (.Try body [.ExceptHandler (some (.Name dn p3)) none (b₀ :: suite) p4] [] [] pos) (tTryN X.K D tb th) := .mk <| by
  intro pins s σ H Dn I h
  obtain ⟨E1, hte, hth⟩ := h
  show wpAny (model X.prog X.w) X.A (do standAt pos; tryStmt false (execs body X.env) [.ExceptHandler (some (.Name dn p3)) none (b₀ :: suite) p4] (execs [] X.env) [] X.env) (SP X pins Dn) X.xe s
  refine wpAny_bind (wpAny_standAt (wpAny_tryStmt_except ?_))
  generalize hE : (fun (e : Value) (s₁ : Shared) => wpAny (model X.prog X.w) X.A (noteFrame e X.env) (fun _ s₂ => wpAny (model X.prog X.w) X.A (setFlight e none) (fun _ s₃ =>
    wpAny (model X.prog X.w) X.A (handleBy e X.env [.ExceptHandler (some (.Name dn p3)) none (b₀ :: suite) p4]) (SP X pins Dn) X.xe s₃) X.xe s₂) X.xe s₁) = E'
  have hx : PassesS (CX1 X.prog X.w X.base) (X.tryC E' pins) σ E1 := by
    rintro pins' H1 s1 _ s' J1 ⟨x, C, H', rfl, os, bare, un, hok, F, q⟩
    have J : Inv (X.tryC E' pins) [] σ H' s' := (J1.call' (ch := []) os un hok bare fun b z => absurd z (by simp)).nopins
    have F' : Fly (X.tryC E' pins).new H' x C s'.heap := F.imp fun b hb => newOf J1 hb
    have tp' : (X.tryC E' pins).Top := ⟨tp.top⟩
    show E' (.ref x) s'
    rw [← hE]
    refine note_fly (X := X.tryC E' pins) J tp' F' fun h1 I1 F1 t1 => ?_
    refine flight_fly (X := X.tryC E' pins) (A := X.A) I1 F1 t1 fun h2 I2 F2 t2 => ?_
    obtain ⟨xc, hmro, hsuite⟩ := hth C H' q
    obtain ⟨oe, vs, a1, a2, a3, a4, _, _⟩ := id F2.ob
    refine wpAny_handleBy_cons (codeAny_handlers_test ?_) (by intro q; cases q)
    refine ld_glob (X := X.hand x) (I2.ofTry.toHand x) hg hm ?_ hdb
    refine match_own (I2.kIn) xd xc hmro a1 a2 ?_
    refine codeAny_handlers_suite ?_
    refine flight_fly (X := X.tryC E' pins) (A := X.A.mark (some (.ref x))) I2 F2 t2 fun h3 I3 F3 _ => ?_
    have I4 : Inv (X.hand x) pins σ H' { s' with heap := h3 } := I3.ofTry.toHand x
    refine wpAny_mono (hh x pins _ _ _ _ I4 hsuite) (fun fl s6 q6 => ?_) fun _ _ z => z.elim
    cases fl with
    | next => obtain ⟨σ6, H6, I6, r6⟩ := q6; exact ⟨σ6, H6, I6.ofHand I.ok.hd, r6⟩
    | brk => obtain ⟨σ6, H6, I6, r6⟩ := q6; exact ⟨σ6, H6, I6.ofHand I.ok.hd, r6⟩
    | cont => obtain ⟨σ6, H6, I6, r6⟩ := q6; exact ⟨σ6, H6, I6.ofHand I.ok.hd, r6⟩
    | ret u => obtain ⟨v, σ6, H6, I6, rv, r6⟩ := q6; exact ⟨v, σ6, H6, I6.ofHand I.ok.hd, rv, r6⟩
  refine thn (hb σ E' pins E1 hx [] s σ H Dn (I.toTry E') hte) fun fl s1 q1 => ?_
  cases fl with
  | next => obtain ⟨σ1, H1, I1, r1⟩ := q1; exact wpAny_execs_nil ⟨σ1, H1, I1.ofTry, r1⟩
  | brk => obtain ⟨σ1, H1, I1, r1⟩ := q1; exact ⟨σ1, H1, I1.ofTry, r1⟩
  | cont => obtain ⟨σ1, H1, I1, r1⟩ := q1; exact ⟨σ1, H1, I1.ofTry, r1⟩
  | ret u => obtain ⟨v, σ1, H1, I1, rv, r1⟩ := q1; exact ⟨v, σ1, H1, I1.ofTry, rv, r1⟩
end
end L2

namespace L2
open PySem PySem.Spec PyProof.Rows PySem.NumText
/-! ### a text cut at the first of a sign; how that meets split -/
section
variable {X : Cx}
/-! ### str.partition -/
/-! ### f-texts -/
/-! ### if a == n: return o.replace(y, z), y and z texts as written: their tokens are new and differ -/
end
end L2

namespace L2
open PySem PySem.Spec PyProof.Rows PySem.NumText
/-! ### texts whose signs are signs -/
theorem ok_iff {z : Str} : PyData.strOk z = true ↔ ∀ n ∈ z.cps.toList, n < 0x110000 := by
  unfold PyData.strOk
  rw [← Array.all_toList, List.all_eq_true]
  constructor
  · intro h n hn; exact of_decide_eq_true (h n hn)
  · intro h n hn; exact decide_eq_true (h n hn)
theorem ok_lit (s : String) : PyData.strOk (Str.ofString s) = true := by
  rw [ok_iff]
  intro n hn
  rw [signs_ofString] at hn
  obtain ⟨c, _, rfl⟩ := List.mem_map.mp hn
  have := c.valid
  unfold UInt32.isValidChar Nat.isValidChar at this
  show c.val.toNat < 1114112
  omega
end L2

namespace L2
open PySem PySem.Spec PyProof.Rows PySem.NumText
/-! ### strict orders in which any two are told apart -/
structure STO {α : Type} (lt : α → α → Bool) : Prop where
  irr : ∀ a, lt a a = false
  tr : ∀ a b c, lt a b = true → lt b c = true → lt a c = true
  tri : ∀ a b, a ≠ b → lt a b = false → lt b a = true
theorem STO.asym {α : Type} {lt : α → α → Bool} (h : STO lt) {a b : α} (x : lt a b = true) : lt b a = false := by
  cases e : lt b a with
  | false => rfl
  | true => have := h.tr a b a x e; rw [h.irr] at this; cases this
/-! ### versions -/
noncomputable abbrev Ver := Int × List Stp × Str
noncomputable def ver (v : Ver) : PyData := .tuple [.int v.1, plc v.2.1, .str v.2.2]
noncomputable def vdat : Option Ver → PyData
  | none => .none
  | some v => ver v
noncomputable def okV (v : Ver) : Prop := PySem.PyData.strOk v.2.2 = true
noncomputable def okO (o : Option Ver) : Prop := ∀ v, o = some v → okV v
theorem ver_mk {K : PySem.W.Frag} {H : Hp} {v : Ver} {t : Addr} {pv : V} (h : SqT K H t [.int v.1, pv, .str v.2.2]) (hp : DV K H (plc v.2.1) pv) : DV K H (ver v) (.ref t) := ⟨t, _, rfl, h, _, _, rfl, rfl, _, _, rfl, hp, _, _, rfl, rfl, rfl⟩
theorem noL_vdat (o : Option Ver) : noL (vdat o) = true := by
  cases o with
  | none => rfl
  | some v =>
    show (noL (.int v.1) && (noL (plc v.2.1) && (noL (.str v.2.2) && true))) = true
    rw [noL_plc]
    rfl
/-! ### the later of two -/
end L2

namespace L2
open PySem PySem.Spec PyProof.Rows PySem.NumText PySem.W
/-! ### sorting fewer than 64 that are unlike: what the asking tree comes to -/
section
variable {n : Nat} {s : Shared} {cmp : Nat → Nat → (Bool → Shared → Prop) → Shared → Prop} {lt : Nat → Nat → Bool}
/-- the asks are answered by lt -/
noncomputable def Asks (n : Nat) (s : Shared) (cmp : Nat → Nat → (Bool → Shared → Prop) → Shared → Prop) (lt : Nat → Nat → Bool) : Prop := ∀ i j C, i < n → j < n → C (lt i j) s → cmp i j C s
structure Ord (n : Nat) (lt : Nat → Nat → Bool) : Prop where
  tr : ∀ a b c, a < n → b < n → c < n → lt a b = true → lt b c = true → lt a c = true
  tri : ∀ a b, a < n → b < n → a ≠ b → lt a b = false → lt b a = true
  asy : ∀ a b, a < n → b < n → lt a b = true → lt b a = false
structure Pm (n : Nat) (p : Array Nat) : Prop where
  pm : p.toList.Perm (List.range n)
noncomputable abbrev at_ (p : Array Nat) (k : Nat) : Nat := p.getD k 0
theorem Pm.size {p : Array Nat} (h : Pm n p) : p.size = n := by have := h.pm.length_eq; simpa using this
theorem at_eq {p : Array Nat} {k : Nat} (h : k < p.size) : at_ p k = p[k] := by simp [at_, Array.getD, h]
theorem Pm.inb {p : Array Nat} (h : Pm n p) {k : Nat} (hk : k < n) : at_ p k < n := by
  have hs := h.size
  rw [at_eq (by omega)]
  have : p[k]'(by omega) ∈ p.toList := by simp
  have := h.pm.mem_iff.mp this
  simpa using this
theorem Pm.inj {p : Array Nat} (h : Pm n p) {i j : Nat} (hi : i < n) (hj : j < n) (e : at_ p i = at_ p j) : i = j := by
  have hs := h.size
  rw [at_eq (by omega), at_eq (by omega)] at e
  have nd : p.toList.Nodup := h.pm.nodup_iff.mpr List.nodup_range
  have pw := List.pairwise_iff_getElem.mp nd
  rcases Nat.lt_trichotomy i j with z | z | z
  · exact absurd e (pw i j (by simp; omega) (by simp; omega) z)
  · exact z
  · exact absurd e.symm (pw j i (by simp; omega) (by simp; omega) z)
noncomputable def Up (lt : Nat → Nat → Bool) (p : Array Nat) (m : Nat) : Prop := ∀ i j, i < j → j < m → lt (at_ p i) (at_ p j) = true
theorem pm_of_perm {p q : Array Nat} (h : Pm n p) (e : q.Perm p) : Pm n q := ⟨(Array.perm_iff_toList_perm.mp e).trans h.pm⟩
theorem bub_at {p : Array Nat} (h : Pm n p) {k l : Nat} (hk : k < n) (hl : l ≤ k) {i : Nat} (hi : i < n) : at_ (bubble p k (k - l)) i = if i < l then at_ p i else if i = l then at_ p k else if i ≤ k then at_ p (i - 1) else at_ p i := by
  have hs := h.size
  have := getElem?_bubble (xs := p) (src := k) (by omega) (k - l) (by omega) i
  unfold at_
  simp only [Array.getD_eq_getD_getElem?]
  rw [this]
  rw [show k - (k - l) = l by omega]
  by_cases e1 : i < l
  · rw [if_pos e1, if_neg (by omega), if_neg (by omega)]
  · rw [if_neg e1]
    by_cases e2 : i = l
    · rw [if_pos e2, if_pos e2]
    · rw [if_neg e2, if_neg e2]
      by_cases e3 : i ≤ k
      · rw [if_pos e3, if_pos ⟨by omega, e3⟩]
      · rw [if_neg e3, if_neg (by omega)]
theorem range_pm : Pm n (List.range n).toArray := ⟨by simp⟩
end
end L2

namespace L2
open PySem PySem.Spec PyProof.Rows PySem.NumText PySem.W
/-! ### sorting any number of things that are unlike: runs and their merging -/
noncomputable def gal' : Bool → Keyed → Array Keyed → Nat → Nat → Nat → StateT SortSt Sem (Option Nat) := sortPriv% PySem.Builtin.gallop
theorem gal_eq (L : Bool) (ky : Keyed) (ar : Array Keyed) (b m h : Nat) : gal' L ky ar b m h = (do
  let ov (i : Nat) : StateT SortSt Sem (Option Bool) := do
    let x ← elem' ar (b + i)
    if L then lt' x ky else return (← lt' ky x).map (!·)
  let mut u := 0
  let mut v := 1
  let mut lo := 0
  let mut hi := 0
  let some r ← ov h | return none
  if r then
    let top := m - h
    for _ in [0:m] do
      if v ≥ top then break
      let some c ← ov (h + v) | return none
      if !c then break
      u := v
      v := 2 * v + 1
    lo := h + u + 1
    hi := h + min v top
  else
    let top := h + 1
    for _ in [0:m] do
      if v ≥ top then break
      let some c ← ov (h - v) | return none
      if c then break
      u := v
      v := 2 * v + 1
    lo := h + 1 - min v top
    hi := h - u
  for _ in [0:m] do
    if lo ≥ hi then break
    let k := lo + (hi - lo) / 2
    let some c ← ov k | return none
    if c then lo := k + 1 else hi := k
  return some hi) := rfl
section
variable {M : Model} {A : Around} {E : Value → Shared → Prop} {σ : Type}
theorem kasC_mono {α : Type} {m : StateT σ Sem α} {Q Q' : α → σ → Shared → Prop} {st : σ} {s : Shared} (h : kasC M A E m Q st s) (hq : ∀ a st' s', Q a st' s' → Q' a st' s') : kasC M A E m Q' st s :=
  wpAny_mono h (fun r s' h' => hq r.1 r.2 s' h') fun _ _ e => e
noncomputable abbrev StepP {β : Type} (I D : β → σ → Prop) (r : ForInStep β) (st : σ) : Prop := match r with | .done b => D b st | .yield b => I b st
theorem kasC_loop {β : Type} {s : Shared} {n : Nat} {b : β} {f : Nat → β → StateT σ Sem (ForInStep β)} {Q : β → σ → Shared → Prop} {st : σ} (I : Nat → β → σ → Prop) (D : β → σ → Prop) (h0 : I 0 b st)
    (step : ∀ x k b st, k < n → I k b st → kasC M A E (f x b) (fun r st' s' => s' = s ∧ StepP (I (k + 1)) D r st') st s)
    (fin : ∀ b st, I n b st ∨ D b st → Q b st s) : kasC M A E (forIn [0:n] b f) Q st s := by
  refine kasC_range ?_
  have go : ∀ (g k : Nat) (l : List Nat) (b : β) (st : σ), l.length = g → k + g = n → I k b st → kasC M A E (forIn l b f) Q st s := by
    intro g
    induction g with
    | zero =>
      intro k l b st hl hk h
      cases l with
      | nil =>
        obtain rfl : k = n := by omega
        exact kasC_nil (fin _ _ (.inl h))
      | cons _ _ => simp at hl
    | succ g ih =>
      intro k l b st hl hk h
      cases l with
      | nil => simp at hl
      | cons x l =>
        refine kasC_cons (kasC_mono (step x k b st (by omega) h) fun r st' s' hr => ?_)
        obtain ⟨rfl, hr⟩ := hr
        cases r with
        | done b' => exact fin _ _ (.inr hr)
        | yield b' => exact ih (k + 1) l b' st' (by simpa using hl) (by omega) hr
  exact go (n - 0) 0 _ b st (List.length_range' ..) (by omega) h0
end
section
variable {prog : Program} {w : World} {A : Around} {E : Value → Shared → Prop} {κ : SortKind} {it : Array Keyed} {n : Nat} {lt : Nat → Nat → Bool} {s : Shared}
theorem lt_rule {i j : Nat} {st : SortSt} {Q : Option Bool → SortSt → Shared → Prop} (hk : kindOf st = κ) (hc : Asks n s (kas_cmp prog w A κ it) lt) (hi : i < n) (hj : j < n) (h : Q (some (lt i j)) st s) : kasC (model prog w) A E (lt' (kas_item it i) (kas_item it j)) Q st s := by
  rw [lt'_eq]
  refine kasC_bind (kasC_get ?_)
  rw [hk]
  refine kasC_bind (kasC_lift (wpAny_attempt (wpAny_mono (hc i j (fun b s' => Q (some b) st s') hi hj h) (fun c s' hc => ?_) fun _ _ hF => hF.elim)))
  exact kasC_pure hc
theorem el_rule {q : Array Nat} {i : Nat} {st : SortSt} {Q : Keyed → SortSt → Shared → Prop} (hi : i < q.size) (h : Q (kas_item it (at_ q i)) st s) : kasC (model prog w) A E (elem' (q.map (kas_item it)) i) Q st s := by
  rw [elem'_eq]
  have e : (q.map (kas_item it))[i]? = some (kas_item it (at_ q i)) := by
    rw [Array.getElem?_map, Array.getElem?_eq_getElem hi, at_eq hi]
    rfl
  rw [e]
  exact kasC_pure h
/-- what gallop asks of the i-th behind base -/
noncomputable def ovB (lt : Nat → Nat → Bool) (L : Bool) (q : Array Nat) (b ky i : Nat) : Bool := if L then lt (at_ q (b + i)) ky else !lt ky (at_ q (b + i))
theorem gal_rule {L : Bool} {ky : Nat} {q : Array Nat} {b m h : Nat} {st : SortSt} {Q : Option Nat → SortSt → Shared → Prop} (hk : kindOf st = κ) (hc : Asks n s (kas_cmp prog w A κ it) lt) (hky : ky < n) (hq : ∀ i, i < q.size → at_ q i < n)
    (hm : b + m ≤ q.size) (hh : h < m) (mono : ∀ i j, i ≤ j → j < m → ovB lt L q b ky j = true → ovB lt L q b ky i = true)
    (r : ∀ k, k ≤ m → (∀ i, i < k → ovB lt L q b ky i = true) → (∀ i, k ≤ i → i < m → ovB lt L q b ky i = false) → Q (some k) st s) : kasC (model prog w) A E (gal' L (kas_item it ky) (q.map (kas_item it)) b m h) Q st s := by
  rw [gal_eq]
  have ov : ∀ (i : Nat) (R : Option Bool → SortSt → Shared → Prop), i < m → R (some (ovB lt L q b ky i)) st s → kasC (model prog w) A E (do
      let x ← elem' (q.map (kas_item it)) (b + i)
      if L then lt' x (kas_item it ky) else return (← lt' (kas_item it ky) x).map (!·)) R st s := by
    intro i R hi hR
    refine kasC_bind (el_rule (by omega) ?_)
    have hb := hq (b + i) (by omega)
    cases L with
    | true => exact lt_rule hk hc hb hky hR
    | false => exact kasC_bind (lt_rule hk hc hky hb (kasC_pure hR))
  dsimp only
  refine kasC_bind (ov h _ hh ?_)
  dsimp only
  generalize hB : ovB lt L q b ky = B at mono r ov ⊢
  have last : ∀ lo hi (f : Nat → Option (Option Nat) × Nat × Nat → StateT SortSt Sem (ForInStep (Option (Option Nat) × Nat × Nat))), lo ≤ hi → hi ≤ m → (∀ i, i < lo → B i = true) → (∀ i, hi ≤ i → i < m → B i = false) →
      (∀ x lo hi R, lo ≥ hi → R (.done (none, lo, hi)) st s → kasC (model prog w) A E (f x (none, lo, hi)) R st s) →
      (∀ x lo hi R, ¬ lo ≥ hi → (∀ z, (B (lo + (hi - lo) / 2) = true → z = (none, lo + (hi - lo) / 2 + 1, hi)) → (B (lo + (hi - lo) / 2) = false → z = (none, lo, lo + (hi - lo) / 2)) → R (.yield z) st s) → lo + (hi - lo) / 2 < m → kasC (model prog w) A E (f x (none, lo, hi)) R st s) →
      kasC (model prog w) A E (forIn [:m] (none, lo, hi) f) (fun t st' s' => st' = st ∧ s' = s ∧ ∃ hi, t = (none, hi, hi) ∧ Q (some hi) st s) st s := by
    intro lo hi f h1 h2 h3 h4 f1 f2
    refine kasC_loop (I := fun k t st' => st' = st ∧ ∃ lo hi, t = (none, lo, hi) ∧ lo ≤ hi ∧ hi ≤ m ∧ hi - lo + k ≤ m ∧ (∀ i, i < lo → B i = true) ∧ ∀ i, hi ≤ i → i < m → B i = false)
      (D := fun t st' => st' = st ∧ ∃ hi, t = (none, hi, hi) ∧ hi ≤ m ∧ (∀ i, i < hi → B i = true) ∧ ∀ i, hi ≤ i → i < m → B i = false) ⟨rfl, lo, hi, rfl, h1, h2, by omega, h3, h4⟩ ?_ ?_
    · rintro x k _ _ hk ⟨rfl, lo, hi, rfl, a1, a2, a3, a4, a5⟩
      by_cases e : lo ≥ hi
      · obtain rfl : lo = hi := by omega
        exact f1 x lo lo _ e ⟨rfl, rfl, lo, rfl, a2, a4, a5⟩
      · have hmid : lo + (hi - lo) / 2 < hi := by omega
        refine f2 x lo hi _ e (fun z z1 z2 => ?_) (by omega)
        generalize hmm : lo + (hi - lo) / 2 = mid at hmid z1 z2
        cases eb : B mid with
        | true => exact ⟨rfl, rfl, mid + 1, hi, z1 eb, by omega, a2, by omega, fun i hi' => mono i mid (by omega) (by omega) eb, a5⟩
        | false =>
          refine ⟨rfl, rfl, lo, mid, z2 eb, by omega, by omega, by omega, a4, fun i i1 i2 => ?_⟩
          cases ei : B i with
          | false => rfl
          | true => rw [mono mid i i1 i2 ei] at eb; cases eb
    · rintro _ _ (⟨rfl, lo, hi, rfl, a1, a2, a3, a4, a5⟩ | ⟨rfl, hi, rfl, a2, a4, a5⟩)
      · obtain rfl : lo = hi := by omega
        exact ⟨rfl, rfl, lo, rfl, r lo a2 a4 a5⟩
      · exact ⟨rfl, rfl, hi, rfl, r hi a2 a4 a5⟩
  cases eh : B h with
  | true =>
    rw [if_pos rfl]
    refine kasC_bind (kasC_loop (I := fun k t st' => st' = st ∧ ∃ u v, t = (none, u, v) ∧ u < v ∧ k < v ∧ h + u < m ∧ B (h + u) = true)
      (D := fun t st' => st' = st ∧ ∃ u v, t = (none, u, v) ∧ u < v ∧ h + u < m ∧ B (h + u) = true ∧ (v < m - h → B (h + v) = false)) ⟨rfl, 0, 1, rfl, by omega, by omega, by omega, eh⟩ ?_ ?_)
    · rintro x k _ _ hk ⟨rfl, u, v, rfl, a1, a2, a3, a4⟩
      dsimp only
      by_cases e : v ≥ m - h
      · rw [if_pos e]
        exact kasC_pure ⟨rfl, rfl, u, v, rfl, a1, a3, a4, fun z => by omega⟩
      · rw [if_neg e]
        refine kasC_bind (ov (h + v) _ (by omega) ?_)
        dsimp only
        cases eb : B (h + v) with
        | true =>
          rw [if_neg (by decide)]
          exact kasC_pure ⟨rfl, rfl, v, 2 * v + 1, rfl, by omega, by omega, by omega, eb⟩
        | false =>
          rw [if_pos (by decide)]
          exact kasC_pure ⟨rfl, rfl, u, v, rfl, a1, a3, a4, fun _ => eb⟩
    · intro t st' ht
      obtain ⟨rfl, u, v, rfl, a1, a3, a4, a5⟩ : st' = st ∧ ∃ u v, t = (none, u, v) ∧ u < v ∧ h + u < m ∧ B (h + u) = true ∧ (v < m - h → B (h + v) = false) := by
        rcases ht with ⟨rfl, u, v, rfl, a1, a2, a3, a4⟩ | ⟨rfl, u, v, rfl, a⟩
        · exact ⟨rfl, u, v, rfl, a1, a3, a4, fun z => by omega⟩
        · exact ⟨rfl, u, v, rfl, a⟩
      dsimp only
      refine kasC_bind (kasC_mono (last (h + u + 1) (h + min v (m - h)) _ (by omega) (by omega) (fun i hi => mono i (h + u) (by omega) a3 a4) (fun i i1 i2 => by
        have hv : v < m - h := by omega
        cases ei : B i with
        | false => rfl
        | true => rw [mono (h + v) i (by omega) i2 ei] at a5; cases a5 hv) (fun x lo hi R e hR => by
          show kasC _ _ _ (if lo ≥ hi then pure (ForInStep.done (none, lo, hi)) else _) R _ _
          rw [if_pos e]
          exact kasC_pure hR) (fun x lo hi R e hR hm => by
          show kasC _ _ _ (if lo ≥ hi then pure (ForInStep.done (none, lo, hi)) else _) R _ _
          rw [if_neg e]
          refine kasC_bind (ov _ _ hm ?_)
          dsimp only
          cases eb : B (lo + (hi - lo) / 2) with
          | true => exact kasC_pure (hR _ (fun _ => rfl) (fun z => by rw [eb] at z; cases z))
          | false => exact kasC_pure (hR _ (fun z => by rw [eb] at z; cases z) (fun _ => rfl)))) (by
        rintro t st' s' ⟨rfl, rfl, hi, rfl, hQ⟩
        exact kasC_pure hQ))
  | false =>
    rw [if_neg (by decide)]
    refine kasC_bind (kasC_loop (I := fun k t st' => st' = st ∧ ∃ u v, t = (none, u, v) ∧ u < v ∧ k < v ∧ u ≤ h ∧ B (h - u) = false)
      (D := fun t st' => st' = st ∧ ∃ u v, t = (none, u, v) ∧ u < v ∧ u ≤ h ∧ B (h - u) = false ∧ (v ≤ h → B (h - v) = true)) ⟨rfl, 0, 1, rfl, by omega, by omega, by omega, eh⟩ ?_ ?_)
    · rintro x k _ _ hk ⟨rfl, u, v, rfl, a1, a2, a3, a4⟩
      dsimp only
      by_cases e : v ≥ h + 1
      · rw [if_pos e]
        exact kasC_pure ⟨rfl, rfl, u, v, rfl, a1, a3, a4, fun z => by omega⟩
      · rw [if_neg e]
        refine kasC_bind (ov (h - v) _ (by omega) ?_)
        dsimp only
        cases eb : B (h - v) with
        | false =>
          rw [if_neg (by decide)]
          exact kasC_pure ⟨rfl, rfl, v, 2 * v + 1, rfl, by omega, by omega, by omega, eb⟩
        | true =>
          rw [if_pos rfl]
          exact kasC_pure ⟨rfl, rfl, u, v, rfl, a1, a3, a4, fun _ => eb⟩
    · intro t st' ht
      obtain ⟨rfl, u, v, rfl, a1, a3, a4, a5⟩ : st' = st ∧ ∃ u v, t = (none, u, v) ∧ u < v ∧ u ≤ h ∧ B (h - u) = false ∧ (v ≤ h → B (h - v) = true) := by
        rcases ht with ⟨rfl, u, v, rfl, a1, a2, a3, a4⟩ | ⟨rfl, u, v, rfl, a⟩
        · exact ⟨rfl, u, v, rfl, a1, a3, a4, fun z => by omega⟩
        · exact ⟨rfl, u, v, rfl, a⟩
      dsimp only
      refine kasC_bind (kasC_mono (last (h + 1 - min v (h + 1)) (h - u) _ (by omega) (by omega) (fun i hi => mono i (h - v) (by omega) (by omega) (a5 (by omega))) (fun i i1 i2 => by
        cases ei : B i with
        | false => rfl
        | true => rw [mono (h - u) i i1 i2 ei] at a4; cases a4) (fun x lo hi R e hR => by
          show kasC _ _ _ (if lo ≥ hi then pure (ForInStep.done (none, lo, hi)) else _) R _ _
          rw [if_pos e]
          exact kasC_pure hR) (fun x lo hi R e hR hm => by
          show kasC _ _ _ (if lo ≥ hi then pure (ForInStep.done (none, lo, hi)) else _) R _ _
          rw [if_neg e]
          refine kasC_bind (ov _ _ hm ?_)
          dsimp only
          cases eb : B (lo + (hi - lo) / 2) with
          | true => exact kasC_pure (hR _ (fun _ => rfl) (fun z => by rw [eb] at z; cases z))
          | false => exact kasC_pure (hR _ (fun z => by rw [eb] at z; cases z) (fun _ => rfl)))) (by
        rintro t st' s' ⟨rfl, rfl, hi, rfl, hQ⟩
        exact kasC_pure hQ))
end
end L2

namespace L2
open PySem PySem.Spec PyProof.Rows PySem.NumText PySem.W
theorem kasC_ite {M : Model} {A : Around} {E : Value → Shared → Prop} {σ α : Type} {c : Prop} [Decidable c] {x y : StateT σ Sem α} {Q : α → σ → Shared → Prop} {st : σ} {s : Shared} (h1 : c → kasC M A E x Q st s) (h2 : ¬ c → kasC M A E y Q st s) : kasC M A E (if c then x else y) Q st s := by
  by_cases h : c
  · rw [if_pos h]; exact h1 h
  · rw [if_neg h]; exact h2 h
noncomputable def smg' : Nat → StateT SortSt Sem Unit := sortPriv% PySem.Builtin.setMinGallop
noncomputable def mlo' : Array Keyed → Array Keyed → StateT SortSt Sem (Array Keyed) := sortPriv% PySem.Builtin.mergeLo
noncomputable abbrev SS (κ : SortKind) (it : Array Keyed) (p : Array Nat) (pend : Array (Nat × Nat × Nat)) (g : Nat) : SortSt := SortSt.mk' κ (p.map (kas_item it)) pend g none
theorem smg_eq (g : Nat) : smg' g = modify fun st => SortSt.mk' (kindOf st) (arrOf st) (pendingOf st) g (failedOf st) := rfl
theorem mlo_eq (a b : Array Keyed) : mlo' a b = (do
  rule "list.sort.merge-lo"
  let all := a.size + b.size
  let fa (o : Array Keyed) (i j : Nat) := o ++ a.extract i a.size ++ b.extract j b.size
  let fb (o : Array Keyed) (i j : Nat) := o ++ b.extract j b.size ++ a.extract i a.size
  let mut o : Array Keyed := #[← elem' b 0]
  let mut i := 0
  let mut j := 1
  if j == b.size then return fa o i j
  if i + 1 == a.size then return fb o i j
  let mut g := gallopOf (← get)
  for _ in [0:all] do
    let mut ca := 0
    let mut cb := 0
    for _ in [0:all] do
      let some c ← lt' (← elem' b j) (← elem' a i) | return fa o i j
      if c then
        o := o.push (← elem' b j); j := j + 1; cb := cb + 1; ca := 0
        if j == b.size then return fa o i j
        if cb ≥ g then break
      else
        o := o.push (← elem' a i); i := i + 1; ca := ca + 1; cb := 0
        if i + 1 == a.size then return fb o i j
        if ca ≥ g then break
    rule "list.sort.gallop"
    g := g + 1
    for _ in [0:all] do
      if g > 1 then g := g - 1
      smg' g
      let some k ← gal' false (← elem' b j) a i (a.size - i) 0 | return fa o i j
      ca := k
      if k > 0 then
        o := o ++ a.extract i (i + k); i := i + k
        if i + 1 == a.size then return fb o i j
        if i == a.size then return fa o i j
      o := o.push (← elem' b j); j := j + 1
      if j == b.size then return fa o i j
      let some k ← gal' true (← elem' a i) b j (b.size - j) 0 | return fa o i j
      cb := k
      if k > 0 then
        o := o ++ b.extract j (j + k); j := j + k
        if j == b.size then return fa o i j
      o := o.push (← elem' a i); i := i + 1
      if i + 1 == a.size then return fb o i j
      if ca < 7 && cb < 7 then break
    g := g + 1
    smg' g
  unsupported "internal:list.sort.merge-bound") := rfl
/-! what is merged so far, and what is left of both -/
structure Mg (lt : Nat → Nat → Bool) (a b o : List Nat) (i j : Nat) : Prop where
  pm : (o ++ (a.drop i ++ b.drop j)).Perm (a ++ b)
  so : o.Pairwise fun x y => lt x y = true
  ls : ∀ x ∈ o, ∀ y ∈ a.drop i ++ b.drop j, lt x y = true
section
variable {lt : Nat → Nat → Bool} {a b o : List Nat} {i j : Nat}
theorem Mg.sym (h : Mg lt a b o i j) : Mg lt b a o j i where
  pm := ((List.Perm.refl o).append List.perm_append_comm).trans (h.pm.trans List.perm_append_comm)
  so := h.so
  ls := fun x hx y hy => h.ls x hx y (List.perm_append_comm.mem_iff.mp hy)
theorem Mg.left (h : Mg lt a b o i j) (sa : a.Pairwise fun x y => lt x y = true) (k : Nat) (hc : ∀ x ∈ (a.drop i).take k, ∀ y ∈ b.drop j, lt x y = true) : Mg lt a b (o ++ (a.drop i).take k) (i + k) j := by
  have e : a.drop i = (a.drop i).take k ++ a.drop (i + k) := by rw [← List.drop_drop]; exact (List.take_append_drop k _).symm
  have sd : (a.drop i).Pairwise fun x y => lt x y = true := sa.sublist (List.drop_sublist _ _)
  rw [e] at sd
  obtain ⟨s1, s2, s3⟩ := List.pairwise_append.mp sd
  refine ⟨?_, List.pairwise_append.mpr ⟨h.so, s1, fun x hx y hy => h.ls x hx y (List.mem_append_left _ (List.mem_of_mem_take hy))⟩, fun x hx y hy => ?_⟩
  · have := h.pm
    rw [e, List.append_assoc] at this
    rw [List.append_assoc]
    exact this
  · rcases List.mem_append.mp hx with hx | hx
    · rcases List.mem_append.mp hy with hy | hy
      · exact h.ls x hx y (List.mem_append_left _ (by rw [e]; exact List.mem_append_right _ hy))
      · exact h.ls x hx y (List.mem_append_right _ hy)
    · rcases List.mem_append.mp hy with hy | hy
      · exact s3 x hx y hy
      · exact hc x hx y hy
theorem Mg.right (h : Mg lt a b o i j) (sb : b.Pairwise fun x y => lt x y = true) (k : Nat) (hc : ∀ x ∈ (b.drop j).take k, ∀ y ∈ a.drop i, lt x y = true) : Mg lt a b (o ++ (b.drop j).take k) i (j + k) := (h.sym.left sb k hc).sym
/-- what comes of two lists in order, merged -/
noncomputable def Merged (lt : Nat → Nat → Bool) (a b o : List Nat) : Prop := o.Perm (a ++ b) ∧ o.Pairwise fun x y => lt x y = true
theorem Mg.endL (h : Mg lt a b o i j) (sa : a.Pairwise fun x y => lt x y = true) (hj : b.length ≤ j) : Merged lt a b (o ++ a.drop i) := by
  have e : b.drop j = [] := List.drop_eq_nil_of_le hj
  have := h.left sa (a.drop i).length (fun x _ y hy => by rw [e] at hy; cases hy)
  rw [List.take_length] at this
  have pm := this.pm
  rw [e, List.append_nil, List.drop_eq_nil_of_le (show a.length ≤ i + (a.drop i).length by rw [List.length_drop]; omega), List.append_nil] at pm
  exact ⟨pm, this.so⟩
theorem Mg.endR (h : Mg lt a b o i j) (sa : a.Pairwise fun x y => lt x y = true) (sb : b.Pairwise fun x y => lt x y = true) (hc : ∀ x ∈ b.drop j, ∀ y ∈ a.drop i, lt x y = true) : Merged lt a b (o ++ b.drop j ++ a.drop i) := by
  have := h.right sb (b.drop j).length (by rw [List.take_length]; exact hc)
  rw [List.take_length] at this
  exact this.endL sa (by rw [List.length_drop]; omega)
end
section
variable {n : Nat} {lt : Nat → Nat → Bool} {a b : Array Nat}
theorem mem_dr {x i : Nat} (h : x ∈ a.toList.drop i) : ∃ t, i ≤ t ∧ t < a.size ∧ x = at_ a t := by
  obtain ⟨k, hk, e⟩ := List.getElem_of_mem h
  rw [List.length_drop, Array.length_toList] at hk
  refine ⟨i + k, by omega, by omega, ?_⟩
  rw [at_eq (by omega), ← e, List.getElem_drop, Array.getElem_toList]
theorem mem_tk {x i k : Nat} (h : x ∈ (a.toList.drop i).take k) : ∃ t, i ≤ t ∧ t < i + k ∧ t < a.size ∧ x = at_ a t := by
  obtain ⟨m, hm, e⟩ := List.getElem_of_mem h
  rw [List.length_take, List.length_drop, Array.length_toList] at hm
  refine ⟨i + m, by omega, by omega, by omega, ?_⟩
  rw [at_eq (by omega), ← e, List.getElem_take, List.getElem_drop, Array.getElem_toList]
theorem up_pw (h : Up lt a a.size) : a.toList.Pairwise fun x y => lt x y = true := List.pairwise_iff_getElem.mpr fun i j hi hj hij => by
  rw [Array.length_toList] at hi hj
  have := h i j hij hj
  rw [at_eq (by omega), at_eq hj] at this
  rw [Array.getElem_toList, Array.getElem_toList]
  exact this
theorem pw_up (h : a.toList.Pairwise fun x y => lt x y = true) : Up lt a a.size := fun i j hij hj => by
  have := List.pairwise_iff_getElem.mp h i j (by rw [Array.length_toList]; omega) (by rw [Array.length_toList]; omega) hij
  rw [Array.getElem_toList, Array.getElem_toList] at this
  rw [at_eq (by omega), at_eq hj]
  exact this
structure Two (n : Nat) (lt : Nat → Nat → Bool) (a b : Array Nat) : Prop where
  ord : Ord n lt
  ia : ∀ i, i < a.size → at_ a i < n
  ib : ∀ i, i < b.size → at_ b i < n
  sa : Up lt a a.size
  sb : Up lt b b.size
  un : ∀ i j, i < a.size → j < b.size → at_ a i ≠ at_ b j
theorem Two.sym (T : Two n lt a b) : Two n lt b a := ⟨T.ord, T.ib, T.ia, T.sb, T.sa, fun i j hi hj e => T.un j i hj hi e.symm⟩
theorem Two.ba (T : Two n lt a b) {i j : Nat} (hi : i < a.size) (hj : j < b.size) (h : lt (at_ b j) (at_ a i) = false) : lt (at_ a i) (at_ b j) = true := T.ord.tri _ _ (T.ib j hj) (T.ia i hi) (fun e => T.un i j hi hj e.symm) h
theorem Two.up (T : Two n lt a b) {i j t : Nat} (hj : j < b.size) (h : lt (at_ b j) (at_ a i) = true) (h1 : i ≤ t) (h2 : t < a.size) : lt (at_ b j) (at_ a t) = true := by
  by_cases e : i = t
  · rw [← e]; exact h
  · exact T.ord.tr _ _ _ (T.ib j hj) (T.ia i (by omega)) (T.ia t h2) h (T.sa i t (by omega) h2)
theorem Two.dn (T : Two n lt a b) {i j t : Nat} (hj : j < b.size) (hi : i < a.size) (h : lt (at_ a i) (at_ b j) = true) (h1 : t ≤ i) : lt (at_ a t) (at_ b j) = true := by
  by_cases e : t = i
  · rw [e]; exact h
  · exact T.ord.tr _ _ _ (T.ia t (by omega)) (T.ia i hi) (T.ib j hj) (T.sa t i (by omega) hi) h
/-- behind one of b that stands ahead of a's i-th all of a from i on stand -/
theorem Two.right (T : Two n lt a b) {o : List Nat} {i j k : Nat} (M : Mg lt a.toList b.toList o i j) (hk : j + k ≤ b.size) (h : ∀ t, j ≤ t → t < j + k → lt (at_ b t) (at_ a i) = true) : Mg lt a.toList b.toList (o ++ (b.toList.drop j).take k) i (j + k) := by
  refine M.right (up_pw T.sb) k fun x hx y hy => ?_
  obtain ⟨t, t1, t2, t3, rfl⟩ := mem_tk hx
  obtain ⟨u, u1, u2, rfl⟩ := mem_dr hy
  exact T.up t3 (h t t1 t2) u1 u2
theorem Two.left (T : Two n lt a b) {o : List Nat} {i j k : Nat} (M : Mg lt a.toList b.toList o i j) (hk : i + k ≤ a.size) (h : ∀ t, i ≤ t → t < i + k → lt (at_ a t) (at_ b j) = true) : Mg lt a.toList b.toList (o ++ (a.toList.drop i).take k) (i + k) j := (T.sym.right M.sym hk h).sym
theorem tk_one {i : Nat} (h : i < a.size) : (a.toList.drop i).take 1 = [at_ a i] := by
  rw [List.drop_eq_getElem_cons (by rw [Array.length_toList]; exact h), at_eq h, Array.getElem_toList]
  rfl
theorem ov_false (T : Two n lt a b) {i j k m : Nat} (hj : j < b.size) (hm : i + m ≤ a.size) : ∀ x y, x ≤ y → y < m → ovB lt false a i (at_ b j) y = true → ovB lt false a i (at_ b j) x = true := by
  intro x y h1 h2 h
  unfold ovB at h ⊢
  simp only [Bool.false_eq_true, if_false, Bool.not_eq_true'] at h ⊢
  cases e : lt (at_ b j) (at_ a (i + x)) with
  | false => rfl
  | true => rw [T.up hj e (show i + x ≤ i + y by omega) (by omega)] at h; cases h
theorem ov_true (T : Two n lt a b) {i j k m : Nat} (hi : i < a.size) (hm : j + m ≤ b.size) : ∀ x y, x ≤ y → y < m → ovB lt true b j (at_ a i) y = true → ovB lt true b j (at_ a i) x = true := by
  intro x y h1 h2 h
  unfold ovB at h ⊢
  simp only [if_true] at h ⊢
  exact T.sym.dn hi (by omega) h (by omega)
end
section
variable {it : Array Keyed} {lt : Nat → Nat → Bool} {n : Nat} {a b o : Array Nat} {i j : Nat}
noncomputable abbrev im (it : Array Keyed) (o : Array Nat) : Array Keyed := o.map (kas_item it)
theorem im_push (x : Nat) : (im it o).push (kas_item it x) = im it (o.push x) := by simp [im]
theorem im_ext (i k : Nat) : (im it a).extract i k = im it (a.extract i k) := by simp [im]
theorem im_app : im it a ++ im it b = im it (a ++ b) := by simp [im]
theorem ext_list (k : Nat) : (a.extract i (i + k)).toList = (a.toList.drop i).take k := by
  rw [Array.toList_extract, List.extract_eq_take_drop, Nat.add_sub_cancel_left]
theorem ext_all : (a.extract i a.size).toList = a.toList.drop i := by
  rw [Array.toList_extract, List.extract_eq_take_drop, List.take_of_length_le (by rw [List.length_drop, Array.length_toList]; omega)]
noncomputable def MgEnd (it : Array Keyed) (lt : Nat → Nat → Bool) (a b : Array Nat) (r : Array Keyed) : Prop := ∃ o : Array Nat, r = im it o ∧ Merged lt a.toList b.toList o.toList
theorem fa_end (T : Two n lt a b) (M : Mg lt a.toList b.toList o.toList i j) (hj : j = b.size) : MgEnd it lt a b (im it o ++ (im it a).extract i a.size ++ (im it b).extract j b.size) := by
  refine ⟨o ++ a.extract i a.size ++ b.extract j b.size, by rw [im_ext, im_ext, im_app, im_app], ?_⟩
  have := M.endL (up_pw T.sa) (by rw [Array.length_toList]; omega)
  rw [Array.toList_append, Array.toList_append, ext_all, ext_all, hj, List.drop_eq_nil_of_le (as := b.toList) (by rw [Array.length_toList]; exact Nat.le_refl _), List.append_nil]
  exact this
theorem fb_end (T : Two n lt a b) (M : Mg lt a.toList b.toList o.toList i j) (hi : i + 1 = a.size) (last : ∀ i, i < b.size → lt (at_ b i) (at_ a (a.size - 1)) = true) : MgEnd it lt a b (im it o ++ (im it b).extract j b.size ++ (im it a).extract i a.size) := by
  refine ⟨o ++ b.extract j b.size ++ a.extract i a.size, by rw [im_ext, im_ext, im_app, im_app], ?_⟩
  rw [Array.toList_append, Array.toList_append, ext_all, ext_all]
  refine M.endR (up_pw T.sa) (up_pw T.sb) fun x hx y hy => ?_
  obtain ⟨t, t1, t2, rfl⟩ := mem_dr hx
  obtain ⟨u, u1, u2, rfl⟩ := mem_dr hy
  obtain rfl : u = a.size - 1 := by omega
  exact last t t2
theorem Two.pushB (T : Two n lt a b) (M : Mg lt a.toList b.toList o.toList i j) (hj : j < b.size) (h : lt (at_ b j) (at_ a i) = true) : Mg lt a.toList b.toList (o.push (at_ b j)).toList i (j + 1) := by
  rw [Array.toList_push, ← tk_one hj]
  exact T.right M (by omega) fun t t1 t2 => by
    obtain rfl : t = j := by omega
    exact h
theorem Two.pushA (T : Two n lt a b) (M : Mg lt a.toList b.toList o.toList i j) (hi : i < a.size) (h : lt (at_ a i) (at_ b j) = true) : Mg lt a.toList b.toList (o.push (at_ a i)).toList (i + 1) j := by
  rw [Array.toList_push, ← tk_one hi]
  exact T.left M (by omega) fun t t1 t2 => by
    obtain rfl : t = i := by omega
    exact h
theorem Two.appB (T : Two n lt a b) (M : Mg lt a.toList b.toList o.toList i j) {k : Nat} (hk : j + k ≤ b.size) (h : ∀ t, t < k → ovB lt true b j (at_ a i) t = true) : Mg lt a.toList b.toList (o ++ b.extract j (j + k)).toList i (j + k) := by
  rw [Array.toList_append, ext_list]
  refine T.right M hk fun t t1 t2 => ?_
  have := h (t - j) (by omega)
  unfold ovB at this
  simp only [if_true] at this
  rw [show j + (t - j) = t by omega] at this
  exact this
theorem Two.appA (T : Two n lt a b) (M : Mg lt a.toList b.toList o.toList i j) {k : Nat} (hj : j < b.size) (hk : i + k ≤ a.size) (h : ∀ t, t < k → ovB lt false a i (at_ b j) t = true) : Mg lt a.toList b.toList (o ++ a.extract i (i + k)).toList (i + k) j := by
  rw [Array.toList_append, ext_list]
  refine T.left M hk fun t t1 t2 => ?_
  have := h (t - i) (by omega)
  unfold ovB at this
  simp only [Bool.false_eq_true, if_false, Bool.not_eq_true'] at this
  rw [show i + (t - i) = t by omega] at this
  exact T.ba (by omega) hj this
end
section
variable {prog : Program} {w : World} {A : Around} {E : Value → Shared → Prop} {κ : SortKind} {it : Array Keyed} {n : Nat} {lt : Nat → Nat → Bool} {s : Shared}
theorem mlo_rule {a b : Array Nat} {p : Array Nat} {pend : Array (Nat × Nat × Nat)} {g0 : Nat} {Q : Array Keyed → SortSt → Shared → Prop} (T : Two n lt a b) (hc : Asks n s (kas_cmp prog w A κ it) lt)
    (a1 : 0 < a.size) (b1 : 0 < b.size) (first : lt (at_ b 0) (at_ a 0) = true) (last : ∀ i, i < b.size → lt (at_ b i) (at_ a (a.size - 1)) = true)
    (r : ∀ o g, MgEnd it lt a b o → Q o (SS κ it p pend g) s) : kasC (model prog w) A E (mlo' (im it a) (im it b)) Q (SS κ it p pend g0) s := by
  rw [mlo_eq]
  refine kasC_bind (kasC_lift (wpAny_rule ?_))
  extract_lets -underBinder +onlyGivenNames -merge all fa fb
  have za : (im it a).size = a.size := Array.size_map
  have zb : (im it b).size = b.size := Array.size_map
  have hall : all = a.size + b.size := by show (im it a).size + (im it b).size = _; rw [za, zb]
  have Fa : ∀ o i j, Mg lt a.toList b.toList o.toList i j → j = b.size → MgEnd it lt a b (fa (im it o) i j) := fun o i j M h => by
    have := fa_end (it := it) T M h
    rw [← za, ← zb] at this
    exact this
  have Fb : ∀ o i j, Mg lt a.toList b.toList o.toList i j → i + 1 = a.size → MgEnd it lt a b (fb (im it o) i j) := fun o i j M h => by
    have := fb_end (it := it) T M h last
    rw [← za, ← zb] at this
    exact this
  clear_value fa fb all
  subst hall
  simp -zeta only [za, zb]
  refine kasC_bind (el_rule b1 ?_)
  have M0 : Mg lt a.toList b.toList (#[at_ b 0] : Array Nat).toList 0 1 := by
    have : Mg lt a.toList b.toList (#[] : Array Nat).toList 0 0 := ⟨List.Perm.refl _, List.Pairwise.nil, fun x hx => by cases hx⟩
    exact T.pushB this b1 first
  have e0 : #[kas_item it (at_ b 0)] = im it #[at_ b 0] := by simp [im]
  rw [e0]
  generalize (#[at_ b 0] : Array Nat) = o0 at M0 ⊢
  extract_lets -underBinder +onlyGivenNames -merge o1 i1 j1
  have ei : i1 = 0 := rfl
  have ej : j1 = 1 := rfl
  have eo : o1 = im it o0 := rfl
  clear_value o1 i1 j1
  subst ei ej eo
  by_cases h1 : (1 == b.size) = true
  · rw [if_pos h1]
    exact kasC_pure (r _ _ (Fa _ _ _ M0 (by simpa using h1)))
  rw [if_neg h1]
  by_cases h2 : (0 + 1 == a.size) = true
  · rw [if_pos h2]
    exact kasC_pure (r _ _ (Fb _ _ _ M0 (by simpa using h2)))
  rw [if_neg h2]
  have h1 : 1 ≠ b.size := by simpa using h1
  have h2 : 1 ≠ a.size := by simpa using h2
  refine kasC_bind (kasC_get ?_)
  refine kasC_bind (kasC_loop
    (I := fun k t st => ∃ o i j g g', t = (none, im it o, i, j, g) ∧ st = SS κ it p pend g' ∧ Mg lt a.toList b.toList o.toList i j ∧ i + 1 < a.size ∧ j < b.size ∧ k ≤ i + j)
    (D := fun t st => ∃ e t' g', t = (some e, t') ∧ st = SS κ it p pend g' ∧ MgEnd it lt a b e) ⟨o0, 0, 1, _, _, rfl, rfl, M0, by omega, by omega, by omega⟩ ?_ ?_)
  · rintro x k _ _ hk ⟨o, i, j, g, g', rfl, rfl, M, hi, hj, hp⟩
    extract_lets -underBinder +onlyGivenNames -merge s1 o1 s2 i1 s3 j1 g1 ca1 cb1
    have eo : o1 = im it o := rfl
    have ei : i1 = i := rfl
    have ej : j1 = j := rfl
    have eg : g1 = g := rfl
    clear_value o1 i1 j1 g1
    subst eo ei ej eg
    refine kasC_bind (kasC_loop
      (I := fun k t st => ∃ o i j ca cb, t = (none, im it o, i, j, ca, cb) ∧ st = SS κ it p pend g' ∧ Mg lt a.toList b.toList o.toList i j ∧ i + 1 < a.size ∧ j < b.size ∧ i1 + j1 + k ≤ i + j)
      (D := fun t st => st = SS κ it p pend g' ∧ ((∃ e t', t = (some e, t') ∧ MgEnd it lt a b e) ∨ ∃ o i j ca cb, t = (none, im it o, i, j, ca, cb) ∧ Mg lt a.toList b.toList o.toList i j ∧ i + 1 < a.size ∧ j < b.size ∧ i1 + j1 + 1 ≤ i + j)) ⟨o, i1, j1, _, _, rfl, rfl, M, hi, hj, by omega⟩ ?_ ?_)
    · rintro x k2 _ _ hk2 ⟨o, i, j, ca, cb, rfl, rfl, M, hi, hj, hp2⟩
      dsimp only
      refine kasC_bind (el_rule hj (kasC_bind (el_rule (show i < a.size by omega) (kasC_bind (lt_rule rfl hc (T.ib j hj) (T.ia i (by omega)) ?_)))))
      cases ec : lt (at_ b j) (at_ a i) with
      | true =>
        dsimp only
        rw [if_pos rfl]
        refine kasC_bind (el_rule hj ?_)
        rw [im_push]
        have M' := T.pushB M hj ec
        by_cases e1 : (j + 1 == b.size) = true
        · rw [if_pos e1]
          exact kasC_pure ⟨rfl, rfl, .inl ⟨_, _, rfl, Fa _ _ _ M' (by simpa using e1)⟩⟩
        rw [if_neg e1]
        have e1 : j + 1 ≠ b.size := by simpa using e1
        refine kasC_ite (fun _ => ?_) (fun _ => ?_)
        · exact kasC_pure ⟨rfl, rfl, .inr ⟨o.push (at_ b j), _, _, _, _, rfl, M', hi, by omega, by omega⟩⟩
        · exact kasC_pure ⟨rfl, o.push (at_ b j), _, _, _, _, rfl, rfl, M', hi, by omega, by omega⟩
      | false =>
        dsimp only
        rw [if_neg (by decide)]
        refine kasC_bind (el_rule (show i < a.size by omega) ?_)
        rw [im_push]
        have M' := T.pushA M (by omega) (T.ba (by omega) hj ec)
        by_cases e1 : (i + 1 + 1 == a.size) = true
        · rw [if_pos e1]
          exact kasC_pure ⟨rfl, rfl, .inl ⟨_, _, rfl, Fb _ _ _ M' (by simpa using e1)⟩⟩
        rw [if_neg e1]
        have e1 : i + 1 + 1 ≠ a.size := by simpa using e1
        refine kasC_ite (fun _ => ?_) (fun _ => ?_)
        · exact kasC_pure ⟨rfl, rfl, .inr ⟨o.push (at_ a i), _, _, _, _, rfl, M', by omega, hj, by omega⟩⟩
        · exact kasC_pure ⟨rfl, o.push (at_ a i), _, _, _, _, rfl, rfl, M', by omega, hj, by omega⟩
    · intro t st ht0
      obtain ⟨rfl, ht⟩ : st = SS κ it p pend g' ∧ ((∃ e t', t = (some e, t') ∧ MgEnd it lt a b e) ∨ ∃ o i j ca cb, t = (none, im it o, i, j, ca, cb) ∧ Mg lt a.toList b.toList o.toList i j ∧ i + 1 < a.size ∧ j < b.size ∧ i1 + j1 + 1 ≤ i + j) := by
        rcases ht0 with ⟨o, i, j, ca, cb, rfl, rfl, M, hi, hj, hp2⟩ | ht0
        · omega
        · exact ht0
      clear ht0
      rcases ht with ⟨e, t', rfl, he⟩ | ⟨o, i, j, ca, cb, rfl, M, hi, hj, hp2⟩
      · exact kasC_pure ⟨rfl, _, _, _, rfl, rfl, he⟩
      extract_lets -underBinder +onlyGivenNames -merge r2 s4 o2 s5 i2 s6 j2 s7 ca2 cb2
      have eo : o2 = im it o := rfl
      have ei : i2 = i := rfl
      have ej : j2 = j := rfl
      have er : r2 = none := rfl
      clear_value o2 i2 j2 ca2 cb2 r2
      subst eo ei ej er
      refine kasC_bind (kasC_lift (wpAny_rule ?_))
      refine kasC_bind (kasC_loop
        (I := fun k t st => ∃ o i j g ca cb g', t = (none, im it o, i, j, g, ca, cb) ∧ st = SS κ it p pend g' ∧ Mg lt a.toList b.toList o.toList i j ∧ i + 1 < a.size ∧ j < b.size ∧ i2 + j2 ≤ i + j)
        (D := fun t st => ∃ g', st = SS κ it p pend g' ∧ ((∃ e t', t = (some e, t') ∧ MgEnd it lt a b e) ∨ ∃ o i j g ca cb, t = (none, im it o, i, j, g, ca, cb) ∧ Mg lt a.toList b.toList o.toList i j ∧ i + 1 < a.size ∧ j < b.size ∧ i2 + j2 ≤ i + j)) ⟨o, i2, j2, _, _, _, _, rfl, rfl, M, hi, hj, by omega⟩ ?_ ?_)
      · rintro x k3 _ _ hk3 ⟨o, i, j, g, ca, cb, g', rfl, rfl, M, hi, hj, hp3⟩
        extract_lets -underBinder +onlyGivenNames -merge s8 o3 s9 i3 s10 j3 s11 g3 s12 ca3 cb3 jp
        have H : ∀ g, kasC (model prog w) A E (jp () g) (fun r st' s' => s' = s ∧ StepP (fun t st => ∃ o i j g ca cb g', t = (none, im it o, i, j, g, ca, cb) ∧ st = SS κ it p pend g' ∧ Mg lt a.toList b.toList o.toList i j ∧ i + 1 < a.size ∧ j < b.size ∧ i2 + j2 ≤ i + j) (fun t st => ∃ g', st = SS κ it p pend g' ∧ ((∃ e t', t = (some e, t') ∧ MgEnd it lt a b e) ∨ ∃ o i j g ca cb, t = (none, im it o, i, j, g, ca, cb) ∧ Mg lt a.toList b.toList o.toList i j ∧ i + 1 < a.size ∧ j < b.size ∧ i2 + j2 ≤ i + j)) r st') (SS κ it p pend g') s := by
          intro gg
          have eo : o3 = im it o := rfl
          have ei : i3 = i := rfl
          have ej : j3 = j := rfl
          clear_value o3 i3 j3 ca3 cb3 g3
          subst eo ei ej
          dsimp -zeta only [jp]
          clear jp
          rw [smg_eq]
          refine kasC_bind (kasC_modify ?_)
          show kasC _ _ _ _ _ (SS κ it p pend gg) s
          refine kasC_bind (el_rule hj ?_)
          refine kasC_bind (gal_rule rfl hc (T.ib j3 hj) T.ia (by omega) (by omega) (ov_false (k := 0) T hj (by omega)) fun k hk kt kf => ?_)
          have hka : i3 + k + 1 ≤ a.size := by
            by_cases z : i3 + k + 1 ≤ a.size
            · exact z
            · have := kt (a.size - 1 - i3) (by omega)
              unfold ovB at this
              rw [show i3 + (a.size - 1 - i3) = a.size - 1 by omega, last j3 hj] at this
              cases this
          have hkf : lt (at_ b j3) (at_ a (i3 + k)) = true := by
            have := kf k (Nat.le_refl _) (by omega)
            unfold ovB at this
            simpa using this
          have Mk := T.appA M hj (by omega) kt
          dsimp -zeta only
          extract_lets -underBinder +onlyGivenNames -merge ca4 jp
          have H2 : ∀ (o4 : Array Nat) (i4 : Nat), Mg lt a.toList b.toList o4.toList i4 j3 → i4 + 1 < a.size → lt (at_ b j3) (at_ a i4) = true → i3 ≤ i4 → kasC (model prog w) A E (jp () (im it o4) i4) (fun r st' s' => s' = s ∧ StepP (fun t st => ∃ o i j g ca cb g', t = (none, im it o, i, j, g, ca, cb) ∧ st = SS κ it p pend g' ∧ Mg lt a.toList b.toList o.toList i j ∧ i + 1 < a.size ∧ j < b.size ∧ i2 + j2 ≤ i + j) (fun t st => ∃ g', st = SS κ it p pend g' ∧ ((∃ e t', t = (some e, t') ∧ MgEnd it lt a b e) ∨ ∃ o i j g ca cb, t = (none, im it o, i, j, g, ca, cb) ∧ Mg lt a.toList b.toList o.toList i j ∧ i + 1 < a.size ∧ j < b.size ∧ i2 + j2 ≤ i + j)) r st') (SS κ it p pend gg) s := by
            intro o4 i4 M4 hi4 lt4 le4
            clear_value ca4
            dsimp -zeta only [jp]
            clear jp
            refine kasC_bind (el_rule hj ?_)
            rw [im_push]
            have M5 := T.pushB M4 hj lt4
            extract_lets -underBinder +onlyGivenNames -merge o5 j5
            have eo : o5 = im it (o4.push (at_ b j3)) := rfl
            have ej : j5 = j3 + 1 := rfl
            clear_value o5 j5
            subst eo ej
            by_cases e1 : (j3 + 1 == b.size) = true
            · rw [if_pos e1]
              exact kasC_pure ⟨rfl, _, rfl, .inl ⟨_, _, rfl, Fa _ _ _ M5 (by simpa using e1)⟩⟩
            rw [if_neg e1]
            have e1 : j3 + 1 ≠ b.size := by simpa using e1
            refine kasC_bind (el_rule (show i4 < a.size by omega) ?_)
            refine kasC_bind (gal_rule rfl hc (T.ia i4 (by omega)) T.ib (by omega) (by omega) (ov_true (k := 0) T (show i4 < a.size by omega) (by omega)) fun k5 hk5 kt5 kf5 => ?_)
            have M6 := T.appB M5 (k := k5) (by omega) kt5
            dsimp -zeta only
            extract_lets -underBinder +onlyGivenNames -merge cb6 jp
            have H3 : ∀ (o6 : Array Nat) (j6 : Nat), Mg lt a.toList b.toList o6.toList i4 j6 → j6 < b.size → lt (at_ a i4) (at_ b j6) = true → j3 ≤ j6 → kasC (model prog w) A E (jp () (im it o6) j6) (fun r st' s' => s' = s ∧ StepP (fun t st => ∃ o i j g ca cb g', t = (none, im it o, i, j, g, ca, cb) ∧ st = SS κ it p pend g' ∧ Mg lt a.toList b.toList o.toList i j ∧ i + 1 < a.size ∧ j < b.size ∧ i2 + j2 ≤ i + j) (fun t st => ∃ g', st = SS κ it p pend g' ∧ ((∃ e t', t = (some e, t') ∧ MgEnd it lt a b e) ∨ ∃ o i j g ca cb, t = (none, im it o, i, j, g, ca, cb) ∧ Mg lt a.toList b.toList o.toList i j ∧ i + 1 < a.size ∧ j < b.size ∧ i2 + j2 ≤ i + j)) r st') (SS κ it p pend gg) s := by
              intro o6 j6 M6 hj6 lt6 le6
              dsimp only [jp]
              refine kasC_bind (el_rule (show i4 < a.size by omega) ?_)
              rw [im_push]
              have M7 := T.pushA M6 (by omega) lt6
              by_cases e2 : (i4 + 1 + 1 == a.size) = true
              · rw [if_pos e2]
                exact kasC_pure ⟨rfl, _, rfl, .inl ⟨_, _, rfl, Fb _ _ _ M7 (by simpa using e2)⟩⟩
              rw [if_neg e2]
              have e2 : i4 + 1 + 1 ≠ a.size := by simpa using e2
              refine kasC_ite (fun _ => ?_) (fun _ => ?_)
              · exact kasC_pure ⟨rfl, _, rfl, .inr ⟨o6.push (at_ a i4), _, _, _, _, _, rfl, M7, by omega, hj6, by omega⟩⟩
              · exact kasC_pure ⟨rfl, o6.push (at_ a i4), _, _, _, _, _, _, rfl, rfl, M7, by omega, hj6, by omega⟩
            clear_value jp cb6
            have fin5 : j3 + 1 + k5 < b.size → lt (at_ a i4) (at_ b (j3 + 1 + k5)) = true := fun z => by
              have := kf5 k5 (Nat.le_refl _) (by omega)
              unfold ovB at this
              exact T.ba (by omega) z (by simpa using this)
            by_cases e3 : k5 > 0
            · rw [if_pos e3, im_ext, im_app]
              extract_lets -underBinder +onlyGivenNames -merge o7 j7
              have eo : o7 = im it (o4.push (at_ b j3) ++ b.extract (j3 + 1) (j3 + 1 + k5)) := rfl
              have ej : j7 = j3 + 1 + k5 := rfl
              clear_value o7 j7
              subst eo ej
              by_cases e4 : (j3 + 1 + k5 == b.size) = true
              · rw [if_pos e4]
                exact kasC_pure ⟨rfl, _, rfl, .inl ⟨_, _, rfl, Fa _ _ _ M6 (by simpa using e4)⟩⟩
              · rw [if_neg e4]
                have e4 : j3 + 1 + k5 ≠ b.size := by simpa using e4
                exact H3 _ _ M6 (by omega) (fin5 (by omega)) (by omega)
            · rw [if_neg e3]
              obtain rfl : k5 = 0 := by omega
              exact H3 _ _ M5 (by omega) (fin5 (by omega)) (by omega)
          clear_value jp ca4
          by_cases e3 : k > 0
          · rw [if_pos e3, im_ext, im_app]
            extract_lets -underBinder +onlyGivenNames -merge o7 i7
            have eo : o7 = im it (o ++ a.extract i3 (i3 + k)) := rfl
            have ei : i7 = i3 + k := rfl
            clear_value o7 i7
            subst eo ei
            by_cases e4 : (i3 + k + 1 == a.size) = true
            · rw [if_pos e4]
              exact kasC_pure ⟨rfl, _, rfl, .inl ⟨_, _, rfl, Fb _ _ _ Mk (by simpa using e4)⟩⟩
            · rw [if_neg e4]
              have e4 : i3 + k + 1 ≠ a.size := by simpa using e4
              rw [if_neg (by simp; omega)]
              exact H2 _ _ Mk (by omega) hkf (by omega)
          · rw [if_neg e3]
            obtain rfl : k = 0 := by omega
            exact H2 _ _ M (by omega) hkf (by omega)
        clear_value jp
        exact kasC_ite (fun _ => H _) (fun _ => H _)
      · intro t st ht0
        obtain ⟨g', rfl, ht⟩ : ∃ g', st = SS κ it p pend g' ∧ ((∃ e t', t = (some e, t') ∧ MgEnd it lt a b e) ∨ ∃ o i j g ca cb, t = (none, im it o, i, j, g, ca, cb) ∧ Mg lt a.toList b.toList o.toList i j ∧ i + 1 < a.size ∧ j < b.size ∧ i2 + j2 ≤ i + j) := by
          rcases ht0 with ⟨o, i, j, g, ca, cb, g', rfl, rfl, z⟩ | ht0
          · exact ⟨g', rfl, .inr ⟨o, i, j, g, ca, cb, rfl, z⟩⟩
          · exact ht0
        clear ht0
        rcases ht with ⟨e, t', rfl, he⟩ | ⟨o, i, j, g, ca, cb, rfl, M, hi, hj, hp3⟩
        · exact kasC_pure ⟨rfl, _, _, _, rfl, rfl, he⟩
        · refine kasC_bind ?_
          rw [smg_eq]
          refine kasC_modify (kasC_pure ⟨rfl, o, i, j, _, _, rfl, rfl, M, hi, hj, by omega⟩)
  · rintro _ _ (⟨o, i, j, g, g', rfl, rfl, M, hi, hj, hp⟩ | ⟨e, t', g', rfl, rfl, he⟩)
    · omega
    · exact kasC_pure (r _ _ he)
end
end L2

namespace L2
open PySem PySem.Spec PyProof.Rows PySem.NumText PySem.W
noncomputable def mhi' : Array Keyed → Array Keyed → StateT SortSt Sem (Array Keyed) := sortPriv% PySem.Builtin.mergeHi
theorem mhi_eq (a b : Array Keyed) : mhi' a b = (do
  rule "list.sort.merge-hi"
  let all := a.size + b.size
  let fa (o : Array Keyed) (u v : Nat) := a.extract 0 u ++ b.extract 0 v ++ o.reverse
  let fb (o : Array Keyed) (u v : Nat) := b.extract 0 v ++ a.extract 0 u ++ o.reverse
  let mut u := a.size - 1
  let mut v := b.size
  let mut o : Array Keyed := #[← elem' a u]
  if u == 0 then return fa o u v
  if v == 1 then return fb o u v
  let mut g := gallopOf (← get)
  for _ in [0:all] do
    let mut ca := 0
    let mut cb := 0
    for _ in [0:all] do
      let some c ← lt' (← elem' b (v - 1)) (← elem' a (u - 1)) | return fa o u v
      if c then
        u := u - 1; o := o.push (← elem' a u); ca := ca + 1; cb := 0
        if u == 0 then return fa o u v
        if ca ≥ g then break
      else
        v := v - 1; o := o.push (← elem' b v); cb := cb + 1; ca := 0
        if v == 1 then return fb o u v
        if cb ≥ g then break
    rule "list.sort.gallop"
    g := g + 1
    for _ in [0:all] do
      if g > 1 then g := g - 1
      smg' g
      let some t ← gal' false (← elem' b (v - 1)) a 0 u (u - 1) | return fa o u v
      let k := u - t
      ca := k
      if k > 0 then
        o := o ++ (a.extract t u).reverse; u := t
        if u == 0 then return fa o u v
      v := v - 1; o := o.push (← elem' b v)
      if v == 1 then return fb o u v
      let some t ← gal' true (← elem' a (u - 1)) b 0 v (v - 1) | return fa o u v
      let k := v - t
      cb := k
      if k > 0 then
        o := o ++ (b.extract t v).reverse; v := t
        if v == 1 then return fb o u v
        if v == 0 then return fa o u v
      u := u - 1; o := o.push (← elem' a u)
      if u == 0 then return fa o u v
      if ca < 7 && cb < 7 then break
    g := g + 1
    smg' g
  unsupported "internal:list.sort.merge-bound") := rfl
structure Mh (lt : Nat → Nat → Bool) (a b o : List Nat) (u v : Nat) : Prop where
  pm : (a.take u ++ b.take v ++ o.reverse).Perm (a ++ b)
  so : o.reverse.Pairwise fun x y => lt x y = true
  ls : ∀ x ∈ a.take u ++ b.take v, ∀ y ∈ o, lt x y = true
section
variable {lt : Nat → Nat → Bool} {a b o : List Nat} {u v : Nat}
theorem Mh.sym (h : Mh lt a b o u v) : Mh lt b a o v u where
  pm := (List.perm_append_comm.append (List.Perm.refl _)).trans (h.pm.trans List.perm_append_comm)
  so := h.so
  ls := fun x hx y hy => h.ls x (List.perm_append_comm.mem_iff.mp hx) y hy
theorem Mh.left (h : Mh lt a b o u v) (sa : a.Pairwise fun x y => lt x y = true) (t : Nat) (ht : t ≤ u) (hc : ∀ x ∈ b.take v, ∀ y ∈ (a.take u).drop t, lt x y = true) : Mh lt a b (o ++ ((a.take u).drop t).reverse) t v := by
  have e : a.take u = a.take t ++ (a.take u).drop t := by
    have := (List.take_append_drop t (a.take u)).symm
    rw [List.take_take, Nat.min_eq_left ht] at this
    exact this
  have sd : (a.take u).Pairwise fun x y => lt x y = true := sa.sublist (List.take_sublist _ _)
  generalize (a.take u).drop t = c at e hc ⊢
  have pm := h.pm
  have ls := h.ls
  rw [e] at sd pm ls
  obtain ⟨s1, s2, s3⟩ := List.pairwise_append.mp sd
  refine ⟨?_, ?_, fun x hx y hy => ?_⟩
  · rw [List.reverse_append, List.reverse_reverse]
    refine List.Perm.trans ?_ pm
    rw [List.append_assoc, List.append_assoc, List.append_assoc]
    refine (List.Perm.refl _).append ?_
    rw [← List.append_assoc, ← List.append_assoc]
    exact List.perm_append_comm.append (List.Perm.refl _)
  · rw [List.reverse_append, List.reverse_reverse]
    exact List.pairwise_append.mpr ⟨s2, h.so, fun x hx y hy => ls x (List.mem_append_left _ (List.mem_append_right _ hx)) y (List.mem_reverse.mp hy)⟩
  · rcases List.mem_append.mp hy with hy | hy
    · refine ls x ?_ y hy
      rcases List.mem_append.mp hx with hx | hx
      · exact List.mem_append_left _ (List.mem_append_left _ hx)
      · exact List.mem_append_right _ hx
    · have hy := List.mem_reverse.mp hy
      rcases List.mem_append.mp hx with hx | hx
      · exact s3 x hx y hy
      · exact hc x hx y hy
theorem Mh.endL (h : Mh lt a b o u v) (hu : u = 0) (sb : b.Pairwise fun x y => lt x y = true) : Merged lt a b (a.take u ++ b.take v ++ o.reverse) := by
  subst hu
  refine ⟨h.pm, ?_⟩
  rw [List.take_zero, List.nil_append]
  exact List.pairwise_append.mpr ⟨sb.sublist (List.take_sublist _ _), h.so, fun x hx y hy => h.ls x (List.mem_append_right _ hx) y (List.mem_reverse.mp hy)⟩
theorem Mh.endR (h : Mh lt a b o u v) (sa : a.Pairwise fun x y => lt x y = true) (sb : b.Pairwise fun x y => lt x y = true) (hc : ∀ x ∈ b.take v, ∀ y ∈ a.take u, lt x y = true) : Merged lt a b (b.take v ++ a.take u ++ o.reverse) := by
  refine ⟨(List.perm_append_comm.append (List.Perm.refl _)).trans h.pm, List.pairwise_append.mpr ⟨List.pairwise_append.mpr ⟨sb.sublist (List.take_sublist _ _), sa.sublist (List.take_sublist _ _), hc⟩, h.so, fun x hx y hy => h.ls x (List.perm_append_comm.mem_iff.mp hx) y (List.mem_reverse.mp hy)⟩⟩
end
section
variable {n : Nat} {lt : Nat → Nat → Bool} {a b o : Array Nat} {u v : Nat} {it : Array Keyed}
theorem mem_tk0 {x u : Nat} (h : x ∈ a.toList.take u) : ∃ t, t < u ∧ t < a.size ∧ x = at_ a t := by
  obtain ⟨m, hm, e⟩ := List.getElem_of_mem h
  rw [List.length_take, Array.length_toList] at hm
  refine ⟨m, by omega, by omega, ?_⟩
  rw [at_eq (by omega), ← e, List.getElem_take, Array.getElem_toList]
theorem mem_tkd {x u t : Nat} (h : x ∈ (a.toList.take u).drop t) : ∃ k, t ≤ k ∧ k < u ∧ k < a.size ∧ x = at_ a k := by
  obtain ⟨m, hm, e⟩ := List.getElem_of_mem h
  rw [List.length_drop, List.length_take, Array.length_toList] at hm
  refine ⟨t + m, by omega, by omega, by omega, ?_⟩
  rw [at_eq (by omega), ← e, List.getElem_drop, List.getElem_take, Array.getElem_toList]
theorem ext0 : (a.extract 0 u).toList = a.toList.take u := by rw [Array.toList_extract, List.extract_eq_take_drop, List.drop_zero, Nat.sub_zero]
theorem extd {t : Nat} : (a.extract t u).toList = (a.toList.take u).drop t := by rw [Array.toList_extract, List.extract_eq_take_drop, List.drop_take]
theorem im_rev : (im it o).reverse = im it o.reverse := by simp [im]
/-- a's from t on, up to u, stand behind b's last -/
theorem Two.hiA (T : Two n lt a b) (M : Mh lt a.toList b.toList o.toList u v) {t : Nat} (ht : t ≤ u) (hv : v ≤ b.size) (h : ∀ k, t ≤ k → k < u → lt (at_ b (v - 1)) (at_ a k) = true) : Mh lt a.toList b.toList (o ++ (a.extract t u).reverse).toList t v := by
  rw [Array.toList_append, Array.toList_reverse, extd]
  refine M.left (up_pw T.sa) t ht fun x hx y hy => ?_
  obtain ⟨j, j1, j2, rfl⟩ := mem_tk0 hx
  obtain ⟨k, k1, k2, k3, rfl⟩ := mem_tkd hy
  exact T.sym.dn k3 (show v - 1 < b.size by omega) (h k k1 k2) (by omega)
theorem Two.hiB (T : Two n lt a b) (M : Mh lt a.toList b.toList o.toList u v) {t : Nat} (ht : t ≤ v) (hu : u ≤ a.size) (h : ∀ k, t ≤ k → k < v → lt (at_ a (u - 1)) (at_ b k) = true) : Mh lt a.toList b.toList (o ++ (b.extract t v).reverse).toList u t := (T.sym.hiA M.sym ht hu h).sym
theorem rev_one {t : Nat} (h : t < a.size) : (a.extract t (t + 1)).reverse = #[at_ a t] := by
  refine Array.ext' ?_
  rw [Array.toList_reverse, Array.toList_extract, List.extract_eq_take_drop, Nat.add_sub_cancel_left, tk_one h]
  rfl
theorem Two.hiA1 (T : Two n lt a b) (M : Mh lt a.toList b.toList o.toList u v) (hu : 0 < u) (hua : u ≤ a.size) (hv : v ≤ b.size) (h : lt (at_ b (v - 1)) (at_ a (u - 1)) = true) : Mh lt a.toList b.toList (o.push (at_ a (u - 1))).toList (u - 1) v := by
  have := T.hiA M (t := u - 1) (by omega) hv fun k k1 k2 => by
    obtain rfl : k = u - 1 := by omega
    exact h
  have e := rev_one (a := a) (t := u - 1) (by omega)
  rw [show u - 1 + 1 = u by omega] at e
  rw [e] at this
  exact this
theorem Two.hiB1 (T : Two n lt a b) (M : Mh lt a.toList b.toList o.toList u v) (hv : 0 < v) (hu : u ≤ a.size) (hvb : v ≤ b.size) (h : lt (at_ a (u - 1)) (at_ b (v - 1)) = true) : Mh lt a.toList b.toList (o.push (at_ b (v - 1))).toList u (v - 1) := (T.sym.hiA1 M.sym hv hvb hu h).sym
theorem ga_end (T : Two n lt a b) (M : Mh lt a.toList b.toList o.toList u v) (hu : u = 0) : MgEnd it lt a b ((im it a).extract 0 u ++ (im it b).extract 0 v ++ (im it o).reverse) := by
  refine ⟨a.extract 0 u ++ b.extract 0 v ++ o.reverse, by rw [im_ext, im_ext, im_rev, im_app, im_app], ?_⟩
  rw [Array.toList_append, Array.toList_append, ext0, ext0, Array.toList_reverse]
  exact M.endL hu (up_pw T.sb)
theorem gb_end (T : Two n lt a b) (M : Mh lt a.toList b.toList o.toList u v) (hv : v = 1) (first : lt (at_ b 0) (at_ a 0) = true) : MgEnd it lt a b ((im it b).extract 0 v ++ (im it a).extract 0 u ++ (im it o).reverse) := by
  refine ⟨b.extract 0 v ++ a.extract 0 u ++ o.reverse, by rw [im_ext, im_ext, im_rev, im_app, im_app], ?_⟩
  rw [Array.toList_append, Array.toList_append, ext0, ext0, Array.toList_reverse]
  refine M.endR (up_pw T.sa) (up_pw T.sb) fun x hx y hy => ?_
  obtain ⟨t, t1, t2, rfl⟩ := mem_tk0 hx
  obtain ⟨k, k1, k2, rfl⟩ := mem_tk0 hy
  obtain rfl : t = 0 := by omega
  exact T.up t2 first (Nat.zero_le _) k2
end
section
variable {prog : Program} {w : World} {A : Around} {E : Value → Shared → Prop} {κ : SortKind} {it : Array Keyed} {n : Nat} {lt : Nat → Nat → Bool} {s : Shared}
theorem mhi_rule {a b : Array Nat} {p : Array Nat} {pend : Array (Nat × Nat × Nat)} {g0 : Nat} {Q : Array Keyed → SortSt → Shared → Prop} (T : Two n lt a b) (hc : Asks n s (kas_cmp prog w A κ it) lt)
    (a1 : 0 < a.size) (b1 : 0 < b.size) (first : lt (at_ b 0) (at_ a 0) = true) (last : ∀ i, i < b.size → lt (at_ b i) (at_ a (a.size - 1)) = true)
    (r : ∀ o g, MgEnd it lt a b o → Q o (SS κ it p pend g) s) : kasC (model prog w) A E (mhi' (im it a) (im it b)) Q (SS κ it p pend g0) s := by
  rw [mhi_eq]
  refine kasC_bind (kasC_lift (wpAny_rule ?_))
  extract_lets -underBinder +onlyGivenNames -merge all fa fb u1 v1
  have za : (im it a).size = a.size := Array.size_map
  have zb : (im it b).size = b.size := Array.size_map
  have hall : all = a.size + b.size := by show (im it a).size + (im it b).size = _; rw [za, zb]
  have eu : u1 = a.size - 1 := by show (im it a).size - 1 = _; rw [za]
  have ev : v1 = b.size := zb
  have Fa : ∀ o u v, Mh lt a.toList b.toList o.toList u v → u = 0 → MgEnd it lt a b (fa (im it o) u v) := fun o u v M h => ga_end (it := it) T M h
  have Fb : ∀ o u v, Mh lt a.toList b.toList o.toList u v → v = 1 → MgEnd it lt a b (fb (im it o) u v) := fun o u v M h => gb_end (it := it) T M h first
  clear_value fa fb all u1 v1
  subst hall eu ev
  refine kasC_bind (el_rule (show a.size - 1 < a.size by omega) ?_)
  have M0 : Mh lt a.toList b.toList (#[at_ a (a.size - 1)] : Array Nat).toList (a.size - 1) b.size := by
    have : Mh lt a.toList b.toList (#[] : Array Nat).toList a.size b.size := ⟨by rw [List.take_of_length_le (by simp), List.take_of_length_le (by simp)]; simp, List.Pairwise.nil, fun x _ y hy => by cases hy⟩
    exact T.hiA1 this a1 (Nat.le_refl _) (Nat.le_refl _) (last _ (by omega))
  have e0 : #[kas_item it (at_ a (a.size - 1))] = im it #[at_ a (a.size - 1)] := by simp [im]
  rw [e0]
  generalize (#[at_ a (a.size - 1)] : Array Nat) = o0 at M0 ⊢
  extract_lets -underBinder +onlyGivenNames -merge o1
  have eo : o1 = im it o0 := rfl
  clear_value o1
  subst eo
  by_cases h1 : (a.size - 1 == 0) = true
  · rw [if_pos h1]
    exact kasC_pure (r _ _ (Fa _ _ _ M0 (by simpa using h1)))
  rw [if_neg h1]
  by_cases h2 : (b.size == 1) = true
  · rw [if_pos h2]
    exact kasC_pure (r _ _ (Fb _ _ _ M0 (by simpa using h2)))
  rw [if_neg h2]
  have h1 : a.size - 1 ≠ 0 := by simpa using h1
  have h2 : b.size ≠ 1 := by simpa using h2
  refine kasC_bind (kasC_get ?_)
  refine kasC_bind (kasC_loop
    (I := fun k t st => ∃ o u v g g', t = (none, u, v, im it o, g) ∧ st = SS κ it p pend g' ∧ Mh lt a.toList b.toList o.toList u v ∧ 0 < u ∧ 1 < v ∧ u ≤ a.size ∧ v ≤ b.size ∧ u + v + k ≤ a.size + b.size)
    (D := fun t st => ∃ e t' g', t = (some e, t') ∧ st = SS κ it p pend g' ∧ MgEnd it lt a b e) ⟨o0, _, _, _, _, rfl, rfl, M0, by omega, by omega, by omega, by omega, by omega⟩ ?_ ?_)
  · rintro x k _ _ hk ⟨o, u, v, g, g', rfl, rfl, M, hu, hv, hua, hvb, hp⟩
    extract_lets -underBinder +onlyGivenNames -merge s1 u1 s2 v1 s3 o1 g1 ca1 cb1
    have eo : o1 = im it o := rfl
    have eu : u1 = u := rfl
    have ev : v1 = v := rfl
    have eg : g1 = g := rfl
    clear_value o1 u1 v1 g1
    subst eo eu ev eg
    refine kasC_bind (kasC_loop
      (I := fun k t st => ∃ o u v ca cb, t = (none, u, v, im it o, ca, cb) ∧ st = SS κ it p pend g' ∧ Mh lt a.toList b.toList o.toList u v ∧ 0 < u ∧ 1 < v ∧ u ≤ a.size ∧ v ≤ b.size ∧ u + v + k ≤ u1 + v1)
      (D := fun t st => st = SS κ it p pend g' ∧ ((∃ e t', t = (some e, t') ∧ MgEnd it lt a b e) ∨ ∃ o u v ca cb, t = (none, u, v, im it o, ca, cb) ∧ Mh lt a.toList b.toList o.toList u v ∧ 0 < u ∧ 1 < v ∧ u ≤ a.size ∧ v ≤ b.size ∧ u + v + 1 ≤ u1 + v1)) ⟨o, u1, v1, _, _, rfl, rfl, M, hu, hv, hua, hvb, by omega⟩ ?_ ?_)
    · rintro x k2 _ _ hk2 ⟨o, u, v, ca, cb, rfl, rfl, M, hu, hv, hua, hvb, hp2⟩
      dsimp only
      refine kasC_bind (el_rule (show v - 1 < b.size by omega) (kasC_bind (el_rule (show u - 1 < a.size by omega) (kasC_bind (lt_rule rfl hc (T.ib _ (by omega)) (T.ia _ (by omega)) ?_)))))
      cases ec : lt (at_ b (v - 1)) (at_ a (u - 1)) with
      | true =>
        dsimp only
        rw [if_pos rfl]
        refine kasC_bind (el_rule (show u - 1 < a.size by omega) ?_)
        rw [im_push]
        have M' := T.hiA1 M hu hua hvb ec
        by_cases e1 : (u - 1 == 0) = true
        · rw [if_pos e1]
          exact kasC_pure ⟨rfl, rfl, .inl ⟨_, _, rfl, Fa _ _ _ M' (by simpa using e1)⟩⟩
        rw [if_neg e1]
        have e1 : u - 1 ≠ 0 := by simpa using e1
        refine kasC_ite (fun _ => ?_) (fun _ => ?_)
        · exact kasC_pure ⟨rfl, rfl, .inr ⟨o.push (at_ a (u - 1)), _, _, _, _, rfl, M', by omega, hv, by omega, hvb, by omega⟩⟩
        · exact kasC_pure ⟨rfl, o.push (at_ a (u - 1)), _, _, _, _, rfl, rfl, M', by omega, hv, by omega, hvb, by omega⟩
      | false =>
        dsimp only
        rw [if_neg (by decide)]
        refine kasC_bind (el_rule (show v - 1 < b.size by omega) ?_)
        rw [im_push]
        have M' := T.hiB1 M (by omega) hua hvb (T.ba (by omega) (by omega) ec)
        by_cases e1 : (v - 1 == 1) = true
        · rw [if_pos e1]
          exact kasC_pure ⟨rfl, rfl, .inl ⟨_, _, rfl, Fb _ _ _ M' (by simpa using e1)⟩⟩
        rw [if_neg e1]
        have e1 : v - 1 ≠ 1 := by simpa using e1
        refine kasC_ite (fun _ => ?_) (fun _ => ?_)
        · exact kasC_pure ⟨rfl, rfl, .inr ⟨o.push (at_ b (v - 1)), _, _, _, _, rfl, M', hu, by omega, hua, by omega, by omega⟩⟩
        · exact kasC_pure ⟨rfl, o.push (at_ b (v - 1)), _, _, _, _, rfl, rfl, M', hu, by omega, hua, by omega, by omega⟩
    · intro t st ht0
      obtain ⟨rfl, ht⟩ : st = SS κ it p pend g' ∧ ((∃ e t', t = (some e, t') ∧ MgEnd it lt a b e) ∨ ∃ o u v ca cb, t = (none, u, v, im it o, ca, cb) ∧ Mh lt a.toList b.toList o.toList u v ∧ 0 < u ∧ 1 < v ∧ u ≤ a.size ∧ v ≤ b.size ∧ u + v + 1 ≤ u1 + v1) := by
        rcases ht0 with ⟨o, u, v, ca, cb, rfl, rfl, M, hu, hv, hua, hvb, hp2⟩ | ht0
        · omega
        · exact ht0
      clear ht0
      rcases ht with ⟨e, t', rfl, he⟩ | ⟨o, u, v, ca, cb, rfl, M, hu, hv, hua, hvb, hp2⟩
      · exact kasC_pure ⟨rfl, _, _, _, rfl, rfl, he⟩
      extract_lets -underBinder +onlyGivenNames -merge r2 s4 u2 s5 v2 s6 o2 s7 ca2 cb2
      have eo : o2 = im it o := rfl
      have eu : u2 = u := rfl
      have ev : v2 = v := rfl
      have er : r2 = none := rfl
      clear_value o2 u2 v2 ca2 cb2 r2
      subst eo eu ev er
      refine kasC_bind (kasC_lift (wpAny_rule ?_))
      refine kasC_bind (kasC_loop (I := fun k => fun t st => ∃ o u v g ca cb g', t = (none, u, v, im it o, g, ca, cb) ∧ st = SS κ it p pend g' ∧ Mh lt a.toList b.toList o.toList u v ∧ 0 < u ∧ 1 < v ∧ u ≤ a.size ∧ v ≤ b.size ∧ u + v ≤ u2 + v2) (D := fun t st => ∃ g', st = SS κ it p pend g' ∧ ((∃ e t', t = (some e, t') ∧ MgEnd it lt a b e) ∨ ∃ o u v g ca cb, t = (none, u, v, im it o, g, ca, cb) ∧ Mh lt a.toList b.toList o.toList u v ∧ 0 < u ∧ 1 < v ∧ u ≤ a.size ∧ v ≤ b.size ∧ u + v ≤ u2 + v2)) ⟨o, u2, v2, _, _, _, _, rfl, rfl, M, hu, hv, hua, hvb, by omega⟩ ?_ ?_)
      · rintro x k3 _ _ hk3 ⟨o, u, v, g, ca, cb, g', rfl, rfl, M, hu, hv, hua, hvb, hp3⟩
        extract_lets -underBinder +onlyGivenNames -merge s8 u3 s9 v3 s10 o3 s11 g3 s12 ca3 cb3 jp
        have H : ∀ g, kasC (model prog w) A E (jp () g) (fun r st' s' => s' = s ∧ StepP (fun t st => ∃ o u v g ca cb g', t = (none, u, v, im it o, g, ca, cb) ∧ st = SS κ it p pend g' ∧ Mh lt a.toList b.toList o.toList u v ∧ 0 < u ∧ 1 < v ∧ u ≤ a.size ∧ v ≤ b.size ∧ u + v ≤ u2 + v2) (fun t st => ∃ g', st = SS κ it p pend g' ∧ ((∃ e t', t = (some e, t') ∧ MgEnd it lt a b e) ∨ ∃ o u v g ca cb, t = (none, u, v, im it o, g, ca, cb) ∧ Mh lt a.toList b.toList o.toList u v ∧ 0 < u ∧ 1 < v ∧ u ≤ a.size ∧ v ≤ b.size ∧ u + v ≤ u2 + v2)) r st') (SS κ it p pend g') s := by
          intro gg
          have eo : o3 = im it o := rfl
          have eu : u3 = u := rfl
          have ev : v3 = v := rfl
          clear_value o3 u3 v3 ca3 cb3 g3
          subst eo eu ev
          dsimp -zeta only [jp]
          clear jp
          rw [smg_eq]
          refine kasC_bind (kasC_modify ?_)
          show kasC _ _ _ _ _ (SS κ it p pend gg) s
          refine kasC_bind (el_rule (show v3 - 1 < b.size by omega) ?_)
          refine kasC_bind (gal_rule rfl hc (T.ib _ (by omega)) T.ia (by omega) (by omega) (ov_false (k := 0) T (show v3 - 1 < b.size by omega) (by omega)) fun t ht kt kf => ?_)
          have hkf : ∀ k, t ≤ k → k < u3 → lt (at_ b (v3 - 1)) (at_ a k) = true := fun k k1 k2 => by
            have := kf k k1 k2
            unfold ovB at this
            rw [Nat.zero_add] at this
            simpa using this
          have hkt : 0 < t → lt (at_ a (t - 1)) (at_ b (v3 - 1)) = true := fun z => by
            have := kt (t - 1) (by omega)
            unfold ovB at this
            rw [Nat.zero_add] at this
            exact T.ba (by omega) (by omega) (by simpa using this)
          have Mk := T.hiA M ht hvb hkf
          dsimp -zeta only
          extract_lets -underBinder +onlyGivenNames -merge kk ca4 jp
          have H2 : ∀ (o4 : Array Nat) (u4 : Nat), Mh lt a.toList b.toList o4.toList u4 v3 → 0 < u4 → u4 ≤ u3 → lt (at_ a (u4 - 1)) (at_ b (v3 - 1)) = true → kasC (model prog w) A E (jp () u4 (im it o4)) (fun r st' s' => s' = s ∧ StepP (fun t st => ∃ o u v g ca cb g', t = (none, u, v, im it o, g, ca, cb) ∧ st = SS κ it p pend g' ∧ Mh lt a.toList b.toList o.toList u v ∧ 0 < u ∧ 1 < v ∧ u ≤ a.size ∧ v ≤ b.size ∧ u + v ≤ u2 + v2) (fun t st => ∃ g', st = SS κ it p pend g' ∧ ((∃ e t', t = (some e, t') ∧ MgEnd it lt a b e) ∨ ∃ o u v g ca cb, t = (none, u, v, im it o, g, ca, cb) ∧ Mh lt a.toList b.toList o.toList u v ∧ 0 < u ∧ 1 < v ∧ u ≤ a.size ∧ v ≤ b.size ∧ u + v ≤ u2 + v2)) r st') (SS κ it p pend gg) s := by
            intro o4 u4 M4 hu4 le4 lt4
            clear_value ca4
            dsimp -zeta only [jp]
            clear jp
            extract_lets -underBinder +onlyGivenNames -merge v5
            have ev : v5 = v3 - 1 := rfl
            clear_value v5
            subst ev
            refine kasC_bind (el_rule (show v3 - 1 < b.size by omega) ?_)
            rw [im_push]
            have M5 := T.hiB1 M4 (by omega) (by omega) hvb lt4
            extract_lets -underBinder +onlyGivenNames -merge o5
            have eo : o5 = im it (o4.push (at_ b (v3 - 1))) := rfl
            clear_value o5
            subst eo
            by_cases e1 : (v3 - 1 == 1) = true
            · rw [if_pos e1]
              exact kasC_pure ⟨rfl, _, rfl, .inl ⟨_, _, rfl, Fb _ _ _ M5 (by simpa using e1)⟩⟩
            rw [if_neg e1]
            have e1 : v3 - 1 ≠ 1 := by simpa using e1
            refine kasC_bind (el_rule (show u4 - 1 < a.size by omega) ?_)
            refine kasC_bind (gal_rule rfl hc (T.ia _ (by omega)) T.ib (by omega) (by omega) (ov_true (k := 0) T (show u4 - 1 < a.size by omega) (by omega)) fun t5 ht5 kt5 kf5 => ?_)
            have hkf5 : ∀ k, t5 ≤ k → k < v3 - 1 → lt (at_ a (u4 - 1)) (at_ b k) = true := fun k k1 k2 => by
              have := kf5 k k1 k2
              unfold ovB at this
              rw [Nat.zero_add] at this
              exact T.ba (by omega) (by omega) (by simpa using this)
            have ht1 : 0 < t5 := by
              by_cases z : 0 < t5
              · exact z
              · have h1 := hkf5 0 (by omega) (by omega)
                have h2 := T.up (i := 0) (j := 0) (t := u4 - 1) b1 first (Nat.zero_le _) (by omega)
                rw [T.ord.asy _ _ (T.ib 0 b1) (T.ia _ (by omega)) h2] at h1
                cases h1
            have hkt5 : lt (at_ b (t5 - 1)) (at_ a (u4 - 1)) = true := by
              have := kt5 (t5 - 1) (by omega)
              unfold ovB at this
              rw [Nat.zero_add] at this
              simpa using this
            have M6 := T.hiB M5 ht5 (by omega) hkf5
            dsimp -zeta only
            extract_lets -underBinder +onlyGivenNames -merge kk5 cb6 jp
            have H3 : ∀ (o6 : Array Nat) (v6 : Nat), Mh lt a.toList b.toList o6.toList u4 v6 → 1 < v6 → v6 ≤ v3 → lt (at_ b (v6 - 1)) (at_ a (u4 - 1)) = true → kasC (model prog w) A E (jp () v6 (im it o6)) (fun r st' s' => s' = s ∧ StepP (fun t st => ∃ o u v g ca cb g', t = (none, u, v, im it o, g, ca, cb) ∧ st = SS κ it p pend g' ∧ Mh lt a.toList b.toList o.toList u v ∧ 0 < u ∧ 1 < v ∧ u ≤ a.size ∧ v ≤ b.size ∧ u + v ≤ u2 + v2) (fun t st => ∃ g', st = SS κ it p pend g' ∧ ((∃ e t', t = (some e, t') ∧ MgEnd it lt a b e) ∨ ∃ o u v g ca cb, t = (none, u, v, im it o, g, ca, cb) ∧ Mh lt a.toList b.toList o.toList u v ∧ 0 < u ∧ 1 < v ∧ u ≤ a.size ∧ v ≤ b.size ∧ u + v ≤ u2 + v2)) r st') (SS κ it p pend gg) s := by
              intro o6 v6 M6 hv6 le6 lt6
              dsimp only [jp]
              refine kasC_bind (el_rule (show u4 - 1 < a.size by omega) ?_)
              rw [im_push]
              have M7 := T.hiA1 M6 hu4 (by omega) (by omega) lt6
              by_cases e2 : (u4 - 1 == 0) = true
              · rw [if_pos e2]
                exact kasC_pure ⟨rfl, _, rfl, .inl ⟨_, _, rfl, Fa _ _ _ M7 (by simpa using e2)⟩⟩
              rw [if_neg e2]
              have e2 : u4 - 1 ≠ 0 := by simpa using e2
              refine kasC_ite (fun _ => ?_) (fun _ => ?_)
              · exact kasC_pure ⟨rfl, _, rfl, .inr ⟨o6.push (at_ a (u4 - 1)), _, _, _, _, _, rfl, M7, by omega, hv6, by omega, by omega, by omega⟩⟩
              · exact kasC_pure ⟨rfl, o6.push (at_ a (u4 - 1)), _, _, _, _, _, _, rfl, rfl, M7, by omega, hv6, by omega, by omega, by omega⟩
            have ek : kk5 = v3 - 1 - t5 := rfl
            clear_value jp cb6 kk5
            subst ek
            by_cases e3 : v3 - 1 - t5 > 0
            · rw [if_pos e3, im_ext, im_rev, im_app]
              extract_lets -underBinder +onlyGivenNames -merge o7 v7
              have eo : o7 = im it (o4.push (at_ b (v3 - 1)) ++ (b.extract t5 (v3 - 1)).reverse) := rfl
              have ev : v7 = t5 := rfl
              clear_value o7 v7
              subst eo ev
              by_cases e4 : (v7 == 1) = true
              · rw [if_pos e4]
                exact kasC_pure ⟨rfl, _, rfl, .inl ⟨_, _, rfl, Fb _ _ _ M6 (by simpa using e4)⟩⟩
              · rw [if_neg e4]
                have e4 : v7 ≠ 1 := by simpa using e4
                rw [if_neg (by simp; omega)]
                exact H3 _ _ M6 (by omega) (by omega) hkt5
            · rw [if_neg e3]
              obtain rfl : t5 = v3 - 1 := by omega
              exact H3 _ _ M5 (by omega) (by omega) hkt5
          have ek : kk = u3 - t := rfl
          clear_value jp ca4 kk
          subst ek
          by_cases e3 : u3 - t > 0
          · rw [if_pos e3, im_ext, im_rev, im_app]
            extract_lets -underBinder +onlyGivenNames -merge o7 u7
            have eo : o7 = im it (o ++ (a.extract t u3).reverse) := rfl
            have eu : u7 = t := rfl
            clear_value o7 u7
            subst eo eu
            by_cases e4 : (u7 == 0) = true
            · rw [if_pos e4]
              exact kasC_pure ⟨rfl, _, rfl, .inl ⟨_, _, rfl, Fa _ _ _ Mk (by simpa using e4)⟩⟩
            · rw [if_neg e4]
              have e4 : u7 ≠ 0 := by simpa using e4
              exact H2 _ _ Mk (by omega) (by omega) (hkt (by omega))
          · rw [if_neg e3]
            obtain rfl : t = u3 := by omega
            exact H2 _ _ M hu (Nat.le_refl _) (hkt hu)
        clear_value jp
        exact kasC_ite (fun _ => H _) (fun _ => H _)
      · intro t st ht0
        obtain ⟨g', rfl, ht⟩ : ∃ g', st = SS κ it p pend g' ∧ ((∃ e t', t = (some e, t') ∧ MgEnd it lt a b e) ∨ ∃ o u v g ca cb, t = (none, u, v, im it o, g, ca, cb) ∧ Mh lt a.toList b.toList o.toList u v ∧ 0 < u ∧ 1 < v ∧ u ≤ a.size ∧ v ≤ b.size ∧ u + v ≤ u2 + v2) := by
          rcases ht0 with ⟨o, u, v, g, ca, cb, g', rfl, rfl, z⟩ | ht0
          · exact ⟨g', rfl, .inr ⟨o, u, v, g, ca, cb, rfl, z⟩⟩
          · exact ht0
        clear ht0
        rcases ht with ⟨e, t', rfl, he⟩ | ⟨o, u, v, g, ca, cb, rfl, M, hu, hv, hua, hvb, hp3⟩
        · exact kasC_pure ⟨rfl, _, _, _, rfl, rfl, he⟩
        · refine kasC_bind ?_
          rw [smg_eq]
          refine kasC_modify (kasC_pure ⟨rfl, o, u, v, _, _, rfl, rfl, M, hu, hv, hua, hvb, by omega⟩)
  · rintro _ _ (⟨o, u, v, g, g', rfl, rfl, M, hu, hv, hua, hvb, hp⟩ | ⟨e, t', g', rfl, rfl, he⟩)
    · omega
    · exact kasC_pure (r _ _ he)
end
end L2

namespace L2
open PySem PySem.Spec PyProof.Rows PySem.NumText PySem.W
/-! ### two runs that stand side by side, merged -/
noncomputable abbrev layAt {α : Type} (c : Nat) (l : List (α × Nat)) (a : Array α) : Array α := l.foldl (fun a z => a.setIfInBounds (c + z.2) z.1) a
theorem lay_size {α : Type} {c : Nat} : ∀ (l : List (α × Nat)) (a : Array α), (layAt c l a).size = a.size
  | [], _ => rfl
  | z :: l, a => by
    show (layAt c l (a.setIfInBounds (c + z.2) z.1)).size = _
    rw [lay_size l, Array.size_setIfInBounds]
theorem lay_get {α : Type} {c : Nat} : ∀ (l : List α) (k : Nat) (a : Array α) (x : Nat), x < a.size → (layAt c (l.zipIdx k) a)[x]? = if c + k ≤ x ∧ x < c + k + l.length then l[x - (c + k)]? else a[x]?
  | [], k, a, x, hx => by
    rw [if_neg (by simp)]
    rfl
  | z :: l, k, a, x, hx => by
    show (layAt c (l.zipIdx (k + 1)) (a.setIfInBounds (c + k) z))[x]? = _
    rw [lay_get l (k + 1) _ x (by rw [Array.size_setIfInBounds]; exact hx), List.length_cons]
    by_cases e : x = c + k
    · subst e
      rw [if_neg (by omega), if_pos (by omega), Nat.sub_self, Array.getElem?_setIfInBounds_self_of_lt hx]
      rfl
    · by_cases h : c + k ≤ x ∧ x < c + k + (l.length + 1)
      · rw [if_pos (by omega), if_pos h, show x - (c + k) = (x - (c + (k + 1))) + 1 by omega, List.getElem?_cons_succ]
      · rw [if_neg (by omega), if_neg h, Array.getElem?_setIfInBounds_ne (by omega)]
section
variable {lt : Nat → Nat → Bool} {n : Nat} {p p' : Array Nat} {it : Array Keyed}
theorem lay_im {c : Nat} {o : Array Nat} : layAt c (im it o).toList.zipIdx (im it p) = im it (layAt c o.toList.zipIdx p) := by
  refine Array.ext_getElem? fun x => ?_
  by_cases hx : x < p.size
  · have h1 := lay_get (c := c) (im it o).toList 0 (im it p) x (by simpa [im] using hx)
    have h2 := lay_get (c := c) o.toList 0 p x hx
    have h3 : (im it (layAt c o.toList.zipIdx p))[x]? = (layAt c o.toList.zipIdx p)[x]?.map (kas_item it) := Array.getElem?_map
    rw [h1, h3, h2]
    simp only [im, Array.toList_map, List.length_map]
    by_cases e : c + 0 ≤ x ∧ x < c + 0 + o.toList.length
    · rw [if_pos e, if_pos e, List.getElem?_map]
    · rw [if_neg e, if_neg e, Array.getElem?_map]
  · rw [Array.getElem?_eq_none (by rw [lay_size]; simp [im]; omega), Array.getElem?_eq_none (by rw [Array.size_map, lay_size]; omega)]
theorem lay_at {c : Nat} {o : Array Nat} {x : Nat} (hx : x < p.size) : at_ (layAt c o.toList.zipIdx p) x = if c ≤ x ∧ x < c + o.size then at_ o (x - c) else at_ p x := by
  have h := lay_get (c := c) o.toList 0 p x hx
  rw [Nat.add_zero, Array.length_toList] at h
  unfold at_
  rw [Array.getD_eq_getD_getElem?, h]
  by_cases e : c ≤ x ∧ x < c + o.size
  · rw [if_pos e, if_pos e, Array.getD_eq_getD_getElem?, Array.getElem?_toList]
  · rw [if_neg e, if_neg e, Array.getD_eq_getD_getElem?]
theorem at_some {x : Nat} (hx : x < p.size) : p[x]? = some (at_ p x) := by rw [at_eq hx, Array.getElem?_eq_getElem hx]
theorem lay_pm {c d : Nat} {o : Array Nat} (h : Pm n p) (hd : d ≤ n) (hc : c ≤ d) (hs : o.size = d - c) (hp : o.toList.Perm ((p.toList.take d).drop c)) : Pm n (layAt c o.toList.zipIdx p) := by
  have hz := h.size
  have e1 : p.toList = p.toList.take c ++ ((p.toList.take d).drop c ++ p.toList.drop d) := by
    have := (List.take_append_drop d p.toList).symm
    have h2 := (List.take_append_drop c (p.toList.take d)).symm
    rw [List.take_take, Nat.min_eq_left hc] at h2
    rw [← List.append_assoc, ← h2]
    exact this
  have e2 : (layAt c o.toList.zipIdx p).toList = p.toList.take c ++ (o.toList ++ p.toList.drop d) := by
    refine List.ext_getElem? fun x => ?_
    rw [Array.getElem?_toList]
    by_cases hx : x < p.size
    · rw [at_some (by rw [lay_size]; exact hx), lay_at hx]
      by_cases k1 : x < c
      · rw [if_neg (by omega), List.getElem?_append_left (by rw [List.length_take, Array.length_toList]; omega), List.getElem?_take, if_pos k1, Array.getElem?_toList, at_some hx]
      · have l1 : (p.toList.take c).length = c := by rw [List.length_take, Array.length_toList]; omega
        rw [List.getElem?_append_right (by omega), l1]
        by_cases k2 : x < d
        · rw [if_pos (by omega), List.getElem?_append_left (by rw [Array.length_toList]; omega), Array.getElem?_toList, at_some (by omega)]
        · rw [if_neg (by omega), List.getElem?_append_right (by rw [Array.length_toList]; omega), List.getElem?_drop, Array.length_toList, show d + (x - c - o.size) = x by omega, Array.getElem?_toList, at_some hx]
    · rw [Array.getElem?_eq_none (by rw [lay_size]; omega), List.getElem?_eq_none]
      rw [List.length_append, List.length_append, List.length_take, List.length_drop, Array.length_toList, Array.length_toList]
      omega
  refine ⟨?_⟩
  rw [e2]
  refine List.Perm.trans ?_ h.pm
  rw [e1]
  have l1 : (p.toList.take c).length = c := by rw [List.length_take, Array.length_toList]; omega
  rw [← e1]
  refine List.Perm.trans ?_ (List.Perm.of_eq e1.symm)
  exact (List.Perm.refl _).append (hp.append (List.Perm.refl _))
/-- in order from l to r -/
noncomputable def Seg (lt : Nat → Nat → Bool) (p : Array Nat) (l r : Nat) : Prop := ∀ x y, l ≤ x → x < y → y < r → lt (at_ p x) (at_ p y) = true
theorem Seg.of {l r : Nat} (h : Seg lt p l r) (e : ∀ x, l ≤ x → x < r → at_ p' x = at_ p x) : Seg lt p' l r := fun x y h1 h2 h3 => by
  rw [e x h1 (by omega), e y (by omega) h3]
  exact h x y h1 h2 h3
theorem ext_at {l r t : Nat} (hr : r ≤ p.size) (ht : t < r - l) : at_ (p.extract l r) t = at_ p (l + t) := by
  rw [at_eq (by rw [Array.size_extract]; omega), at_eq (by omega), Array.getElem_extract]
end
theorem mat_eq (i : Nat) : mergeAt' i = (do
  let z ← get
  let (some (sa, na, pw), some (sb, nb, _)) := ((pendingOf z)[i]?, (pendingOf z)[i + 1]?) | unsupported "internal:list.sort.pending"
  set (setPending z (((pendingOf z).setIfInBounds i (sa, na + nb, pw)).eraseIdxIfInBounds (i + 1)))
  let some k ← gal' false (← elem' (arrOf z) sb) (arrOf z) sa na 0 | return false
  let (sa, na) := (sa + k, na - k)
  if na == 0 then return true
  let some nb ← gal' true (← elem' (arrOf z) (sa + na - 1)) (arrOf z) sb nb (nb - 1) | return false
  if nb == 0 then return true
  let x := (arrOf z).extract sa sb
  let y := (arrOf z).extract sb (sb + nb)
  let m ← if na ≤ nb then mlo' x y else mhi' x y
  modify fun z => setArr z (m.toList.zipIdx.foldl (fun a (p, j) => a.setIfInBounds (sa + j) p) (arrOf z))
  return (failedOf (← get)).isNone) := rfl
section
variable {prog : Program} {w : World} {A : Around} {E : Value → Shared → Prop} {κ : SortKind} {it : Array Keyed} {n : Nat} {lt : Nat → Nat → Bool} {s : Shared}
theorem kasC_set {M : Model} {A : Around} {E : Value → Shared → Prop} {σ : Type} {z : σ} {Q : PUnit → σ → Shared → Prop} {st : σ} {s : Shared} (h : Q ⟨⟩ z s) : kasC M A E (set z : StateT σ Sem PUnit) Q st s := by
  unfold kasC; rw [StateT.run_set]; exact wpAny_pure h
theorem mat_rule {p : Array Nat} {pend : Array (Nat × Nat × Nat)} {g0 i sa na pw nb pw2 : Nat} {Q : Bool → SortSt → Shared → Prop} (O : Ord n lt) (hc : Asks n s (kas_cmp prog w A κ it) lt) (hp : Pm n p)
    (h1 : pend[i]? = some (sa, na, pw)) (h2 : pend[i + 1]? = some (sa + na, nb, pw2)) (na1 : 0 < na) (nb1 : 0 < nb) (hn : sa + na + nb ≤ n) (S1 : Seg lt p sa (sa + na)) (S2 : Seg lt p (sa + na) (sa + na + nb))
    (r : ∀ p' g, Pm n p' → Seg lt p' sa (sa + na + nb) → (∀ x, x < n → x < sa ∨ sa + na + nb ≤ x → at_ p' x = at_ p x) → Q true (SS κ it p' ((pend.setIfInBounds i (sa, na + nb, pw)).eraseIdxIfInBounds (i + 1)) g) s) :
    kasC (model prog w) A E (mergeAt' i) Q (SS κ it p pend g0) s := by
  rw [mat_eq]
  refine kasC_bind (kasC_get ?_)
  show kasC _ _ _ (match (pend[i]?, pend[i + 1]?) with | (some (sa, na, pw), some (sb, nb, _)) => _ | _ => _) _ _ _
  rw [h1, h2]
  dsimp -zeta only
  refine kasC_bind (kasC_set ?_)
  have hz := hp.size
  generalize hpe : ((pend.setIfInBounds i (sa, na + nb, pw)).eraseIdxIfInBounds (i + 1)) = pend' at r ⊢
  show kasC _ _ _ _ _ (SS κ it p pend' g0) s
  refine kasC_bind (el_rule (q := p) (show sa + na < p.size by omega) ?_)
  have inb : ∀ x, x < p.size → at_ p x < n := fun x hx => hp.inb (by omega)
  have nlt : ∀ x y, x < n → y < n → x ≠ y → lt (at_ p x) (at_ p y) = false → lt (at_ p y) (at_ p x) = true := fun x y hx hy ne e => O.tri _ _ (hp.inb hx) (hp.inb hy) (fun z => ne (hp.inj hx hy z)) e
  have tr : ∀ x y z, x < n → y < n → z < n → lt (at_ p x) (at_ p y) = true → lt (at_ p y) (at_ p z) = true → lt (at_ p x) (at_ p z) = true := fun x y z hx hy hz a b => O.tr _ _ _ (hp.inb hx) (hp.inb hy) (hp.inb hz) a b
  refine kasC_bind (gal_rule (q := p) rfl hc (inb _ (by omega)) inb (by omega) na1 (fun x y h1 h2 h => ?_) fun k hk kt kf => ?_)
  · unfold ovB at h ⊢
    simp only [Bool.false_eq_true, if_false, Bool.not_eq_true'] at h ⊢
    cases e : lt (at_ p (sa + na)) (at_ p (sa + x)) with
    | false => rfl
    | true =>
      by_cases exy : x = y
      · rw [exy, h] at e; cases e
      · rw [tr _ _ _ (by omega) (by omega) (by omega) e (S1 (sa + x) (sa + y) (by omega) (by omega) (by omega))] at h
        cases h
  have kt' : ∀ x, sa ≤ x → x < sa + k → lt (at_ p x) (at_ p (sa + na)) = true := fun x x1 x2 => by
    have := kt (x - sa) (by omega)
    unfold ovB at this
    rw [show sa + (x - sa) = x by omega] at this
    exact nlt _ _ (by omega) (by omega) (by omega) (by simpa using this)
  have kf' : ∀ x, sa + k ≤ x → x < sa + na → lt (at_ p (sa + na)) (at_ p x) = true := fun x x1 x2 => by
    have := kf (x - sa) (by omega) (by omega)
    unfold ovB at this
    rw [show sa + (x - sa) = x by omega] at this
    simpa using this
  -- the whole is in order where nothing of the first is behind the second's first
  have low : ∀ x y, sa ≤ x → x < sa + k → sa + na ≤ y → y < sa + na + nb → lt (at_ p x) (at_ p y) = true := fun x y x1 x2 y1 y2 => by
    by_cases e : y = sa + na
    · rw [e]; exact kt' x x1 x2
    · exact tr x (sa + na) y (by omega) (by omega) (by omega) (kt' x x1 x2) (S2 _ _ (Nat.le_refl _) (by omega) y2)
  dsimp -zeta only
  by_cases e0 : (na - k == 0) = true
  · rw [if_pos e0]
    have e0 : na - k = 0 := by simpa using e0
    refine kasC_pure (r p _ hp (fun x y x1 x2 x3 => ?_) fun _ _ _ => rfl)
    by_cases k1 : y < sa + na
    · exact S1 x y x1 x2 k1
    · by_cases k2 : x < sa + na
      · exact low x y x1 (by omega) (by omega) x3
      · exact S2 x y (by omega) x2 x3
  rw [if_neg e0]
  have e0 : k < na := by have : na - k ≠ 0 := by simpa using e0
                         omega
  refine kasC_bind (el_rule (q := p) (show sa + k + (na - k) - 1 < p.size by omega) ?_)
  rw [show sa + k + (na - k) - 1 = sa + na - 1 by omega]
  refine kasC_bind (gal_rule (q := p) rfl hc (inb _ (by omega)) inb (by omega) (by omega) (fun x y h1 h2 h => ?_) fun m hm mt mf => ?_)
  · unfold ovB at h ⊢
    simp only [if_true] at h ⊢
    by_cases exy : x = y
    · rw [exy]; exact h
    · exact tr _ _ _ (by omega) (by omega) (by omega) (S2 (sa + na + x) (sa + na + y) (by omega) (by omega) (by omega)) h
  have mt' : ∀ y, sa + na ≤ y → y < sa + na + m → lt (at_ p y) (at_ p (sa + na - 1)) = true := fun y y1 y2 => by
    have := mt (y - (sa + na)) (by omega)
    unfold ovB at this
    rw [show sa + na + (y - (sa + na)) = y by omega] at this
    simpa using this
  have mf' : ∀ y, sa + na + m ≤ y → y < sa + na + nb → lt (at_ p (sa + na - 1)) (at_ p y) = true := fun y y1 y2 => by
    have := mf (y - (sa + na)) (by omega) (by omega)
    unfold ovB at this
    rw [show sa + na + (y - (sa + na)) = y by omega] at this
    exact nlt _ _ (by omega) (by omega) (by omega) (by simpa using this)
  have m1 : 0 < m := by
    by_cases z : 0 < m
    · exact z
    · have h1 := mf' (sa + na) (by omega) (by omega)
      have h2 := kf' (sa + na - 1) (by omega) (by omega)
      rw [O.asy _ _ (hp.inb (by omega)) (hp.inb (by omega)) h2] at h1
      cases h1
  dsimp -zeta only
  rw [if_neg (by simp; omega)]
  have T : Two n lt (p.extract (sa + k) (sa + na)) (p.extract (sa + na) (sa + na + m)) := by
    have z1 : (p.extract (sa + k) (sa + na)).size = na - k := by rw [Array.size_extract]; omega
    have z2 : (p.extract (sa + na) (sa + na + m)).size = m := by rw [Array.size_extract]; omega
    refine ⟨O, fun x hx => ?_, fun x hx => ?_, fun x y hxy hy => ?_, fun x y hxy hy => ?_, fun x y hx hy => ?_⟩
    · rw [ext_at (by omega) (by omega)]; exact hp.inb (by omega)
    · rw [ext_at (by omega) (by omega)]; exact hp.inb (by omega)
    · rw [ext_at (by omega) (by omega), ext_at (by omega) (by omega)]; exact S1 _ _ (by omega) (by omega) (by omega)
    · rw [ext_at (by omega) (by omega), ext_at (by omega) (by omega)]; exact S2 _ _ (by omega) (by omega) (by omega)
    · rw [ext_at (by omega) (by omega), ext_at (by omega) (by omega)]
      intro e
      have := hp.inj (by omega) (by omega) e
      omega
  have z1 : (p.extract (sa + k) (sa + na)).size = na - k := by rw [Array.size_extract]; omega
  have z2 : (p.extract (sa + na) (sa + na + m)).size = m := by rw [Array.size_extract]; omega
  have first : lt (at_ (p.extract (sa + na) (sa + na + m)) 0) (at_ (p.extract (sa + k) (sa + na)) 0) = true := by
    rw [ext_at (by omega) (by omega), ext_at (by omega) (by omega)]
    exact kf' _ (by omega) (by omega)
  have last : ∀ i, i < (p.extract (sa + na) (sa + na + m)).size → lt (at_ (p.extract (sa + na) (sa + na + m)) i) (at_ (p.extract (sa + k) (sa + na)) ((p.extract (sa + k) (sa + na)).size - 1)) = true := fun i hi => by
    rw [z1, ext_at (by omega) (by omega), ext_at (by omega) (by omega), show sa + k + (na - k - 1) = sa + na - 1 by omega]
    exact mt' _ (by omega) (by omega)
  have fin : ∀ (o : Array Keyed) (g : Nat), MgEnd it lt (p.extract (sa + k) (sa + na)) (p.extract (sa + na) (sa + na + m)) o → kasC (model prog w) A E (do
      modify fun z => setArr z (o.toList.zipIdx.foldl (fun a (p, j) => a.setIfInBounds (sa + k + j) p) (arrOf z))
      return (failedOf (← get)).isNone) Q (SS κ it p pend' g) s := by
    rintro _ g ⟨o, rfl, pm, so⟩
    refine kasC_bind (kasC_modify (kasC_bind (kasC_get (kasC_pure ?_))))
    have el : (p.extract (sa + k) (sa + na)).toList ++ (p.extract (sa + na) (sa + na + m)).toList = (p.toList.take (sa + na + m)).drop (sa + k) := by
      have e2 := List.take_append_drop (sa + na) (p.toList.take (sa + na + m))
      rw [List.take_take, Nat.min_eq_left (by omega)] at e2
      have e3 := congrArg (List.drop (sa + k)) e2
      rw [List.drop_append_of_le_length (by rw [List.length_take, Array.length_toList]; omega)] at e3
      rw [extd, extd]
      exact e3
    have zo : o.size = na - k + m := by
      have := pm.length_eq
      rw [List.length_append, Array.length_toList, Array.length_toList, Array.length_toList, z1, z2] at this
      exact this
    have hp' : Pm n (layAt (sa + k) o.toList.zipIdx p) := lay_pm hp (d := sa + na + m) (by omega) (by omega) (by omega) (by rw [← el]; exact pm)
    have ha : ∀ x, x < n → at_ (layAt (sa + k) o.toList.zipIdx p) x = if sa + k ≤ x ∧ x < sa + na + m then at_ o (x - (sa + k)) else at_ p x := fun x hx => by
      rw [lay_at (by omega), zo]
      by_cases e : sa + k ≤ x ∧ x < sa + na + m
      · rw [if_pos e, if_pos (by omega)]
      · rw [if_neg e, if_neg (by omega)]
    have mo : ∀ t, t < o.size → ∃ y, sa + k ≤ y ∧ y < sa + na + m ∧ at_ o t = at_ p y := fun t ht => by
      have : at_ o t ∈ o.toList := by rw [at_eq ht]; simp
      have := pm.mem_iff.mp this
      rw [el] at this
      obtain ⟨y, y1, y2, _, e⟩ := mem_tkd this
      exact ⟨y, y1, y2, e⟩
    have so := pw_up so
    show Q true (SortSt.mk' κ (layAt (sa + k) (im it o).toList.zipIdx (im it p)) pend' g none) s
    rw [lay_im]
    refine r _ g hp' (fun x y x1 x2 x3 => ?_) fun x hx h => ?_
    · rw [ha x (by omega), ha y (by omega)]
      by_cases i1 : x < sa + k
      · rw [if_neg (by omega)]
        by_cases j1 : sa + k ≤ y ∧ y < sa + na + m
        · rw [if_pos j1]
          obtain ⟨z, q1, q2, e⟩ := mo (y - (sa + k)) (by omega)
          rw [e]
          by_cases k1 : z < sa + na
          · exact S1 x z x1 (by omega) k1
          · exact low x z x1 i1 (by omega) (by omega)
        · rw [if_neg j1]
          by_cases k1 : y < sa + k
          · exact S1 x y x1 x2 (by omega)
          · exact low x y x1 i1 (by omega) x3
      · by_cases j1 : y < sa + na + m
        · rw [if_pos (by omega), if_pos (by omega)]
          exact so _ _ (by omega) (by omega)
        · rw [if_neg (show ¬ (sa + k ≤ y ∧ y < sa + na + m) by omega)]
          by_cases i2 : x < sa + na + m
          · rw [if_pos (by omega)]
            obtain ⟨z, q1, q2, e⟩ := mo (x - (sa + k)) (by omega)
            rw [e]
            by_cases k1 : z < sa + na
            · by_cases k2 : z = sa + na - 1
              · rw [k2]; exact mf' y (by omega) x3
              · exact tr z (sa + na - 1) y (by omega) (by omega) (by omega) (S1 _ _ (by omega) (by omega) (by omega)) (mf' y (by omega) x3)
            · exact S2 z y (by omega) (by omega) x3
          · rw [if_neg (by omega)]
            exact S2 x y (by omega) x2 x3
    · rw [ha x hx, if_neg (by omega)]
  extract_lets -underBinder +onlyGivenNames -merge x y
  have ex : x = im it (p.extract (sa + k) (sa + na)) := im_ext _ _
  have ey : y = im it (p.extract (sa + na) (sa + na + m)) := im_ext _ _
  clear_value x y
  subst ex ey
  extract_lets -underBinder +onlyGivenNames -merge jp
  refine kasC_ite (fun _ => kasC_bind ?_) (fun _ => kasC_bind ?_)
  · exact mlo_rule T hc (by omega) (by omega) first last fun o g ho => fin o g ho
  · exact mhi_rule T hc (by omega) (by omega) first last fun o g ho => fin o g ho
end
end L2

namespace L2
open PySem PySem.Spec PyProof.Rows PySem.NumText PySem.W
/-! ### runs that begin anywhere -/
section
variable {M : Model} {A : Around} {E : Value → Shared → Prop} {σ : Type}
theorem kasC_loopR {β : Type} {s : Shared} {a n : Nat} {b : β} {f : Nat → β → StateT σ Sem (ForInStep β)} {Q : β → σ → Shared → Prop} {st : σ} (I : Nat → β → σ → Prop) (D : β → σ → Prop) (h0 : I a b st)
    (step : ∀ k b st, a ≤ k → k < n → I k b st → kasC M A E (f k b) (fun r st' s' => s' = s ∧ StepP (I (k + 1)) D r st') st s)
    (fin : ∀ b st, I (max a n) b st ∨ D b st → Q b st s) : kasC M A E (forIn [a:n] b f) Q st s := by
  refine kasC_range ?_
  have go : ∀ (g k : Nat) (b : β) (st : σ), a ≤ k → k + g = max a n → I k b st → kasC M A E (forIn (List.range' k g) b f) Q st s := by
    intro g
    induction g with
    | zero =>
      intro k b st ha hk h
      obtain rfl : k = max a n := by omega
      exact kasC_nil (fin _ _ (.inl h))
    | succ g ih =>
      intro k b st ha hk h
      rw [List.range'_succ]
      refine kasC_cons (kasC_mono (step k b st ha (by omega) h) fun r st' s' hr => ?_)
      obtain ⟨rfl, hr⟩ := hr
      cases r with
      | done b' => exact fin _ _ (.inr hr)
      | yield b' => exact ih (k + 1) b' st' (by omega) (by omega) hr
  exact go (n - a) a b st (Nat.le_refl _) (by omega) h0
end
section
variable {prog : Program} {w : World} {A : Around} {E : Value → Shared → Prop} {κ : SortKind} {it : Array Keyed} {n : Nat} {lt : Nat → Nat → Bool} {s : Shared} {p : Array Nat} {pend : Array (Nat × Nat × Nat)} {g : Nat}
theorem at_rule {i j : Nat} {Q : Option Bool → SortSt → Shared → Prop} (hc : Asks n s (kas_cmp prog w A κ it) lt) (hp : Pm n p) (hi : i < n) (hj : j < n) (h : Q (some (lt (at_ p i) (at_ p j))) (SS κ it p pend g) s) : kasC (model prog w) A E (ltAt' i j) Q (SS κ it p pend g) s := by
  rw [ltAt'_eq]
  refine kasC_bind (kasC_get ?_)
  have hz := hp.size
  exact kasC_bind (el_rule (q := p) (by omega) (kasC_bind (el_rule (q := p) (by omega) (lt_rule rfl hc (hp.inb hi) (hp.inb hj) h))))
theorem rev_rule {i j : Nat} {Q : Unit → SortSt → Shared → Prop} (h : Q () (SS κ it (kas_rev p i j) pend g) s) : kasC (model prog w) A E (reverseSlice' i j) Q (SS κ it p pend g) s := by
  rw [reverseSlice'_eq]
  refine kasC_modify ?_
  have e1 : mirror (p.map (kas_item it)) i j ((j - i) / 2) = (mirror p i j ((j - i) / 2)).map (kas_item it) := kas_swaps_map (kas_item it) (fun k => i + k) (fun k => j - 1 - k) _ p
  show Q () (SortSt.mk' κ (mirror (p.map (kas_item it)) i j ((j - i) / 2)) pend g none) s
  rw [e1]
  exact h
theorem move_rule {k l : Nat} {Q : Unit → SortSt → Shared → Prop} (h : Q () (SS κ it (bubble p k (k - l)) pend g) s) : kasC (model prog w) A E (moveDown' k l) Q (SS κ it p pend g) s := by
  rw [moveDown'_eq]
  refine kasC_modify ?_
  have e1 : bubble (p.map (kas_item it)) k (k - l) = (bubble p k (k - l)).map (kas_item it) := kas_swaps_map (kas_item it) (fun i => k - i) (fun i => k - i - 1) _ p
  show Q () (SortSt.mk' κ (bubble (p.map (kas_item it)) k (k - l)) pend g none) s
  rw [e1]
  exact h
theorem revs_at (h : Pm n p) {i j : Nat} (hj : j ≤ n) {k : Nat} : at_ (kas_rev p i j) k = if i ≤ k ∧ k < j then at_ p (i + j - 1 - k) else at_ p k := by
  have hs := h.size
  have := getElem?_mirror_all (xs := p) (i := i) (j := j) (by omega) k
  unfold at_
  rw [Array.getD_eq_getD_getElem?, kas_rev, this]
  by_cases hkm : i ≤ k ∧ k < j
  · rw [if_pos hkm, if_pos hkm, Array.getD_eq_getD_getElem?]
  · rw [if_neg hkm, if_neg hkm, Array.getD_eq_getD_getElem?]
theorem seg_chain {l r : Nat} (O : Ord n lt) (h : Pm n p) (hr : r ≤ n) (c : ∀ k, l < k → k < r → lt (at_ p (k - 1)) (at_ p k) = true) : Seg lt p l r := by
  intro i j hi hij hj
  induction j with
  | zero => omega
  | succ j ih =>
    have h1 := c (j + 1) (by omega) hj
    rw [Nat.add_sub_cancel] at h1
    by_cases e : i = j
    · rw [e]; exact h1
    · exact O.tr _ _ _ (h.inb (by omega)) (h.inb (by omega)) (h.inb (by omega)) (ih (by omega) (by omega)) h1
theorem Pm.tri (h : Pm n p) (O : Ord n lt) {i j : Nat} (hi : i < n) (hj : j < n) (ne : i ≠ j) (e : lt (at_ p i) (at_ p j) = false) : lt (at_ p j) (at_ p i) = true := O.tri _ _ (h.inb hi) (h.inb hj) (fun z => ne (h.inj hi hj z)) e
theorem count_rule {lo m : Nat} {Q : Option Nat → SortSt → Shared → Prop} (O : Ord n lt) (hc : Asks n s (kas_cmp prog w A κ it) lt) (hp : Pm n p) (m1 : 1 ≤ m) (hm : lo + m ≤ n)
    (r : ∀ k p', 1 ≤ k → k ≤ m → Pm n p' → Seg lt p' lo (lo + k) → (∀ x, x < lo → at_ p' x = at_ p x) → Q (some k) (SS κ it p' pend g) s) : kasC (model prog w) A E (countRun' lo m) Q (SS κ it p pend g) s := by
  rw [countRun'_eq]
  extract_lets -underBinder +onlyGivenNames -merge c1
  have ec : c1 = 1 := rfl
  clear_value c1
  subst ec
  -- rising
  have asc : ∀ (p : Array Nat) (a : Nat) (f : Nat → Option (Option Nat) × Nat → StateT SortSt Sem (ForInStep (Option (Option Nat) × Nat))) (R : Option (Option Nat) × Nat → SortSt → Shared → Prop), Pm n p → 1 ≤ a → a ≤ m → Seg lt p lo (lo + a) →
      (∀ x k R, 1 ≤ k → k < m → (lt (at_ p (lo + k)) (at_ p (lo + k - 1)) = true → R (.done (none, k)) (SS κ it p pend g) s) → (lt (at_ p (lo + k)) (at_ p (lo + k - 1)) = false → R (.yield (none, k + 1)) (SS κ it p pend g) s) → kasC (model prog w) A E (f x (none, k)) R (SS κ it p pend g) s) →
      (∀ k, a ≤ k → k ≤ m → Seg lt p lo (lo + k) → (k < m → lt (at_ p (lo + k)) (at_ p (lo + k - 1)) = true) → R (none, k) (SS κ it p pend g) s) → kasC (model prog w) A E (forIn [a:m] (none, a) f) R (SS κ it p pend g) s := by
    intro p a f R hp a1 am sg hf hR
    refine kasC_loopR (I := fun k t st => st = SS κ it p pend g ∧ t = (none, k) ∧ a ≤ k ∧ k ≤ m ∧ Seg lt p lo (lo + k)) (D := fun t st => st = SS κ it p pend g ∧ ∃ k, t = (none, k) ∧ a ≤ k ∧ k ≤ m ∧ Seg lt p lo (lo + k) ∧ (k < m → lt (at_ p (lo + k)) (at_ p (lo + k - 1)) = true)) ⟨rfl, rfl, Nat.le_refl _, am, sg⟩ ?_ ?_
    · rintro k _ _ k1 k2 ⟨rfl, rfl, k3, k4, sg⟩
      refine hf _ _ _ (by omega) k2 (fun e => ⟨rfl, rfl, k, rfl, k3, k4, sg, fun _ => e⟩) fun e => ⟨rfl, rfl, rfl, by omega, by omega, ?_⟩
      refine seg_chain O hp (by omega) fun y y1 y2 => ?_
      by_cases ey : y = lo + k
      · rw [ey]; exact hp.tri O (by omega) (by omega) (by omega) e
      · exact sg _ _ (by omega) (by omega) (by omega)
    · rintro _ _ (⟨rfl, rfl, k3, k4, sg⟩ | ⟨rfl, k, rfl, k3, k4, sg, e⟩)
      · exact hR _ k3 k4 sg fun z => by omega
      · exact hR k k3 k4 sg e
  refine kasC_bind (asc p 1 _ _ hp (Nat.le_refl _) m1 (fun x y x1 x2 x3 => by omega) ?_ ?_)
  · intro x k R k1 k2 h1 h2
    dsimp only
    refine kasC_bind (at_rule hc hp (by omega) (by omega) ?_)
    cases e : lt (at_ p (lo + k)) (at_ p (lo + k - 1)) with
    | true => exact kasC_pure (h1 e)
    | false => exact kasC_pure (h2 e)
  intro k k1 km sg hk
  dsimp only
  by_cases e1 : (k == m) = true
  · rw [if_pos e1]
    exact kasC_pure (r k p k1 km hp sg fun _ _ => rfl)
  rw [if_neg e1]
  have e1 : k ≠ m := by simpa using e1
  by_cases e2 : k > 1
  · rw [if_pos e2]
    refine kasC_bind (at_rule hc hp (by omega) (by omega) ?_)
    rw [sg lo (lo + k - 1) (Nat.le_refl _) (by omega) (by omega)]
    exact kasC_pure (r k p k1 km hp sg fun _ _ => rfl)
  rw [if_neg e2]
  obtain rfl : k = 1 := by omega
  -- falling
  refine kasC_bind (kasC_lift (wpAny_rule ?_))
  refine kasC_bind (kasC_loopR (I := fun k t st => st = SS κ it p pend g ∧ t = (none, k, 0) ∧ 2 ≤ k ∧ k ≤ m ∧ ∀ y, lo < y → y < lo + k → lt (at_ p y) (at_ p (y - 1)) = true) (D := fun t st => st = SS κ it p pend g ∧ ∃ k, t = (none, k, 0) ∧ 2 ≤ k ∧ k ≤ m ∧ ∀ y, lo < y → y < lo + k → lt (at_ p y) (at_ p (y - 1)) = true)
    ⟨rfl, rfl, Nat.le_refl _, by omega, fun y y1 y2 => by
      obtain rfl : y = lo + 1 := by omega
      exact hk (by omega)⟩ ?_ ?_)
  · rintro k _ _ k1 k2 ⟨rfl, rfl, k3, k4, hd⟩
    dsimp only
    refine kasC_bind (at_rule hc hp (by omega) (by omega) ?_)
    cases e : lt (at_ p (lo + k)) (at_ p (lo + k - 1)) with
    | true =>
      dsimp only
      rw [if_pos rfl, if_neg (by decide)]
      refine kasC_pure ⟨rfl, rfl, rfl, by omega, by omega, fun y y1 y2 => ?_⟩
      by_cases ey : y = lo + k
      · rw [ey]; exact e
      · exact hd y y1 (by omega)
    | false =>
      dsimp only
      rw [if_neg (by decide)]
      refine kasC_bind (at_rule hc hp (by omega) (by omega) ?_)
      rw [hp.tri O (by omega) (by omega) (by omega) e]
      exact kasC_pure ⟨rfl, rfl, k, rfl, k3, k4, hd⟩
  · intro t st ht0
    obtain ⟨rfl, k, rfl, k3, k4, hd⟩ : st = SS κ it p pend g ∧ ∃ k, t = (none, k, 0) ∧ 2 ≤ k ∧ k ≤ m ∧ ∀ y, lo < y → y < lo + k → lt (at_ p y) (at_ p (y - 1)) = true := by
      rcases ht0 with ⟨rfl, rfl, z⟩ | z
      · exact ⟨rfl, _, rfl, z⟩
      · exact z
    dsimp only
    rw [if_neg (by decide)]
    refine kasC_bind (rev_rule ?_)
    have hp' : Pm n (kas_rev p lo (lo + k)) := pm_of_perm hp (mirror_perm _ _ _ _)
    have sg' : Seg lt (kas_rev p lo (lo + k)) lo (lo + k) := seg_chain O hp' (by omega) fun y y1 y2 => by
      rw [revs_at hp (by omega), revs_at hp (by omega), if_pos (by omega), if_pos (by omega)]
      have := hd (lo + (lo + k) - 1 - (y - 1)) (by omega) (by omega)
      rw [show lo + (lo + k) - 1 - (y - 1) - 1 = lo + (lo + k) - 1 - y by omega] at this
      exact this
    have old : ∀ x, x < lo → at_ (kas_rev p lo (lo + k)) x = at_ p x := fun x hx => by rw [revs_at hp (by omega), if_neg (by omega)]
    generalize kas_rev p lo (lo + k) = p' at hp' sg' old ⊢
    refine kasC_bind (asc p' k _ _ hp' (by omega) k4 sg' ?_ ?_)
    · intro x k R k1 k2 h1 h2
      dsimp only
      refine kasC_bind (at_rule hc hp' (by omega) (by omega) ?_)
      cases e : lt (at_ p' (lo + k)) (at_ p' (lo + k - 1)) with
      | true => exact kasC_pure (h1 e)
      | false => exact kasC_pure (h2 e)
    · intro j j1 jm sg _
      exact kasC_pure (r j p' (by omega) jm hp' sg old)
theorem bins_rule {lo m ok : Nat} {Q : Bool → SortSt → Shared → Prop} (O : Ord n lt) (hc : Asks n s (kas_cmp prog w A κ it) lt) (hp : Pm n p) (ok1 : 1 ≤ ok) (okm : ok ≤ m) (hm : lo + m ≤ n) (sg : Seg lt p lo (lo + ok))
    (r : ∀ p', Pm n p' → Seg lt p' lo (lo + m) → (∀ x, x < lo → at_ p' x = at_ p x) → Q true (SS κ it p' pend g) s) : kasC (model prog w) A E (binarySort' lo m ok) Q (SS κ it p pend g) s := by
  rw [binarySort'_eq]
  refine kasC_bind (kasC_loopR (I := fun k t st => ∃ p', st = SS κ it p' pend g ∧ t = (none, ()) ∧ Pm n p' ∧ Seg lt p' lo (lo + k) ∧ ∀ x, x < lo → at_ p' x = at_ p x) (D := fun _ _ => False) ⟨p, rfl, rfl, hp, by rw [show max ok 1 = ok by omega]; exact sg, fun _ _ => rfl⟩ ?_ ?_)
  · rintro k _ _ k1 k2 ⟨p, rfl, rfl, hp, sg, old⟩
    dsimp only
    refine kasC_bind (kasC_loop (I := fun j t st => st = SS κ it p pend g ∧ ∃ a b, t = (none, a, b) ∧ a ≤ b ∧ b ≤ k ∧ b - a + j ≤ k ∧ (∀ x, x < a → lt (at_ p (lo + x)) (at_ p (lo + k)) = true) ∧ ∀ x, b ≤ x → x < k → lt (at_ p (lo + k)) (at_ p (lo + x)) = true)
      (D := fun t st => st = SS κ it p pend g ∧ ∃ a, t = (none, a, a) ∧ a ≤ k ∧ (∀ x, x < a → lt (at_ p (lo + x)) (at_ p (lo + k)) = true) ∧ ∀ x, a ≤ x → x < k → lt (at_ p (lo + k)) (at_ p (lo + x)) = true) ⟨rfl, 0, k, rfl, by omega, by omega, by omega, fun x hx => by omega, fun x h1 h2 => by omega⟩ ?_ ?_)
    · rintro x j _ _ hj ⟨rfl, a, b, rfl, ab, bk, bj, h1, h2⟩
      dsimp only
      by_cases e : a ≥ b
      · rw [if_pos e]
        obtain rfl : a = b := by omega
        exact kasC_pure ⟨rfl, rfl, a, rfl, bk, h1, h2⟩
      rw [if_neg e]
      refine kasC_bind (at_rule hc hp (by omega) (by omega) ?_)
      have hmid : (a + b) / 2 < b ∧ a ≤ (a + b) / 2 := by omega
      generalize (a + b) / 2 = mid at hmid ⊢
      cases em : lt (at_ p (lo + k)) (at_ p (lo + mid)) with
      | true =>
        dsimp only
        rw [if_pos rfl]
        refine kasC_pure ⟨rfl, rfl, a, mid, rfl, by omega, by omega, by omega, h1, fun x x1 x2 => ?_⟩
        by_cases ex : x = mid
        · rw [ex]; exact em
        · exact O.tr _ _ _ (hp.inb (by omega)) (hp.inb (k := lo + mid) (by omega)) (hp.inb (by omega)) em (sg _ _ (by omega) (by omega) (by omega))
      | false =>
        dsimp only
        rw [if_neg (by decide)]
        have e2 := hp.tri O (by omega) (by omega) (by omega) em
        refine kasC_pure ⟨rfl, rfl, mid + 1, b, rfl, by omega, bk, by omega, fun x x1 => ?_, h2⟩
        by_cases ex : x = mid
        · rw [ex]; exact e2
        · exact O.tr _ _ _ (hp.inb (by omega)) (hp.inb (k := lo + mid) (by omega)) (hp.inb (by omega)) (sg _ _ (by omega) (by omega) (by omega)) e2
    · intro t st ht0
      obtain ⟨rfl, a, rfl, ak, h1, h2⟩ : st = SS κ it p pend g ∧ ∃ a, t = (none, a, a) ∧ a ≤ k ∧ (∀ x, x < a → lt (at_ p (lo + x)) (at_ p (lo + k)) = true) ∧ ∀ x, a ≤ x → x < k → lt (at_ p (lo + k)) (at_ p (lo + x)) = true := by
        rcases ht0 with ⟨rfl, a, b, rfl, ab, bk, bj, z⟩ | z
        · obtain rfl : a = b := by omega
          exact ⟨rfl, a, rfl, bk, z⟩
        · exact z
      dsimp only
      refine kasC_bind (move_rule (kasC_pure ⟨rfl, _, rfl, rfl, pm_of_perm hp (bubble_perm _ _ _), ?_, fun x hx => ?_⟩))
      · intro i j i1 i2 i3
        rw [bub_at hp (by omega) (by omega) (by omega), bub_at hp (by omega) (by omega) (by omega)]
        by_cases c1 : i < lo + a
        · rw [if_pos c1]
          by_cases c2 : j < lo + a
          · rw [if_pos c2]; exact sg _ _ i1 i2 (by omega)
          · rw [if_neg c2]
            by_cases c3 : j = lo + a
            · rw [if_pos c3]
              have := h1 (i - lo) (by omega)
              rw [show lo + (i - lo) = i by omega] at this
              exact this
            · rw [if_neg c3, if_pos (by omega)]; exact sg _ _ i1 (by omega) (by omega)
        · rw [if_neg c1, if_neg (show ¬ j < lo + a by omega), if_neg (show ¬ j = lo + a by omega), if_pos (show j ≤ lo + k by omega)]
          by_cases c2 : i = lo + a
          · rw [if_pos c2]
            have := h2 (j - 1 - lo) (by omega) (by omega)
            rw [show lo + (j - 1 - lo) = j - 1 by omega] at this
            exact this
          · rw [if_neg c2, if_pos (by omega)]; exact sg _ _ (by omega) (by omega) (by omega)
      · rw [bub_at hp (by omega) (by omega) (by omega), if_pos (by omega)]
        exact old x hx
  · rintro _ _ (⟨p', rfl, rfl, hp', sg', old⟩ | h)
    · rw [show max (max ok 1) m = m by omega] at sg'
      exact kasC_pure (r p' hp' sg' old)
    · exact h.elim
end
end L2

namespace L2
open PySem PySem.Spec PyProof.Rows PySem.NumText PySem.W
/-! ### all runs, merged: the whole sort -/
section
variable {n : Nat} {lt : Nat → Nat → Bool} {p p' : Array Nat}
/-- runs in order that stand side by side from a to b -/
noncomputable def Cov (lt : Nat → Nat → Bool) (p : Array Nat) : List (Nat × Nat × Nat) → Nat → Nat → Prop
  | [], a, b => a = b
  | z :: l, a, b => z.1 = a ∧ 0 < z.2.1 ∧ Seg lt p a (a + z.2.1) ∧ Cov lt p l (a + z.2.1) b
theorem cov_le {l : List (Nat × Nat × Nat)} : ∀ {a b : Nat}, Cov lt p l a b → a + l.length ≤ b := by
  induction l with
  | nil => intro a b h; exact Nat.le_of_eq h
  | cons z l ih =>
    intro a b h
    have := ih h.2.2.2
    have := h.2.1
    rw [List.length_cons]
    omega
theorem cov_of {l : List (Nat × Nat × Nat)} : ∀ {a b : Nat}, Cov lt p l a b → (∀ x, a ≤ x → x < b → at_ p' x = at_ p x) → Cov lt p' l a b := by
  induction l with
  | nil => intro a b h _; exact h
  | cons z l ih =>
    intro a b h e
    have := cov_le h.2.2.2
    have := h.2.1
    exact ⟨h.1, h.2.1, h.2.2.1.of fun x x1 x2 => e x x1 (by omega), ih h.2.2.2 fun x x1 x2 => e x (by omega) x2⟩
theorem cov_app {l2 : List (Nat × Nat × Nat)} {b : Nat} {l1 : List (Nat × Nat × Nat)} : ∀ {a : Nat}, Cov lt p (l1 ++ l2) a b ↔ ∃ c, Cov lt p l1 a c ∧ Cov lt p l2 c b := by
  induction l1 with
  | nil =>
    intro a
    constructor
    · intro h; exact ⟨a, rfl, h⟩
    · rintro ⟨c, h1, h2⟩
      cases (show a = c from h1)
      exact h2
  | cons z l ih =>
    intro a
    constructor
    · intro h
      obtain ⟨c, h1, h2⟩ := ih.mp h.2.2.2
      exact ⟨c, ⟨h.1, h.2.1, h.2.2.1, h1⟩, h2⟩
    · rintro ⟨c, h1, h2⟩
      exact ⟨h1.1, h1.2.1, h1.2.2.1, ih.mpr ⟨c, h1.2.2.2, h2⟩⟩
theorem cov_mod {b pw : Nat} {l : List (Nat × Nat × Nat)} : ∀ {a i : Nat}, Cov lt p l a b → Cov lt p (l.modify i fun x => (x.1, x.2.1, pw)) a b := by
  induction l with
  | nil => intro a i h; rw [List.modify_nil]; exact h
  | cons z l ih =>
    intro a i h
    cases i with
    | zero => exact h
    | succ i => exact ⟨h.1, h.2.1, h.2.2.1, ih h.2.2.2⟩
theorem two_at {α : Type} {l : List α} {i : Nat} (h : i + 1 < l.length) : ∃ l1 x y l2, l = l1 ++ x :: y :: l2 ∧ l1.length = i :=
  ⟨l.take i, l[i], l[i + 1], l.drop (i + 2), by rw [← List.drop_eq_getElem_cons h, ← List.drop_eq_getElem_cons (by omega), List.take_append_drop], by rw [List.length_take]; omega⟩
end
section
variable {prog : Program} {w : World} {A : Around} {E : Value → Shared → Prop} {κ : SortKind} {it : Array Keyed} {n : Nat} {lt : Nat → Nat → Bool} {s : Shared} {p : Array Nat} {pend : Array (Nat × Nat × Nat)} {g : Nat}
theorem mcov_rule {i hi : Nat} {Q : Bool → SortSt → Shared → Prop} (O : Ord n lt) (hc : Asks n s (kas_cmp prog w A κ it) lt) (hp : Pm n p) (hcov : Cov lt p pend.toList 0 hi) (hn : hi ≤ n) (h : i + 1 < pend.size)
    (r : ∀ p' pend' g, Pm n p' → Cov lt p' pend'.toList 0 hi → pend'.size + 1 = pend.size → (∀ x, hi ≤ x → x < n → at_ p' x = at_ p x) → Q true (SS κ it p' pend' g) s) : kasC (model prog w) A E (mergeAt' i) Q (SS κ it p pend g) s := by
  obtain ⟨l1, ⟨sa, na, pw⟩, ⟨sb, nb, pw2⟩, l2, el, hl⟩ := two_at (l := pend.toList) (i := i) (by rw [Array.length_toList]; exact h)
  rw [el] at hcov
  obtain ⟨c, c1, c2⟩ := cov_app.mp hcov
  obtain ⟨e1, na1, S1, e2, nb1, S2, c3⟩ := c2
  dsimp only at e1 na1 S1 e2 nb1 S2 c3
  subst e1
  subst e2
  have hle := cov_le c3
  have hle1 := cov_le c1
  have h1 : pend[i]? = some (sa, na, pw) := by rw [← Array.getElem?_toList, el, List.getElem?_append_right (by omega), hl, Nat.sub_self]; rfl
  have h2 : pend[i + 1]? = some (sa + na, nb, pw2) := by rw [← Array.getElem?_toList, el, List.getElem?_append_right (by omega), hl, Nat.add_sub_cancel_left]; rfl
  refine mat_rule O hc hp h1 h2 na1 nb1 (by omega) S1 S2 fun p' g' hp' sg old => ?_
  have ep : ((pend.setIfInBounds i (sa, na + nb, pw)).eraseIdxIfInBounds (i + 1)).toList = l1 ++ (sa, na + nb, pw) :: l2 := by
    rw [Array.toList_eraseIdxIfInBounds, Array.toList_setIfInBounds, el, List.set_append_right _ _ (by omega), hl, Nat.sub_self, List.eraseIdx_append_of_length_le (by omega), hl, Nat.add_sub_cancel_left]
    rfl
  refine r p' _ g' hp' ?_ ?_ fun x x1 x2 => old x x2 (.inr (by omega))
  · rw [ep]
    refine cov_app.mpr ⟨sa, cov_of c1 fun x _ x2 => old x (by omega) (.inl x2), rfl, by show 0 < na + nb; omega, ?_, ?_⟩
    · show Seg lt p' sa (sa + (na + nb))
      rw [← Nat.add_assoc]; exact sg
    · show Cov lt p' l2 (sa + (na + nb)) hi
      rw [← Nat.add_assoc]
      exact cov_of c3 fun x x1 x2 => old x (by omega) (.inr x1)
  · have z1 := congrArg List.length ep
    have z2 := congrArg List.length el
    simp only [Array.length_toList, List.length_append, List.length_cons] at z1 z2
    omega
theorem runs_rule {Q : Unit → SortSt → Shared → Prop} (O : Ord n lt) (hc : Asks n s (kas_cmp prog w A κ it) lt) (hp : Pm n p) (h2 : 2 ≤ n) (r : ∀ p' pend g, Pm n p' → Up lt p' n → Q () (SS κ it p' pend g) s) : kasC (model prog w) A E sortRuns' Q (SS κ it p #[] g) s := by
  rw [sortRuns'_eq]
  refine kasC_bind (kasC_get ?_)
  have hz : (arrOf (SS κ it p #[] g)).size = n := by show (p.map (kas_item it)).size = n; rw [Array.size_map, hp.size]
  rw [hz]
  extract_lets -underBinder +onlyGivenNames -merge size mr lo0
  have es : size = n := rfl
  have el : lo0 = 0 := rfl
  clear_value size mr lo0
  subst es el
  refine kasC_bind (kasC_loop (I := fun k t st => ∃ p pend g lo, t = (none, lo) ∧ st = SS κ it p pend g ∧ Pm size p ∧ k ≤ lo ∧ lo ≤ size ∧ Cov lt p pend.toList 0 lo)
    (D := fun t st => ∃ p pend g, t = (none, size) ∧ st = SS κ it p pend g ∧ Pm size p ∧ Cov lt p pend.toList 0 size) ⟨p, #[], g, 0, rfl, rfl, hp, Nat.le_refl _, Nat.zero_le _, rfl⟩ ?_ ?_)
  · rintro x k _ _ hk ⟨p, pend, g, lo, rfl, rfl, hp, kl, lz, cov⟩
    extract_lets -underBinder +onlyGivenNames -merge lo1
    have el : lo1 = lo := rfl
    clear_value lo1
    subst el
    by_cases e : lo1 ≥ size
    · rw [if_pos e]
      obtain rfl : lo1 = size := by omega
      exact kasC_pure ⟨rfl, p, pend, g, rfl, rfl, hp, cov⟩
    rw [if_neg e]
    refine kasC_bind (count_rule O hc hp (by omega) (by omega) fun m p' m1 mm hp' sg old => ?_)
    replace cov : Cov lt p' pend.toList 0 lo1 := cov_of cov fun x _ x2 => old x x2
    clear hp old
    dsimp -zeta only
    extract_lets -underBinder +onlyGivenNames -merge n1 jp
    have H : ∀ (m : Nat) (p : Array Nat), 1 ≤ m → m ≤ size - lo1 → Pm size p → Seg lt p lo1 (lo1 + m) → Cov lt p pend.toList 0 lo1 → kasC (model prog w) A E (jp () m) (fun r st' s' => s' = s ∧ StepP (fun t st => ∃ p pend g lo, t = (none, lo) ∧ st = SS κ it p pend g ∧ Pm size p ∧ k + 1 ≤ lo ∧ lo ≤ size ∧ Cov lt p pend.toList 0 lo)
        (fun t st => ∃ p pend g, t = (none, size) ∧ st = SS κ it p pend g ∧ Pm size p ∧ Cov lt p pend.toList 0 size) r st') (SS κ it p pend g) s := by
      intro m p m1 mm hp sg cov
      dsimp -zeta only [jp]
      refine kasC_bind (kasC_get ?_)
      extract_lets -underBinder +onlyGivenNames -merge jp2
      have J : ∀ p pend g, Pm size p → Seg lt p lo1 (lo1 + m) → Cov lt p pend.toList 0 lo1 → kasC (model prog w) A E (jp2 ()) (fun r st' s' => s' = s ∧ StepP (fun t st => ∃ p pend g lo, t = (none, lo) ∧ st = SS κ it p pend g ∧ Pm size p ∧ k + 1 ≤ lo ∧ lo ≤ size ∧ Cov lt p pend.toList 0 lo)
          (fun t st => ∃ p pend g, t = (none, size) ∧ st = SS κ it p pend g ∧ Pm size p ∧ Cov lt p pend.toList 0 size) r st') (SS κ it p pend g) s := by
        intro p pend g hp sg cov
        dsimp only [jp2]
        refine kasC_bind (kasC_modify (kasC_pure ⟨rfl, p, pend.push (lo1, m, 0), g, lo1 + m, rfl, rfl, hp, by omega, by omega, ?_⟩))
        rw [Array.toList_push]
        exact cov_app.mpr ⟨lo1, cov, rfl, m1, sg, rfl⟩
      clear_value jp2
      show kasC _ _ _ (match pend.back? with | some (s1, n1, _) => _ | _ => _) _ _ _
      cases eb : pend.back? with
      | none => exact J p pend g hp sg cov
      | some z =>
        obtain ⟨s1, n1, pq⟩ := z
        dsimp -zeta only
        extract_lets -underBinder +onlyGivenNames -merge pw
        clear_value pw
        refine kasC_bind (kasC_loop (I := fun k t st => ∃ p pend g, t = (none, ()) ∧ st = SS κ it p pend g ∧ Pm size p ∧ Seg lt p lo1 (lo1 + m) ∧ Cov lt p pend.toList 0 lo1) (D := fun t st => ∃ p pend g, t = (none, ()) ∧ st = SS κ it p pend g ∧ Pm size p ∧ Seg lt p lo1 (lo1 + m) ∧ Cov lt p pend.toList 0 lo1) ⟨p, pend, g, rfl, rfl, hp, sg, cov⟩ ?_ ?_)
        · rintro x k4 _ _ hk4 ⟨p, pend, g, rfl, rfl, hp, sg, cov⟩
          dsimp only
          refine kasC_bind (kasC_get ?_)
          show kasC _ _ _ (match (if pend.size > 1 then pend[pend.size - 2]? else none) with | some (_, _, older) => _ | _ => _) _ _ _
          by_cases e5 : pend.size > 1
          · rw [if_pos e5, Array.getElem?_eq_getElem (by omega)]
            dsimp only
            refine kasC_ite (fun _ => kasC_pure ⟨rfl, p, pend, g, rfl, rfl, hp, sg, cov⟩) (fun _ => ?_)
            refine kasC_bind (mcov_rule O hc hp cov lz (show pend.size - 2 + 1 < pend.size by omega) fun p' pend' g' hp' cov' _ old => ?_)
            exact kasC_pure ⟨rfl, p', pend', g', rfl, rfl, hp', sg.of (fun x x1 x2 => old x x1 (by omega)), cov'⟩
          · rw [if_neg e5]
            exact kasC_pure ⟨rfl, p, pend, g, rfl, rfl, hp, sg, cov⟩
        · intro t st ht0
          obtain ⟨p, pend, g, rfl, rfl, hp, sg, cov⟩ : ∃ p pend g, t = (none, ()) ∧ st = SS κ it p pend g ∧ Pm size p ∧ Seg lt p lo1 (lo1 + m) ∧ Cov lt p pend.toList 0 lo1 := ht0.elim id id
          dsimp only
          refine kasC_bind (kasC_modify ?_)
          refine J p (pend.modify (pend.size - 1) fun x => (x.1, x.2.1, pw)) g hp sg ?_
          rw [Array.toList_modify]
          exact cov_mod cov
    clear_value jp
    have en : n1 = m := rfl
    clear_value n1
    subst en
    refine kasC_ite (fun hlt => ?_) (fun _ => H n1 p' m1 mm hp' sg cov)
    refine kasC_bind (kasC_lift (wpAny_rule ?_))
    extract_lets -underBinder +onlyGivenNames -merge force
    have ef : force = min (size - lo1) mr := rfl
    clear_value force
    refine kasC_bind (bins_rule O hc hp' m1 (by omega) (by omega) sg fun p'' hp'' sg'' old'' => ?_)
    rw [if_neg (by decide)]
    exact H force p'' (by omega) (by omega) hp'' sg'' (cov_of cov fun x _ x2 => old'' x x2)
  · intro t st ht0
    obtain ⟨p, pend, g, rfl, rfl, hp, cov⟩ : ∃ p pend g, t = (none, size) ∧ st = SS κ it p pend g ∧ Pm size p ∧ Cov lt p pend.toList 0 size := by
      rcases ht0 with ⟨p, pend, g, lo, rfl, rfl, hp, h1, h2, cov⟩ | h
      · obtain rfl : lo = size := by omega
        exact ⟨p, pend, g, rfl, rfl, hp, cov⟩
      · exact h
    have hps := cov_le cov
    rw [Array.length_toList, Nat.zero_add] at hps
    dsimp -zeta only
    extract_lets -underBinder +onlyGivenNames -merge r5
    have er : r5 = none := rfl
    clear_value r5
    subst er
    refine kasC_bind (kasC_loop (I := fun k t st => ∃ p pend g, t = (none, ()) ∧ st = SS κ it p pend g ∧ Pm size p ∧ pend.size + k ≤ size ∧ Cov lt p pend.toList 0 size) (D := fun t st => ∃ p pend g, t = (none, ()) ∧ st = SS κ it p pend g ∧ Pm size p ∧ pend.size ≤ 1 ∧ Cov lt p pend.toList 0 size) ⟨p, pend, g, rfl, rfl, hp, by omega, cov⟩ ?_ ?_)
    · rintro x k4 _ _ hk4 ⟨p, pend, g, rfl, rfl, hp, hs, cov⟩
      dsimp only
      refine kasC_bind (kasC_get ?_)
      refine kasC_ite (fun h1 => kasC_pure ⟨rfl, p, pend, g, rfl, rfl, hp, h1, cov⟩) (fun h1 => ?_)
      have h1 : ¬ pend.size ≤ 1 := h1
      refine kasC_bind (mcov_rule O hc hp cov (Nat.le_refl _) ?_ fun p' pend' g' hp' cov' hs' _ => ?_)
      · have ite2 : ∀ (c : Prop) [Decidable c], (if c then pend.size - 2 - 1 else pend.size - 2) + 1 < pend.size := fun c _ => by
          by_cases h : c
          · rw [if_pos h]; omega
          · rw [if_neg h]; omega
        exact ite2 _
      · exact kasC_pure ⟨rfl, p', pend', g', rfl, rfl, hp', by omega, cov'⟩
    · intro t st ht0
      obtain ⟨p, pend, g, rfl, rfl, hp, hs, cov⟩ : ∃ p pend g, t = (none, ()) ∧ st = SS κ it p pend g ∧ Pm size p ∧ pend.size ≤ 1 ∧ Cov lt p pend.toList 0 size := by
        rcases ht0 with ⟨p, pend, g, rfl, rfl, hp, hs, cov⟩ | h
        · exact ⟨p, pend, g, rfl, rfl, hp, by omega, cov⟩
        · exact h
      refine kasC_pure (r p pend g hp ?_)
      rw [← Array.length_toList] at hs
      cases epl : pend.toList with
      | nil =>
        rw [epl] at cov
        have : 0 = size := cov
        omega
      | cons z l =>
        rw [epl] at cov hs
        have hl : l = [] := List.eq_nil_of_length_eq_zero (by rw [List.length_cons] at hs; omega)
        subst hl
        have e6 : 0 + z.2.1 = size := cov.2.2.2
        intro i j hij hj
        exact cov.2.2.1 i j (Nat.zero_le _) hij (by omega)
end
end L2

namespace L2
open PySem PySem.Spec PyProof.Rows PySem.NumText PySem.W
section
variable {prog : Program} {w : World} {A : Around} {E : Value → Shared → Prop} {s : Shared} {a : Addr} {vs : List Value} {lt : Nat → Nat → Bool}
noncomputable abbrev outOf (vs : List Value) (p : Array Nat) : List Value := p.toList.map fun i => vs.getD i .none
theorem out_range (vs : List Value) : outOf vs (List.range vs.length).toArray = vs := by
  unfold outOf
  refine List.ext_getElem (by simp) fun i h1 h2 => ?_
  simp only [List.getElem_map, List.getElem_range]
  simp [h2]
/-- list.sort of things that are unlike, whatever they are: what comes of it -/
theorem sort_shell {c : Nat} {P : PySem.Fin → Shared → Prop} (ho : s.heap.get? a = some (seqObj "list" vs.toArray c)) (few : vs.length < 250) (O : Ord vs.length lt)
    (hk : 2 ≤ vs.length → ∀ h', (∀ b o, b ≠ a → s.heap.get? b = some o → h'.get? b = some o) → ∃ κ, (∀ (R : SortKind → Shared → Prop) (E' : Value → Shared → Prop), R κ { s with heap := h' } → wpAny (model prog w) A (keyKind' vs.toArray) R E' { s with heap := h' }) ∧ Asks vs.length { s with heap := h' } (kas_ask prog w A κ vs) lt)
    (h : ∀ (p : Array Nat) (h' : Heap) (c' : Nat), Pm vs.length p → Up lt p vs.length → h'.get? a = some (seqObj "list" (outOf vs p).toArray c') → (∀ b o, b ≠ a → s.heap.get? b = some o → h'.get? b = some o) → P (.done (.ret .none)) { s with heap := h' }) :
    wpAny (model prog w) A (Builtin.«list.sort» ⟨[.ref a], []⟩) P E s := by
  have la : a < s.heap.objs.size := Heap.lt_size ho
  have line : vs.length ≤ sizeLine := by rw [sizeLine_eq]; omega
  obtain ⟨e1, ho1⟩ : ∃ e1, (s.heap.update a (Obj.mapSeq fun _ => (#[] : Array Value))).get? a = some (seqObj "list" #[] e1) := ⟨_, get?_update_seq ho fun _ => #[]⟩
  generalize hh : ((s.heap.update a (Obj.mapSeq fun _ => (#[] : Array Value))).push (seqObj "tuple" vs.toArray 0)).push (seqObj "list" #[] 0) = h3
  have keep3 : ∀ b o, b ≠ a → s.heap.get? b = some o → h3.get? b = some o := fun b o nb q => by
    rw [← hh]
    refine Heap.get?_push_of_some _ (Heap.get?_push_of_some _ ?_)
    rw [Heap.get?_update_other _ _ (Ne.symm nb)]
    exact q
  have at3 : h3.get? a = some (seqObj "list" #[] e1) := by rw [← hh]; exact Heap.get?_push_of_some _ (Heap.get?_push_of_some _ ho1)
  -- the list is filled at the end
  have fin : ∀ (p : Array Nat), Pm vs.length p → Up lt p vs.length → P (.done (.ret .none)) { s with heap := h3.update a (Obj.mapSeq fun _ => (outOf vs p).toArray) } := fun p hp up => by
    obtain ⟨c2, hc2⟩ : ∃ c2, (h3.update a (Obj.mapSeq fun _ => (outOf vs p).toArray)).get? a = some (seqObj "list" (outOf vs p).toArray c2) := ⟨_, get?_update_seq at3 fun _ => (outOf vs p).toArray⟩
    refine h p _ c2 hp up hc2 fun b o nb q => ?_
    rw [Heap.get?_update_other _ _ (Ne.symm nb)]
    exact keep3 b o nb q
  rw [list_sort_plain]
  refine wpAny_bind (listItems_at ho rfl (wpAny_bind (listUpdate_at ho rfl ?_ (by rw [List.size_toArray]; exact line) (Nat.zero_le _))))
  refine wpAny_bind (seqEpoch_at ho1 rfl (wpAny_bind (wpAny_newTuple (wpAny_bind (wpAny_newList (wpAny_holding ?_) (Nat.zero_le _))) line)))
  show wpAny (model prog w) A _ P E { s with heap := ((s.heap.update a (Obj.mapSeq fun _ => (#[] : Array Value))).push (seqObj "tuple" vs.toArray 0)).push (seqObj "list" #[] 0) }
  rw [hh]
  dsimp only
  by_cases few2 : vs.toArray.size < 2
  · rw [if_pos few2, if_pos few2]
    refine wpAny_bind (wpAny_pure ?_)
    rw [StateT.run_pure]
    refine wpAny_bind (wpAny_pure ?_)
    dsimp only
    have hsz : vs.length < 2 := by simpa using few2
    have e : (arrOf (SortSt.mk' general' (vs.toArray.zip vs.toArray) #[] 7 none)).map (·.2) = (outOf vs (List.range vs.length).toArray).toArray := by
      rw [out_range]
      show (vs.toArray.zip vs.toArray).map (·.2) = vs.toArray
      refine Array.ext (by simp) fun i h1 h2 => ?_
      simp
    refine wpAny_bind (seqEpoch_at at3 rfl (wpAny_bind (listUpdate_at at3 rfl ?_ (Nat.zero_le _) ?_)))
    · simp only [bne_self_eq_false, Bool.false_eq_true, if_false]
      refine wpAny_pure ?_
      rw [e]
      exact fin _ range_pm fun i j hij hj => by omega
    · rw [e]
      simp only [outOf, List.size_toArray, List.length_map, List.length_range]
      omega
  · rw [if_neg few2, if_neg few2]
    have two : 2 ≤ vs.length := by
      have : ¬ vs.length < 2 := by simpa using few2
      omega
    obtain ⟨κ, kind, asks⟩ := hk two h3 keep3
    refine wpAny_bind (kind _ _ ?_)
    rw [kat_ask_eq (ks := vs) (vs := vs) rfl] at asks
    have run := runs_rule (E := E) (g := 7) (Q := fun _ st' s' => s' = { s with heap := h3 } ∧ ∃ p : Array Nat, Pm vs.length p ∧ Up lt p vs.length ∧ arrOf st' = p.map (kas_item (vs.toArray.zip vs.toArray)) ∧ failedOf st' = none) O asks (range_pm (n := vs.length)) two fun p' pend g hp up => ⟨rfl, p', hp, up, rfl, rfl⟩
    have er := kas_range (vs.toArray.zip vs.toArray)
    rw [show (vs.toArray.zip vs.toArray).size = vs.length by simp] at er
    unfold SS at run
    rw [er] at run
    refine wpAny_bind (wpAny_mono run ?_ fun _ _ e => e)
    rintro ⟨⟨⟩, st'⟩ s' ⟨rfl, p, hp, up, har, hf⟩
    have e := kat_snds rfl har
    dsimp only
    rw [e]
    refine wpAny_bind (seqEpoch_at at3 rfl (wpAny_bind (listUpdate_at at3 rfl ?_ (Nat.zero_le _) ?_)))
    · rw [hf]
      simp only [bne_self_eq_false, Bool.false_eq_true, if_false]
      exact wpAny_pure (fin p hp up)
    · rw [List.size_toArray, List.length_map, Array.length_toList, hp.size]
      omega
/-- sorted, behind what it collects -/
noncomputable def SortGo (prog : Program) (w : World) (A : Around) (vs : List Value) (s : Shared) (Q : Value → Shared → Prop) : Prop := ∃ lt, vs.length < 250 ∧ Ord vs.length lt ∧
  (2 ≤ vs.length → ∀ h', (∀ b o, s.heap.get? b = some o → h'.get? b = some o) → ∃ κ, (∀ (R : SortKind → Shared → Prop) (E' : Value → Shared → Prop), R κ { s with heap := h' } → wpAny (model prog w) A.in1.in1 (keyKind' vs.toArray) R E' { s with heap := h' }) ∧ Asks vs.length { s with heap := h' } (kas_ask prog w A.in1.in1 κ vs) lt) ∧
  ∀ (p : Array Nat) (h' : Heap) (l c : Nat), Pm vs.length p → Up lt p vs.length → s.heap.objs.size ≤ l → h'.get? l = some (seqObj "list" (outOf vs p).toArray c) → (∀ b o, s.heap.get? b = some o → h'.get? b = some o) → Q (.ref l) { s with heap := h' }
theorem sorted_shell {x : Value} {Q : Value → Shared → Prop} (hc : wpAny (model prog w) A.in1 (collect x) (fun us s1 => SortGo prog w A us s1 Q) E s) :
    wpAny (model prog w) A (call (.builtin "sorted") [x]) Q E s := by
  refine Calls.call_function_entry kind_sorted plain_sorted entry_sorted (args_sorted1 _) ?_
  unfold Builtin.«sorted»
  refine wpAny_bind (m := checkCount "sorted" 1 1 _) (wpAny_pure (wpAny_bind (wpAny_mono hc (fun us s1 hg => ?_) fun _ _ e => e)))
  obtain ⟨lt, few, O, hk, h⟩ := hg
  have line : us.length ≤ sizeLine := by rw [sizeLine_eq]; omega
  refine wpAny_bind (wpAny_newList ?_ line)
  have at2 : (s1.heap.push (seqObj "list" us.toArray 0)).get? s1.heap.objs.size = some (seqObj "list" us.toArray 0) := Heap.get?_push_size _ rfl
  have old : ∀ b o, s1.heap.get? b = some o → b ≠ s1.heap.objs.size := fun b o q => Nat.ne_of_lt (Heap.lt_size q)
  refine wpAny_bind (wpAny_holding (wpAny_call_entry slot_list_sort ⟨_, at2, rfl⟩ entry_list_sort (sort_shell at2 few O (fun two h' kp => hk two h' fun b o q => kp b o (old b o q) (Heap.get?_push_of_some _ q)) fun p h' c hp up hl kp => ⟨_, rfl, ?_⟩) (args_list_sort _)))
  exact wpAny_pure ⟨_, rfl, h p h' _ c hp up (Nat.le_refl _) hl fun b o q => kp b o (old b o q) (Heap.get?_push_of_some _ q)⟩
end
end L2

namespace L2
open PySem PySem.Spec PyProof.Rows PySem.NumText PySem.W
section
variable {prog : Program} {w : World} {A : Around} {E : Value → Shared → Prop} {s : Shared}
/-- two tuples in the sort's own order: that of the data -/
theorem katLex_data (hu : A.units + 70 < cLine) {b fin : Bool} {Q : Bool → Shared → Prop} : ∀ (ds es : List PyData) (us ws : List Value) (as bs : List Addr) (i : Nat) (c : Bool), ReadsAll s.heap us ds as → ReadsAll s.heap ws es bs →
    PyData.canLayAll0 ds = true → PyData.canLayAll0 es = true → PyData.depthAll ds ≤ 64 → (b = true → i = 0 → ∀ d e r t, ds = d :: r → es = e :: t → ∃ m n, d = .int m ∧ e = .int n) →
    fin = decide (us.length < ws.length) → ltDs ds es = some c → Q c s → KatLex prog w A b fin Q (us.zip ws) i s
  | [], [], _, _, _, _, i, c, .nil, .nil, _, _, _, _, hf, hc, hq => by
    cases hc
    subst hf
    exact kat_nil hq
  | [], e :: es, _, _, _, _, i, c, .nil, .cons r rr, _, _, _, _, hf, hc, hq => by
    cases hc
    subst hf
    refine kat_nil ?_
    simpa using hq
  | d :: ds, [], _, _, _, _, i, c, .cons r rr, .nil, _, _, _, _, hf, hc, hq => by
    cases hc
    subst hf
    rw [List.zip_nil_right]
    refine kat_nil ?_
    simpa using hq
  | d :: ds, e :: es, _, _, _, _, i, c, .cons (v := u) (vs := us) r rr, .cons (v := x) (vs := ws) q qq, la, lb, hd, hi, hf, hc, hq => by
    rw [PyData.canLayAll0, Bool.and_eq_true] at la lb
    rw [PyData.depthAll] at hd
    rw [ltDs] at hc
    have d1 : PyData.depth d ≤ 64 := by omega
    have d2 : PyData.depthAll ds ≤ 64 := by omega
    have hmin : min d.depth e.depth ≤ d.depth := Nat.min_le_left _ _
    refine kat_cons (SeqAt.eqAt_reads d e A s _ _ _ _ r q la.1 lb.1 (by omega) prog w _ _ ?_)
    cases he : PyData.eqv d e with
    | true =>
      rw [he, if_pos rfl] at hc
      refine kat_yes (katLex_data hu ds es us ws _ _ (i + 1) c rr qq la.2 lb.2 d2 (fun _ z => by omega) ?_ hc hq)
      rw [hf]
      exact decide_eq_decide.mpr (by simp)
    | false =>
      rw [he, if_neg Bool.false_ne_true] at hc
      refine kat_no ?_
      cases hb : (b && i == 0) with
      | false => exact kat_one _ _ ((cmpAt_data 64 d e c A s _ _ _ _ d1 r q la.1 lb.1 hc (by omega)).1 prog w _ _ (show PySem.W.BoolBack Q (.bool c) s from hq))
      | true =>
        rw [Bool.and_eq_true] at hb
        obtain ⟨m, n, rfl, rfl⟩ := hi hb.1 (by simpa using hb.2) d e ds es rfl rfl
        cases r
        cases q
        have hc : decide (m < n) = c := by simpa [ltD] using hc
        subst hc
        exact oneLt_int hq
/-- what the first items are -/
inductive FirstTy | int | tup
noncomputable def FirstTy.ty : FirstTy → Value
  | .int => .type "int"
  | .tup => .type "tuple"
noncomputable def FirstTy.of : FirstTy → PyData → Prop
  | .int, d => ∃ n, d = .int n
  | .tup, d => ∃ l, d = .tuple l
theorem reads_typeOf {h : Heap} {v : Value} {d : PyData} {as : List Addr} (r : Reads h v d as) {f : FirstTy} (hf : f.of d) : Looks (model prog w) h (typeOf v) f.ty := by
  cases f with
  | int =>
    obtain ⟨n, rfl⟩ := hf
    cases r
    exact fun A Q E s _ q => wpAny_pure q
  | tup =>
    obtain ⟨l, rfl⟩ := hf
    cases r with
    | tuple h1 h2 h3 h4 =>
      have := (show Looks (model prog w) h (typeOf (.ref _)) _ from (Looks.ld h1).andThen .now)
      rw [h2] at this
      exact this
theorem tups_of {prog : Program} {w : World} {h : Heap} {f : FirstTy} : ∀ {vs : List Value} {ds : List PyData} {as : List Addr}, ReadsAll h vs ds as → (∀ d ∈ ds, ∃ x r, d = .tuple (x :: r) ∧ f.of x) → ∃ fs, KatTups h vs fs ∧ fs.length = vs.length ∧ ∀ v ∈ fs, Looks (model prog w) h (typeOf v) f.ty
  | _, _, _, .nil, _ => ⟨[], trivial, rfl, fun _ z => nomatch z⟩
  | _, _, _, .cons r rr, hd => by
    obtain ⟨fs, k, l, t⟩ := tups_of (prog := prog) (w := w) rr fun d hm => hd d (List.mem_cons_of_mem _ hm)
    obtain ⟨x, rest, rfl, hx⟩ := hd _ List.mem_cons_self
    cases r with
    | @tuple a o vs n xs as h1 h2 h3 h4 =>
      have h4' := h4
      generalize hvs : vs.toList = vl at h4
      cases h4 with
      | @cons y ys _ _ _ _ ry rys =>
        refine ⟨y :: fs, ⟨⟨_, _, _, _, rfl, h1, h2, h3, ?_⟩, k⟩, by simp [l], fun v hv => ?_⟩
        · rw [← Array.getElem?_toList, hvs]; rfl
        · rcases List.mem_cons.mp hv with rfl | hv
          · exact reads_typeOf ry hx
          · exact t v hv
end
theorem readsAll_ix {h : Heap} : ∀ {vs : List Value} {ds : List PyData} {as : List Addr}, ReadsAll h vs ds as → ∀ {i : Nat} {d : PyData}, ds[i]? = some d → ∃ v bs, vs[i]? = some v ∧ Reads h v d bs
  | _, _, _, .nil, i, d, e => by simp at e
  | _, _, _, .cons r rr, 0, d, e => by
    have e := Option.some.inj e
    subst e
    exact ⟨_, _, rfl, r⟩
  | _, _, _, .cons r rr, i + 1, d, e => by
    obtain ⟨v, bs, h1, h2⟩ := readsAll_ix rr (i := i) (d := d) (by simpa using e)
    exact ⟨v, bs, by simpa using h1, h2⟩
theorem readsAll_len {h : Heap} : ∀ {vs : List Value} {ds : List PyData} {as : List Addr}, ReadsAll h vs ds as → vs.length = ds.length
  | _, _, _, .nil => rfl
  | _, _, _, .cons r rr => by rw [List.length_cons, List.length_cons, readsAll_len rr]
/-- what is sorted: things as told by tuples, in an order that tells any two apart -/
structure Srt {α : Type} (as : List α) (enc : α → List PyData) (lt : α → α → Bool) (f : FirstTy) : Prop where
  sto : STO lt
  few : as.length < 250
  nd : as.Nodup
  lts : ∀ a ∈ as, ∀ b ∈ as, ltDs (enc a) (enc b) = some (lt a b)
  fst : ∀ a ∈ as, ∃ x r, enc a = x :: r ∧ f.of x
  shp : ∀ a ∈ as, SeqAt.shaped (.tuple (enc a)) = true
section
variable {α : Type} {as : List α} {enc : α → List PyData} {lt : α → α → Bool} {f : FirstTy}
theorem Srt.ord (S : Srt as enc lt f) (d : α) : Ord as.length (fun i j => lt (as.getD i d) (as.getD j d)) where
  tr := fun a b c _ _ _ h1 h2 => S.sto.tr _ _ _ h1 h2
  tri := fun a b ha hb hn h => S.sto.tri _ _ (fun e => hn (by
    rw [List.getD_eq_getElem?_getD, List.getD_eq_getElem?_getD, List.getElem?_eq_getElem ha, List.getElem?_eq_getElem hb] at e
    have e : as[a] = as[b] := e
    have pw := List.pairwise_iff_getElem.mp S.nd
    rcases Nat.lt_trichotomy a b with z | z | z
    · exact absurd e (pw a b ha hb z)
    · exact z
    · exact absurd e.symm (pw b a hb ha z))) h
  asy := fun a b _ _ h => S.sto.asym h
/-- the sort goes, behind what is collected -/
theorem Srt.go (S : Srt as enc lt f) (d : α) {prog : Program} {w : World} {A : Around} {s : Shared} {us : List Value} {bs : List Addr} {Q : Value → Shared → Prop} (hu : A.units + 80 < cLine) (r : ReadsAll s.heap us (as.map fun a => .tuple (enc a)) bs)
    (q : ∀ (p : Array Nat) (h' : Heap) (l c : Nat), Pm as.length p → (p.toList.map fun i => as.getD i d).Pairwise (fun a b => lt a b = true) → (p.toList.map fun i => as.getD i d).Perm as → s.heap.objs.size ≤ l → h'.get? l = some (seqObj "list" (outOf us p).toArray c) → (∀ b o, s.heap.get? b = some o → h'.get? b = some o) → Q (.ref l) { s with heap := h' }) :
    SortGo prog w A us s Q := by
  have hl : us.length = as.length := by rw [readsAll_len r, List.length_map]
  refine ⟨fun i j => lt (as.getD i d) (as.getD j d), by rw [hl]; exact S.few, by rw [hl]; exact S.ord d, fun two h' kp => ?_, fun p h' l c hp up hlt hat kp => ?_⟩
  · have r' := readsAll_ext kp r
    obtain ⟨fs, k, lf, tf⟩ := tups_of (prog := prog) (w := w) (f := f) r' (fun x hx => by
      obtain ⟨a, ha, rfl⟩ := List.mem_map.mp hx
      obtain ⟨y, t, e, hy⟩ := S.fst a ha
      exact ⟨y, t, by rw [e], hy⟩)
    refine ⟨tuples' (f.ty != .type "tuple"), fun R E' hR => kat_kind (s := { s with heap := h' }) k (by omega) tf (by cases f <;> decide) hR, fun i j C hi hj hC => ?_⟩
    rw [hl] at hi hj
    have gi : as[i]? = some as[i] := List.getElem?_eq_getElem hi
    have gj : as[j]? = some as[j] := List.getElem?_eq_getElem hj
    have mi := List.getElem_mem hi
    have mj := List.getElem_mem hj
    have ei : as.getD i d = as[i] := by rw [List.getD_eq_getElem?_getD, gi]; rfl
    have ej : as.getD j d = as[j] := by rw [List.getD_eq_getElem?_getD, gj]; rfl
    dsimp only at hC
    rw [ei, ej] at hC
    obtain ⟨v, b1, hv, rv⟩ := readsAll_ix r' (i := i) (d := .tuple (enc as[i])) (by rw [List.getElem?_map, gi]; rfl)
    obtain ⟨x, b2, hx, rx⟩ := readsAll_ix r' (i := j) (d := .tuple (enc as[j])) (by rw [List.getElem?_map, gj]; rfl)
    have evi : us.getD i .none = v := by rw [List.getD_eq_getElem?_getD, hv]; rfl
    have evj : us.getD j .none = x := by rw [List.getD_eq_getElem?_getD, hx]; rfl
    unfold kas_ask
    rw [evi, evj]
    generalize as[i] = a at *
    generalize as[j] = b at *
    have sa := S.shp a mi
    have sb := S.shp b mj
    have la : PyData.canLayAll0 (enc a) = true := SeqAt.canLay_of_shaped sa
    have lb : PyData.canLayAll0 (enc b) = true := SeqAt.canLay_of_shaped sb
    have da : PyData.depth (.tuple (enc a)) ≤ 64 := SeqAt.depth_of_shaped sa
    have da : PyData.depthAll (enc a) + 1 ≤ 64 := da
    have first : ∀ d e r t, enc a = d :: r → enc b = e :: t → f = .int → ∃ m n, d = .int m ∧ e = .int n := fun d e r t e1 e2 hf => by
      subst hf
      obtain ⟨y, t1, e3, m, hm⟩ := S.fst a mi
      obtain ⟨z, t2, e4, n, hn⟩ := S.fst b mj
      rw [e1] at e3
      rw [e2] at e4
      cases e3
      cases e4
      exact ⟨m, n, hm, hn⟩
    cases rv with
    | @tuple l1 o1 x1 n1 _ _ h1 h2 h3 h4 =>
      cases rx with
      | @tuple l2 o2 x2 n2 _ _ g1 g2 g3 g4 =>
        refine kat_lt h1 h3 g1 g3 (katLex_data (by show A.units + 1 + 1 + 70 < cLine; omega) _ _ _ _ _ _ 0 (lt a b) h4 g4 la lb (by omega) (fun hb _ d e r t e1 e2 => first d e r t e1 e2 ?_) (by simp) (S.lts a mi b mj) hC)
        cases f with
        | int => rfl
        | tup => exact absurd hb (by decide)
  · rw [hl] at hp up
    refine q p h' l c hp ?_ ?_ hlt hat kp
    · rw [List.pairwise_iff_getElem]
      intro i j hi hj hij
      simp only [List.length_map, Array.length_toList] at hi hj
      have hs := hp.size
      have := up i j hij (by omega)
      rw [List.getElem_map, List.getElem_map]
      rw [at_eq (by omega), at_eq (by omega)] at this
      simpa using this
    · have h1 := hp.pm.map (fun i => as.getD i d)
      refine h1.trans ?_
      have : (List.range as.length).map (fun i => as.getD i d) = as := by
        refine List.ext_getElem (by simp) fun i h1 h2 => ?_
        simp [h2]
      rw [this]
end
end L2

namespace L2
open PySem PySem.Spec PyProof.Rows PySem.NumText PySem.W
section
variable {X : Cx}
theorem dvs_pick {K : PySem.W.Frag} {H : Hp} {α : Type} {as : List α} {en : α → PyData} {vs : List V} (h : DVs K H (as.map en) vs) (d : α) : ∀ (is : List Nat), (∀ i ∈ is, i < as.length) → DVs K H ((is.map fun i => as.getD i d).map en) (is.map fun i => vs.getD i .non)
  | [], _ => rfl
  | i :: is, hi => by
    have h1 := hi i List.mem_cons_self
    obtain ⟨v, hv, hd⟩ := h.get (i := i) (d := en as[i]) (by rw [List.getElem?_map, List.getElem?_eq_getElem h1]; rfl)
    have e1 : as.getD i d = as[i] := by rw [List.getD_eq_getElem?_getD, List.getElem?_eq_getElem h1]; rfl
    have e2 : vs.getD i .non = v := by rw [List.getD_eq_getElem?_getD, hv]; rfl
    refine ⟨v, _, ?_, ?_, dvs_pick h d is fun j hj => hi j (List.mem_cons_of_mem _ hj)⟩
    · rw [List.map_cons, e2]
    · show DV K H (en (as.getD i d)) v
      rw [e1]
      exact hd
theorem vals_pick {vs : List V} {us : List Value} (r : Vals vs us) : ∀ (is : List Nat), (∀ i ∈ is, i < vs.length) → Vals (is.map fun i => vs.getD i .non) (is.map fun i => us.getD i .none)
  | [], _ => .nil
  | i :: is, hi => by
    have h1 := hi i List.mem_cons_self
    obtain ⟨u, hu, ru⟩ := r.get (i := i) (x := vs[i]) (List.getElem?_eq_getElem h1)
    have e1 : vs.getD i .non = vs[i] := by rw [List.getD_eq_getElem?_getD, List.getElem?_eq_getElem h1]; rfl
    have e2 : us.getD i .none = u := by rw [List.getD_eq_getElem?_getD, hu]; rfl
    rw [List.map_cons, List.map_cons, e1, e2]
    exact .cons ru (vals_pick r is fun j hj => hi j (List.mem_cons_of_mem _ hj))
/-- the list that comes out, and how it goes on -/
noncomputable def SortQ (K : PySem.W.Frag) (H : Hp) {α : Type} (as : List α) (enc : α → List PyData) (lt : α → α → Bool) (Q : VK) : Prop :=
  ∀ (l : Addr) (bs : List α) (ws : List V), H l = none → bs.Perm as → bs.Pairwise (fun a b => lt a b = true) → DVs K H (bs.map fun a => .tuple (enc a)) ws → Q (.ref l) (upd H l (.lst ws))
theorem sort_go {pins : List (Addr × Obj)} {s s1 : Shared} {σ : St} {H : Hp} {Q : VK} {α : Type} {as : List α} {enc : α → List PyData} {lt : α → α → Bool} {f : FirstTy} {vs : List V} {us : List Value} (hu : X.A.units + 100 < cLine) (S : Srt as enc lt f)
    (I : Inv X pins σ H s1) (r : Vals vs us) (hd : DVs X.K H (as.map fun a => .tuple (enc a)) vs) (q : SortQ X.K H as enc lt Q) : SortGo X.prog X.w X.A us s1 (EP X pins σ Q) := by
  obtain ⟨bs, ra⟩ := DVs.reads I _ _ _ hd r
  have hl : vs.length = as.length := by rw [hd.length, List.length_map]
  have lay : ∀ (p : Array Nat) (d : α) (h' : Heap) (l c : Nat), Pm as.length p → (p.toList.map fun i => as.getD i d).Pairwise (fun a b => lt a b = true) → (p.toList.map fun i => as.getD i d).Perm as → s1.heap.objs.size ≤ l →
      h'.get? l = some (seqObj "list" (outOf us p).toArray c) → (∀ b o, s1.heap.get? b = some o → h'.get? b = some o) → EP X pins σ Q (.ref l) { s1 with heap := h' } := fun p d h' l c hp pw pm hle hat kp => by
    have hin : ∀ i ∈ p.toList, i < as.length := fun i hi => by simpa using hp.pm.mem_iff.mp hi
    have hn := I.hok.fresh hle
    refine ⟨.ref l, _, I.laid (t' := s1.toks) (o := .lst (p.toList.map fun i => vs.getD i .non)) kp hle ⟨?_, _, c, vals_pick r p.toList (fun i hi => by rw [hl]; exact hin i hi), hat⟩, rfl, q l _ _ hn pm pw (dvs_pick hd d p.toList hin)⟩
    rw [List.length_map, Array.length_toList, hp.size, sizeLine_eq]
    have := S.few
    omega
  cases has : as with
  | nil =>
    have hus : us.length = 0 := by rw [← r.length, hl, has]; rfl
    refine ⟨fun _ _ => false, by omega, ⟨fun a b c ha => by omega, fun a b ha => by omega, fun a b ha => by omega⟩, fun two => by omega, fun p h' l c hp up hle hat kp => ?_⟩
    have hp0 : p.toList = [] := by
      have := hp.pm
      rw [hus] at this
      exact List.perm_nil.mp this
    have hn := I.hok.fresh hle
    refine ⟨.ref l, _, I.laid (t' := s1.toks) (o := .lst []) kp hle ⟨Nat.zero_le _, _, c, .nil, ?_⟩, rfl, q l [] [] hn (by rw [has]) .nil rfl⟩
    rw [hat, outOf, hp0]
    rfl
  | cons d rest =>
    exact S.go d (by omega) ra fun p h' l c hp pw pm hle hat kp => lay p d h' l c hp pw pm hle hat kp
end
end L2

namespace L2
open PySem PySem.Spec PyProof.Rows PySem.NumText
/-! ### dicts whose keys are marks: tuples of two ints. The dict stands for itself; its keys are known beside it -/
noncomputable abbrev Mark := Int × Int
noncomputable def mkV (m : Mark) : List V := [.int m.1, .int m.2]
section
variable {X : Cx} {pins : List (Addr × Obj)} {σ : St} {H : Hp} {s : Shared} {a : Addr} {es : List Ent}
/-! rules -/
variable {o i e value : Expr} {pos pos' : Pos} {td ty tv : TE}
end
end L2

namespace L2
open PySem PySem.Spec PyProof.Rows PySem.NumText
/-! ### a dict's pairs walked, whatever its keys -/
section
variable {prog : Program} {w : World} {A : Around} {E : Value → Shared → Prop} {s : Shared} {d it v : Addr} {ds : Array DictEntry} {ep i : Nat} {ok ov : Value}
end
end L2

namespace L2
open PySem PySem.Spec PyProof.Rows PySem.NumText
/-! ### a dict's pairs collected -/
section
variable {prog : Program} {w : World} {A : Around} {E : Value → Shared → Prop} {s : Shared} {d it S r : Addr} {ds : Array DictEntry} {ep : Nat}
end
/-! ### many tuples laid at once -/
section
variable {X : Cx} {pins : List (Addr × Obj)} {σ : St} {H : Hp} {s : Shared} {h' : Heap}
end
end L2

namespace L2
open PySem PySem.Spec PyProof.Rows PySem.NumText
/-! ### dict of a list of pairs -/
section
variable {prog : Program} {w : World} {A : Around} {E : Value → Shared → Prop} {s : Shared} {l : Addr} {xs : Array Value} {c : Nat} {sl : Array (Option Value)}
end
/-! the pairs laid into the dict, one by one -/
section
variable {prog : Program} {w : World} {A : Around} {E : Value → Shared → Prop} {s : Shared} {l d it : Addr}
end
section
variable {X : Cx}
end
end L2

namespace L2
open PySem PySem.Spec PyProof.Rows PySem.NumText
/-! ### d.items(), walked -/
section
variable {X : Cx} {pins : List (Addr × Obj)} {σ : St} {H : Hp} {s : Shared} {a : Addr} {es : List Ent} {o : Obj}
end
section
variable {X : Cx} {o : Expr} {td : TE} {apos cpos : Pos}
end
end L2

namespace L2
open PySem PySem.Spec PyProof.Rows PySem.NumText
/-! ### marks in order; sorted(d.items()); len(d) -/
noncomputable def mLt (a b : Mark) : Bool := decide (a.1 < b.1 ∨ (a.1 = b.1 ∧ a.2 < b.2))
theorem mLt_sto : STO mLt where
  irr := fun a => decide_eq_false (by omega)
  tr := fun a b c h1 h2 => by
    have h1 := of_decide_eq_true h1
    have h2 := of_decide_eq_true h2
    exact decide_eq_true (by omega)
  tri := fun a b hn h => by
    have h := of_decide_eq_false h
    refine decide_eq_true ?_
    by_cases e1 : a.1 = b.1
    · have e2 : a.2 ≠ b.2 := fun e2 => hn (Prod.ext e1 e2)
      omega
    · omega
noncomputable def markD (m : Mark) : PyData := .tuple [.int m.1, .int m.2]
theorem markD_lt (a b : Mark) : ltD (markD a) (markD b) = some (mLt a b) := by
  show ltDs [.int a.1, .int a.2] [.int b.1, .int b.2] = _
  have i1 : ∀ x y : Int, PyData.eqv (.int x) (.int y) = (x == y) := fun _ _ => rfl
  have i2 : ∀ x y : Int, ltD (.int x) (.int y) = some (decide (x < y)) := fun _ _ => rfl
  unfold ltDs
  rw [i1]
  by_cases e1 : a.1 = b.1
  · rw [if_pos (by simp [e1])]
    unfold ltDs
    rw [i1]
    by_cases e2 : a.2 = b.2
    · rw [if_pos (by simp [e2])]
      unfold ltDs mLt
      simp [e1, e2]
    · rw [if_neg (by simp [e2]), i2]
      unfold mLt
      simp [e1]
  · rw [if_neg (by simp [e1]), i2]
    unfold mLt
    simp [e1]
theorem mkV_dv {K : PySem.W.Frag} {H : Hp} {q : Addr} {m : Mark} (h : SqT K H q (mkV m)) : DV K H (markD m) (.ref q) := ⟨q, _, rfl, h, _, _, rfl, rfl, _, _, rfl, rfl, rfl⟩
theorem mark_of {K : PySem.W.Frag} {H : Hp} {m : Mark} {v : V} (h : DV K H (markD m) v) : ∃ q, v = .ref q ∧ SqT K H q (mkV m) := by
  obtain ⟨q, vs, rfl, h1, v1, r1, rfl, e1, v2, r2, rfl, e2, e3⟩ := h
  cases (show v1 = .int m.1 from e1)
  cases (show v2 = .int m.2 from e2)
  cases (show r2 = [] from e3)
  exact ⟨q, rfl, h1⟩
section
variable {X : Cx}
end
end L2

namespace L2
open PySem PySem.Spec PyProof.Rows PySem.NumText
/-! ### sheets -/
end L2

namespace L2
open PySem PySem.Spec PyProof.Rows PySem.NumText
/-! ### a comprehension over d.items() with a test -/
/-! ### lines -/
end L2

namespace L2
open PySem PySem.Spec PyProof.Rows PySem.NumText
section
variable {X : Cx}
theorem fm_all {α β : Type} {f : α → Option β} {g : α → β} : ∀ {l : List α}, (∀ x ∈ l, f x = some (g x)) → l.filterMap f = l.map g
  | [], _ => rfl
  | x :: l, h => by
    rw [List.filterMap_cons, h x List.mem_cons_self, List.map_cons, fm_all fun y hy => h y (List.mem_cons_of_mem _ hy)]
end
/-! ### what is no tuple may be changed -/
noncomputable def NoTup (o : HO) : Prop := (∀ xs, o ≠ .tup xs) ∧ ∀ ob u, o ≠ .frz ob u
theorem sqT_other {K : PySem.W.Frag} {H : Hp} {p : Addr} {o o' : HO} {a : Addr} {xs : List V} (hp : H p = some o) (n : NoTup o) (h : SqT K H a xs) : SqT K (upd H p o') a xs := by
  rcases h with (h | ⟨ob, h⟩) | h
  · exact .inl (.inl (by rw [upd_ne (ne_of h hp fun z => n.1 _ z.symm)]; exact h))
  · exact .inl (.inr ⟨ob, by rw [upd_ne (ne_of h hp fun z => n.2 _ _ z.symm)]; exact h⟩)
  · exact .inr h
mutual
theorem dv_other {K : PySem.W.Frag} {H : Hp} {p : Addr} {o o' : HO} (hp : H p = some o) (n : NoTup o) : ∀ (d : PyData) (v : V), noL d = true → DV K H d v → DV K (upd H p o') d v
  | .none, v, _, h => h
  | .bool b, v, _, h => h
  | .int i, v, _, h => h
  | .str x, v, _, h => h
  | .list xs, v, n', _ => by cases n'
  | .tuple xs, v, n', ⟨a, vs, h1, h2, h3⟩ => ⟨a, vs, h1, sqT_other hp n h2, dvs_other hp n xs vs n' h3⟩
  | .dict _, v, _, h => h.elim
theorem dvs_other {K : PySem.W.Frag} {H : Hp} {p : Addr} {o o' : HO} (hp : H p = some o) (n : NoTup o) : ∀ (ds : List PyData) (vs : List V), noLs ds = true → DVs K H ds vs → DVs K (upd H p o') ds vs
  | [], vs, _, h => h
  | d :: ds, vs, n', ⟨v, r, h1, h2, h3⟩ => by
    have n' : noL d = true ∧ noLs ds = true := by rw [noLs, Bool.and_eq_true] at n'; exact n'
    exact ⟨v, r, h1, dv_other hp n d v n'.1 h2, dvs_other hp n ds r n'.2 h3⟩
end
theorem noT_lst (xs : List V) : NoTup (.lst xs) := ⟨fun _ z => (by cases z), fun _ _ z => (by cases z)⟩
end L2

namespace L2
open PySem PySem.Spec PyProof.Rows PySem.NumText
/-! ### a table laid anew: each one is met on its own path -/
noncomputable def Rc (mask : Nat) (o : Array (Option Nat)) (h : Int) (j : Nat) : Prop := ∃ N, (path (tm mask) N ((tm mask).probeStart h)).j = j ∧ ∀ i, i < N → own o (path (tm mask) i ((tm mask).probeStart h)).j ≠ none
theorem own_set {o : Array (Option Nat)} {j k x : Nat} (hj : j < o.size) : own (o.setIfInBounds j (some k)) x = if x = j then some k else own o x := by
  show (o.setIfInBounds j (some k)).getD x none = _
  rw [Array.getD_eq_getD_getElem?]
  by_cases h : x = j
  · subst h
    rw [if_pos rfl, Array.getElem?_setIfInBounds_self_of_lt hj]
    rfl
  · rw [if_neg h, Array.getElem?_setIfInBounds_ne (fun e => h e.symm)]
    show _ = o.getD x none
    rw [Array.getD_eq_getD_getElem?]
theorem lay_foldW {mask : Nat} (c : covers (mask + 1) = true) : ∀ (hs : List Int) (pre : List Int) (o : Array (Option Nat)) (n : Nat), o.size = mask + 1 → ((lives (mask + 1) o).map (·.2)).Perm (List.range n) → n + hs.length ≤ mask → pre.length = n → (∀ j k, own o j = some k → ∃ h, pre[k]? = some h ∧ Rc mask o h j) →
    ∃ o', hs.foldl (fun (acc : Option (Array (Option Nat) × Nat)) h => do
      let (owner, k) ← acc
      let j ← SetTable.layClean.free mask owner (SetTable.turns mask) (SetTable.bits h % (mask + 1)) (SetTable.bits h)
      pure (owner.setIfInBounds j (some k), k + 1)) (some (o, n)) = some (o', n + hs.length) ∧ o'.size = mask + 1 ∧ ((lives (mask + 1) o').map (·.2)).Perm (List.range (n + hs.length)) ∧ (∀ j k, own o' j = some k → ∃ h, (pre ++ hs)[k]? = some h ∧ Rc mask o' h j) := by
  intro hs
  induction hs with
  | nil => intro pre o n h1 h2 _ _ h5; exact ⟨o, rfl, h1, h2, by rw [List.append_nil]; exact h5⟩
  | cons h hs ih =>
    intro pre o n h1 h2 h3 h4 h5
    rw [List.length_cons] at h3
    obtain ⟨j0, hj0, he0⟩ := some_free h2 (by omega)
    have hb : SetTable.bits h < 2 ^ 64 := by
      unfold SetTable.bits
      have := Int.emod_nonneg h (show (2 ^ 64 : Int) ≠ 0 by decide)
      have := Int.emod_lt_of_pos h (show (0 : Int) < 2 ^ 64 by decide)
      omega
    obtain ⟨k, hk, e⟩ := all_starts c (Nat.mod_lt (SetTable.bits h) (Nat.succ_pos mask)) hb hj0
    obtain ⟨j, ej, hj, hje⟩ := free_some h1 hj0 he0 k (SetTable.turns mask) _ _ (by unfold SetTable.turns; omega) (Nat.mod_lt (SetTable.bits h) (Nat.succ_pos mask)) e
    obtain ⟨N, n1, n2⟩ := free_path h1 _ _ _ j ((tm mask).probeStart h) (Nat.mod_lt (SetTable.bits h) (Nat.succ_pos mask)) rfl rfl rfl rfl ej
    have hp := lives_set (k := n) h1 hj hje
    have grow : ∀ x, own o x ≠ none → own (o.setIfInBounds j (some n)) x ≠ none := fun x hx => by
      rw [own_set (by omega)]
      by_cases hxj : x = j
      · rw [if_pos hxj]; exact fun z => by cases z
      · rw [if_neg hxj]; exact hx
    obtain ⟨o', e1, e2, e3, e4⟩ := ih (pre ++ [h]) (o.setIfInBounds j (some n)) (n + 1) (by rw [Array.size_setIfInBounds]; exact h1) (by
      refine (hp.map _).trans ?_
      rw [List.map_cons, List.range_succ]
      exact ((List.Perm.cons n h2).trans (List.perm_append_singleton n (List.range n)).symm)) (by omega) (by rw [List.length_append, List.length_singleton, h4]) (fun x k hx => by
      rw [own_set (by omega)] at hx
      by_cases hxj : x = j
      · rw [if_pos hxj] at hx
        cases hx
        exact ⟨h, by rw [← h4, List.getElem?_concat_length], N, by rw [hxj]; exact n1, fun i hi => grow _ (n2 i hi)⟩
      · rw [if_neg hxj] at hx
        obtain ⟨h', q1, M, q2, q3⟩ := h5 x k hx
        have hkl := (List.getElem?_eq_some_iff.mp q1).1
        exact ⟨h', by rw [List.getElem?_append_left hkl]; exact q1, M, q2, fun i hi => grow _ (q3 i hi)⟩)
    refine ⟨o', ?_, e2, by rw [List.length_cons, show n + (hs.length + 1) = n + 1 + hs.length by omega]; exact e3, by rw [show pre ++ h :: hs = pre ++ [h] ++ hs by simp]; exact e4⟩
    rw [List.foldl_cons, List.length_cons, show n + (hs.length + 1) = n + 1 + hs.length by omega, ← e1]
    congr 1
    show (SetTable.layClean.free mask o (SetTable.turns mask) (SetTable.bits h % (mask + 1)) (SetTable.bits h)).bind _ = _
    rw [ej]
    rfl
theorem lay_cleanW {mask : Nat} (c : covers (mask + 1) = true) (hs : Array Int) (h : hs.size ≤ mask) : ∃ o, SetTable.layClean mask hs = some o ∧ o.size = mask + 1 ∧ ((lives (mask + 1) o).map (·.2)).Perm (List.range hs.size) ∧ (∀ j k, own o j = some k → ∃ h, hs[k]? = some h ∧ Rc mask o h j) := by
  have hn : ∀ j, own (Array.replicate (mask + 1) none) j = none := fun j => by
    show (Array.replicate (mask + 1) (none : Option Nat)).getD j none = none
    rw [Array.getD_eq_getD_getElem?, Array.getElem?_replicate]
    split <;> rfl
  have h0 : lives (mask + 1) (Array.replicate (mask + 1) none) = [] := by
    unfold lives
    refine List.filterMap_eq_nil_iff.mpr fun j hj => ?_
    rw [hn]
    rfl
  obtain ⟨o, e1, e2, e3, e4⟩ := lay_foldW c hs.toList [] (Array.replicate (mask + 1) none) 0 (by simp) (by rw [h0]; exact .nil) (by simpa using h) rfl (fun j k e => by rw [hn] at e; cases e)
  refine ⟨o, ?_, e2, by simpa using e3, fun j k e => ?_⟩
  · unfold SetTable.layClean
    rw [← Array.foldl_toList]
    exact congrArg (Option.map (·.1)) e1
  · obtain ⟨h', q1, q2⟩ := e4 j k e
    exact ⟨h', by rw [List.nil_append, Array.getElem?_toList] at q1; exact q1, q2⟩
theorem lives_fst (M : Nat) (o : Array (Option Nat)) : (lives M o).map (·.1) = (List.range M).filter fun j => (own o j).isSome := by
  unfold lives
  induction List.range M with
  | nil => rfl
  | cons j l ih =>
    cases e : own o j with
    | none => rw [List.filterMap_cons_none (by rw [e]; rfl), List.filter_cons_of_neg (by rw [e]; decide)]; exact ih
    | some k => rw [List.filterMap_cons_some (by rw [e]; rfl), List.map_cons, List.filter_cons_of_pos (by rw [e]; rfl), ih]
theorem lives_mem {M : Nat} {o : Array (Option Nat)} {j k : Nat} (h : (j, k) ∈ lives M o) : own o j = some k := by
  obtain ⟨x, _, hx⟩ := List.mem_filterMap.mp h
  cases e : own o x with
  | none => rw [e] at hx; cases hx
  | some v => rw [e] at hx; cases hx; exact e
theorem laid_okW {mask finger moves : Nat} {led plain : Bool} (c : covers (mask + 1) = true) (es : Array (Int × Value)) (h : es.size ≤ mask) : ∃ pl order, SetTable.laid mask finger moves led plain (es.map (·.1)) = some ({ mask, place := pl, dummies := #[], finger, led, moves, plain }, order) ∧ pl.size = es.size ∧ (order.filterMap (es[·]?)).toList.Perm es.toList ∧ ∀ t : ST, t.mask = mask → t.place = pl → Wp t (order.filterMap (es[·]?)) := by
  obtain ⟨o, e1, e2, e3, e4⟩ := lay_cleanW c (es.map (·.1)) (by simpa using h)
  have e3 : ((lives (mask + 1) o).map (·.2)).Perm (List.range es.size) := by simpa using e3
  refine ⟨((lives (mask + 1) o).map (·.1)).toArray, ((lives (mask + 1) o).map (·.2)).toArray, ?_, ?_, ?_, fun t hm hp => ?_⟩
  · unfold SetTable.laid
    rw [e1]
    rfl
  · have := e3.length_eq
    rw [List.length_map, List.length_range] at this
    simpa using this
  · rw [Array.toList_filterMap]
    refine (e3.filterMap _).trans ?_
    have : (List.range es.size).filterMap (fun x => es[x]?) = es.toList := by
      have go : ∀ (l : List (Int × Value)), (List.range l.length).filterMap (fun x => l[x]?) = l := by
        intro l
        induction l with
        | nil => rfl
        | cons a l ih =>
          rw [List.length_cons, List.range_succ_eq_map, List.filterMap_cons]
          show a :: List.filterMap _ (List.map Nat.succ (List.range l.length)) = a :: l
          rw [List.filterMap_map]
          exact congrArg (a :: ·) ih
      have := go es.toList
      simpa using this
    rw [this]
  · have hk : ∀ p ∈ lives (mask + 1) o, p.2 < es.size := fun p hp' => List.mem_range.mp (e3.mem_iff.mp (List.mem_map_of_mem hp'))
    have hes : (((lives (mask + 1) o).map (·.2)).toArray.filterMap (es[·]?)).toList = (lives (mask + 1) o).map fun p => es.getD p.2 (0, .none) := by
      rw [Array.toList_filterMap, List.filterMap_map]
      refine fm_all fun p hp' => ?_
      show es[p.2]? = some (es.getD p.2 (0, .none))
      rw [Array.getD_eq_getD_getElem?, Array.getElem?_eq_getElem (hk p hp')]
      rfl
    have srt : ((lives (mask + 1) o).map (·.1)).Pairwise (· < ·) := by
      rw [lives_fst]
      exact List.Pairwise.filter _ List.pairwise_lt_range
    refine ⟨?_, fun i j e h1 h2 => ?_⟩
    · rw [hp]
      intro a b u v hab ea eb
      rw [List.getElem?_toArray] at ea eb
      obtain ⟨ha, ea⟩ := List.getElem?_eq_some_iff.mp ea
      obtain ⟨hb, eb⟩ := List.getElem?_eq_some_iff.mp eb
      rw [← ea, ← eb]
      exact List.pairwise_iff_getElem.mp srt a b ha hb hab
    · rw [hp, List.getElem?_toArray, List.getElem?_map] at h1
      rw [← Array.getElem?_toList, hes, List.getElem?_map] at h2
      cases hL : (lives (mask + 1) o)[i]? with
      | none => rw [hL] at h1; cases h1
      | some p =>
        rw [hL] at h1 h2
        cases h1
        cases h2
        have hm' := List.mem_of_getElem? hL
        obtain ⟨h', q1, N, q2, q3⟩ := e4 p.1 p.2 (lives_mem hm')
        have eh : h' = (es.getD p.2 (0, .none)).1 := by
          rw [Array.getElem?_map, Array.getElem?_eq_getElem (hk p hm')] at q1
          cases q1
          rw [Array.getD_eq_getD_getElem?, Array.getElem?_eq_getElem (hk p hm')]
          rfl
        refine ⟨N, ?_, fun k hk' => ?_⟩
        · rw [path_mask (t' := tm mask) hm, start_mask (t' := tm mask) hm, ← eh]; exact q2
        · rw [path_mask (t' := tm mask) hm, start_mask (t' := tm mask) hm, ← eh]
          have q4 := q3 k hk'
          generalize (path (tm mask) k ((tm mask).probeStart h')).j = x at q4
          have hx : x < mask + 1 := by
            refine Classical.byContradiction fun hc => q4 ?_
            show o.getD x none = none
            rw [Array.getD_eq_getD_getElem?, Array.getElem?_eq_none (by omega)]
            rfl
          have hxm : x ∈ (lives (mask + 1) o).map (·.1) := by
            rw [lives_fst]
            refine List.mem_filter.mpr ⟨List.mem_range.mpr hx, ?_⟩
            cases e : own o x with
            | none => exact absurd e q4
            | some v => rfl
          obtain ⟨i', hi'⟩ := List.getElem?_of_mem hxm
          exact ⟨i', by rw [hp, List.getElem?_toArray]; exact hi'⟩
/-! ### searches -/
section
variable {prog : Program} {w : World} {A : Around} {E : Value → Shared → Prop} {s : Shared}
theorem search_newW {a : Addr} {o : Obj} {es : Array (Int × Value)} {ep : Nat} {t : ST} {x : Value} {dx : PyData} {h : Int} {Q : SetFound → Shared → Prop} (ho : s.heap.get? a = some o) (hd : o.data = .set es ep t) (hf : t.fits es.size = true) (f : Fit t)
    (hx : El s.heap x dx) (hes : ∀ e ∈ es.toList, ∃ d, El s.heap e.2 d ∧ PyData.eqv d dx = false) (hu : A.units + 10 < cLine) (b : Bool) (hQ : ∀ N, t.slot (path t N (t.probeStart h)).j = .empty → (∀ k, k < N → ∃ i : Nat, t.place[i]? = some (path t k (t.probeStart h)).j) → Q (.free (path t N (t.probeStart h)).j false) s) : wpAny (model prog w) A (setSearch a x h b) Q E s := by
  obtain ⟨s9, sp, sd⟩ := start_ok t h
  obtain ⟨N, hN, he, hl⟩ := search_ends f s9 sp
  have hmask : t.mask ≤ 511 := by rcases f.msk with e | e | e | e <;> omega
  have hN2 : N < 10 * (511 + 15) := by
    unfold SetTable.turns at hN
    omega
  have hgw : t.gaveWay = false := by
    unfold SetTable.gaveWay
    rcases f.msk with e | e | e | e <;> rw [e] <;> rfl
  have hpl : t.place.size = es.size := by
    unfold SetTable.fits at hf
    rw [Bool.and_eq_true] at hf
    exact eq_of_beq hf.1
  obtain ⟨as, rx⟩ := hx.rd
  -- from each place of the path
  have from_ : ∀ (d m fuel : Nat), d = N - m → m ≤ N → d < fuel → ∀ (stand : Option SetTable.Probe), stand.getD (t.probeStart h) = path t m (t.probeStart h) → wpAny (model prog w) A (setSearchFrom a x h b fuel stand) Q E s := by
    intro d
    induction d using Nat.strongRecOn with
    | ind d ih =>
      intro m fuel hdm hm hfu stand hst
      cases fuel with
      | zero => omega
      | succ fuel =>
        unfold setSearchFrom
        refine wpAny_bind (wpAny_setState_of ho hd hf ?_)
        dsimp only
        rw [hgw]
        simp only [Bool.false_eq_true, if_false]
        rw [hst]
        unfold SetTable.probe
        rcases go_spec (t := t) (h := h) sd he hl (N - m) m (10 * SetTable.turns t.mask) rfl hm (by omega) with ⟨k, i, k1, k2, k3, k4, k5⟩ | k5
        · rw [k5]
          dsimp only
          obtain ⟨i2, hi2, hpi⟩ := hl k k2
          rw [k3] at hi2
          cases hi2
          have hil : i < es.size := by rw [← hpl]; exact (Array.getElem?_eq_some_iff.mp hpi).1
          have hei : es[i]? = some es[i] := Array.getElem?_eq_getElem hil
          have hmem : es[i] ∈ es.toList := by rw [← Array.getElem_toList hil]; exact List.getElem_mem _
          obtain ⟨dy, hy, hne⟩ := hes _ hmem
          obtain ⟨bs, ry⟩ := hy.rd
          have go2 : wpAny (model prog w) A (do
              let some (_, y) := es[i]? | unsupported "internal:set-entry"
              let equal ← holding [y] (eqBool y x)
              let (es', _, t') ← setState a
              if b && equal then return .there none
              let some same := t'.sameMemory t.moves t.mask | unsupported "set.changed-during-lookup:is-the-new-block-at-the-old-address"
              let still ← match (if same then t'.slot (path t k (t.probeStart h)).j else .empty) with
                | .live i' => match es'[i']? with
                  | some (_, y') => do pure (if ← isSame y' y then some i' else none)
                  | none => pure none
                | _ => pure none
              match still with
              | none => rule "set.search.anew"; setSearchFrom a x h b fuel none
              | some i' => if equal then return .there (some i') else setSearchFrom a x h b fuel (some (path t (k + 1) (t.probeStart h)))) Q E s := by
            rw [hei]
            dsimp only
            refine wpAny_bind (wpAny_holding (SeqAt.eqAt_reads dy dx A s _ _ bs as ry rx (lay_onlyI dy hy.oi) (lay_onlyI dx hx.oi) (by have := hy.dp; have : min dy.depth dx.depth ≤ dy.depth := Nat.min_le_left _ _; omega) prog w _ _ ?_))
            rw [hne]
            refine wpAny_bind (wpAny_setState_of ho hd hf ?_)
            dsimp only
            simp only [Bool.and_false, Bool.false_eq_true, if_false]
            have hsm : t.sameMemory t.moves t.mask = some true := by unfold SetTable.sameMemory; rw [if_pos (beq_self_eq_true _)]
            rw [hsm]
            dsimp only
            simp only [if_true]
            rw [k3]
            dsimp only
            rw [hei]
            dsimp only
            obtain ⟨b, hb⟩ := hy.rf
            rw [hb]
            refine wpAny_bind (wpAny_isSame_ref_self (wpAny_bind (wpAny_pure ?_)))
            simp only [if_true]
            exact ih (N - (k + 1)) (by omega) (k + 1) fuel rfl (by omega) (by omega) (some _) rfl
          cases hled : t.led with
          | true =>
            simp only [Bool.not_true, Bool.false_eq_true, if_false]
            exact go2
          | false =>
            simp only [Bool.not_false, if_true]
            refine wpAny_bind (seen_no hx _ _ (fun y hy => ?_) ?_)
            · obtain ⟨e, he1, rfl⟩ := List.mem_map.mp hy
              have he2 : e ∈ es.toList := by
                have := Array.mem_toList_iff.mp he1
                exact Array.mem_toList_iff.mpr (Array.mem_filter.mp this).1
              obtain ⟨d', hd', _⟩ := hes e he2
              exact ⟨d', hd'⟩
            · simp only [Bool.false_eq_true, if_false]
              exact go2
        · rw [k5]
          dsimp only
          exact wpAny_pure (hQ N he fun k hk => let ⟨i, _, q⟩ := hl k hk; ⟨i, q⟩)
  unfold setSearch
  exact from_ N 0 100000 rfl (Nat.zero_le _) (by omega) none rfl
end
end L2

namespace L2
open PySem PySem.Spec PyProof.Rows PySem.NumText
theorem go_find {t : ST} {hashAt : Nat → Int} {h : Int} {p : SetTable.Probe} {n0 i0 : Nat} (hs : t.slot (path t n0 p).j = .live i0) (hh : (hashAt i0 == h) = true) (hl : ∀ k, k < n0 → ∃ i : Nat, t.slot (path t k p).j = .live i) :
    ∀ (d m fuel : Nat), d = n0 - m → m ≤ n0 → d < fuel → ∃ k i, m ≤ k ∧ k ≤ n0 ∧ t.slot (path t k p).j = .live i ∧ SetTable.probe.go t hashAt h fuel (path t m p) = some (.candidate (path t k p).j i (path t (k + 1) p)) := by
  intro d
  induction d with
  | zero =>
    intro m fuel hdm hm hf
    have e : m = n0 := by omega
    subst e
    cases fuel with
    | zero => omega
    | succ fuel =>
      refine ⟨m, i0, Nat.le_refl _, Nat.le_refl _, hs, ?_⟩
      unfold SetTable.probe.go
      rw [hs]
      dsimp only
      rw [if_pos hh, path_succ]
  | succ d ih =>
    intro m fuel hdm hm hf
    cases fuel with
    | zero => omega
    | succ fuel =>
      obtain ⟨i, hi⟩ := hl m (by omega)
      by_cases hh : (hashAt i == h) = true
      · refine ⟨m, i, Nat.le_refl _, by omega, hi, ?_⟩
        unfold SetTable.probe.go
        rw [hi]
        dsimp only
        rw [if_pos hh, path_succ]
      · obtain ⟨k, i', h1, h2, h3, h4⟩ := ih (m + 1) fuel (by omega) (by omega) (by omega)
        refine ⟨k, i', by omega, h2, h3, ?_⟩
        unfold SetTable.probe.go
        rw [hi]
        dsimp only
        rw [if_neg hh, ← path_succ]
        exact h4
section
variable {prog : Program} {w : World} {A : Around} {E : Value → Shared → Prop} {s : Shared}
theorem search_oldW {a : Addr} {o : Obj} {es : Array (Int × Value)} {ep : Nat} {t : ST} {x : Value} {dx : PyData} {h : Int} {Q : SetFound → Shared → Prop} (ho : s.heap.get? a = some o) (hd : o.data = .set es ep t) (hf : t.fits es.size = true) (f : Fit t)
    (hx : El s.heap x dx) (dat : Nat → PyData) (hes : ∀ (i : Nat) e, es[i]? = some e → El s.heap e.2 (dat i)) {i0 n0 : Nat} {y0 : Value} (hi0 : es[i0]? = some (h, y0)) (hd0 : PyData.eqv (dat i0) dx = true) (hs0 : t.slot (path t n0 (t.probeStart h)).j = .live i0) (hl0 : ∀ k, k < n0 → ∃ i : Nat, t.slot (path t k (t.probeStart h)).j = .live i)
    (hu : A.units + 10 < cLine) (b : Bool) (hQ : ∀ r : Option Nat, (b = false → r.isSome = true) → Q (.there r) s) : wpAny (model prog w) A (setSearch a x h b) Q E s := by
  obtain ⟨s9, sp, sd⟩ := start_ok t h
  obtain ⟨N, hN, he, hl⟩ := search_ends f s9 sp
  have hmask : t.mask ≤ 511 := by rcases f.msk with e | e | e | e <;> omega
  have hN2 : N < 10 * (511 + 15) := by
    unfold SetTable.turns at hN
    omega
  have hn0 : n0 < N := by
    refine Classical.byContradiction fun hc => ?_
    rcases Nat.lt_or_eq_of_le (Nat.le_of_not_lt hc) with hlt | heq
    · obtain ⟨i, hi⟩ := hl0 N hlt
      rw [he] at hi
      cases hi
    · rw [heq, hs0] at he
      cases he
  have hgw : t.gaveWay = false := by
    unfold SetTable.gaveWay
    rcases f.msk with e | e | e | e <;> rw [e] <;> rfl
  have hpl : t.place.size = es.size := by
    unfold SetTable.fits at hf
    rw [Bool.and_eq_true] at hf
    exact eq_of_beq hf.1
  obtain ⟨as, rx⟩ := hx.rd
  have from_ : ∀ (d m fuel : Nat), d = n0 - m → m ≤ n0 → d < fuel → ∀ (stand : Option SetTable.Probe), stand.getD (t.probeStart h) = path t m (t.probeStart h) → wpAny (model prog w) A (setSearchFrom a x h b fuel stand) Q E s := by
    intro d
    induction d using Nat.strongRecOn with
    | ind d ih =>
      intro m fuel hdm hm hfu stand hst
      cases fuel with
      | zero => omega
      | succ fuel =>
        unfold setSearchFrom
        refine wpAny_bind (wpAny_setState_of ho hd hf ?_)
        dsimp only
        rw [hgw]
        simp only [Bool.false_eq_true, if_false]
        rw [hst]
        unfold SetTable.probe
        obtain ⟨k, i, k1, k2, k3, k5⟩ := go_find (t := t) (h := h) (hashAt := fun i => (Option.map (fun (x : Int × Value) => x.1) es[i]?).getD 0) hs0 (by rw [hi0]; exact beq_self_eq_true h) hl0 (n0 - m) m (10 * SetTable.turns t.mask) rfl hm (by omega)
        have k5 : SetTable.probe.go t _ h (10 * SetTable.turns t.mask) (path t m (t.probeStart h)) = _ := k5
        erw [k5]
        dsimp only
        obtain ⟨i2, hi2, hpi⟩ := hl k (by omega)
        rw [k3] at hi2
        cases hi2
        have hil : i < es.size := by rw [← hpl]; exact (Array.getElem?_eq_some_iff.mp hpi).1
        have hei : es[i]? = some es[i] := Array.getElem?_eq_getElem hil
        have hmem : es[i] ∈ es.toList := by rw [← Array.getElem_toList hil]; exact List.getElem_mem _
        obtain ⟨dy, hdy⟩ : ∃ dy, dy = dat i := ⟨_, rfl⟩
        have hy := hes i _ hei
        rw [← hdy] at hy
        obtain ⟨bs, ry⟩ := hy.rd
        have go2 : wpAny (model prog w) A (do
            let some (_, y) := es[i]? | unsupported "internal:set-entry"
            let equal ← holding [y] (eqBool y x)
            let (es', _, t') ← setState a
            if b && equal then return .there none
            let some same := t'.sameMemory t.moves t.mask | unsupported "set.changed-during-lookup:is-the-new-block-at-the-old-address"
            let still ← match (if same then t'.slot (path t k (t.probeStart h)).j else .empty) with
              | .live i' => match es'[i']? with
                | some (_, y') => do pure (if ← isSame y' y then some i' else none)
                | none => pure none
              | _ => pure none
            match still with
            | none => rule "set.search.anew"; setSearchFrom a x h b fuel none
            | some i' => if equal then return .there (some i') else setSearchFrom a x h b fuel (some (path t (k + 1) (t.probeStart h)))) Q E s := by
          rw [hei]
          dsimp only
          refine wpAny_bind (wpAny_holding (SeqAt.eqAt_reads dy dx A s _ _ bs as ry rx (lay_onlyI dy hy.oi) (lay_onlyI dx hx.oi) (by have := hy.dp; have : min dy.depth dx.depth ≤ dy.depth := Nat.min_le_left _ _; omega) prog w _ _ ?_))
          have hsm : t.sameMemory t.moves t.mask = some true := by unfold SetTable.sameMemory; rw [if_pos (beq_self_eq_true _)]
          obtain ⟨b0, hb0⟩ := hy.rf
          cases hne : PyData.eqv dy dx with
          | true =>
            refine wpAny_bind (wpAny_setState_of ho hd hf ?_)
            dsimp only
            cases b with
            | true =>
              simp only [Bool.and_self, if_true]
              exact wpAny_pure (hQ none fun z => by cases z)
            | false =>
              simp only [Bool.false_and, Bool.false_eq_true, if_false]
              rw [hsm]
              dsimp only
              simp only [if_true]
              rw [k3]
              dsimp only
              rw [hei]
              dsimp only
              rw [hb0]
              refine wpAny_bind (wpAny_isSame_ref_self (wpAny_bind (wpAny_pure ?_)))
              simp only [if_true]
              exact wpAny_pure (hQ (some i) fun _ => rfl)
          | false =>
            refine wpAny_bind (wpAny_setState_of ho hd hf ?_)
            dsimp only
            simp only [Bool.and_false, Bool.false_eq_true, if_false]
            rw [hsm]
            dsimp only
            simp only [if_true]
            rw [k3]
            dsimp only
            rw [hei]
            dsimp only
            rw [hb0]
            refine wpAny_bind (wpAny_isSame_ref_self (wpAny_bind (wpAny_pure ?_)))
            simp only [if_true]
            have hk0 : k ≠ n0 := fun e => by
              rw [e, hs0] at k3
              cases k3
              rw [hdy, hd0] at hne
              cases hne
            exact ih (n0 - (k + 1)) (by omega) (k + 1) fuel rfl (by omega) (by omega) (some _) rfl
        cases hled : t.led with
        | true =>
          simp only [Bool.not_true, Bool.false_eq_true, if_false]
          exact go2
        | false =>
          simp only [Bool.not_false, if_true]
          refine wpAny_bind (seen_no hx _ _ (fun y hy => ?_) ?_)
          · obtain ⟨e, he1, rfl⟩ := List.mem_map.mp hy
            have he2 : e ∈ es.toList := by
              have := Array.mem_toList_iff.mp he1
              exact Array.mem_toList_iff.mpr (Array.mem_filter.mp this).1
            obtain ⟨j, hj⟩ := List.getElem?_of_mem he2
            rw [Array.getElem?_toList] at hj
            exact ⟨_, hes j e hj⟩
          · simp only [Bool.false_eq_true, if_false]
            exact go2
  unfold setSearch
  exact from_ n0 0 100000 rfl (Nat.zero_le _) (by omega) none rfl
theorem relay_newW {a : Addr} {o : Obj} {es : Array (Int × Value)} {ep : Nat} {t : ST} {wanted m' : Nat} {Q : Unit → Shared → Prop} (ho : s.heap.get? a = some o) (hd : o.data = .set es ep t) (hf : t.fits es.size = true)
    (hw : SetTable.sizeAbove wanted = m' + 1) (hm : m' = 7 ∨ m' = 31 ∨ m' = 127 ∨ m' = 511) (hs : es.size ≤ m')
    (h : ∀ es' t', es'.toList.Perm es.toList → t'.place.size = es.size → t'.dummies = #[] → t'.mask = m' → Wp t' es' → t'.led = t.led → t'.plain = t.plain → Q () { s with heap := s.heap.update a (Obj.putSet es' t') }) : wpAny (model prog w) A (setRelay a wanted) Q E s := by
  unfold setRelay
  refine wpAny_bind (wpAny_setState_of ho hd hf ?_)
  dsimp only
  have hc : covers (m' + 1) = true := by
    rcases hm with e | e | e | e <;> rw [e]
    · exact cov8
    · exact cov32
    · exact cov128
    · exact cov512
  obtain ⟨pl, order, e1, e2, e3, e4⟩ := laid_okW (mask := m') (finger := t.finger) (moves := t.movedTo m') (led := t.led) (plain := t.plain) hc es hs
  have hr : t.relaid (es.map (·.1)) wanted = some ({ mask := m', place := pl, dummies := #[], finger := t.finger, led := t.led, moves := t.movedTo m', plain := t.plain }, order) := by
    unfold SetTable.relaid
    rw [hw, Nat.add_sub_cancel]
    exact e1
  have hsz : (order.filterMap (es[·]?)).size = es.size := by rw [← Array.length_toList, e3.length_eq, Array.length_toList]
  rw [hw, hr]
  have hlt : ¬ (m' + 1 > sizeLine) := by rw [sizeLine_eq]; omega
  rw [if_neg hlt]
  refine wpAny_bind (wpAny_of_eq (a := (order.filterMap (es[·]?), ({ mask := m', place := pl, dummies := #[], finger := t.finger, led := t.led, moves := t.movedTo m', plain := t.plain } : SetTable))) ?_ ?_)
  · show (if ((order.filterMap (es[·]?)).size != es.size) = true then _ else _) = _
    rw [hsz, if_neg (by simp)]
  · dsimp only
    exact wpAny_storeSet_of ho hd (h _ _ e3 e2 rfl rfl (e4 _ rfl rfl) rfl rfl) (by rw [hsz, sizeLine_eq]; omega)
end
end L2

namespace L2
open PySem PySem.Spec PyProof.Rows PySem.NumText
theorem paired_ins {α β : Type} {R : α → β → Prop} {e : α} {d : β} (h : R e d) : ∀ (p : Nat) {l : List α} {m : List β}, Paired R l m → Paired R (l.take p ++ e :: l.drop p) (m.take p ++ d :: m.drop p)
  | 0, _, _, r => by
    rw [List.take_zero, List.take_zero, List.drop_zero, List.drop_zero]
    exact .cons h r
  | p + 1, _, _, .nil => by
    rw [List.take_nil, List.drop_nil, List.take_nil, List.drop_nil]
    exact .cons h .nil
  | p + 1, _, _, .cons a b => .cons a (paired_ins h p b)
theorem paired_perm {α β : Type} {R : α → β → Prop} {l' l : List α} (h : l'.Perm l) : ∀ {m : List β}, Paired R l m → ∃ m', m'.Perm m ∧ Paired R l' m' := by
  induction h with
  | nil => intro m r; exact ⟨m, .refl _, r⟩
  | cons x _ ih =>
    intro m r
    cases r with
    | cons a b =>
      obtain ⟨m', h1, h2⟩ := ih b
      exact ⟨_ :: m', h1.cons _, .cons a h2⟩
  | swap x y l =>
    intro m r
    cases r with
    | cons a b =>
      cases b with
      | cons c d => exact ⟨_ :: _ :: _, .swap _ _ _, .cons c (.cons a d)⟩
  | trans _ _ ih1 ih2 =>
    intro m r
    obtain ⟨m1, h1, h2⟩ := ih2 r
    obtain ⟨m2, h3, h4⟩ := ih1 h2
    exact ⟨m2, h3.trans h1, h4⟩
theorem paired_at {α β : Type} {R : α → β → Prop} : ∀ {l : List α} {m : List β}, Paired R l m → ∀ {i : Nat} {e : α}, l[i]? = some e → ∃ d, m[i]? = some d ∧ R e d
  | _, _, .nil, i, e, h => by simp at h
  | _, _, .cons a b, 0, e, h => by cases (Option.some.inj h); exact ⟨_, rfl, a⟩
  | _, _, .cons a b, i + 1, e, h => by
    obtain ⟨r, h1, h2⟩ := paired_at b (i := i) (by simpa using h)
    exact ⟨r, by simpa using h1, h2⟩
theorem paired_at2 {α β : Type} {R : α → β → Prop} : ∀ {l : List α} {m : List β}, Paired R l m → ∀ {i : Nat} {d : β}, m[i]? = some d → ∃ e, l[i]? = some e ∧ R e d
  | _, _, .nil, i, e, h => by simp at h
  | _, _, .cons a b, 0, e, h => by cases (Option.some.inj h); exact ⟨_, rfl, a⟩
  | _, _, .cons a b, i + 1, e, h => by
    obtain ⟨r, h1, h2⟩ := paired_at2 b (i := i) (by simpa using h)
    exact ⟨r, by simpa using h1, h2⟩
/-! ### a set of unlike data -/
noncomputable abbrev Mem := Addr × PyData
noncomputable def MemR (e : Int × Value) (q : Mem) : Prop := e.2 = .ref q.1 ∧ e.1 = hashD q.2
noncomputable def SetO (o : Obj) (qs : List Mem) : Prop := ∃ es ep t qs', o.ExactSet ∧ o.data = .set es ep t ∧ t.fits es.size = true ∧ Fit t ∧ t.fill * 5 < t.mask * 3 ∧ Wp t es ∧ qs'.Perm qs ∧ Paired MemR es.toList qs'
/-- the table's marks, as walking it asks them -/
noncomputable def Led (b : Bool) (h : Heap) (a : Addr) : Prop := ∃ o es ep t, h.get? a = some o ∧ o.data = .set es ep t ∧ t.led = b ∧ t.plain = true
noncomputable def SetX (h : Heap) (a : Addr) (qs : List Mem) : Prop := ∃ o, h.get? a = some o ∧ SetO o qs
section
variable {prog : Program} {w : World} {A : Around} {E : Value → Shared → Prop} {s : Shared}
/-- a search that finds what is there -/
theorem search_there {a : Addr} {o : Obj} {es : Array (Int × Value)} {ep : Nat} {t : ST} {qs' : List Mem} {x : Value} {dx : PyData} {Q : SetFound → Shared → Prop} (ho : s.heap.get? a = some o) (hd : o.data = .set es ep t) (hf : t.fits es.size = true) (f : Fit t) (wp : Wp t es) (hp : Paired MemR es.toList qs')
    (hel : ∀ q ∈ qs', El s.heap (.ref q.1) q.2) (hx : El s.heap x dx) {q : Mem} (hq : q ∈ qs') (e : q.2 = dx) (hu : A.units + 10 < cLine) (b : Bool) (hQ : ∀ r : Option Nat, (b = false → r.isSome = true) → Q (.there r) s) : wpAny (model prog w) A (setSearch a x (hashD dx) b) Q E s := by
  obtain ⟨i0, hi0⟩ := List.getElem?_of_mem hq
  obtain ⟨e0, he0, hr0⟩ := paired_at2 hp hi0
  rw [Array.getElem?_toList] at he0
  have hpl : t.place.size = es.size := by
    have := hf
    unfold SetTable.fits at this
    rw [Bool.and_eq_true] at this
    exact eq_of_beq this.1
  have hil : i0 < t.place.size := by rw [hpl]; exact (Array.getElem?_eq_some_iff.mp he0).1
  have hpi := Array.getElem?_eq_getElem hil
  obtain ⟨n0, hn, hlv⟩ := wp.rch i0 _ e0 hpi he0
  have hh : e0.1 = hashD dx := by rw [hr0.2, e]
  rw [hh] at hn hlv
  refine search_oldW ho hd hf f hx (fun i => (qs'.getD i (0, .none)).2) (fun i e1 he1 => ?_) (i0 := i0) (n0 := n0) (y0 := e0.2) (by rw [he0, ← hh]) ?_ (by rw [hn]; exact slot_at wp.mono hpi) (fun k hk => let ⟨i', hi'⟩ := hlv k hk; ⟨i', slot_at wp.mono hi'⟩) hu b hQ
  · obtain ⟨q1, hq1, hr1⟩ := paired_at hp (i := i) (e := e1) (by rw [Array.getElem?_toList]; exact he1)
    rw [hr1.1, List.getD_eq_getElem?_getD, hq1]
    exact hel q1 (List.mem_of_getElem? hq1)
  · rw [List.getD_eq_getElem?_getD, hi0]
    show PyData.eqv q.2 dx = true
    rw [e]
    exact eqv_self hx.oi
theorem unlike_of {qs' : List Mem} {es : Array (Int × Value)} {dx : PyData} (hp : Paired MemR es.toList qs') (hel : ∀ q ∈ qs', El s.heap (.ref q.1) q.2) (hx : onlyI dx = true) (hn : ∀ q ∈ qs', q.2 ≠ dx) : ∀ e ∈ es.toList, ∃ d, El s.heap e.2 d ∧ PyData.eqv d dx = false := fun e he => by
  obtain ⟨i, hi⟩ := List.getElem?_of_mem he
  obtain ⟨q1, hq1, hr1⟩ := paired_at hp hi
  have hm := List.mem_of_getElem? hq1
  have hl := hel q1 hm
  refine ⟨q1.2, by rw [hr1.1]; exact hl, ?_⟩
  cases h : PyData.eqv q1.2 dx with
  | false => rfl
  | true => exact absurd (eqv_eq _ _ hl.oi hx h) (hn q1 hm)
theorem add_any {a : Addr} {qs : List Mem} {ax : Addr} {dx : PyData} {Q : Bool → Shared → Prop} (hS : SetX s.heap a qs) (hel : ∀ q ∈ qs, El s.heap (.ref q.1) q.2) (hx : El s.heap (.ref ax) dx) (hlen : qs.length < 300) (hu : A.units + 10 < cLine)
    (hold : (∃ q ∈ qs, q.2 = dx) → Q false s) (hq : (∀ q ∈ qs, q.2 ≠ dx) → ∀ h', Heap.SameBut a s.heap h' → SetX h' a ((ax, dx) :: qs) → (∀ b, Led b s.heap a → Led b h' a) → Q true { s with heap := h' }) : wpAny (model prog w) A (setAddHashed a (.ref ax) (hashD dx)) Q E s := by
  obtain ⟨o, ho, es, ep, t, qs', hex, hd, hf, f, hfull, wp, pm, hp⟩ := hS
  have hel' : ∀ q ∈ qs', El s.heap (.ref q.1) q.2 := fun q hq => hel q (pm.mem_iff.mp hq)
  have hsz : es.size = qs.length := by rw [← Array.length_toList, Paired.length hp, pm.length_eq]
  obtain ⟨h, hhd⟩ : ∃ h, h = hashD dx := ⟨_, rfl⟩
  have hhd2 : h = hashD dx := hhd
  have hpl : t.place.size = es.size := by
    have := hf
    unfold SetTable.fits at this
    rw [Bool.and_eq_true] at this
    exact eq_of_beq this.1
  have hfill : t.fill = t.place.size := by unfold SetTable.fill; rw [f.dum]; rfl
  rw [hfill, hpl] at hfull
  unfold setAddHashed setAddHashedIn
  refine wpAny_holding (wpAny_bind (wpAny_setState_of ho hd hf ?_))
  dsimp only
  have hbs : byScan (.ref ax) es = false := rfl
  rw [hbs]
  simp only [Bool.false_eq_true, if_false]
  by_cases hqq : ∃ q ∈ qs', q.2 = dx
  · obtain ⟨q, hqm, hqe⟩ := hqq
    refine wpAny_bind (search_there ho hd hf f wp hp hel' hx hqm hqe hu true fun r _ => ?_)
    exact wpAny_pure (hold ⟨q, pm.mem_iff.mp hqm, hqe⟩)
  have hne : ∀ q ∈ qs', q.2 ≠ dx := fun q hqm e => hqq ⟨q, hqm, e⟩
  refine wpAny_bind (search_newW ho hd hf f hx (unlike_of hp hel' hx.oi hne) hu true fun N hemp hlv => ?_)
  obtain ⟨j, hj⟩ : ∃ j, j = (path t N (t.probeStart (hashD dx))).j := ⟨_, rfl⟩
  rw [← hj] at hemp ⊢
  have hfree : ∀ i : Nat, t.place[i]? ≠ some j := fun i e => by
    rw [slot_at wp.mono e] at hemp
    cases hemp
  rw [← hhd] at hj hlv ⊢
  dsimp only
  refine wpAny_bind (wpAny_setState_of ho hd hf ?_)
  dsimp only
  have hput : (t.put j).1 = { t with place := SetTable.insertAt t.place (SetTable.below t.place j) j } := by
    unfold SetTable.put
    dsimp only
    have : SetTable.has t.dummies j = false := by rw [f.dum]; unfold SetTable.has; simp
    rw [this, if_neg Bool.false_ne_true]
  have hput2 : (t.put j).2 = SetTable.below t.place j := rfl
  rw [hput, hput2]
  have h1sz : (SetTable.insertAt es (SetTable.below t.place j) (h, .ref ax)).size = es.size + 1 := ins_size _ _ _
  obtain ⟨qs1, hqs1⟩ : ∃ qs1, qs1 = qs'.take (SetTable.below t.place j) ++ (ax, dx) :: qs'.drop (SetTable.below t.place j) := ⟨_, rfl⟩
  have hpq1 : qs1.Perm ((ax, dx) :: qs) := by
    rw [hqs1]
    refine List.perm_middle.trans (.cons _ ?_)
    rw [List.take_append_drop]
    exact pm
  have hpr1 : Paired MemR (SetTable.insertAt es (SetTable.below t.place j) (h, .ref ax)).toList qs1 := by
    rw [ins_list, hqs1]
    exact paired_ins (R := MemR) ⟨rfl, hhd⟩ _ hp
  have hwp1 : ∀ t1 : ST, t1.mask = t.mask → t1.place = SetTable.insertAt t.place (SetTable.below t.place j) j → Wp t1 (SetTable.insertAt es (SetTable.below t.place j) (h, .ref ax)) := fun t1 e1 e2 => wp.ins hpl (N := N) (e := (h, .ref ax)) hj.symm hfree hlv e1 e2
  generalize SetTable.insertAt es (SetTable.below t.place j) (h, .ref ax) = es1 at h1sz hpr1 hwp1 ⊢
  have hmge : 7 ≤ t.mask := by rcases f.msk with e | e | e | e <;> omega
  have tail : ∀ pb : Bool, (t.plain = true → pb = true) → wpAny (model prog w) A (do
      storeSet a es1 { t with place := SetTable.insertAt t.place (SetTable.below t.place j) j, plain := pb }
      if (!false && ({ t with place := SetTable.insertAt t.place (SetTable.below t.place j) j, plain := pb } : SetTable).tooFull) = true then setRelay a (SetTable.grown (es.size + 1))
      return true) Q E s := by
    intro pb hpb
    refine wpAny_bind (wpAny_storeSet_of ho hd ?_ (by rw [h1sz, sizeLine_eq]; omega))
    have p1 : (SetTable.insertAt t.place (SetTable.below t.place j) j).size = es.size + 1 := by rw [ins_size, hpl]
    generalize ht1 : ({ t with place := SetTable.insertAt t.place (SetTable.below t.place j) j, plain := pb } : SetTable) = t1
    have m1 : t1.mask = t.mask := by rw [← ht1]
    have l1 : t1.led = t.led := by rw [← ht1]
    have l2 : t.plain = true → t1.plain = true := by rw [← ht1]; exact hpb
    have ledK : ∀ {h' : Heap} {es3 : Array (Int × Value)} {ep3 : Nat} {t3 : SetTable}, h'.get? a = some { o with data := .set es3 ep3 t3 } → t3.led = t1.led → t3.plain = t1.plain → ∀ b, Led b s.heap a → Led b h' a := by
      rintro h' es3 ep3 t3 g3 e3 p3 b ⟨o0, es0, ep0, t0, g0, d0, b0, q0⟩
      rw [ho] at g0
      cases g0
      rw [hd] at d0
      cases d0
      exact ⟨_, es3, ep3, t3, g3, rfl, by rw [e3, l1, b0], by rw [p3]; exact l2 q0⟩
    have q1 : t1.place.size = es.size + 1 := by rw [← ht1]; exact p1
    have d1 : t1.dummies = #[] := by rw [← ht1]; exact f.dum
    have fl1 : t1.fill = es.size + 1 := by unfold SetTable.fill; rw [d1, q1]; rfl
    have fits1 : t1.fits es1.size = true := by
      unfold SetTable.fits
      rw [q1, h1sz, fl1, m1, beq_self_eq_true, Bool.true_and]
      exact decide_eq_true (by omega)
    have fit1 : Fit t1 := ⟨d1, by rw [q1, m1]; omega, by rw [m1]; exact f.msk⟩
    have hg1 : (s.heap.update a (Obj.putSet es1 t1)).get? a = some { o with data := .set es1 (ep + 1) t1 } := by
      have := Heap.get?_update_self (Obj.putSet es1 t1) ho (by rw [putSet_of es1 t1 hd]; rfl)
      rw [putSet_of es1 t1 hd] at this; exact this
    have sb1 := Heap.SameBut.update s.heap a (Obj.putSet es1 t1)
    simp only [Bool.not_false, Bool.true_and]
    by_cases hfu : t1.tooFull = true
    · rw [if_pos hfu]
      have hfu' : t1.mask * 3 ≤ t1.fill * 5 := by unfold SetTable.tooFull at hfu; exact of_decide_eq_true hfu
      rw [fl1, m1] at hfu'
      obtain ⟨m', hm', hw, hlt⟩ : ∃ m', (m' = 7 ∨ m' = 31 ∨ m' = 127 ∨ m' = 511) ∧ SetTable.sizeAbove (SetTable.grown (es.size + 1)) = m' + 1 ∧ (es.size + 1) * 5 < m' * 3 := by
        rcases f.msk with e | e | e | e
        · have : es.size = 4 := by omega
          exact ⟨31, .inr (.inl rfl), by rw [this]; decide, by omega⟩
        · have : es.size = 18 := by omega
          exact ⟨127, .inr (.inr (.inl rfl)), by rw [this]; decide, by omega⟩
        · have : es.size = 76 := by omega
          exact ⟨511, .inr (.inr (.inr rfl)), by rw [this]; decide, by omega⟩
        · omega
      refine wpAny_bind (relay_newW (s := { s with heap := s.heap.update a (Obj.putSet es1 t1) }) hg1 rfl fits1 hw hm' (by rw [h1sz]; omega) fun es2 t2 hp2 hpl2 hd2 hm2 hwp2 hl2 hpp2 => ?_)
      have hg2 : ((s.heap.update a (Obj.putSet es1 t1)).update a (Obj.putSet es2 t2)).get? a = some { o with data := .set es2 (ep + 1 + 1) t2 } := by
        have := Heap.get?_update_self (Obj.putSet es2 t2) hg1 (by rw [putSet_of es2 t2 rfl]; rfl)
        rw [putSet_of es2 t2 rfl] at this; exact this
      have hsz2 : es2.size = es.size + 1 := by rw [← Array.length_toList, hp2.length_eq, Array.length_toList, h1sz]
      have fl2 : t2.fill = es.size + 1 := by unfold SetTable.fill; rw [hd2, hpl2, h1sz]; rfl
      obtain ⟨qs2, hq2, hpr2⟩ := paired_perm hp2 hpr1
      refine wpAny_pure (hq (fun q hqm => hne q (pm.mem_iff.mpr hqm)) _ (sb1.trans (Heap.SameBut.update _ a _)) ⟨_, hg2, es2, ep + 1 + 1, t2, qs2, hex, rfl, ?_, ⟨hd2, by rw [hpl2, h1sz, hm2]; omega, by rw [hm2]; exact hm'⟩, by rw [fl2, hm2]; exact hlt, hwp2, hq2.trans hpq1, hpr2⟩ (ledK hg2 hl2 hpp2))
      unfold SetTable.fits
      rw [hpl2, h1sz, hsz2, fl2, hm2, beq_self_eq_true, Bool.true_and]
      exact decide_eq_true (by omega)
    · rw [if_neg hfu]
      have hnf : t1.fill * 5 < t1.mask * 3 := by
        have : ¬ (t1.fill * 5 ≥ t1.mask * 3) := fun z => hfu (by unfold SetTable.tooFull; exact decide_eq_true z)
        omega
      exact wpAny_pure (hq (fun q hqm => hne q (pm.mem_iff.mpr hqm)) _ sb1 ⟨_, hg1, es1, ep + 1, t1, qs1, hex, rfl, fits1, fit1, hnf, hwp1 t1 m1 (by rw [← ht1]), hpq1, hpr1⟩ (ledK hg1 rfl rfl))
  by_cases hpn : t.plain = true
  · simp only [hpn, if_true]
    obtain ⟨as, rx⟩ := hx.rd
    refine wpAny_bind (byval_data 4 dx A _ _ _ as hx.dp rx hx.oi 8 _ (by decide) ?_)
    simp only [if_true]
    exact tail true fun _ => rfl
  · simp only [hpn, if_false, Bool.false_eq_true]
    refine wpAny_bind (wpAny_pure ?_)
    simp only [if_true]
    exact tail false fun z => absurd z hpn
end
end L2

namespace L2
open PySem PySem.Spec PyProof.Rows PySem.NumText
/-! ### set(a list), whatever stands twice in it -/
noncomputable def SetQ (bl : Bool) (h : Heap) (a : Addr) (val : Nat → PyData) (P : Nat → Value → Prop) (n : Nat) : Prop := ∃ qs, SetX h a qs ∧ Led bl h a ∧ (∀ q ∈ qs, ∃ j, j < n ∧ P j (.ref q.1) ∧ q.2 = val j) ∧ (∀ j, j < n → ∃ q ∈ qs, q.2 = val j) ∧ (qs.map (·.2)).Nodup ∧ qs.length ≤ n
theorem SetQ.at {bl : Bool} {h h' : Heap} {a : Addr} {val : Nat → PyData} {P : Nat → Value → Prop} {n : Nat} (x : SetQ bl h a val P n) (k : ∀ o, h.get? a = some o → h'.get? a = some o) : SetQ bl h' a val P n := by
  obtain ⟨qs, ⟨o, ho, r⟩, ⟨o', es, ep, t, g, l⟩, r'⟩ := x
  exact ⟨qs, ⟨o, k o ho, r⟩, ⟨o', es, ep, t, k o' g, l⟩, r'⟩
section
variable {prog : Program} {w : World} {A : Around} {E : Value → Shared → Prop} {s : Shared}
theorem code_set_newL (a : Value) {Q₁ : Value → Shared → Prop}
    (h : Q₁ (.ref s.heap.objs.size) { s with heap := s.heap.push { cls := .type "set", dict := none, data := .set #[] 0 (.fresh 0 0 (!w.params.followText "set-order")) } }) :
    codeAny (model prog w) A (.call (.builtin "set.__new__") ⟨[.type "set", a], []⟩) (wants Q₁ E) s := by
  refine codeAny_of_tree ?_
  show wpAny _ A.in1 (do checkBuiltinCall "set.__new__" ⟨[.type "set", a], []⟩; again (.builtin "set.__new__" ⟨[.type "set", a], []⟩)) _ _ s
  refine wpAny_bind (wpAny_of_eq (F.newCall_set_1 a) (wpAny_pure ⟨plainId_quiet F.plain_set_new _, codeAny_builtin F.entry_set_new ?_⟩))
  rw [Around.under_plainId F.plain_set_new _]
  unfold Builtin.«set.__new__» Builtin.Frozenset.newClass
  have hsub := sub_set_self
  obtain ⟨hp, g, d, tk, os⟩ := s
  dsimp only
  wp_walk
  refine wpAny_askSetting (wpAny_pure ?_)
  dsimp only
  simp only [newObj]
  refine wpAny_bind (wpAny_alloc (wpAny_pure ?_))
  exact wpAny_pure h
theorem newSetL {Q : Value → Shared → Prop}
    (h : Q (.ref s.heap.objs.size) { s with heap := s.heap.push { cls := .type "set", dict := none, data := .set #[] 0 (.fresh 0 0 (!w.params.followText "set-order")) } }) : wpAny (model prog w) A (newSet (.type "set")) Q E s := by
  unfold newSet setsByText
  refine wpAny_bind (wpAny_bind (wpAny_askSetting (wpAny_pure ?_)))
  dsimp only
  simp only [newObj]
  exact wpAny_bind (wpAny_alloc (wpAny_pure h))
end
section
variable {prog : Program} {w : World} {A : Around} {R : Result → Shared → Prop} {I : Addr} {fp wr : List Addr} {G : Array GenState → Array GenState → Prop} {n : Nat} {P : Nat → Value → Prop} {St : Nat → Shared → Prop}
theorem set_loopX (bl : Bool) (W : WalksS prog w A.in1 I fp wr G n P St) (S : Addr) (hSf : S ∉ fp) (h0 : Heap) (val : Nat → PyData) (hval : ∀ i v, P i v → El h0 v (val i)) (hb : n < 300) (hu : A.units + 20 < cLine)
    (hS0 : h0.get? S = none) (hw0 : ∀ b ∈ wr, h0.get? b = none) :
    ∀ (k i : Nat) (s : Shared), n - i = k → i ≤ n → St i s → (∀ b o, h0.get? b = some o → s.heap.get? b = some o) → SetQ bl s.heap S val P i →
      (∀ s', Moved (S :: wr) G s s' → SetQ bl s'.heap S val P n → R (.ok (.ret .none)) s') →
      codeAny (model prog w) A (.builtin "set.update.loop" ⟨[.ref S, .ref I], []⟩) R s := by
  have hSw : S ∉ wr := fun h => hSf (W.sub _ h)
  have hsub : ∀ b ∈ wr, b ∈ S :: wr := fun b hb => List.mem_cons_of_mem _ hb
  have h0w : ∀ b o, h0.get? b = some o → b ∉ wr := fun b o e hb => by rw [hw0 b hb] at e; cases e
  have h0S : ∀ b o, h0.get? b = some o → b ≠ S := fun b o e hb => by rw [hb, hS0] at e; cases e
  intro k
  induction k with
  | zero =>
    intro i s hk hi hst hkept hS hR
    have hin : i = n := by omega
    subst hin
    refine codeAny_builtin F.entry_set_update_loop ?_
    rw [Around.under_plainId F.plain_set_update_loop _]
    show wpAny _ A.in1 (pyNext (.ref I) >>= _) _ _ s
    refine wpAny_bind (W.done s _ _ hst fun s' hm => ?_)
    show wpAny _ A.in1 (ret Value.none) _ _ s'
    exact wpAny_pure (hR s' (hm.mono hsub) (hS.at fun o e => hm.heap S _ hSw e))
  | succ k ih =>
    intro i s hk hi hst hkept hS hR
    have hlt : i < n := by omega
    refine codeAny_builtin F.entry_set_update_loop ?_
    rw [Around.under_plainId F.plain_set_update_loop _]
    show wpAny _ A.in1 (pyNext (.ref I) >>= _) _ _ s
    refine wpAny_bind (W.item i s _ _ hlt hst fun v s' hP hst' hm => ?_)
    have hv := hval i v hP
    have hS' : SetQ bl s'.heap S val P i := hS.at fun o e => hm.heap S _ hSw e
    have hkept' : ∀ b o, h0.get? b = some o → s'.heap.get? b = some o := fun b o e => hm.heap b o (h0w b o e) (hkept b o e)
    show wpAny _ A.in1 (holding [v] (setAdd S v) >>= _) _ _ s'
    refine wpAny_bind (wpAny_holding ?_)
    unfold setAdd
    refine wpAny_holding ?_
    have hv' := hv.kept hkept'
    obtain ⟨as, rx⟩ := hv'.rd
    obtain ⟨ax, rfl⟩ := hv.rf
    refine wpAny_bind (hash_fun 4 (val i) A.in1 _ s' (.ref ax) as hv.dp rx hv.oi (by show A.units + 1 + 4 < cLine; omega) _ fun tk htk => ?_)
    obtain ⟨qs, hX, hld, hel, hmem, hnd, hle⟩ := hS'
    have go : ∀ h', Heap.SameBut S s'.heap h' → SetQ bl h' S val P (i + 1) → wpAny (model prog w) A.in1 (again (.builtin "set.update.loop" ⟨[.ref S, .ref I], []⟩))
        (fun fin s' => match fin with | .done f => R (.ok f) s' | .again c' => c'.quiet = true ∧ codeAny (model prog w) A c' R s') (fun e s' => R (.error e) s') { s' with heap := h', toks := tk } := by
      intro h' hsb hSi
      have hk2 : ∀ b o, h0.get? b = some o → h'.get? b = some o := fun b o e => by rw [hsb.2 b (h0S b o e)]; exact hkept' b o e
      refine wpAny_pure ⟨plainId_quiet F.plain_set_update_loop _, ih (i + 1) _ (by omega) hlt (W.frame _ s' _ _ hst' htk fun b hb o e => ?_) hk2 hSi fun s'' hm'' hS'' => ?_⟩
      · rw [hsb.2 b (fun h : b = S => hSf (by rw [← h]; exact hb))]; exact e
      · refine hR s'' (Moved.trans W.gtrans ((hm.mono hsub).then_heap htk fun b o hb e => ?_) hm'') hS''
        rw [hsb.2 b (fun h : b = S => hb (by rw [h]; exact List.mem_cons_self))]; exact e
    have hel' : ∀ q ∈ qs, El s'.heap (.ref q.1) q.2 := fun q hq => by
      obtain ⟨j, _, hPj, e⟩ := hel q hq
      rw [e]
      exact (hval j _ hPj).kept hkept'
    refine add_any (s := { s' with toks := tk }) hX hel' hv' (by omega) (by show A.units + 1 + 10 < cLine; omega) (fun hold => ?_) (fun hnew h' hsb hS2 hlk => ?_)
    · refine go s'.heap ⟨rfl, fun _ _ => rfl⟩ ⟨qs, hX, hld, fun q hq => let ⟨j, h1, h2⟩ := hel q hq; ⟨j, by omega, h2⟩, fun j hj => ?_, hnd, by omega⟩
      rcases Nat.lt_or_ge j i with hl | hg
      · exact hmem j hl
      · have : j = i := by omega
        subst this
        exact hold
    · refine go h' hsb ⟨(ax, val i) :: qs, hS2, hlk _ hld, fun q hq => ?_, fun j hj => ?_, ?_, by rw [List.length_cons]; omega⟩
      · rcases List.mem_cons.mp hq with rfl | hq
        · exact ⟨i, by omega, hP, rfl⟩
        · obtain ⟨j, h1, h2⟩ := hel q hq
          exact ⟨j, by omega, h2⟩
      · rcases Nat.lt_or_ge j i with hl | hg
        · obtain ⟨q, hq, e2⟩ := hmem j hl
          exact ⟨q, List.mem_cons_of_mem _ hq, e2⟩
        · have : j = i := by omega
          subst this
          exact ⟨_, List.mem_cons_self, rfl⟩
      · rw [List.map_cons]
        refine List.nodup_cons.mpr ⟨fun hm => ?_, hnd⟩
        obtain ⟨q, hq, e⟩ := List.mem_map.mp hm
        exact hnew q hq e
end
section
variable {prog : Program} {w : World} {A : Around} {E : Value → Shared → Prop} {s : Shared}
set_option maxRecDepth 100000 in
set_option maxHeartbeats 3200000 in
theorem call_set_any {l : Addr} {items : Array Value} {val : Nat → PyData} {Q : Value → Shared → Prop}
    (hh : A.handled = none) (hl : s.heap.IsList l items) (hi : ∀ i v, items[i]? = some v → El s.heap v (val i)) (hb : items.size < 300) (hu : A.units + 30 < cLine)
    (h : ∀ (h' : Heap) (tk : Nat), SetQ (!w.params.followText "set-order") h' s.heap.objs.size val (fun i v => items[i]? = some v) items.size →
      (∀ b o, b < s.heap.objs.size → s.heap.get? b = some o → h'.get? b = some o) → Q (.ref s.heap.objs.size) { s with heap := h', toks := tk }) :
    wpAny (model prog w) A (call (.type "set") [.ref l]) Q E s := by
  obtain ⟨c, tl, hmro⟩ := F.called_set.mro
  have hmade := F.called_set.made
  have hsub := F.called_set.sub
  refine wpAny_call (codeAny_of_tree ?_)
  show wpAny _ _ (callAny (.type "set") _) _ _ _
  refine wpAny_pure ⟨Code.quiet_builtin _ (by decide +kernel), codeAny_builtin F.entry_type_call ?_⟩
  rw [Around.under_plain (weight_type_call_type "set" [.ref l] []) rfl]
  have h1 := F.called_set.notType
  have h2 := F.called_set.canCreate
  have hct := F.typeCall_set_1 (.ref l)
  repeat (any_goals (first | assumption | wp_step))

  refine codeAny_mono (code_set_newL (.ref l) (E := E) (Q₁ := fun obj s₁ => ∃ led : Bool, led = (!w.params.followText "set-order") ∧ obj = .ref s.heap.objs.size ∧ s₁ = { s with heap := s.heap.push { cls := .type "set", dict := none, data := .set #[] 0 (.fresh 0 0 led) } }) ⟨_, rfl, rfl, rfl⟩) fun r s₁ hr => ?_
  cases r with
  | error e => exact hr
  | ok fl =>
    cases fl with
    | ret obj =>
      obtain ⟨led, hled, rfl, rfl⟩ := hr
      have hS : (s.heap.push { cls := .type "set", dict := none, data := .set #[] 0 (.fresh 0 0 led) }).get? s.heap.objs.size = some { cls := .type "set", dict := none, data := .set #[] 0 (.fresh 0 0 led) } := Heap.get?_push_size _ rfl
      have hT : Shared.TypeIs { s with heap := s.heap.push { cls := .type "set", dict := none, data := .set #[] 0 (.fresh 0 0 led) } } (.ref s.heap.objs.size) "set" := ⟨_, hS, rfl⟩
      have hli := F.called_set.init.lookup
      have hbi := F.called_set.init.bind (.ref s.heap.objs.size)
      repeat (any_goals (first | assumption | wp_step))

      refine codeAny_mono (codeAny_call_builtin (R := wants (fun r s₂ => r = .none ∧ ∃ h' tk, s₂ = { s with heap := h', toks := tk } ∧
          SetQ (!w.params.followText "set-order") h' s.heap.objs.size val (fun i v => items[i]? = some v) items.size ∧
          (∀ b o, b < s.heap.objs.size → s.heap.get? b = some o → h'.get? b = some o)) E) F.called_set.init.plain F.entry_set_init (check_set_init_1 hT ?_)) fun r₂ s₂ hr₂ => ?_
      · obtain ⟨ol, hol, hcl, nl, hdl⟩ := hl
        obtain ⟨ocls, odict, odata, oslots⟩ := ol
        simp only at hcl hdl
        subst hcl; subst hdl
        have hol' : (s.heap.push { cls := .type "set", dict := none, data := .set #[] 0 (.fresh 0 0 led) }).get? l = some { cls := .type "list", dict := odict, data := .seq items nl, slots := oslots } := Heap.get?_push_of_some _ hol
        have hsls := F.sub_list_set
        have hslf := F.sub_list_frozenset
        have hne : (Value.type "list" == Value.type "dict") = false := by decide
        have hl1 : (s.heap.push { cls := .type "set", dict := none, data := .set #[] 0 (.fresh 0 0 led) }).IsList l items := ⟨_, hol', rfl, nl, rfl⟩
        unfold Builtin.«set.__init__» noKeywords Builtin.Frozenset.updateFrom
        generalize hPI : pyIter = PI
        wp_walk
        subst hPI

        refine wpAny_pyIter_list hl1 ?_
        refine wpAny_bind (wpAny_runValue ?_)
        have hlS : l < s.heap.objs.size := Heap.lt_size hol
        have hh3 : A.in1.in1.in1.handled = none := by simp [hh]
        have hneI : l ≠ (s.heap.push { cls := .type "set", dict := none, data := .set #[] 0 (.fresh 0 0 led) }).objs.size := by
          rw [Heap.size_push]; exact Nat.ne_of_lt (Nat.lt_succ_of_lt hlS)
        have hSf : s.heap.objs.size ∉ [(s.heap.push { cls := .type "set", dict := none, data := .set #[] 0 (.fresh 0 0 led) }).objs.size, l] := by
          rw [Heap.size_push]; simp only [List.mem_cons, List.mem_singleton, List.not_mem_nil, or_false, not_or]
          exact ⟨Nat.ne_of_lt (Nat.lt_succ_self _), Nat.ne_of_gt hlS⟩
        have hfr : s.heap.get? s.heap.objs.size = none := by
          cases e : s.heap.get? s.heap.objs.size with
          | none => rfl
          | some o' => exact absurd (Heap.lt_size e) (Nat.lt_irrefl _)
        have hfr2 : s.heap.get? (s.heap.objs.size + 1) = none := by
          cases e : s.heap.get? (s.heap.objs.size + 1) with
          | none => rfl
          | some o' => exact absurd (Heap.lt_size e) (Nat.not_lt.mpr (Nat.le_succ _))
        refine set_loopX (!w.params.followText "set-order") ((Walks.list hh3 _ l hneI items).toS) s.heap.objs.size hSf s.heap val (fun i v hv => hi i v hv) hb (by show A.units + 1 + 1 + 20 < cLine; omega) hfr (fun b hb' => ?hw) (items.size - 0) 0 _ (by omega) (Nat.zero_le _)
          ⟨⟨_, Heap.get?_push_size _ rfl, rfl, rfl⟩, (hl1.push _)⟩ (fun b o e => Heap.get?_push_of_some _ (Heap.get?_push_of_some _ e)) ?hS0 ?hR
        case hw =>
          rcases List.mem_cons.mp hb' with rfl | hb'
          · rw [Heap.size_push]; exact hfr2
          · cases hb'
        case hS0 =>
          have hget : ((s.heap.push { cls := .type "set", dict := none, data := .set #[] 0 (.fresh 0 0 led) }).push { cls := .type "list_iterator", data := .fields #[.ref l, .int 0 0] }).get? s.heap.objs.size
              = some { cls := .type "set", dict := none, data := .set #[] 0 (.fresh 0 0 led) } := Heap.get?_push_of_some _ hS
          exact ⟨[], ⟨_, hget, #[], 0, .fresh 0 0 led, [], ⟨rfl, rfl, rfl⟩, rfl, rfl, ⟨rfl, by show 0 ≤ 7; decide, .inl rfl⟩, by show 0 * 5 < 7 * 3; decide, ⟨(fun a b u v _ e _ => by simp [SetTable.fresh] at e), fun i j e h1 => by simp [SetTable.fresh] at h1⟩, .refl _, .nil⟩, ⟨_, _, _, _, hget, rfl, hled, rfl⟩, (fun q hq => by cases hq), (fun j hj => (by omega)), List.nodup_nil, Nat.zero_le _⟩
        case hR =>
          intro s' hm hS'
          obtain ⟨h', g', d', tk', os'⟩ := s'
          have eg : g' = s.gens := hm.gens
          have ed : d' = s.drawn := hm.drawn
          have eo : os' = s.os := hm.os
          subst eg; subst ed; subst eo
          show wpAny _ _ _ _ _ _
          refine wpAny_pure ?_
          show wpAny _ _ (ret Value.none) _ _ _
          refine wpAny_pure ⟨rfl, h', tk', rfl, hS', fun b o hb e => ?_⟩
          have hb1 : b ≠ s.heap.objs.size := Nat.ne_of_lt hb
          have hb2 : b ≠ (s.heap.push { cls := .type "set", dict := none, data := .set #[] 0 (.fresh 0 0 led) }).objs.size := by
            rw [Heap.size_push]; exact Nat.ne_of_lt (Nat.lt_succ_of_lt hb)
          exact hm.heap b o (by simp only [List.mem_cons, List.mem_singleton, List.not_mem_nil, or_false, not_or]; exact ⟨hb1, hb2⟩) (Heap.get?_push_of_some _ (Heap.get?_push_of_some _ e))

      · cases r₂ with
        | error e => exact hr₂
        | ok fl₂ =>
          cases fl₂ with
          | ret r =>
            obtain ⟨rfl, h', tk, rfl, hS', hk'⟩ := hr₂
            repeat (any_goals (first | assumption | wp_step))
            exact h _ _ hS' hk'
          | _ => exact hr₂.elim
    | _ => exact hr.elim
end
end L2

namespace L2
open PySem PySem.Spec PyProof.Rows PySem.NumText
/-! ### rules for sets of tuples of ints -/
noncomputable def ok4 (d : PyData) : Prop := onlyI d = true ∧ d.depth ≤ 4 ∧ ∃ xs, d = .tuple xs
theorem ok4_mark (m : Mark) : ok4 (markD m) := ⟨rfl, by show 1 ≤ 4; decide, _, rfl⟩
section
variable {X : Cx} {pins : List (Addr × Obj)} {σ : St} {H : Hp} {s : Shared}
theorem Inv.el (I : Inv X pins σ H s) {d : PyData} {x : V} {u : Value} (h : DV X.K H d x) (r : RelV x u) (o : ok4 d) : El s.heap u d := by
  obtain ⟨o1, o2, xs, rfl⟩ := o
  obtain ⟨as, ra⟩ := DV.reads I _ x u h r
  obtain ⟨a, vs, rfl, _⟩ := h
  cases r
  exact ⟨⟨as, ra⟩, o1, o2, a, rfl⟩
end
section
variable {X : Cx}
end
end L2

namespace L2
open PySem PySem.Spec PyProof.Rows PySem.NumText
/-! ### min(xs, default=None) -/
section
variable {prog : Program} {w : World} {A : Around} {E : Value → Shared → Prop} {s : Shared}
end
section
variable {X : Cx} {e : Expr} {ta : TA} {x : Str} {id : String} {r : List V → Hp → VK → Prop} {p pos kp kp1 : Pos} {j : Nat}
end
end L2

namespace L2
open PySem PySem.Spec PyProof.Rows PySem.NumText
/-! ### a tuple in a list of tuples -/
section
variable {X : Cx}
end
end L2

namespace L2
open PySem PySem.Spec PyProof.Rows PySem.NumText
/-! ### a dict's keys walked -/
section
variable {prog : Program} {w : World} {A : Around} {E : Value → Shared → Prop} {s : Shared} {d it : Addr} {ds : Array DictEntry} {ep i : Nat}
end
end L2

namespace L2
open PySem PySem.Spec PyProof.Rows PySem.NumText
/-! ### for m in d -/
section
variable {X : Cx} {o : Expr} {td : TE}
end
/-! a comprehension over the keys, with a test -/
/-! ### the keys collected -/
section
variable {prog : Program} {w : World} {A : Around} {E : Value → Shared → Prop} {s : Shared} {d it S : Addr} {ds : Array DictEntry} {ep : Nat}
end
/-! ### sorted(d) -/
theorem marks_srt {ks : List Mark} (nd : ks.Nodup) (few : ks.length < 250) : Srt ks (fun m => [.int m.1, .int m.2]) mLt .int where
  sto := mLt_sto
  few := few
  nd := nd
  lts := by
    intro a _ b _
    have h := markD_lt a b
    exact h
  fst := fun a _ => ⟨_, _, rfl, _, rfl⟩
  shp := fun a _ => rfl
section
variable {X : Cx}
end
end L2

namespace L2
open PySem PySem.Spec PyProof.Rows PySem.NumText
/-! ### d != {} -/
section
variable {X : Cx}
end
/-! ### d.pop(m), d.pop(m, None) -/
section
variable {prog : Program} {w : World} {A : Around} {E : Value → Shared → Prop} {s : Shared} {d q : Addr}
end
end L2

namespace L2
open PySem PySem.Spec PyProof.Rows PySem.NumText
section
variable {prog : Program} {w : World} {A : Around} {E : Value → Shared → Prop} {s : Shared} {d q : Addr}
end
section
variable {X : Cx} {o e : Expr} {td ty : TE} {apos cpos : Pos}
end
end L2

namespace L2
open PySem PySem.Spec PyProof.Rows PySem.NumText
/-! ### an empty set, walked and sorted -/
theorem slot_si_next : Slot "set_iterator" (Str.ofString "__next__") "set_iterator.__next__" := by
  refine Slot.of (owner := "set_iterator") (n := "__next__") ?_ ?_ ?_ ?_ ?_ ?_ ?_
  · rw [typeLookup_type, builtinLookup_eq_fast]; rfl
  · decide +kernel
  · decide +kernel
  · decide +kernel
  · exact Or.inl (by decide +kernel)
  · rw [isSubtype_type]; rfl
  · decide +kernel
theorem entry_si_next : entryFor table "set_iterator.__next__" = some Builtin.«set_iterator.__next__» := entryFor_of_tree (by rfl)
theorem entry_set_iterS : entryFor table "set.__iter__" = some Builtin.«frozenset.__iter__» := entryFor_alias (id' := "frozenset.__iter__") (by rfl) (by rfl) (by decide +kernel) (by rfl)
theorem args_si (a : Value) : argsOk "set_iterator.__next__" ⟨[a], []⟩ := by rfl
section
variable {prog : Program} {w : World} {A : Around} {E : Value → Shared → Prop} {s : Shared} {a it : Addr}
theorem hint_set {Q : Bool → Shared → Prop} {r : Addr} (hT : s.TypeIs (.ref r) "set") (h : Q false s) : wpAny (model prog w) A (Builtin.List.listLengthHint (.ref r)) Q E s := by
  unfold Builtin.List.listLengthHint
  refine wpAny_bind (wpAny_specialOf hT F.slot_set_len.lookup ?_)
  have sp : splitId "set.__len__" = some ("set", "__len__") := by decide +kernel
  dsimp only
  rw [sp]
  have sub : isSubtype (.type "set") (.type "set") = pure true := by rw [isSubtype_type]; rfl
  refine wpAny_bind (wpAny_isInstance hT sub ?_)
  rw [if_neg (by decide)]
  rw [if_pos (by decide +kernel)]
  refine wpAny_bind (wpAny_typeOf hT ?_)
  exact wpAny_pure h
end
end L2

namespace L2
open PySem PySem.Spec PyProof.Rows PySem.NumText
section
variable {prog : Program} {w : World} {A : Around} {E : Value → Shared → Prop} {s : Shared} {a it : Addr}
end
section
variable {X : Cx}
end
end L2

namespace L2
open PySem PySem.Spec PyProof.Rows PySem.NumText
/-! ### a set walked -/
theorem erase_perm {α : Type} : ∀ (l : List α) (n : Nat) (h : n < l.length), (l[n] :: l.eraseIdx n).Perm l
  | [], n, h => by simp at h
  | x :: l, 0, _ => .refl _
  | x :: l, n + 1, h => by
    have hl : n < l.length := by simpa using h
    show (l[n] :: x :: l.eraseIdx n).Perm (x :: l)
    exact (List.Perm.swap _ _ _).trans (.cons _ (erase_perm l n hl))
theorem pick_go {α : Type} (next : Nat → Nat) : ∀ (fuel k : Nat) (left : List α) (out : Array α), left.length = fuel → (pickOrder.go next fuel k left out).toList.Perm (out.toList ++ left)
  | 0, k, left, out, h => by
    rw [List.length_eq_zero_iff.mp h, List.append_nil]
    unfold pickOrder.go
    exact .refl _
  | fuel + 1, k, left, out, h => by
    unfold pickOrder.go
    have hl : next k % left.length < left.length := Nat.mod_lt _ (by omega)
    rw [List.getElem?_eq_getElem hl]
    dsimp only
    refine (pick_go next fuel (k + 1) _ _ (by rw [List.length_eraseIdx_of_lt hl]; omega)).trans ?_
    rw [Array.toList_push, List.append_assoc]
    refine List.Perm.append_left _ ?_
    show (left[next k % left.length] :: left.eraseIdx (next k % left.length)).Perm left
    exact erase_perm left _ hl
theorem pick_perm {α : Type} (next : Nat → Nat) (xs : Array α) : (pickOrder next xs).toList.Perm xs.toList := by
  unfold pickOrder
  have := pick_go next xs.size 0 xs.toList #[] (by simp)
  simpa using this
noncomputable def byT (w : World) : Bool := w.params.followText "set-order"
noncomputable def walkOf (w : World) (a : Addr) (ep : Nat) (es : Array (Int × Value)) : Array (Int × Value) := if byT w = true then pickOrder (w.params.setOrder a ep) es else es
theorem walk_perm {w : World} {a : Addr} {ep : Nat} {es : Array (Int × Value)} : (walkOf w a ep es).toList.Perm es.toList := by
  unfold walkOf
  split
  · exact pick_perm _ _
  · exact .refl _
theorem walk_size {w : World} {a : Addr} {ep : Nat} {es : Array (Int × Value)} : (walkOf w a ep es).size = es.size := by
  rw [← Array.length_toList, walk_perm.length_eq, Array.length_toList]
noncomputable def slotAt (b : Bool) (t : ST) (i : Nat) : Nat := if b = true then 0 else match i with | 0 => 0 | i + 1 => (t.place[i]?).getD 0 + 1
theorem below_slot {t : ST} (hs : Mono t.place) : ∀ {i : Nat}, i ≤ t.place.size → SetTable.below t.place (slotAt false t i) = i
  | 0, _ => by
    show SetTable.below t.place 0 = 0
    obtain ⟨h1, h2, _⟩ := below_spec hs 0
    cases h : SetTable.below t.place 0 with
    | zero => rfl
    | succ n =>
      rw [h] at h1 h2
      have := h2 0 _ (Nat.succ_pos _) (Array.getElem?_eq_getElem (by omega))
      omega
  | i + 1, hi => by
    show SetTable.below t.place ((t.place[i]?).getD 0 + 1) = i + 1
    have hii : i < t.place.size := hi
    have ge : t.place[i]? = some t.place[i] := Array.getElem?_eq_getElem hii
    rw [ge]
    show SetTable.below t.place (t.place[i] + 1) = i + 1
    obtain ⟨h1, h2, h3⟩ := below_spec hs (t.place[i] + 1)
    have u1 : ¬ SetTable.below t.place (t.place[i] + 1) ≤ i := fun z => by
      have := h3 i _ z ge
      omega
    have u2 : ¬ i + 1 < SetTable.below t.place (t.place[i] + 1) := fun z => by
      have hj : i + 1 < t.place.size := by omega
      have g2 : t.place[i + 1]? = some t.place[i + 1] := Array.getElem?_eq_getElem hj
      have := h2 (i + 1) _ z g2
      have := hs i (i + 1) _ _ (Nat.lt_succ_self _) ge g2
      omega
    omega
noncomputable def siObj (a : Addr) (slot i n ep : Nat) : Obj := { cls := .type "set_iterator", data := .fields #[rawInt slot, rawInt i, .ref a, rawInt n, rawInt ep] }
/-- a set, raw -/
structure RawS (w : World) (h : Heap) (a : Addr) (es : Array (Int × Value)) (ep : Nat) (t : ST) : Prop where
  ob : ∃ o, h.get? a = some o ∧ o.cls = .type "set" ∧ o.data = .set es ep t
  fits : t.fits es.size = true
  mono : Mono t.place
  led : byT w = true ∨ (t.led = true ∧ t.plain = true)
theorem RawS.kept {w : World} {h h' : Heap} {a : Addr} {es : Array (Int × Value)} {ep : Nat} {t : ST} (x : RawS w h a es ep t) (k : ∀ o, h.get? a = some o → h'.get? a = some o) : RawS w h' a es ep t :=
  let ⟨⟨o, h1, h2⟩, f, m, l⟩ := x; ⟨⟨o, k o h1, h2⟩, f, m, l⟩
theorem RawS.pls {w : World} {h : Heap} {a : Addr} {es : Array (Int × Value)} {ep : Nat} {t : ST} (x : RawS w h a es ep t) : t.place.size = es.size := by
  have := x.fits
  unfold SetTable.fits at this
  rw [Bool.and_eq_true] at this
  exact eq_of_beq this.1
section
variable {prog : Program} {w : World} {A : Around} {E : Value → Shared → Prop} {s : Shared} {a it : Addr} {es : Array (Int × Value)} {ep i : Nat} {t : ST}
theorem iter_set {Q : Value → Shared → Prop} (hs : RawS w s.heap a es ep t)
    (k : Q (.ref s.heap.objs.size) { s with heap := s.heap.push (siObj a 0 0 es.size ep) }) :
    wpAny (model prog w) A (pyIter (.ref a)) Q E s := by
  obtain ⟨⟨o, ho, hc, hd⟩, fit, hm, hl⟩ := hs
  have ty : s.TypeIs (.ref a) "set" := ⟨_, ho, hc⟩
  refine wpAny_pyIter_slot ty F.slot_set_iter (wpAny_call_entry F.slot_set_iter ty entry_set_iterS ?_ (F.args_set_iter_1 _))
  unfold Builtin.«frozenset.__iter__» Builtin.Frozenset.slot0 Builtin.Frozenset.sizeOf
  refine wpAny_bind (wpAny_bind (wpAny_pure (wpAny_pure ?_)))
  refine wpAny_bind (wpAny_bind (wpAny_setEntries_of ho hd fit (wpAny_pure ?_)))
  unfold setDrawn setsByText
  refine wpAny_bind (wpAny_bind (wpAny_setState_of ho hd fit ?_))
  refine wpAny_bind (wpAny_bind (wpAny_askSetting (wpAny_pure (wpAny_pure ?_))))
  have e : (!byT w && (!t.plain && decide (es.size > 1))) = false := by
    rcases hl with h | ⟨_, h⟩
    · rw [h]; rfl
    · rw [h]; cases byT w <;> rfl
  rw [if_neg (fun z => by have := e.symm.trans z; cases this)]
  refine wpAny_bind (wpAny_pure (wpAny_bind (wpAny_setEpoch_of ho hd fit (wpAny_bind (wpAny_newObj_type ?_ ?_)))))
  · exact wpAny_pure ⟨_, rfl, "set_iterator", _, ⟨_, Heap.get?_push_size _ rfl, rfl⟩, slot_si_next.lookup, k⟩
  · simp only [sizeOk, List.size_toArray, List.length_cons, List.length_nil, sizeLine_eq]
    omega
theorem set_next {R : Option (Value × Nat) → Shared → Prop} (hs : RawS w s.heap a es ep t) (hi : i ≤ es.size)
    (k : R (((walkOf w a ep es)[i]?).map fun e => (e.2, slotAt (byT w) t (i + 1))) s) : wpAny (model prog w) A (setNext a (slotAt (byT w) t i) i ep) R E s := by
  have pz := hs.pls
  obtain ⟨⟨o, ho, hc, hd⟩, fit, hm, hl⟩ := hs
  unfold setNext
  refine wpAny_bind (wpAny_setState_of ho hd fit ?_)
  unfold setsByText
  refine wpAny_bind (wpAny_bind (wpAny_askSetting (wpAny_pure ?_)))
  unfold walkOf at k
  cases hb : byT w with
  | true =>
    rw [hb] at k
    rw [if_pos (show ({ program := (model prog w).prog, params := (model prog w).w.params } : Setting).params.followText "set-order" = true from hb)]
    dsimp only
    rw [if_neg (by simp)]
    unfold setWalk setsByText
    refine wpAny_bind (wpAny_bind (wpAny_setState_of ho hd fit ?_))
    refine wpAny_bind (wpAny_bind (wpAny_askSetting (wpAny_pure ?_)))
    rw [if_pos (show ({ program := (model prog w).prog, params := (model prog w).w.params } : Setting).params.followText "set-order" = true from hb)]
    refine wpAny_bind (wpAny_askSetting (wpAny_pure (wpAny_pure ?_)))
    exact k
  | false =>
    rw [hb] at k
    rw [if_neg (show ¬ ({ program := (model prog w).prog, params := (model prog w).w.params } : Setting).params.followText "set-order" = true from fun z => by have := hb.symm.trans z; cases this)]
    obtain ⟨l1, l2⟩ : t.led = true ∧ t.plain = true := by
      rcases hl with z | z
      · rw [hb] at z; cases z
      · exact z
    have e : (!t.plain && decide (es.size > 1)) = false := by rw [l2]; rfl
    rw [if_neg (fun z => by have := e.symm.trans z; cases this)]
    have e2 : (!t.led && !es.isEmpty) = false := by rw [l1]; rfl
    refine wpAny_bind ?_
    refine (show ∀ {m : Sem Unit} {R' : Unit → Shared → Prop}, m = pure () → R' () s → wpAny (model prog w) A m R' E s from fun em r' => by rw [em]; exact wpAny_pure r') (if_neg (fun z => by have := e2.symm.trans z; cases this)) ?_
    dsimp only
    rw [below_slot hm (by rw [pz]; exact hi)]
    refine wpAny_pure ?_
    rw [if_neg Bool.false_ne_true] at k
    by_cases hlt : i < es.size
    · have g1 : es[i]? = some es[i] := Array.getElem?_eq_getElem hlt
      have g2 : t.place[i]? = some t.place[i] := Array.getElem?_eq_getElem (by rw [pz]; exact hlt)
      rw [g1] at k ⊢
      rw [g2]
      have e3 : slotAt false t (i + 1) = t.place[i] + 1 := by
        show (t.place[i]?).getD 0 + 1 = _
        rw [g2]; rfl
      rw [e3] at k
      exact k
    · have g1 : es[i]? = none := Array.getElem?_eq_none (by omega)
      rw [g1] at k ⊢
      exact k
theorem next_set {Q : Option Value → Shared → Prop} {e : Int × Value} (hi : s.heap.get? it = some (siObj a (slotAt (byT w) t i) i es.size ep)) (hs : RawS w s.heap a es ep t) (he : (walkOf w a ep es)[i]? = some e)
    (k : ∀ h', h'.get? it = some (siObj a (slotAt (byT w) t (i + 1)) (i + 1) es.size ep) → h'.objs.size = s.heap.objs.size → (∀ b o, b ≠ it → s.heap.get? b = some o → h'.get? b = some o) → Q (some e.2) { s with heap := h' }) : wpAny (model prog w) A (pyNext (.ref it)) Q E s := by
  have ty : s.TypeIs (.ref it) "set_iterator" := ⟨_, hi, rfl⟩
  have hlt : i < es.size := by rw [← walk_size (w := w) (a := a) (ep := ep)]; exact (Array.getElem?_eq_some_iff.mp he).1
  obtain ⟨o, ho, hc, hd⟩ := hs.ob
  unfold pyNext
  refine wpAny_bind (wpAny_attempt (wpAny_callSpecial?_slot ty slot_si_next (wpAny_call_entry slot_si_next ty entry_si_next ?_ (args_si _))))
  unfold Builtin.«set_iterator.__next__»
  refine wpAny_bind (wpAny_pure (wpAny_bind (wpAny_fieldsOf hi rfl ?_)))
  show wpAny _ _ (do let x ← setEntries a; _) _ _ _
  refine wpAny_bind (wpAny_setEntries_of ho hd hs.fits ?_)
  rw [if_neg (by simp)]
  show wpAny _ _ (do let x ← setNext a ((slotAt (byT w) t i : Nat) : Int).toNat ((i : Nat) : Int).toNat ((ep : Nat) : Int).toNat; _) _ _ _
  rw [Int.toNat_natCast, Int.toNat_natCast, Int.toNat_natCast]
  refine wpAny_bind (set_next hs (Nat.le_of_lt hlt) ?_)
  rw [he]
  show wpAny _ _ (do setField (.ref it) 0 (rawInt ((slotAt (byT w) t (i + 1) : Nat) : Int)); setField (.ref it) 1 (rawInt ((i : Nat) + 1 : Int)); ret e.2) _ _ _
  refine wpAny_bind (wpAny_setField_rec (k := 0) hi (by show 0 < 5; decide) fun h1 g1 sb => ?_)
  refine wpAny_bind (wpAny_setField_rec (s := { s with heap := h1 }) (k := 1) g1 (by show 1 < 5; decide) fun h2 g2 sb2 => ?_)
  exact wpAny_pure ⟨_, rfl, wpAny_pure (k h2 g2 (sb2.1.trans sb.1) fun b o hb q => (sb2.2 b hb).trans ((sb.2 b hb).trans q))⟩
theorem next_setOver {Q : Option Value → Shared → Prop} (hh : A.handled = none) (hi : s.heap.get? it = some (siObj a (slotAt (byT w) t i) i es.size ep)) (hs : RawS w s.heap a es ep t) (he : i = es.size)
    (k : ∀ h', (∀ b o, b ≠ it → s.heap.get? b = some o → h'.get? b = some o) → Q none { s with heap := h' }) : wpAny (model prog w) A (pyNext (.ref it)) Q E s := by
  have ty : s.TypeIs (.ref it) "set_iterator" := ⟨_, hi, rfl⟩
  obtain ⟨o, ho, hc, hd⟩ := hs.ob
  unfold pyNext
  refine wpAny_bind (wpAny_attempt (wpAny_callSpecial?_slot ty slot_si_next (wpAny_call_entry slot_si_next ty entry_si_next ?_ (args_si _))))
  unfold Builtin.«set_iterator.__next__»
  refine wpAny_bind (wpAny_pure (wpAny_bind (wpAny_fieldsOf hi rfl ?_)))
  show wpAny _ _ (do let x ← setEntries a; _) _ _ _
  refine wpAny_bind (wpAny_setEntries_of ho hd hs.fits ?_)
  rw [if_neg (by simp)]
  show wpAny _ _ (do let x ← setNext a ((slotAt (byT w) t i : Nat) : Int).toNat ((i : Nat) : Int).toNat ((ep : Nat) : Int).toNat; _) _ _ _
  rw [Int.toNat_natCast, Int.toNat_natCast, Int.toNat_natCast]
  refine wpAny_bind (set_next hs (Nat.le_of_eq he) ?_)
  rw [Array.getElem?_eq_none (by rw [walk_size]; omega)]
  show wpAny _ _ (do setField (.ref it) 2 .none; let x ← newExc (.type "StopIteration") []; raiseNew x) _ _ _
  refine wpAny_bind (wpAny_setField_rec (k := 2) hi (by show 2 < 5; decide) fun h1 g1 sb => ?_)
  unfold newExc raiseNew
  refine wpAny_bind (wpAny_bind (wpAny_newObj_type ?_))
  have fa : firstArgMember (.type "StopIteration") [] = pure Value.none := by
    rw [firstArgMember.eq_1]
    generalize (Manifest.find? "StopIteration").elim false (fun t => t.mro.contains "StopIteration" || t.mro.contains "SystemExit") = b
    cases b <;> rfl
  refine wpAny_bind (wpAny_of_eq fa (wpAny_newObj_type ?_ (sizeOk_excFields _ _ _ _ _ _ _ _)))
  refine wpAny_bind (wpAny_handled ?_)
  rw [show A.in1.handled = none from hh]
  refine wpAny_throw ?_
  show wpAny _ _ (do let x ← isInstance _ (.type "StopIteration"); _) _ _ _
  refine wpAny_bind (wpAny_isInstance ⟨_, Heap.get?_push_size _ rfl, rfl⟩ isSubtype_stop ?_)
  rw [if_pos rfl]
  refine wpAny_pure (k _ fun b o hb e => ?_)
  exact Heap.get?_push_of_some _ (Heap.get?_push_of_some _ ((sb.2 b hb).trans e))
end
end L2

namespace L2
open PySem PySem.Spec PyProof.Rows PySem.NumText
/-! ### a set's members collected, and sorted -/
section
variable {prog : Program} {w : World} {A : Around} {E : Value → Shared → Prop} {s : Shared} {a it S : Addr} {es : Array (Int × Value)} {ep : Nat} {t : ST}
theorem loop_set {R : Result → Shared → Prop} (hh : A.handled = none) (hn : es.size ≤ sizeLine) (nSI : S ≠ it) (ndS : a ≠ S) (ndI : a ≠ it) (res : Value) {h1 : Heap}
    (k : ∀ h' tk acc c, (∀ b o, b ≠ S → b ≠ it → h1.get? b = some o → h'.get? b = some o) → h'.get? S = some { cls := .type "list", data := .seq acc c } → acc.toList = (walkOf w a ep es).toList.map (·.2) → R (.ok (.ret res)) { s with heap := h', toks := tk }) :
    ∀ (n i : Nat) (h : Heap) (tk c : Nat) (acc : Array Value), es.size - i = n → i ≤ es.size → h.get? it = some (siObj a (slotAt (byT w) t i) i es.size ep) → RawS w h a es ep t →
      (∀ b o, b ≠ S → b ≠ it → h1.get? b = some o → h.get? b = some o) → h.get? S = some { cls := .type "list", data := .seq acc c } → acc.toList = ((walkOf w a ep es).toList.take i).map (·.2) →
      codeAny (model prog w) A (.builtin "list.extend.loop" ⟨[.ref S, .ref it, res], []⟩) R { s with heap := h, toks := tk } := by
  have wz : (walkOf w a ep es).size = es.size := walk_size
  intro n
  induction n with
  | zero =>
    intro i h tk c acc hni hi hit hd kp hS hacc
    refine codeAny_builtin F.entry_extend_loop ?_
    rw [Around.under_plainId F.plain_extend_loop]
    refine wpAny_bind (next_setOver (s := { s with heap := h, toks := tk }) hh hit hd (by omega) fun h' kp' => ?_)
    refine wpAny_pure (k h' tk acc c (fun b o h1' h2' e => kp' b o h2' (kp b o h1' h2' e)) (kp' _ _ nSI hS) ?_)
    rw [hacc, List.take_of_length_le (by rw [Array.length_toList]; omega)]
  | succ n ih =>
    intro i h tk c acc hni hi hit hd kp hS hacc
    obtain ⟨e, he⟩ : ∃ e, (walkOf w a ep es)[i]? = some e := ⟨_, Array.getElem?_eq_getElem (by omega)⟩
    refine codeAny_builtin F.entry_extend_loop ?_
    rw [Around.under_plainId F.plain_extend_loop]
    refine wpAny_bind (next_set (s := { s with heap := h, toks := tk }) hit hd he fun h' hit' hz kp' => ?_)
    have hS' := kp' _ _ nSI hS
    have haz : acc.size = i := by rw [← Array.length_toList, hacc, List.length_map, List.length_take, Array.length_toList]; omega
    refine wpAny_bind (wpAny_updateSeq (a := S) (s := { s with heap := h', toks := tk }) hS' rfl ?_ (by omega) (by rw [Array.size_push]; omega))
    refine wpAny_pure ⟨plainId_quiet F.plain_extend_loop _, ?_⟩
    have oth : ∀ b, b ≠ S → (h'.update S (Obj.mapSeq fun x => x.push e.2)).get? b = h'.get? b := fun b hb => Heap.get?_update_other _ _ (Ne.symm hb)
    have self : (h'.update S (Obj.mapSeq fun x => x.push e.2)).get? S = some { cls := .type "list", data := .seq (acc.push e.2) (if (acc.push e.2).size == acc.size then c else c + 1) } := Heap.get?_update_self _ hS' rfl
    refine ih (i + 1) _ tk _ _ (by omega) (by omega) (by rw [oth _ nSI.symm]; exact hit') (hd.kept fun o o1 => by rw [oth _ ndS]; exact kp' _ _ ndI o1) ?_ self ?_
    · intro b o hb1 hb2 q
      rw [oth _ hb1]
      exact kp' _ _ hb2 (kp b o hb1 hb2 q)
    · have hil : i < (walkOf w a ep es).toList.length := by rw [Array.length_toList]; omega
      rw [Array.toList_push, hacc, List.take_succ_eq_append_getElem hil, List.map_append]
      have : (walkOf w a ep es).toList[i] = e := by
        have := (Array.getElem?_eq_some_iff.mp he).2
        rw [Array.getElem_toList]; exact this
      rw [this]
      rfl
theorem collect_set {R : List Value → Shared → Prop} (hh : A.handled = none) (hd : RawS w s.heap a es ep t) (hn : es.size ≤ sizeLine)
    (k : ∀ h' tk, (∀ b o, s.heap.get? b = some o → h'.get? b = some o) → R ((walkOf w a ep es).toList.map (·.2)) { s with heap := h', toks := tk }) : wpAny (model prog w) A (collect (.ref a)) R E s := by
  unfold collect
  refine wpAny_bind (wpAny_runValue (codeAny_builtin entry_proto_collect' ?_))
  rw [Around.under_plainId F.plain_proto_collect]
  refine wpAny_bind (wpAny_newObj_type (wpAny_pure ⟨plainId_quiet F.plain_list_iadd _, codeAny_builtin entry_list_iadd' ?_⟩))
  rw [Around.under_plainId F.plain_list_iadd]
  obtain ⟨o, d1, d2, d3⟩ := hd.ob
  obtain ⟨h1, hh1⟩ : ∃ h1, h1 = s.heap.push { cls := .type "list", data := .seq (#[] : Array Value) } := ⟨_, rfl⟩
  have hS1 : h1.get? s.heap.objs.size = some { cls := .type "list", data := .seq #[] } := by rw [hh1]; exact Heap.get?_push_size _ rfl
  have kp1 : ∀ b ob, s.heap.get? b = some ob → h1.get? b = some ob := fun b ob e => by rw [hh1]; exact Heap.get?_push_of_some _ e
  have z1 : h1.objs.size = s.heap.objs.size + 1 := by rw [hh1, Heap.size_push]
  have hd1 : RawS w h1 a es ep t := hd.kept fun o e => kp1 _ _ e
  have hT1 : ({ s with heap := h1 } : Shared).TypeIs (.ref a) "set" := ⟨o, kp1 _ _ d1, d2⟩
  show wpAny _ _ (Builtin.«list.__iadd__» _) _ _ { s with heap := s.heap.push { cls := .type "list", data := .seq (#[] : Array Value) } }
  rw [← hh1]
  unfold Builtin.«list.__iadd__»
  refine wpAny_bind (wpAny_pure ?_)
  show wpAny _ _ (Builtin.List.listExtendWith (.ref s.heap.objs.size) (.ref a) (.ref s.heap.objs.size)) _ _ _
  unfold Builtin.List.listExtendWith
  refine wpAny_bind (wpAny_typeOf hT1 ?_)
  have ndS : a ≠ s.heap.objs.size := Nat.ne_of_lt (Heap.lt_size d1)
  rw [if_neg (by simp [Builtin.List.listSameRef, ndS.symm])]
  refine wpAny_bind (iter_set (s := { s with heap := h1 }) hd1 ?_)
  obtain ⟨h2, hh2⟩ : ∃ h2, h2 = h1.push (siObj a 0 0 es.size ep) := ⟨_, rfl⟩
  have z2 : h2.objs.size = h1.objs.size + 1 := by rw [hh2, Heap.size_push]
  have kp2 : ∀ b ob, h1.get? b = some ob → h2.get? b = some ob := fun b ob e => by rw [hh2]; exact Heap.get?_push_of_some _ e
  have i2 : h2.get? h1.objs.size = some (siObj a 0 0 es.size ep) := by rw [hh2]; exact Heap.get?_push_size _ rfl
  show wpAny _ _ _ _ _ { s with heap := h1.push (siObj a 0 0 es.size ep) }
  rw [← hh2]
  have hT2 : ({ s with heap := h2 } : Shared).TypeIs (.ref a) "set" := ⟨o, kp2 _ _ (kp1 _ _ d1), d2⟩
  refine wpAny_bind (wpAny_holding (hint_set hT2 ?_))
  have nSI : s.heap.objs.size ≠ h1.objs.size := by rw [z1]; exact Nat.ne_of_lt (Nat.lt_succ_self _)
  have ndI : a ≠ h1.objs.size := Nat.ne_of_lt (Heap.lt_size (kp1 _ _ d1))
  have sl0 : slotAt (byT w) t 0 = 0 := by
    unfold slotAt
    cases byT w <;> rfl
  have fin : ∀ h3 c, h3.objs.size = h2.objs.size → (∀ b, b ≠ s.heap.objs.size → h3.get? b = h2.get? b) → h3.get? s.heap.objs.size = some { cls := .type "list", data := .seq #[] c } →
      codeAny (model prog w) A (.builtin "list.extend.loop" ⟨[.ref s.heap.objs.size, .ref h1.objs.size, .ref s.heap.objs.size], []⟩) (fun r s' => ∃ h' tk acc c', r = .ok (.ret (.ref s.heap.objs.size)) ∧ s' = { s with heap := h', toks := tk } ∧ (∀ b ob, s.heap.get? b = some ob → h'.get? b = some ob) ∧ h'.get? s.heap.objs.size = some { cls := .type "list", data := .seq acc c' } ∧ acc.toList = (walkOf w a ep es).toList.map (·.2)) { s with heap := h3, toks := s.toks } := by
    intro h3 c z3 oth3 hS3
    refine loop_set (ep := ep) (a := a) (t := t) (es := es) (h1 := h2) hh hn nSI ndS ndI (.ref s.heap.objs.size) ?_ (es.size - 0) 0 h3 s.toks c #[] rfl (Nat.zero_le _) (by rw [oth3 _ nSI.symm, sl0]; exact i2) (hd.kept fun o d1 => by rw [oth3 _ ndS]; exact kp2 _ _ (kp1 _ _ d1)) (fun b ob hb1 hb2 e => by rw [oth3 _ hb1]; exact e) hS3 rfl
    intro h' tk acc c' kp' hS' hacc
    exact ⟨h', tk, acc, c', rfl, rfl, fun b ob e => kp' b ob (Nat.ne_of_lt (Heap.lt_size e)) (Nat.ne_of_lt (Heap.lt_size (kp1 _ _ e))) (kp2 _ _ (kp1 _ _ e)), hS', hacc⟩
  refine wpAny_ite_split (fun _ => ?_) (fun _ => ?_)
  · refine wpAny_bind (wpAny_rule (wpAny_bind (wpAny_bind (wpAny_updateSeq (a := s.heap.objs.size) (s := { s with heap := h2 }) (kp2 _ _ hS1) rfl ?_ (Nat.zero_le _) (by show 1 ≤ _; rw [sizeLine_eq]; omega)))))
    have self : (h2.update s.heap.objs.size (Obj.mapSeq fun x => x.push .none)).get? s.heap.objs.size = some { cls := .type "list", data := .seq #[.none] 1 } := Heap.get?_update_self _ (kp2 _ _ hS1) rfl
    refine wpAny_updateSeq (a := s.heap.objs.size) self rfl ?_ (by show 1 ≤ _; rw [sizeLine_eq]; omega) (Nat.zero_le _)
    refine wpAny_pure ⟨plainId_quiet F.plain_extend_loop _, codeAny_mono (fin _ 2 ?_ ?_ ?_) fun r s' ⟨h', tk, acc, c', e1, e2, kp', hS', hacc⟩ => ?_⟩
    · rw [Heap.size_update, Heap.size_update]
    · intro b hb
      rw [Heap.get?_update_other _ _ (Ne.symm hb), Heap.get?_update_other _ _ (Ne.symm hb)]
    · exact Heap.get?_update_self _ self rfl
    · subst e1 e2
      refine wpAny_bind (wpAny_load hS' ?_)
      dsimp only
      rw [hacc]
      exact wpAny_pure (k h' tk kp')
  · refine wpAny_pure ⟨plainId_quiet F.plain_extend_loop _, codeAny_mono (fin h2 0 rfl (fun _ _ => rfl) (kp2 _ _ hS1)) fun r s' ⟨h', tk, acc, c', e1, e2, kp', hS', hacc⟩ => ?_⟩
    subst e1 e2
    refine wpAny_bind (wpAny_load hS' ?_)
    dsimp only
    rw [hacc]
    exact wpAny_pure (k h' tk kp')
end
/-- a set that may be walked -/
noncomputable def setWO (w : World) (a : Addr) (qs : List Mem) : HO := .ext fun h => SetX h a qs ∧ Led (!byT w) h a
theorem setWO_ok {P : Program} {w : World} {H : Hp} {h : Heap} {a : Addr} {qs : List Mem} (x : SetX h a qs) (l : Led (!byT w) h a) : ObjOk P w H h a (setWO w a qs) := by
  obtain ⟨o, ho, r⟩ := x
  obtain ⟨o', es, ep, t, g, z⟩ := l
  exact ⟨⟨⟨o, ho, r⟩, o', es, ep, t, g, z⟩, ⟨o, ho⟩, fun h1 h2 ⟨⟨o', ho', r'⟩, o2, es2, ep2, t2, g2, z2⟩ k => ⟨⟨o', k o' ho', r'⟩, o2, es2, ep2, t2, k o2 g2, z2⟩⟩
structure SWt (w : World) (K : PySem.W.Frag) (H : Hp) (a : Addr) (qs : List Mem) : Prop where
  ob : H a = some (setWO w a qs)
  dv : ∀ q ∈ qs, DV K H q.2 (.ref q.1)
  ok : ∀ q ∈ qs, ok4 q.2
  nd : (qs.map (·.2)).Nodup
section
variable {X : Cx}
noncomputable def rSetW (w : World) (K : PySem.W.Frag) : List V → Hp → VK → Prop := fun xs H Q => ∃ (p : Addr) (ds : List PyData) (ys : List V), xs = [.ref p] ∧ SqL K H p ys ∧ DVs K H ds ys ∧ (∀ d ∈ ds, ok4 d) ∧ ds.length < 300 ∧
  ∀ (a : Addr) (qs : List Mem), H a = none → SWt w K (upd H a (setWO w a qs)) a qs → (∀ d, (∃ q ∈ qs, q.2 = d) ↔ d ∈ ds) → qs.length ≤ ds.length → Q (.ref a) (upd H a (setWO w a qs))
theorem call_setW (hc : X.calm = true) (hu : X.A.units + 100 < cLine) : CallR X (.type "set") (rSetW X.w X.K) := by
  intro pins s σ H xs us Q I r h
  obtain ⟨p, ds, ys, rfl, hq, hds, hok, hlen, q⟩ := h
  obtain ⟨u, rfl, ru⟩ := vals1 r
  cases ru
  obtain ⟨its, rv, pl, hz⟩ := I.list hq
  have hyl : ys.length = ds.length := hds.length
  have hil : its.length = ds.length := by rw [← rv.length]; exact hyl
  have hat : ∀ (i : Nat) v, its.toArray[i]? = some v → ∃ x d, ys[i]? = some x ∧ ds[i]? = some d ∧ RelV x v ∧ DV X.K H d x := fun i v hv => by
    have hi : i < ds.length := by
      have := (Array.getElem?_eq_some_iff.mp hv).1
      rw [List.size_toArray, hil] at this
      exact this
    obtain ⟨x, hx, hd⟩ := hds.get (i := i) (d := ds[i]) (List.getElem?_eq_getElem hi)
    obtain ⟨u, hu', ru⟩ := rv.get hx
    have : v = u := by
      rw [List.getElem?_toArray, hu'] at hv
      exact (Option.some.inj hv).symm
    subst this
    exact ⟨x, ds[i], hx, List.getElem?_eq_getElem hi, ru, hd⟩
  refine call_set_any (val := fun i => ds.getD i .none) (I.ok.hd hc) pl.isList (fun i v hv => ?_) (by rw [List.size_toArray, hil]; exact hlen) (by omega) fun h' tk hS hk => ?_
  · obtain ⟨x, d, _, hd, rx, dv⟩ := hat i v hv
    have e : ds.getD i .none = d := by rw [List.getD_eq_getElem?_getD, hd]; rfl
    rw [e]
    exact I.el dv rx (hok d (List.mem_of_getElem? hd))
  · have hz2 : its.toArray.size = ds.length := by simp [hil]
    rw [hz2] at hS
    obtain ⟨qs, hX, hL, hin, hall, hnd, hle⟩ := hS
    have hn := I.hok.fresh (Nat.le_refl s.heap.objs.size)
    have hqd : ∀ q ∈ qs, q.2 ∈ ds ∧ DV X.K H q.2 (.ref q.1) := fun qq hqq => by
      obtain ⟨j, hj, hP, e⟩ := hin qq hqq
      obtain ⟨x, d, _, hd, rx, dv⟩ := hat j _ hP
      have e1 : ds.getD j .none = d := by rw [List.getD_eq_getElem?_getD, hd]; rfl
      have e : qq.2 = d := by rw [e]; exact e1
      obtain ⟨_, _, ⟨zs, ez⟩⟩ := hok d (List.mem_of_getElem? hd)
      have ex : x = .ref qq.1 := by
        rw [ez] at dv
        obtain ⟨aa, vs, rfl, _⟩ := dv
        cases (show Value.ref qq.1 = Value.ref aa from rx)
        rfl
      rw [e, ← ex]
      exact ⟨List.mem_of_getElem? hd, dv⟩
    refine ⟨.ref s.heap.objs.size, _, I.laid (t' := tk) (o := setWO X.w s.heap.objs.size qs) (fun b ob e => hk b ob (Heap.lt_size e) e) (Nat.le_refl _) (setWO_ok hX hL), rfl, q _ qs hn ⟨upd_same, fun qq hqq => DV.same (same_upd hn) _ _ (hqd qq hqq).2, fun qq hqq => hok _ (hqd qq hqq).1, hnd⟩ (fun d => ⟨fun ⟨qq, hqq, e⟩ => e ▸ (hqd qq hqq).1, fun hd => ?_⟩) hle⟩
    obtain ⟨j, hj⟩ := List.getElem?_of_mem hd
    obtain ⟨qq, hqq, e⟩ := hall j (List.getElem?_eq_some_iff.mp hj).1
    exact ⟨qq, hqq, by rw [e]; show ds.getD j .none = d; rw [List.getD_eq_getElem?_getD, hj]; rfl⟩
/-! ### sorted(a set of marks) -/
noncomputable def rSortS (w : World) (K : PySem.W.Frag) : List V → Hp → VK → Prop := fun xs H Q => ∃ (a : Addr) (qs : List Mem), xs = [.ref a] ∧ SWt w K H a qs ∧ (∀ q ∈ qs, ∃ m, q.2 = markD m) ∧ qs.length < 250 ∧
  ∀ (l : Addr) (bs : List Mark) (ws : List V), H l = none → bs.Pairwise (fun a b => mLt a b = true) → (∀ m, m ∈ bs ↔ ∃ q ∈ qs, q.2 = markD m) → bs.length = qs.length → DVs K H (bs.map markD) ws → Q (.ref l) (upd H l (.lst ws))
theorem marks_of_mems : ∀ (qs : List Mem), (∀ q ∈ qs, ∃ m, q.2 = markD m) → ∃ ms, Paired (fun (q : Mem) (m : Mark) => q.2 = markD m) qs ms
  | [], _ => ⟨[], .nil⟩
  | q :: qs, h => by
    obtain ⟨m, e⟩ := h q List.mem_cons_self
    obtain ⟨ms, r⟩ := marks_of_mems qs fun q' hq' => h q' (List.mem_cons_of_mem _ hq')
    exact ⟨m :: ms, .cons e r⟩
theorem mems_map : ∀ {qs : List Mem} {ms : List Mark}, Paired (fun (q : Mem) (m : Mark) => q.2 = markD m) qs ms → qs.map (·.2) = ms.map markD
  | _, _, .nil => rfl
  | _, _, .cons a b => by rw [List.map_cons, List.map_cons, a, mems_map b]
theorem mems_vals : ∀ {us : List (Int × Value)} {qs : List Mem}, Paired MemR us qs → Vals (qs.map fun q => V.ref q.1) (us.map (·.2))
  | _, _, .nil => .nil
  | _, _, .cons a b => .cons (by show RelV (.ref _) (Prod.snd _); rw [a.1]; rfl) (mems_vals b)
theorem mems_dvs {K : PySem.W.Frag} {H : Hp} : ∀ {qs : List Mem} {ms : List Mark}, Paired (fun (q : Mem) (m : Mark) => q.2 = markD m) qs ms → (∀ q ∈ qs, DV K H q.2 (.ref q.1)) → DVs K H (ms.map fun (m : Mark) => PyData.tuple [.int m.1, .int m.2]) (qs.map fun q => V.ref q.1)
  | _, _, .nil, _ => rfl
  | _, _, .cons a b, h => ⟨_, _, rfl, by have := h _ List.mem_cons_self; rw [a] at this; exact this, mems_dvs b fun q hq => h q (List.mem_cons_of_mem _ hq)⟩
theorem call_sortedS (hc : X.calm = true) (hu : X.A.units + 100 < cLine) : CallR X (.builtin "sorted") (rSortS X.w X.K) := by
  intro pins s σ H xs us Q I r h
  obtain ⟨a, qs, rfl, S, hm, few, q⟩ := h
  obtain ⟨u, rfl, ru⟩ := vals1 r
  cases ru
  obtain ⟨⟨⟨o, ho, es, ep, t, qs1, hex, hd, hf, f, hfull, wp, pm, hp⟩, o', es', ep', t', g', d', l1, l2⟩, _, _⟩ := I.hok a _ S.ob
  rw [ho] at g'
  cases g'
  rw [hd] at d'
  cases d'
  have hraw : RawS X.w s.heap a es ep t := ⟨⟨o, ho, hex.1, hd⟩, hf, wp.mono, by
    cases hb : byT X.w with
    | true => exact .inl rfl
    | false => rw [hb] at l1; exact .inr ⟨l1, l2⟩⟩
  have hz : es.size = qs.length := by rw [← Array.length_toList, Paired.length hp, pm.length_eq]
  refine sorted_shell (collect_set (I.ok.hd hc) hraw (by rw [hz, sizeLine_eq]; omega) fun h' tk kp => ?_)
  have I1 : Inv X pins σ H { s with heap := h', toks := tk } := I.kept (t' := tk) kp
  obtain ⟨qs2, pm2, hp2⟩ := paired_perm (walk_perm (w := X.w) (a := a) (ep := ep) (es := es)) hp
  have pm3 : qs2.Perm qs := pm2.trans pm
  obtain ⟨ms, hms⟩ := marks_of_mems qs2 fun q' hq' => hm q' (pm3.mem_iff.mp hq')
  have emap := mems_map hms
  have nd2 : (qs2.map (·.2)).Nodup := (pm3.map (·.2)).nodup_iff.mpr S.nd
  have ndm : ms.Nodup := by
    rw [emap] at nd2
    exact List.Pairwise.of_map markD (fun a b hab e => hab (congrArg markD e)) nd2
  have hl : ms.length = qs.length := by rw [← Paired.length hms, pm3.length_eq]
  refine sort_go (s := s) hu (marks_srt ndm (by omega)) I1 (mems_vals hp2) (mems_dvs hms fun q' hq' => S.dv q' (pm3.mem_iff.mp hq')) ?_
  intro l bs ws hl' hpm hpw hds
  refine q l bs ws hl' hpw (fun m => ?_) (by rw [hpm.length_eq, hl]) hds
  have e1 : m ∈ ms ↔ ∃ q ∈ qs, q.2 = markD m := by
    constructor
    · intro hmm
      have : markD m ∈ qs2.map (·.2) := by rw [emap]; exact List.mem_map_of_mem hmm
      obtain ⟨q', hq', e⟩ := List.mem_map.mp this
      exact ⟨q', pm3.mem_iff.mp hq', e⟩
    · rintro ⟨q', hq', e⟩
      have : markD m ∈ ms.map markD := by rw [← emap, ← e]; exact List.mem_map_of_mem (pm3.mem_iff.mpr hq')
      obtain ⟨m', hm', e'⟩ := List.mem_map.mp this
      have : m' = m := by
        obtain ⟨x, y⟩ := m'
        obtain ⟨x', y'⟩ := m
        unfold markD at e'
        simp at e'
        rw [e'.1, e'.2]
      rw [← this]
      exact hm'
  rw [← e1]
  exact hpm.mem_iff
end
end L2

namespace L2
open PySem PySem.Spec PyProof.Rows PySem.NumText
/-! ### a set comprehension whose first clause has nothing to walk -/
section
variable {prog : Program} {w : World} {A : Around} {R : Result → Shared → Prop} {s : Shared}
theorem eval_setComp {env : Env} (elt : Expr) (gens : List Comprehension) (scope : Scope) (pos : Pos) : eval (elt.SetComp gens scope pos) env =
    comprehension (elt.SetComp gens scope pos) scope env (firstIterPos gens pos) (newSet (.type "set")) (firstAsync gens) (firstIter gens env) := by rw [eval]
theorem start_setComp {elt target iter : Expr} {ifs : List Expr} {rest : List Comprehension} {scope : Scope} {pos : Pos} {it acc : Value} {env : Env}
    (h0 : codeAny (model prog w) A (.compLoop (elt.SetComp (⟨target, iter, ifs, 0⟩ :: rest) scope pos) 0 it acc env) R s)
    (h : wpAny (model prog w) A (pyIter it) (fun it' s' => codeAny (model prog w) A (.compLoop (elt.SetComp (⟨target, iter, ifs, 0⟩ :: rest) scope pos) 0 it' acc env) R s') (notedBy (model prog w) A env fun x s' => R (.error x) s') s) :
    codeAny (model prog w) A (.compStart (elt.SetComp (⟨target, iter, ifs, 0⟩ :: rest) scope pos) 0 it acc env) R s := by
  refine codeAny_of_tree (wpAny_notedAt (wpAny_bind (wpAny_askSetting (wpAny_ite ?_))))
  split
  · exact wpAny_bind (wpAny_pure (wpAny_pure ⟨rfl, h0⟩))
  · exact wpAny_bind (wpAny_rule (wpAny_bind (wpAny_standAt (wpAny_bind (wpAny_mono h (fun it' s' h' => wpAny_pure ⟨rfl, h'⟩) fun _ _ z => z)))))
end
section
variable {X : Cx}
end
end L2

namespace L2
open PySem PySem.Spec PyProof.Rows PySem.NumText
/-! ### a set comprehension of one clause -/
mutual
theorem noL_of : ∀ d : PyData, onlyI d = true → noL d = true
  | .int _, _ => rfl
  | .tuple xs, h => noLs_of xs h
  | .none, h => by cases h
  | .bool _, h => by cases h
  | .str _, h => by cases h
  | .list _, h => by cases h
theorem noLs_of : ∀ ds : List PyData, onlyIs ds = true → noLs ds = true
  | [], _ => rfl
  | d :: ds, h => by
    rw [onlyIs, Bool.and_eq_true] at h
    rw [noLs, noL_of d h.1, noLs_of ds h.2]
    rfl
end
theorem noTup_setWO {w : World} {a : Addr} {qs : List Mem} : NoTup (setWO w a qs) := ⟨fun xs z => (by cases z), fun ob u z => (by cases z)⟩
theorem SWt.add {w : World} {K : PySem.W.Frag} {H : Hp} {a ax : Addr} {qs : List Mem} {dx : PyData} (S : SWt w K H a qs) (hd : DV K H dx (.ref ax)) (ok : ok4 dx) (hn : ∀ q ∈ qs, q.2 ≠ dx) : SWt w K (upd H a (setWO w a ((ax, dx) :: qs))) a ((ax, dx) :: qs) where
  ob := upd_same
  dv := fun q hq => by
    rcases List.mem_cons.mp hq with rfl | hq
    · exact dv_other S.ob noTup_setWO _ _ (noL_of _ ok.1) hd
    · exact dv_other S.ob noTup_setWO _ _ (noL_of _ (S.ok q hq).1) (S.dv q hq)
  ok := fun q hq => by
    rcases List.mem_cons.mp hq with rfl | hq
    · exact ok
    · exact S.ok q hq
  nd := by
    rw [List.map_cons]
    refine List.nodup_cons.mpr ⟨fun hm => ?_, S.nd⟩
    obtain ⟨q, hq, e⟩ := List.mem_map.mp hm
    exact hn q hq e
section
variable {prog : Program} {w : World} {A : Around} {E : Value → Shared → Prop} {R : Result → Shared → Prop} {s : Shared}
end
section
variable {X : Cx}
theorem set_add {pins : List (Addr × Obj)} {s : Shared} {σ : St} {H : Hp} {Q : Hp → Prop} {D ax : Addr} {u : Value} {qs : List Mem} {dx : PyData} (hu : X.A.units + 100 < cLine) (I : Inv X pins σ H s) (S : SWt X.w X.K H D qs) (hl : qs.length < 299) (r : RelV (.ref ax) u) (hd : DV X.K H dx (.ref ax)) (ok : ok4 dx)
    (q0 : (∃ q ∈ qs, q.2 = dx) → Q H) (q1 : (∀ q ∈ qs, q.2 ≠ dx) → Q (upd H D (setWO X.w D ((ax, dx) :: qs)))) :
    wpAny (model X.prog X.w) X.A (call (.builtin "set.add") [.ref D, u]) (fun _ s' => ∃ H', Inv X pins σ H' s' ∧ Q H') E s := by
  cases r
  obtain ⟨⟨hX, hL⟩, _, _⟩ := I.hok D _ S.ob
  have hT : s.TypeIs (.ref D) "set" := let ⟨o, ho, _, _, _, _, hex, _⟩ := hX; ⟨o, ho, hex.1⟩
  have hx := I.el hd rfl ok
  refine wpAny_call_entry F.slot_set_add hT F.entry_set_add ?_ (F.args_set_add_2 _ _)
  unfold Builtin.«set.add» Builtin.Frozenset.oneOther
  simp only [List.isEmpty_nil, bind_assoc]
  unfold Builtin.Frozenset.addrOf setAdd
  refine wpAny_bind (wpAny_pure ?_)
  try dsimp only
  refine wpAny_bind (wpAny_pure ?_)
  try dsimp only
  refine wpAny_bind (wpAny_holding ?_)
  obtain ⟨as, rx⟩ := hx.rd
  refine wpAny_bind (hash_fun 4 dx _ _ s _ as hx.dp rx hx.oi (by show X.A.units + 1 + 4 < cLine; omega) _ fun tk htk => ?_)
  refine add_any (s := { s with toks := tk }) hX (fun q hq => I.el (S.dv q hq) rfl (S.ok q hq)) hx (by omega) (by show X.A.units + 1 + 10 < cLine; omega) (fun hold => ?_) (fun hnew h' sb hS2 hlk => ?_)
  · exact wpAny_pure ⟨_, rfl, H, I.kept (t' := tk) (fun _ _ e => e), q0 hold⟩
  · have he : ∃ ob, h'.get? D = some ob := let ⟨ob, hq, _⟩ := hS2; ⟨ob, hq⟩
    exact wpAny_pure ⟨_, rfl, _, I.write (t' := tk) (x := D) (e := D) (by rw [S.ob]; exact True.intro) (.inl rfl) (fun b ob hb z => (sb.2 b hb).trans z) he (setWO_ok hS2 (hlk _ hL)), q1 hnew⟩
end
end L2

namespace L2
open PySem PySem.Spec PyProof.Rows PySem.NumText
/-! ### plain data in a list of plain data -/
section
variable {X : Cx}
end
end L2

namespace L2
open PySem PySem.Spec PyProof.Rows PySem.NumText
/-! ### a comprehension with a test, over anything -/
/-! ### clashes -/
theorem ver_lay {v : Ver} (h : okV v) : PyData.canLay0 (ver v) = true := by
  show (true && (PyData.canLay0 (plc v.2.1) && (PyData.strOk v.2.2 && true))) = true
  rw [plc_lay, show PyData.strOk v.2.2 = true from h]
  rfl
theorem ver_depth (v : Ver) : PyData.depth (ver v) ≤ 4 := by
  have h2 : PyData.depth (ver v) = max 0 (max (PyData.depthAll (v.2.1.map stp) + 1) (max 0 0)) + 1 := rfl
  have := depth_stps v.2.1
  rw [h2]
  omega
/-! ints -/
/-! the object -/
end L2

namespace L2
open PySem PySem.Spec PyProof.Rows PySem.NumText
/-! ### changes -/
noncomputable abbrev Chg := Mark × Option Ver × Option Ver
noncomputable def chD (c : Chg) : PyData := .tuple [markD c.1, vdat c.2.1, vdat c.2.2]
noncomputable def okCh (c : Chg) : Prop := okO c.2.1 ∧ okO c.2.2
theorem noL_ch (c : Chg) : noL (chD c) = true := by
  show (noL (markD c.1) && (noL (vdat c.2.1) && (noL (vdat c.2.2) && true))) = true
  rw [noL_vdat, noL_vdat]
  rfl
theorem noLs_ch : ∀ cs : List Chg, noLs (cs.map chD) = true
  | [] => rfl
  | c :: cs => by
    show (noL (chD c) && noLs (cs.map chD)) = true
    rw [noL_ch, noLs_ch cs]
    rfl
theorem vdat_lay {o : Option Ver} (h : okO o) : PyData.canLay0 (vdat o) = true := by
  cases o with
  | none => rfl
  | some v => exact ver_lay (h v rfl)
theorem vdat_depth (o : Option Ver) : PyData.depth (vdat o) ≤ 4 := by
  cases o with
  | none => exact Nat.zero_le _
  | some v => exact ver_depth v
theorem ch_lay {c : Chg} (h : okCh c) : PyData.canLay0 (chD c) = true := by
  show (PyData.canLay0 (markD c.1) && (PyData.canLay0 (vdat c.2.1) && (PyData.canLay0 (vdat c.2.2) && true))) = true
  rw [vdat_lay h.1, vdat_lay h.2]
  rfl
theorem ch_depth (c : Chg) : PyData.depth (chD c) ≤ 5 := by
  have h2 : PyData.depth (chD c) = max (PyData.depth (markD c.1)) (max (PyData.depth (vdat c.2.1)) (max (PyData.depth (vdat c.2.2)) 0)) + 1 := rfl
  have h3 : PyData.depth (markD c.1) ≤ 1 := Nat.le_refl _
  have h4 := vdat_depth c.2.1
  have h5 := vdat_depth c.2.2
  rw [h2]
  omega
theorem chs_lay : ∀ {cs : List Chg}, (∀ c ∈ cs, okCh c) → PyData.canLayAll0 (cs.map chD) = true ∧ PyData.depthAll (cs.map chD) ≤ 5
  | [], _ => ⟨rfl, Nat.zero_le _⟩
  | c :: cs, h => by
    obtain ⟨h1, h2⟩ := chs_lay fun e he => h e (List.mem_cons_of_mem _ he)
    refine ⟨?_, ?_⟩
    · show (PyData.canLay0 (chD c) && PyData.canLayAll0 (cs.map chD)) = true
      rw [ch_lay (h c List.mem_cons_self), h1]
      rfl
    · show max (PyData.depth (chD c)) (PyData.depthAll (cs.map chD)) ≤ 5
      have := ch_depth c
      omega
theorem chs_shaped {cs : List Chg} (h : ∀ c ∈ cs, okCh c) : SeqAt.shaped (.list (cs.map chD)) = true := by
  obtain ⟨h1, h2⟩ := chs_lay h
  unfold SeqAt.shaped
  rw [show PyData.canLay0 (.list (cs.map chD)) = true from h1, Bool.true_and]
  refine decide_eq_true ?_
  show PyData.depthAll (cs.map chD) + 1 ≤ _
  omega
theorem chs_eqv {cs : List Chg} (h : ∀ c ∈ cs, okCh c) : PyData.eqv (.list (cs.map chD)) (.list (cs.map chD)) = true := SeqAt.eqvAll_refl _ (chs_lay h).1
theorem ch_of {K : PySem.W.Frag} {H : Hp} {c : Chg} {x : V} (h : DV K H (chD c) x) : ∃ t q a b, x = .ref t ∧ SqT K H t [.ref q, a, b] ∧ SqT K H q (mkV c.1) ∧ DV K H (vdat c.2.1) a ∧ DV K H (vdat c.2.2) b := by
  obtain ⟨t, vs, rfl, hq, v1, r1, rfl, e1, v2, r2, rfl, e2, v3, r3, rfl, e3, e4⟩ := h
  cases (show r3 = _ from e4)
  obtain ⟨q, rfl, hm⟩ := mark_of e1
  exact ⟨t, q, v2, v3, rfl, hq, hm, e2, e3⟩
theorem ch_mk {K : PySem.W.Frag} {H : Hp} {c : Chg} {t q : Addr} {a b : V} (h : SqT K H t [.ref q, a, b]) (hm : SqT K H q (mkV c.1)) (ha : DV K H (vdat c.2.1) a) (hb : DV K H (vdat c.2.2) b) : DV K H (chD c) (.ref t) :=
  ⟨t, _, rfl, h, _, _, rfl, mkV_dv hm, _, _, rfl, ha, _, _, rfl, hb, rfl⟩
theorem mLt_nodup {ks : List Mark} (h : ks.Pairwise fun a b => mLt a b = true) : ks.Nodup := h.imp fun {a b} hab e => by
  subst e
  rw [mLt_sto.irr] at hab
  cases hab
theorem uniqM : ∀ {l1 l2 : List Mark}, l1.Perm l2 → l1.Pairwise (fun a b => mLt a b = true) → l2.Pairwise (fun a b => mLt a b = true) → l1 = l2
  | [], l2, p, _, _ => (List.nil_perm.mp p).symm
  | a :: l1, [], p, _, _ => absurd p.symm.nil_eq (by simp)
  | a :: l1, b :: l2, p, h1, h2 => by
    have h1' := List.pairwise_cons.mp h1
    have h2' := List.pairwise_cons.mp h2
    by_cases e : a = b
    · subst e
      rw [uniqM ((List.perm_cons a).mp p) h1'.2 h2'.2]
    · have m1 : a ∈ l2 := by
        rcases List.mem_cons.mp (p.mem_iff.mp List.mem_cons_self) with z | z
        · exact absurd z e
        · exact z
      have m2 : b ∈ l1 := by
        rcases List.mem_cons.mp (p.mem_iff.mpr List.mem_cons_self) with z | z
        · exact absurd z.symm e
        · exact z
      have z1 := h2'.1 a m1
      rw [mLt_sto.asym (h1'.1 b m2)] at z1
      cases z1
theorem nodup_perm {α : Type} : ∀ {l1 l2 : List α}, l1.Nodup → l2.Nodup → (∀ x, x ∈ l1 ↔ x ∈ l2) → l1.Perm l2 := fun h1 h2 h => (List.perm_ext_iff_of_nodup h1 h2).mpr h
/-! a table of pairs that is put and taken from -/
end L2

namespace L2
open PySem PySem.Spec PyProof.Rows PySem.NumText
/-! ### dict(d): another dict of the same entries -/
section
variable {prog : Program} {w : World} {A : Around} {E : Value → Shared → Prop} {s : Shared} {d a : Addr} {ds : Array DictEntry} {ep : Nat} {o : Obj}
end
section
variable {X : Cx}
end
end L2

namespace L2
open PySem PySem.Spec PyProof.Rows PySem.NumText
/-! ### list(d.items()) -/
section
variable {prog : Program} {w : World} {A : Around} {E : Value → Shared → Prop} {s : Shared} {d r : Addr} {ds : Array DictEntry} {ep : Nat}
end
section
variable {X : Cx}
end
end L2

namespace L2
open PySem PySem.Spec PyProof.Rows PySem.NumText
/-! ### hashes of marks in a box are unlike -/
/-! ### what a table of pairs looks up, put and taken from -/
/-! what is given on: changes of a table by pairs of a mark and a version, or none -/
end L2

namespace L2
open PySem PySem.Spec PyProof.Rows PySem.NumText
/-! ### tables whose values are versions or None -/
end L2

namespace L2
open PySem PySem.Spec PyProof.Rows PySem.NumText
/-! ### range with a step of 3 -/
section
variable {X : Cx} {tg : Expr}
end
end L2

namespace L2
open PySem PySem.Spec PyProof.Rows PySem.NumText
/-! ### max(xs, default=None) of ints -/
section
variable {prog : Program} {w : World} {A : Around} {E : Value → Shared → Prop} {s : Shared}
end
section
variable {X : Cx}
end
end L2

namespace L2
open PySem PySem.Spec PyProof.Rows PySem.NumText
/-! ### nested targets -/
end L2

namespace L2
open PySem PySem.Spec PyProof.Rows PySem.NumText
/-! ### range with a step -/
section
variable {X : Cx} {tg : Expr}
end
end L2

namespace L2
open PySem PySem.Spec PyProof.Rows PySem.NumText
end L2

namespace L2
open PySem PySem.Spec PyProof.Rows PySem.NumText
end L2

namespace L2
open PySem PySem.Spec PyProof.Rows PySem.NumText PySem.W
/-! ### sorted of two at most, which may be equal -/
section
variable {prog : Program} {w : World} {A : Around} {E : Value → Shared → Prop} {s : Shared} {a : Addr} {vs : List Value}
end
section
variable {X : Cx}
end
end L2

namespace L2
open PySem PySem.Spec PyProof.Rows PySem.NumText PySem.W
/-! ### a dict of the module whose keys are texts; a function called by a local name -/
section
variable {X : Cx}
variable {CX : CXT} {k : Nat} {E : XK} {x : Str} {p pos : Pos} {e : Expr} {es : List Expr} {t : TA}
end
end L2

namespace L2
open PySem PySem.Spec PyProof.Rows PySem.NumText
/-! ### list.index of plain data -/
section
variable {X : Cx}
end
end L2

namespace L2
open PySem PySem.Spec PyProof.Rows PySem.NumText
/-! ### small marks have unlike hashes -/
end L2

namespace L2
open PySem PySem.Spec PyProof.Rows PySem.NumText
/-! ### <= of plain data -/
section
variable {X : Cx}
end
end L2

namespace L2
open PySem PySem.Spec PyProof.Rows PySem.NumText
/-! ### d.get(m, default) of a dict by marks -/
section
variable {X : Cx} {o e z : Expr} {td ty tz : TE}
end
end L2

namespace L2
open PySem PySem.Spec PyProof.Rows PySem.NumText
/-! ### a dict comprehension of one clause, keys are marks -/
section
variable {prog : Program} {w : World} {A : Around} {E : Value → Shared → Prop} {R : Result → Shared → Prop} {s : Shared}
end
section
variable {X : Cx}
end
end L2

namespace L2
open PySem PySem.Spec PyProof.Rows PySem.NumText
/-! ### a dict comprehension that is given to a name; m not in d with K named -/
section
variable {X : Cx}
end
end L2

namespace L2
open PySem PySem.Spec PyProof.Rows PySem.NumText
/-! ### a table of marks by a function: what stands at each mark, as plain data -/
section
variable {K : PySem.W.Frag} {H H' : Hp} {es : List Ent} {f : Mark → Option PyData} {k m : Mark} {d : PyData}
end
/-! lists of plain data, held by a list: none of them is one of N -/
theorem pair_at {α β : Type} {R : α → β → Prop} {xs : List α} {ys : List β} (h : Paired R xs ys) : ∀ {i : Nat} {y : β}, ys[i]? = some y → ∃ x, xs[i]? = some x ∧ R x y := by
  induction h with
  | nil => intro i y e; simp at e
  | cons r rr ih =>
    intro i y e
    cases i with
    | zero => simp at e; subst e; exact ⟨_, rfl, r⟩
    | succ i =>
      rw [List.getElem?_cons_succ] at e
      obtain ⟨x, hx, q⟩ := ih e
      exact ⟨x, by rw [List.getElem?_cons_succ]; exact hx, q⟩
noncomputable def LsR (K : PySem.W.Frag) (N : List Addr) (H : Hp) (v : V) (ds : List PyData) : Prop := ∃ l zs, v = .ref l ∧ l ∉ N ∧ H l = some (.lst zs) ∧ DVs K H ds zs ∧ noLs ds = true
section
variable {K : PySem.W.Frag} {N : List Addr} {H H' : Hp} {v : V} {ds : List PyData}
theorem LsR.same (h : LsR K N H v ds) (s : Same H H') : LsR K N H' v ds := by
  obtain ⟨l, zs, e, nl, hl, hz, ns⟩ := h
  exact ⟨l, zs, e, nl, s _ _ hl, DVs.same s _ _ hz, ns⟩
theorem LsR.less {M : List Addr} (h : LsR K N H v ds) (n : ∀ a ∈ M, a ∈ N) : LsR K M H v ds := by
  obtain ⟨l, zs, e, nl, r⟩ := h
  exact ⟨l, zs, e, fun z => nl (n l z), r⟩
end
end L2

namespace L2
open PySem PySem.Spec PyProof.Rows PySem.NumText
/-! ### a set comprehension of two clauses: {f for x in l for f, g, h in x} -/
section
variable {prog : Program} {w : World} {A : Around} {E : Value → Shared → Prop} {R : Result → Shared → Prop} {s : Shared}
theorem start_set1 {elt : Expr} {g0 : Comprehension} {target iter : Expr} {ifs : List Expr} {scope : Scope} {pos : Pos} {it acc : Value} {env : Env}
    (h0 : codeAny (model prog w) A (.compLoop (elt.SetComp [g0, ⟨target, iter, ifs, 0⟩] scope pos) 1 it acc env) R s)
    (h : wpAny (model prog w) A (pyIter it) (fun it' s' => codeAny (model prog w) A (.compLoop (elt.SetComp [g0, ⟨target, iter, ifs, 0⟩] scope pos) 1 it' acc env) R s') (fun _ _ => False) s) :
    codeAny (model prog w) A (.compStart (elt.SetComp [g0, ⟨target, iter, ifs, 0⟩] scope pos) 1 it acc env) R s := by
  refine codeAny_of_tree (wpAny_notedAt (wpAny_bind (wpAny_askSetting (wpAny_ite ?_))))
  split
  · exact wpAny_bind (wpAny_pure (wpAny_pure ⟨rfl, h0⟩))
  · exact wpAny_bind (wpAny_rule (wpAny_bind (wpAny_standAt (wpAny_bind (wpAny_mono h (fun it' s' h' => wpAny_pure ⟨rfl, h'⟩) fun _ _ z => z.elim)))))
theorem compTurn_set0 (elt target iter target2 iter2 : Expr) (scope : Scope) (pos : Pos) (it acc : Value) (env : Env) :
    compTurn (.SetComp elt [⟨target, iter, [], 0⟩, ⟨target2, iter2, [], 0⟩] scope pos) 0 it acc env = (do
      standAt iter.pos
      match ← pyNext it with
      | none => pure (.done .next)
      | some v =>
        letOwnedTupleGo target it v
        assign target env v
        let x ← eval iter2 env
        standAt iter2.pos
        let x ← foldedSetIterable iter2 env x
        let it2 ← holding [x] (pyIter x)
        let _ ← runOwn (.compStart (.SetComp elt [⟨target, iter, [], 0⟩, ⟨target2, iter2, [], 0⟩] scope pos) 1 it2 acc env) env
        again (.compLoop (.SetComp elt [⟨target, iter, [], 0⟩, ⟨target2, iter2, [], 0⟩] scope pos) 0 it acc env)) := by rfl
theorem compTurn_set1 (elt target iter target2 iter2 : Expr) (scope : Scope) (pos : Pos) (it acc : Value) (env : Env) :
    compTurn (.SetComp elt [⟨target, iter, [], 0⟩, ⟨target2, iter2, [], 0⟩] scope pos) 1 it acc env = (do
      standAt iter2.pos
      match ← pyNext it with
      | none => pure (.done .next)
      | some v =>
        letOwnedTupleGo target2 it v
        assign target2 env v
        (do let v ← eval elt env; standAt elt.pos; let _ ← call (.builtin "set.add") [acc, v])
        again (.compLoop (.SetComp elt [⟨target, iter, [], 0⟩, ⟨target2, iter2, [], 0⟩] scope pos) 1 it acc env)) := by rfl
noncomputable abbrev NoE : Value → Shared → Prop := fun _ _ => False
theorem compLoop_set1 {elt target iter target2 iter2 : Expr} {scope : Scope} {pos : Pos} {it acc : Value} {env : Env} (I : Nat → Shared → Prop)
    (turn : ∀ n s, I n s → wpAny (model prog w) A (pyNext it) (fun r s₁ => match r with
      | none => R (.ok .next) s₁
      | some v => wpAny (model prog w) A (letOwnedTupleGo target2 it v) (fun _ s₁' => wpAny (model prog w) A (assign target2 env v) (fun _ s₂ =>
          wpAny (model prog w) A (eval elt env) (fun x s₄ =>
              wpAny (model prog w) A (call (.builtin "set.add") [acc, x]) (fun _ s₅ => ∃ m, m < n ∧ I m s₅) NoE s₄) NoE s₂) NoE s₁') NoE s₁) NoE s)
    (n : Nat) (h : I n s) : codeAny (model prog w) A (.compLoop (.SetComp elt [⟨target, iter, [], 0⟩, ⟨target2, iter2, [], 0⟩] scope pos) 1 it acc env) R s := by
  refine codeAny_loop rfl I (fun n s hI => ?_) n h
  show wpAny _ A ((compTurn (.SetComp elt [⟨target, iter, [], 0⟩, ⟨target2, iter2, [], 0⟩] scope pos) 1 it acc env).onRaise (fun x => do noteFrame x env; theTreesLotGoes x)) _ _ s
  refine wpAny_noted ?_
  rw [compTurn_set1]
  refine wpAny_bind (wpAny_standAt (wpAny_bind (wpAny_mono (turn n s hI) (fun r s₁ h₁ => ?_) fun _ _ h' => h'.elim)))
  cases r with
  | none => exact wpAny_pure h₁
  | some v =>
    refine wpAny_bind (wpAny_mono h₁ (fun _ s₁' h₁' => ?_) fun _ _ h' => h'.elim)
    refine wpAny_bind (wpAny_mono h₁' (fun _ s₂ h₂ => ?_) fun _ _ h' => h'.elim)
    exact wpAny_bind (wpAny_bind (wpAny_mono h₂ (fun x s₄ h₄ => wpAny_bind (wpAny_standAt (wpAny_bind (wpAny_mono h₄ (fun _ s₅ h₅ => wpAny_pure (wpAny_pure ⟨rfl, h₅⟩)) fun _ _ h' => h'.elim)))) fun _ _ h' => h'.elim))
theorem compLoop_set0 {elt target iter target2 iter2 : Expr} {scope : Scope} {pos : Pos} {it acc : Value} {env : Env} (hs : ∀ x, foldedSetIterable iter2 env x = pure x) (I : Nat → Shared → Prop)
    (turn : ∀ n s, I n s → wpAny (model prog w) A (pyNext it) (fun r s₁ => match r with
      | none => R (.ok .next) s₁
      | some v => wpAny (model prog w) A (letOwnedTupleGo target it v) (fun _ s₁' => wpAny (model prog w) A (assign target env v) (fun _ s₂ =>
          wpAny (model prog w) A (eval iter2 env) (fun x s₃ => wpAny (model prog w) A (pyIter x) (fun it2 s₄ =>
            codeAny (model prog w) A (.compStart (.SetComp elt [⟨target, iter, [], 0⟩, ⟨target2, iter2, [], 0⟩] scope pos) 1 it2 acc env) (fun r s' => match r with | .ok _ => ∃ m, m < n ∧ I m s' | .error _ => False) s₄) NoE s₃) NoE s₂) NoE s₁') NoE s₁) NoE s)
    (n : Nat) (h : I n s) : codeAny (model prog w) A (.compLoop (.SetComp elt [⟨target, iter, [], 0⟩, ⟨target2, iter2, [], 0⟩] scope pos) 0 it acc env) R s := by
  refine codeAny_loop rfl I (fun n s hI => ?_) n h
  show wpAny _ A ((compTurn (.SetComp elt [⟨target, iter, [], 0⟩, ⟨target2, iter2, [], 0⟩] scope pos) 0 it acc env).onRaise (fun x => do noteFrame x env; theTreesLotGoes x)) _ _ s
  refine wpAny_noted ?_
  rw [compTurn_set0]
  refine wpAny_bind (wpAny_standAt (wpAny_bind (wpAny_mono (turn n s hI) (fun r s₁ h₁ => ?_) fun _ _ h' => h'.elim)))
  cases r with
  | none => exact wpAny_pure h₁
  | some v =>
    refine wpAny_bind (wpAny_mono h₁ (fun _ s₁' h₁' => ?_) fun _ _ h' => h'.elim)
    refine wpAny_bind (wpAny_mono h₁' (fun _ s₂ h₂ => ?_) fun _ _ h' => h'.elim)
    refine wpAny_bind (wpAny_mono h₂ (fun x s₃ h₃ => ?_) fun _ _ h' => h'.elim)
    refine wpAny_bind (wpAny_standAt ?_)
    rw [hs]
    refine wpAny_bind (wpAny_pure ?_)
    refine wpAny_bind (wpAny_holding (wpAny_mono h₃ (fun it2 s₄ h₄ => ?_) fun _ _ h' => h'.elim))
    refine wpAny_bind (wpAny_runOwn (codeAny_mono h₄ fun r s' h' => ?_))
    cases r with
    | ok f => exact wpAny_pure ⟨rfl, h'⟩
    | error e => exact h'.elim
end
noncomputable abbrev g123 (K : PySem.W.Frag) : TG := gTup K 3 (gCons (gName 1) (gCons (gName 2) (gCons (gName 3) gNil)))
theorem gk123 {K : PySem.W.Frag} {x : V} {y : Option V} {H : Hp} {Q : St → Hp → Prop} (h : g123 K x [y, none, none, none] H Q) : g123 K x [y, none, none, none] H fun σ' H' => Q σ' H' ∧ ∀ (j : Nat) v, ([y, none, none, none] : St)[j]? = some (some v) → σ'[j]? = some (some v) := by
  obtain ⟨a, xs, e1, hq, hl, v, r, e2, v', r', e3, v2, r2, e4, e5, h⟩ := h
  refine ⟨a, xs, e1, hq, hl, v, r, e2, v', r', e3, v2, r2, e4, e5, h, fun j v e => ?_⟩
  match j, e with
  | 0, e => simpa [List.set] using e
  | 1, e => simp at e
  | 2, e => simp at e
  | 3, e => simp at e
  | j + 4, e => simp at e
section
variable {X : Cx}
theorem pi_listK {K : PySem.W.Frag} {tg e : Expr} {t : TE} (h : X.K = K) (he : PE X e t) : PI X tg e (iList K t) := h ▸ pi_list he
/-- Iv: behind i of the outer things; Iv2: behind j of the inner ones -/
noncomputable def CompSS (w : World) (K : PySem.W.Frag) (J : It) (D : Addr) (wi2 : TI) (te : TE) (H1 : Hp) (Q : VK) : Prop := ∃ (n : Nat) (Iv : Nat → List Mem → Hp → Prop), Iv 0 [] (upd H1 D (setWO w D [])) ∧
  ∀ i qs H2, Iv i qs H2 → SWt w K H2 D qs ∧ ((J.stop i H2 ∧ Q (.ref D) H2) ∨ (i < n ∧ J.go i H2 ∧ ∀ x H3, J.yld i H2 x H3 → wi2 [some x, none, none, none] H3 fun J2 H5 => ∃ (n2 : Nat) (Iv2 : Nat → List Mem → Hp → Prop), Iv2 0 qs H5 ∧
    ∀ j qs2 H6, Iv2 j qs2 H6 → SWt w K H6 D qs2 ∧ ((J2.stop j H6 ∧ Iv (i + 1) qs2 H6) ∨ (j < n2 ∧ J2.go j H6 ∧ qs2.length < 299 ∧ ∀ y H7, J2.yld j H6 y H7 → g123 K y [some x, none, none, none] H7 fun σ8 H8 => te σ8 H8 fun z H9 =>
      ∃ ax dx, z = .ref ax ∧ DV K H9 dx (.ref ax) ∧ ok4 dx ∧ SWt w K H9 D qs2 ∧ ((∃ q ∈ qs2, q.2 = dx) → Iv2 (j + 1) qs2 H9) ∧ ((∀ q ∈ qs2, q.2 ≠ dx) → Iv2 (j + 1) ((ax, dx) :: qs2) (upd H9 D (setWO w D ((ax, dx) :: qs2))))))))
noncomputable def tCompSS (w : World) (K : PySem.W.Frag) (wi : TI) (wi2 : TI) (te : TE) : TE := fun σ H Q => wi σ H fun J H1 => ∀ D, H1 D = none → CompSS w K J D wi2 te H1 Q
theorem pe_setcomp2 {elt tg iter tg2 iter2 : Expr} {scope : Scope} {pos : Pos} {wi wi2 : TI} {te : TE} (N' : List Str)
    (hc : X.calm = true) (hu : X.A.units + 100 < cLine) (hi : PI X tg iter wi)
    (hg : ∀ C s₀ H₀ fp E', PG (X.comp scope C s₀ H₀ fp N' E') tg (gName 0))
    (hi2 : ∀ C s₀ H₀ fp E', PI (X.comp scope C s₀ H₀ fp N' E') tg2 iter2 wi2)
    (hg2 : ∀ C s₀ H₀ fp E', PG (X.comp scope C s₀ H₀ fp N' E') tg2 (g123 X.K))
    (he : ∀ C s₀ H₀ fp E', PE (X.comp scope C s₀ H₀ fp N' E') elt te)
    (hk : scope.kind = .function := by rfl) (hb : compOk scope X.env = true := by rfl) (hcap : capOk X scope N' 4 [] = true := by rfl)
    (hs : ∀ x, foldedSetIterable iter X.env x = pure x := by intro _; rfl) (hs2 : ∀ env x, foldedSetIterable iter2 env x = pure x := by intro _ _; rfl) : PE X (.SetComp elt [⟨tg, iter, [], 0⟩, ⟨tg2, iter2, [], 0⟩] scope pos) (tCompSS X.w X.K wi wi2 te) := .mk <| by
  intro pins s σ H Q I h
  rw [eval_setComp]
  have hclos : closureFor scope X.env = pure (clOf scope X.env) := closure_is fun p hp e => I.ok.has p.1 (compOk_free hb p hp e)
  refine wpAny_comprehension_free (use := none) rfl hs hclos hk (compOk_local hb) (thn (hi pins s σ H _ I h) fun v s1 h1 => thn h1 fun itv s2 h2 => ?_)
  obtain ⟨it, fp, tn, J, H2, e, I2, T, st2, f2, q2⟩ := h2
  subst e
  refine newSetL (wpAny_newFunctionEnv (compOk_cell hb) (by intro y hy; simp at hy) (fun h₁ hns₁ hsb₁ => ?_) hk)
  obtain ⟨ob, hob⟩ : ∃ ob : Obj, ob = { cls := .type "set", data := .set #[] 0 (SetTable.fresh 0 0 (!X.w.params.followText "set-order")) } := ⟨_, rfl⟩
  rw [← hob] at hns₁ hsb₁ ⊢
  have g3 : (s2.heap.push ob).get? s2.heap.objs.size = some ob := by rw [hob]; exact Heap.get?_push_size _ rfl
  have I3 : Inv X pins σ (upd H2 s2.heap.objs.size (setWO X.w s2.heap.objs.size [])) { s2 with heap := s2.heap.push ob } := by
    refine I2.laid (t' := s2.toks) (fun b u e => Heap.get?_push_of_some _ e) (Nat.le_refl _) (setWO_ok ?_ ?_)
    · rw [hob]
      rw [hob] at g3
      exact ⟨_, g3, #[], 0, _, [], ⟨rfl, rfl, rfl⟩, rfl, rfl, ⟨rfl, by show 0 ≤ 7; decide, .inl rfl⟩, by show 0 * 5 < 7 * 3; decide, ⟨(fun a b u v _ e _ => by simp [SetTable.fresh] at e), fun i j e h1 => by simp [SetTable.fresh] at h1⟩, .refl _, .nil⟩
    · rw [hob]
      rw [hob] at g3
      exact ⟨_, _, _, _, g3, rfl, rfl, rfl⟩
  have hfl : ∀ b ∈ fp, b < s2.heap.objs.size := fun b hb' => let ⟨o, e, _⟩ := T.obj 0 _ st2 b hb'; Heap.lt_size e
  obtain ⟨n, Iv, w0, turn⟩ := q2 s2.heap.objs.size (I2.hok.fresh (Nat.le_refl _))
  have nD : ∀ b ∈ fp, b ≠ s2.heap.objs.size := fun b hb' => Nat.ne_of_lt (hfl b hb')
  obtain ⟨H3, hH3⟩ : ∃ H3, H3 = upd H2 s2.heap.objs.size (setWO X.w s2.heap.objs.size []) := ⟨_, rfl⟩
  have f3 : ∀ b ∈ fp, FpOk X pins H3 b := fun b hb' => ⟨by rw [hH3, upd_ne (nD b hb')]; exact (f2 b hb').1, (f2 b hb').2⟩
  rw [← hH3] at I3 w0
  obtain ⟨s3, hs3⟩ : ∃ s3 : Shared, s3 = { s2 with heap := s2.heap.push ob } := ⟨_, rfl⟩
  have hs3' : s3.heap = s2.heap.push ob := by rw [hs3]
  rw [← hs3] at I3
  have hsz : s3.heap.objs.size = s2.heap.objs.size + 1 := by rw [hs3', Heap.size_push]
  have hfl3 : ∀ b ∈ fp, b < s3.heap.objs.size := fun b hb' => by rw [hsz]; exact Nat.lt_succ_of_lt (hfl b hb')
  have hC : (s2.heap.push ob).objs.size = s3.heap.objs.size := by rw [hs3']
  dsimp only at hns₁ hsb₁ ⊢
  rw [hC] at hns₁ hsb₁ ⊢
  rw [← hs3'] at hsb₁
  have kp : ∀ b o, s3.heap.get? b = some o → h₁.get? b = some o := fun b o e => hsb₁.extBut b o (Nat.ne_of_lt (Heap.lt_size e)) (Heap.get?_push_of_some _ e)
  have I4 := comp_start (N' := N') (nt := 4) (cap := []) (t4 := s2.toks + ([] : List (Str × Value)).length) (E' := NoE) I3 hk hb hcap f3 hfl3 hns₁ kp
  have st4 : tn 0 h₁ := T.keep 0 _ _ st2 fun b hb' o e => kp b o (by rw [hs3']; exact Heap.get?_push_of_some _ e)
  obtain ⟨s4, hs4⟩ : ∃ s4 : Shared, s4 = { s3 with heap := h₁, toks := s2.toks + ([] : List (Str × Value)).length } := ⟨_, rfl⟩
  rw [← hs4] at I4
  have st4' : tn 0 s4.heap := by rw [hs4]; exact st4
  have cin : ∀ x c, (clOf scope X.env).lookup x = some c → X.env.cells.lookup x = some c := fun x c e => cl_in scope.names [] (fun y d q => by simp at q) e
  obtain ⟨XC, hXC⟩ : ∃ XC : Cx, XC = X.comp scope s3.heap.objs.size s3 H3 fp N' NoE := ⟨_, rfl⟩
  have stat : ∀ {H' : Hp}, (∀ b ∈ fp, H' b = none) → ∀ b ∈ fp, FpOk XC [] H' b := fun hn b hb' => by
    rw [hXC]
    refine ⟨hn b hb', Nat.ne_of_lt (hfl3 b hb'), fun z => ?_, .inl hb', fun x c e => (f3 b hb').2.2.2.2.1 x c (cin x c e), fun p hp => absurd hp (by simp [Cx.comp])⟩
    rcases List.mem_cons.mp (I3.stkSub b z) with z | z
    · exact (f3 b hb').2.1 z
    · exact (f3 b hb').2.2.1 z
  have eP : XC.prog = X.prog := by rw [hXC]; rfl
  have loop : codeAny (model X.prog X.w) X.A (.compLoop (.SetComp elt [⟨tg, iter, [], 0⟩, ⟨tg2, iter2, [], 0⟩] scope pos) 0 (.ref it) (.ref s2.heap.objs.size) (compEnvC scope (clOf scope X.env) s3.heap.objs.size X.env))
      (compPost (model X.prog X.w) X.A X.xe none (EP X pins σ Q) (.ref s2.heap.objs.size) s3.heap.objs.size) s4 := by
    refine compLoop_set0 (hs2 _) (fun m s' => ∃ i qs H', m = n - i ∧ Inv (X.comp scope s3.heap.objs.size s3 H3 fp N' NoE) [] [none, none, none, none] H' s' ∧ tn i s'.heap ∧ (∀ b ∈ fp, H' b = none) ∧ Iv i qs H') ?_ n
      ⟨0, [], _, rfl, I4, st4', fun b hb' => (f3 b hb').1, w0⟩
    rintro m s5 ⟨i, qs, H5, rfl, I5, st5, fr5, w5⟩
    obtain ⟨hD5, alt⟩ := turn i qs H5 w5
    have stat5 : ∀ {H' : Hp}, (∀ b ∈ fp, H' b = none) → ∀ b ∈ fp, FpOk (X.comp scope s3.heap.objs.size s3 H3 fp N' NoE) [] H' b := fun hn => by rw [← hXC]; exact stat hn
    rcases alt with ⟨stop, qn⟩ | ⟨hin, go, step⟩
    · refine thn (T.done (X.comp scope s3.heap.objs.size s3 H3 fp N' NoE) rfl rfl rfl hc i [] s5 _ H5 NoE I5 (stat5 fr5) st5 stop) fun r s6 ⟨hr, I6⟩ => ?_
      subst hr
      obtain ⟨m6, hn6, _⟩ := I6.loc
      refine ⟨m6, hn6, fun h' hsb' => ?_⟩
      have I7 := comp_back I3 f3 I6
      refine ⟨.ref s2.heap.objs.size, H5, ?_, rfl, qn⟩
      refine I7.turnedL (ch := [s3.heap.objs.size]) (t' := s6.toks) (fun b hb' => ?_) fun b u hb' e => (hsb'.2 b fun z => hb' (by simp [z])).trans e
      have eb : b = s3.heap.objs.size := by simpa using hb'
      subst eb
      exact I3.fpOk (Nat.le_refl _) I6.free
    · refine thn (T.item (X.comp scope s3.heap.objs.size s3 H3 fp N' NoE) rfl rfl rfl hc i [] s5 _ H5 NoE I5 (stat5 fr5) st5 go) fun r s6 ⟨u, hr, h6⟩ => ?_
      subst hr
      refine thn h6 fun _ s7 ⟨x, H7, I7, r7, y7, st7, fr7⟩ => ?_
      have I7' := I7.pinned (stat5 fr7) (T.obj _ _ st7)
      refine thn (hg _ _ _ _ _ _ s7 _ H7 x u (fun σ8 H8 => σ8 = [some x, none, none, none] ∧ H8 = H7) I7' r7 ⟨rfl, rfl⟩) fun _ s8 ⟨σ8, H8, I8, e8, e8'⟩ => ?_
      subst e8 e8'
      refine thn (hi2 _ _ _ _ _ _ s8 _ H8 _ I8 (step x H8 y7)) fun v9 s9 h9 => thn h9 fun itv9 s10 h10 => ?_
      obtain ⟨it2, fp2, tn2, J2, H10, e10, I10, T2, st10, f10, n2, Iv2, v0, turn2⟩ := h10
      subst e10
      have stat2 : ∀ {H' : Hp}, (∀ b ∈ fp2, H' b = none) → ∀ b ∈ fp2, FpOk (X.comp scope s3.heap.objs.size s3 H3 fp N' NoE) ([] ++ pinsAt fp s7.heap) H' b := fun hn b hb => ⟨hn b hb, (f10 b hb).2⟩
      have back : ∀ {σ9 : St} {H9 : Hp} {s11 : Shared} {qs2 : List Mem}, Inv (X.comp scope s3.heap.objs.size s3 H3 fp N' NoE) ([] ++ pinsAt fp s7.heap) σ9 H9 s11 → σ9.length = 4 → Iv (i + 1) qs2 H9 → ∃ m, m < n - i ∧ ∃ i qs H', m = n - i ∧ Inv (X.comp scope s3.heap.objs.size s3 H3 fp N' NoE) [] [none, none, none, none] H' s11 ∧ tn i s11.heap ∧ (∀ b ∈ fp, H' b = none) ∧ Iv i qs H' := fun {σ9 H9 s11 qs2} I11 hl hv => by
        refine ⟨n - (i + 1), by omega, i + 1, qs2, H9, rfl, I11.unpinned.weak (by rw [hl]; rfl) (fun j v e => ?_), T.keep _ _ _ st7 fun b hb o e => (I11.pin (b, o) (List.mem_append_right _ (List.mem_append_right _ (mem_pinsAt hb e)))).1, fun b hb => ?_, hv⟩
        · match j, e with
          | 0, e => simp at e
          | 1, e => simp at e
          | 2, e => simp at e
          | 3, e => simp at e
          | j + 4, e => simp at e
        · obtain ⟨o, e, d⟩ := T.obj _ _ st7 b hb
          exact (I11.pin (b, o) (List.mem_append_right _ (List.mem_append_right _ (mem_pinsAt hb e)))).2.1
      have loop2 : codeAny (model X.prog X.w) X.A (.compLoop (.SetComp elt [⟨tg, iter, [], 0⟩, ⟨tg2, iter2, [], 0⟩] scope pos) 1 (.ref it2) (.ref s2.heap.objs.size) (compEnvC scope (clOf scope X.env) s3.heap.objs.size X.env))
          (fun r s' => match r with | .ok _ => ∃ m, m < n - i ∧ ∃ i qs H', m = n - i ∧ Inv (X.comp scope s3.heap.objs.size s3 H3 fp N' NoE) [] [none, none, none, none] H' s' ∧ tn i s'.heap ∧ (∀ b ∈ fp, H' b = none) ∧ Iv i qs H' | .error _ => False) s10 := by
        refine compLoop_set1 (fun m s' => ∃ j qs2 H', m = n2 - j ∧ Inv (X.comp scope s3.heap.objs.size s3 H3 fp N' NoE) ([] ++ pinsAt fp s7.heap) [some x, none, none, none] H' s' ∧ tn2 j s'.heap ∧ (∀ b ∈ fp2, H' b = none) ∧ Iv2 j qs2 H') ?_ n2
          ⟨0, qs, H10, rfl, I10, st10, fun b hb' => (f10 b hb').1, v0⟩
        rintro m s11 ⟨j, qs2, H11, rfl, I11, st11, fr11, w11⟩
        obtain ⟨hD11, alt2⟩ := turn2 j qs2 H11 w11
        rcases alt2 with ⟨stop2, iv⟩ | ⟨hjn, go2, few2, step2⟩
        · refine thn (T2.done (X.comp scope s3.heap.objs.size s3 H3 fp N' NoE) rfl rfl rfl hc j _ s11 _ H11 NoE I11 (stat2 fr11) st11 stop2) fun r s12 ⟨hr, I12⟩ => ?_
          subst hr
          exact back I12 rfl iv
        · refine thn (T2.item (X.comp scope s3.heap.objs.size s3 H3 fp N' NoE) rfl rfl rfl hc j _ s11 _ H11 NoE I11 (stat2 fr11) st11 go2) fun r s12 ⟨u2, hr, h12⟩ => ?_
          subst hr
          refine thn h12 fun _ s13 ⟨y, H13, I13, r13, y13, st13, fr13⟩ => ?_
          have I13' := I13.pinned (stat2 fr13) (T2.obj _ _ st13)
          refine thn (hg2 _ _ _ _ _ _ s13 _ H13 y u2 _ I13' r13 (gk123 (step2 y H13 y13))) fun _ s14 ⟨σ14, H14, I14, q14, hσ14⟩ => ?_
          refine thn (he _ _ _ _ _ _ s14 σ14 H14 _ I14 q14) fun z s15 ⟨vz, H15, I15, r15, ax, dx, ez, hd15, ok15, S15, k0, k1⟩ => ?_
          subst ez
          refine thn (set_add (X := X.comp scope s3.heap.objs.size s3 H3 fp N' NoE) (E := NoE) (Q := fun H' => ∃ qs', Iv2 (j + 1) qs' H') hu I15 S15 few2 r15 hd15 ok15 (fun z => ⟨_, k0 z⟩) (fun z => ⟨_, k1 z⟩)) fun _ s16 ⟨H16, I16, qs', w16⟩ => ?_
          refine ⟨n2 - (j + 1), by omega, j + 1, qs', H16, rfl, I16.unpinned.weak (by rw [I14.len, I11.len]) hσ14, T2.keep _ _ _ st13 fun b hb o e => (I16.pin (b, o) (List.mem_append_right _ (List.mem_append_right _ (mem_pinsAt hb e)))).1, fun b hb => ?_, w16⟩
          obtain ⟨o, e, d⟩ := T2.obj _ _ st13 b hb
          exact (I16.pin (b, o) (List.mem_append_right _ (List.mem_append_right _ (mem_pinsAt hb e)))).2.1
      exact start_set1 loop2 (T2.self X.A 0 s10 _ _ st10 loop2)
  have e4 : ({ s2 with heap := h₁, toks := s2.toks + ([] : List (Str × Value)).length } : Shared) = s4 := by rw [hs4, hs3]
  show codeAny _ _ _ _ { s2 with heap := h₁, toks := s2.toks + ([] : List (Str × Value)).length }
  rw [e4]
  exact start_setComp loop (T.self X.A 0 s4 _ _ st4' loop)
end
end L2

namespace L2
open PySem PySem.Spec PyProof.Rows PySem.NumText
/-! ### what stays where all but the things at M stay, and none of these is a tuple -/
noncomputable def But (M : List Addr) (H H' : Hp) : Prop := ∀ b o, b ∉ M → H b = some o → H' b = some o
noncomputable def NoT (M : List Addr) (H : Hp) : Prop := ∀ m ∈ M, ∀ o, H m = some o → NoTup o
theorem noT_ins (C dx : Addr) (fs : List (Str × V)) : NoTup (.ins C dx fs) := ⟨fun _ z => (by cases z), fun _ _ z => (by cases z)⟩
section
variable {K : PySem.W.Frag} {M N : List Addr} {H H' H1 H2 : Hp} {v : V} {ds : List PyData}
theorem But.of (s : Same H H') : But M H H' := fun b o _ e => s b o e
theorem But.trans (a : But M H H1) (b : But M H1 H2) : But M H H2 := fun c o n e => b c o n (a c o n e)
theorem But.mono (a : But M H H1) (h : ∀ m ∈ M, m ∈ N) : But N H H1 := fun c o n e => a c o (fun z => n (h c z)) e
theorem But.put {a : Addr} {o : HO} (h : a ∈ M) : But M H (upd H a o) := fun b o' n e => by rw [upd_ne (fun z => n (by rw [z]; exact h))]; exact e
theorem But.free (a : But M H H1) {x : Addr} (h : H1 x = none) (n : x ∉ M) : H x = none := by
  cases e : H x with
  | none => rfl
  | some o => rw [a x o n e] at h; cases h
theorem sqT_but (k : But M H H') (n : NoT M H) {a : Addr} {xs : List V} (h : SqT K H a xs) : SqT K H' a xs := by
  rcases h with (h | ⟨ob, h⟩) | h
  · exact .inl (.inl (k _ _ (fun z => (n a z _ h).1 _ rfl) h))
  · exact .inl (.inr ⟨ob, k _ _ (fun z => (n a z _ h).2 _ _ rfl) h⟩)
  · exact .inr h
mutual
theorem dv_but (k : But M H H') (n : NoT M H) : ∀ (d : PyData) (v : V), noL d = true → DV K H d v → DV K H' d v
  | .none, v, _, h => h
  | .bool b, v, _, h => h
  | .int i, v, _, h => h
  | .str x, v, _, h => h
  | .list xs, v, n', _ => by cases n'
  | .tuple xs, v, n', ⟨a, vs, h1, h2, h3⟩ => ⟨a, vs, h1, sqT_but k n h2, dvs_but k n xs vs n' h3⟩
  | .dict _, v, _, h => h.elim
theorem dvs_but (k : But M H H') (n : NoT M H) : ∀ (ds : List PyData) (vs : List V), noLs ds = true → DVs K H ds vs → DVs K H' ds vs
  | [], vs, _, h => h
  | d :: ds, vs, n', ⟨v, r, h1, h2, h3⟩ => by
    have n' : noL d = true ∧ noLs ds = true := by rw [noLs, Bool.and_eq_true] at n'; exact n'
    exact ⟨v, r, h1, dv_but k n d v n'.1 h2, dvs_but k n ds r n'.2 h3⟩
end
theorem LsR.but (h : LsR K N H v ds) (k : But M H H') (n : NoT M H) (hM : ∀ m ∈ M, m ∈ N ∨ ∃ C dx fs, H m = some (.ins C dx fs)) : LsR K N H' v ds := by
  obtain ⟨l, zs, e, nl, hl, hz, ns⟩ := h
  refine ⟨l, zs, e, nl, k _ _ (fun z => ?_) hl, dvs_but k n _ _ ns hz, ns⟩
  rcases hM l z with h | ⟨C, dx, fs, h⟩
  · exact nl h
  · rw [hl] at h; cases h
theorem LsR.more {a : Addr} (h : LsR K N H v ds) (ha : H a = none) : LsR K (a :: N) H v ds := by
  obtain ⟨l, zs, e, nl, hl, r⟩ := h
  refine ⟨l, zs, e, fun z => ?_, hl, r⟩
  rcases List.mem_cons.mp z with z | z
  · rw [z, ha] at hl; cases hl
  · exact nl z
/-! entries: lists of changes -/
noncomputable def eD (e : List Chg) : PyData := .list (e.map chD)
noncomputable abbrev EnL (K : PySem.W.Frag) (N : List Addr) (H : Hp) (vs : List V) (es : List (List Chg)) : Prop := Paired (fun v (e : List Chg) => LsR K N H v (e.map chD)) vs es
variable {vs : List V} {es : List (List Chg)}
theorem EnL.but (h : EnL K N H vs es) (k : But M H H') (n : NoT M H) (hM : ∀ m ∈ M, m ∈ N ∨ ∃ C dx fs, H m = some (.ins C dx fs)) : EnL K N H' vs es := Paired.mapP h fun _ _ q => q.but k n hM
theorem EnL.same (h : EnL K N H vs es) (s : Same H H') : EnL K N H' vs es := Paired.mapP h fun _ _ q => q.same s
theorem EnL.more {a : Addr} (h : EnL K N H vs es) (ha : H a = none) : EnL K (a :: N) H vs es := Paired.mapP h fun _ _ q => q.more ha
theorem EnL.less (h : EnL K N H vs es) (n : ∀ a ∈ M, a ∈ N) : EnL K M H vs es := Paired.mapP h fun _ _ q => q.less n
theorem EnL.dv (h : EnL K N H vs es) : DVs K H (es.map eD) vs := by
  induction h with
  | nil => rfl
  | cons r rr ih =>
    obtain ⟨l, zs, rfl, _, hl, hz, _⟩ := r
    exact ⟨_, _, rfl, ⟨l, zs, rfl, SqL.of hl, hz⟩, ih⟩
theorem paired_last {α β : Type} {R : α → β → Prop} {xs : List α} {ys : List β} {y : β} (h : Paired R xs (ys ++ [y])) : ∃ xs' x, xs = xs' ++ [x] ∧ Paired R xs' ys ∧ R x y := by
  induction ys generalizing xs with
  | nil =>
    cases h with
    | cons r rr =>
      cases rr
      exact ⟨[], _, rfl, .nil, r⟩
  | cons z ys ih =>
    cases h with
    | cons r rr =>
      obtain ⟨xs', x, rfl, p, q⟩ := ih rr
      exact ⟨_ :: xs', x, rfl, .cons r p, q⟩
noncomputable def okEn (e : List Chg) : Prop := (∀ c ∈ e, okCh c) ∧ (e.map (·.1)).Nodup ∧ e.length ≤ 3
noncomputable def okEs (es : List (List Chg)) : Prop := ∀ e ∈ es, okEn e
theorem es_lay : ∀ {es : List (List Chg)}, okEs es → PyData.canLayAll0 (es.map eD) = true ∧ PyData.depthAll (es.map eD) ≤ 6
  | [], _ => ⟨rfl, Nat.zero_le _⟩
  | e :: es, h => by
    obtain ⟨h1, h2⟩ := es_lay (es := es) fun x hx => h x (List.mem_cons_of_mem _ hx)
    obtain ⟨h3, h4⟩ := chs_lay (h e List.mem_cons_self).1
    refine ⟨?_, ?_⟩
    · show (PyData.canLayAll0 (e.map chD) && PyData.canLayAll0 (es.map eD)) = true
      rw [h3, h1]
      rfl
    · show max (PyData.depthAll (e.map chD) + 1) (PyData.depthAll (es.map eD)) ≤ 6
      omega
theorem es_shaped {es : List (List Chg)} (h : okEs es) : SeqAt.shaped (.list (es.map eD)) = true := by
  obtain ⟨h1, h2⟩ := es_lay h
  unfold SeqAt.shaped
  rw [show PyData.canLay0 (.list (es.map eD)) = true from h1, Bool.true_and]
  refine decide_eq_true ?_
  show PyData.depthAll (es.map eD) + 1 ≤ _
  omega
end
/-! ### a log -/
theorem sneu : ¬ (("standing" : Str) = "undone") := by decide +kernel
noncomputable def lf (S U : Addr) : List (Str × V) := putF "undone" (.ref U) (putF "standing" (.ref S) [])
theorem lf_eq (S U : Addr) : lf S U = ([("standing", V.ref S), ("undone", V.ref U)] : List (Str × V)) := by
  show (if ("standing" : Str) = "undone" then [(("standing" : Str), V.ref U)] else (("standing" : Str), V.ref S) :: putF "undone" (V.ref U) []) = _
  rw [if_neg sneu]
  rfl
theorem lf_s (S U : Addr) : (lf S U).lookup ("standing" : Str) = some (.ref S) := by
  unfold lf
  rw [lookup_putF, if_neg sneu, lookup_putF, if_pos rfl]
theorem lf_u (S U : Addr) : (lf S U).lookup ("undone" : Str) = some (.ref U) := by
  unfold lf
  rw [lookup_putF, if_pos rfl]
theorem lf_no (S U : Addr) {m : Str} (h1 : ¬ m = "undone") (h2 : ¬ m = "standing") : (lf S U).lookup m = none := by
  unfold lf
  rw [lookup_putF, if_neg h1, lookup_putF, if_neg h2]
  rfl
theorem lf_put (S U W : Addr) : putF "undone" (.ref W) (lf S U) = lf S W := by
  rw [lf_eq, lf_eq]
  show (if ("standing" : Str) = "undone" then _ else (("standing" : Str), V.ref S) :: (if ("undone" : Str) = "undone" then [(("undone" : Str), V.ref W)] else _)) = _
  rw [if_neg sneu, if_pos rfl]
structure LogK (C : Addr) (H : Hp) (p S U : Addr) (vs ws : List V) : Prop where
  hp : ∃ dx, H p = some (.ins C dx (lf S U))
  hS : H S = some (.lst vs)
  hU : H U = some (.lst ws)
  ne : S ≠ U
section
variable {C : Addr} {H H' : Hp} {p S U : Addr} {vs ws : List V}
theorem LogK.same (L : LogK C H p S U vs ws) (s : Same H H') : LogK C H' p S U vs ws := ⟨L.hp.imp fun _ h => s _ _ h, s _ _ L.hS, s _ _ L.hU, L.ne⟩
theorem LogK.but {M : List Addr} (L : LogK C H p S U vs ws) (k : But M H H') (n : ∀ a ∈ [p, S, U], a ∉ M) : LogK C H' p S U vs ws := ⟨L.hp.imp fun _ h => k _ _ (n p (by simp)) h, k _ _ (n S (by simp)) L.hS, k _ _ (n U (by simp)) L.hU, L.ne⟩
theorem LogK.nS (L : LogK C H p S U vs ws) : p ≠ S := let ⟨_, h⟩ := L.hp; ne_of h L.hS (by intro z; cases z)
theorem LogK.nU (L : LogK C H p S U vs ws) : p ≠ U := let ⟨_, h⟩ := L.hp; ne_of h L.hU (by intro z; cases z)
theorem LogK.noT (L : LogK C H p S U vs ws) : NoT [p, S, U] H := fun m hm o e => by
  obtain ⟨dx, hp⟩ := L.hp
  rcases List.mem_cons.mp hm with rfl | hm
  · rw [hp] at e; cases e; exact noT_ins _ _ _
  rcases List.mem_cons.mp hm with rfl | hm
  · rw [L.hS] at e; cases e; exact noT_lst _
  · rw [List.mem_singleton.mp hm, L.hU] at e; cases e; exact noT_lst _
end
theorem noT_one {H : Hp} {a : Addr} {xs : List V} (h : H a = some (.lst xs)) : NoT [a] H := fun m hm o e => by
  rw [List.mem_singleton.mp hm, h] at e
  cases e
  exact noT_lst _
theorem noT_two {H : Hp} {a b : Addr} {xs ys : List V} (h : H a = some (.lst xs)) (g : H b = some (.lst ys)) : NoT [a, b] H := fun m hm o e => by
  rcases List.mem_cons.mp hm with rfl | hm
  · rw [h] at e; cases e; exact noT_lst _
  · rw [List.mem_singleton.mp hm, g] at e; cases e; exact noT_lst _
theorem markD_inj {a b : Mark} (h : markD a = markD b) : a = b := by
  have h : PyData.tuple [.int a.1, .int a.2] = PyData.tuple [.int b.1, .int b.2] := h
  injection h with h
  injection h with h1 h2
  injection h2 with h2 _
  injection h1 with h1
  injection h2 with h2
  exact Prod.ext h1 h2
noncomputable def IsTch (es : List (List Chg)) (ks : List Mark) : Prop := ks.Pairwise (fun x y => mLt x y = true) ∧ ∀ m, m ∈ ks ↔ ∃ e ∈ es, m ∈ e.map (·.1)
theorem IsTch.one {es : List (List Chg)} {ks js : List Mark} (h : IsTch es ks) (g : IsTch es js) : ks = js := uniqM (nodup_perm (mLt_nodup h.1) (mLt_nodup g.1) fun m => (h.2 m).trans (g.2 m).symm) h.1 g.1
end L2

local macro_rules | `(tactic| walk_at "rd") => `(tactic| repeat (first
  | refine ⟨_, rfl, ?_⟩
  | refine ⟨_, _, rfl, rfl, ?_⟩
  | refine ⟨(by show (0 : Int) < _; decide), ?_⟩
  | refine ⟨⟨by decide, by decide⟩, ?_⟩
  | refine ⟨Or.inr ⟨by decide, by decide⟩, ?_⟩
  | refine ⟨⟨by decide, by decide, by decide⟩, ?_⟩
  | refine ⟨_, _, _, _, rfl, rfl, L2.SqL.of L2.upd_same, rfl, ?_⟩
  | refine ⟨_, _, _, _, rfl, rfl, L2.SqL.of (by assumption), rfl, ?_⟩))
namespace My
open PySem L2 PySem.Spec PyProof.Rows PySem.NumText

local macro_rules | `(tactic| walk_at "sc") => `(tactic| exact ⟨rfl, rfl, rfl, by decide +kernel, rfl, by decide +kernel, by decide +kernel⟩)
theorem sm1 {n : Nat} (h : n ≤ 1000) : n ≤ sizeLine := Nat.le_of_lt (small1000 h)
theorem ip_2 : (0 : Int) < 2 := by decide
theorem ip_3 : (0 : Int) < 3 := by decide
theorem ip_5 : (0 : Int) < 5 := by decide
theorem ip_7 : (0 : Int) < 7 := by decide
theorem sz_0 : 0 ≤ sizeLine := by decide
theorem sz_1 : 1 ≤ sizeLine := by decide
theorem sz_2 : 2 ≤ sizeLine := by decide
theorem sz_3 : 3 ≤ sizeLine := by decide
noncomputable def top (i : Nat) : Stmt := PySem.Challenge.pw_twotabs_k19_log_shared.main.body.getD i (.Pass ⟨0, 0, 0, 0⟩)
noncomputable abbrev s_last_over : Stmt := top 6
noncomputable abbrev s_Log____init__ : Stmt := inClass (top 5) 0
noncomputable abbrev s_Log__forget : Stmt := inClass (top 5) 3
noncomputable abbrev s_Log__add : Stmt := inClass (top 5) 1
noncomputable abbrev s_Log__undo : Stmt := inClass (top 5) 4
noncomputable abbrev s_Log__again : Stmt := inClass (top 5) 5
noncomputable abbrev s_Log__many : Stmt := inClass (top 5) 6
noncomputable abbrev s_Log__touched : Stmt := inClass (top 5) 7
noncomputable abbrev s__law_entry : Stmt := top 8
noncomputable abbrev s__law_changed : Stmt := top 9
noncomputable abbrev s__law_turned : Stmt := top 10
noncomputable abbrev s__law_marks : Stmt := top 11
noncomputable abbrev s__law_told : Stmt := top 12
noncomputable abbrev s__law_deed : Stmt := top 13
noncomputable abbrev s__law_emptied : Stmt := top 14
noncomputable abbrev s__law_mixed : Stmt := top 15
noncomputable abbrev s_law : Stmt := top 16
/-- the addresses -/
structure Adr where
  f_last_over : Addr
  d_last_over : FuncData
  f_Log____init__ : Addr
  d_Log____init__ : FuncData
  f_Log__forget : Addr
  d_Log__forget : FuncData
  f_Log__add : Addr
  d_Log__add : FuncData
  f_Log__undo : Addr
  d_Log__undo : FuncData
  f_Log__again : Addr
  d_Log__again : FuncData
  f_Log__many : Addr
  d_Log__many : FuncData
  f_Log__touched : Addr
  d_Log__touched : FuncData
  f__law_entry : Addr
  d__law_entry : FuncData
  f__law_changed : Addr
  d__law_changed : FuncData
  f__law_turned : Addr
  d__law_turned : FuncData
  f__law_marks : Addr
  d__law_marks : FuncData
  f__law_told : Addr
  d__law_told : FuncData
  f__law_deed : Addr
  d__law_deed : FuncData
  f__law_emptied : Addr
  d__law_emptied : FuncData
  f__law_mixed : Addr
  d__law_mixed : FuncData
  f_law : Addr
  d_law : FuncData
  DraftError : Addr
  Log : Addr
  NoDeed : Addr

structure Txt (K : PySem.W.Frag) (mg : Str → Option Value) (A : Adr) : Prop where
  F_last_over : Fun K "last_over" "last_over" s_last_over A.f_last_over A.d_last_over
  g_last_over : mg "last_over" = some (.ref A.f_last_over)
  k_last_over : PySem.W.keepIn K (.ref A.f_last_over) = true
  b_last_over : Binds K A.d_last_over ["entries", "others"] []
  F_Log____init__ : Fun K "__init__" "Log.__init__" s_Log____init__ A.f_Log____init__ A.d_Log____init__
  b_Log____init__ : Binds K A.d_Log____init__ ["self"] []
  mk_Log : Mk K A.Log A.f_Log____init__
  F_Log__forget : Fun K "forget" "Log.forget" s_Log__forget A.f_Log__forget A.d_Log__forget
  b_Log__forget : Binds K A.d_Log__forget ["self"] []
  m_Log__forget : Meth K A.Log "forget" A.f_Log__forget
  F_Log__add : Fun K "add" "Log.add" s_Log__add A.f_Log__add A.d_Log__add
  b_Log__add : Binds K A.d_Log__add ["self", "entry"] []
  m_Log__add : Meth K A.Log "add" A.f_Log__add
  F_Log__undo : Fun K "undo" "Log.undo" s_Log__undo A.f_Log__undo A.d_Log__undo
  b_Log__undo : Binds K A.d_Log__undo ["self"] []
  m_Log__undo : Meth K A.Log "undo" A.f_Log__undo
  F_Log__again : Fun K "again" "Log.again" s_Log__again A.f_Log__again A.d_Log__again
  b_Log__again : Binds K A.d_Log__again ["self"] []
  m_Log__again : Meth K A.Log "again" A.f_Log__again
  F_Log__many : Fun K "many" "Log.many" s_Log__many A.f_Log__many A.d_Log__many
  b_Log__many : Binds K A.d_Log__many ["self"] []
  m_Log__many : Meth K A.Log "many" A.f_Log__many
  F_Log__touched : Fun K "touched" "Log.touched" s_Log__touched A.f_Log__touched A.d_Log__touched
  b_Log__touched : Binds K A.d_Log__touched ["self"] []
  m_Log__touched : Meth K A.Log "touched" A.f_Log__touched
  F__law_entry : Fun K "_law_entry" "_law_entry" s__law_entry A.f__law_entry A.d__law_entry
  g__law_entry : mg "_law_entry" = some (.ref A.f__law_entry)
  k__law_entry : PySem.W.keepIn K (.ref A.f__law_entry) = true
  b__law_entry : Binds K A.d__law_entry ["_law_cell", "_law_k"] []
  F__law_changed : Fun K "_law_changed" "_law_changed" s__law_changed A.f__law_changed A.d__law_changed
  g__law_changed : mg "_law_changed" = some (.ref A.f__law_changed)
  k__law_changed : PySem.W.keepIn K (.ref A.f__law_changed) = true
  b__law_changed : Binds K A.d__law_changed ["_law_rows", "_law_cell"] []
  F__law_turned : Fun K "_law_turned" "_law_turned" s__law_turned A.f__law_turned A.d__law_turned
  g__law_turned : mg "_law_turned" = some (.ref A.f__law_turned)
  k__law_turned : PySem.W.keepIn K (.ref A.f__law_turned) = true
  b__law_turned : Binds K A.d__law_turned ["_law_log", "_law_back"] []
  F__law_marks : Fun K "_law_marks" "_law_marks" s__law_marks A.f__law_marks A.d__law_marks
  g__law_marks : mg "_law_marks" = some (.ref A.f__law_marks)
  k__law_marks : PySem.W.keepIn K (.ref A.f__law_marks) = true
  b__law_marks : Binds K A.d__law_marks ["_law_entries"] []
  F__law_told : Fun K "_law_told" "_law_told" s__law_told A.f__law_told A.d__law_told
  g__law_told : mg "_law_told" = some (.ref A.f__law_told)
  k__law_told : PySem.W.keepIn K (.ref A.f__law_told) = true
  b__law_told : Binds K A.d__law_told ["_law_log", "_law_stand", "_law_gone", "_law_cell"] []
  F__law_deed : Fun K "_law_deed" "_law_deed" s__law_deed A.f__law_deed A.d__law_deed
  g__law_deed : mg "_law_deed" = some (.ref A.f__law_deed)
  k__law_deed : PySem.W.keepIn K (.ref A.f__law_deed) = true
  b__law_deed : Binds K A.d__law_deed ["_law_log", "_law_stand", "_law_gone", "_law_cell", "_law_k"] []
  F__law_emptied : Fun K "_law_emptied" "_law_emptied" s__law_emptied A.f__law_emptied A.d__law_emptied
  g__law_emptied : mg "_law_emptied" = some (.ref A.f__law_emptied)
  k__law_emptied : PySem.W.keepIn K (.ref A.f__law_emptied) = true
  b__law_emptied : Binds K A.d__law_emptied ["_law_log", "_law_stand"] []
  F__law_mixed : Fun K "_law_mixed" "_law_mixed" s__law_mixed A.f__law_mixed A.d__law_mixed
  g__law_mixed : mg "_law_mixed" = some (.ref A.f__law_mixed)
  k__law_mixed : PySem.W.keepIn K (.ref A.f__law_mixed) = true
  b__law_mixed : Binds K A.d__law_mixed ["_law_cell", "_law_k"] []
  F_law : Fun K "law" "law" s_law A.f_law A.d_law
  g_law : mg "law" = some (.ref A.f_law)
  k_law : PySem.W.keepIn K (.ref A.f_law) = true
  b_law : Binds K A.d_law ["_law_script"] []
  g_DraftError : mg "DraftError" = some (.ref A.DraftError)
  x_DraftError : XCls K A.DraftError
  g_Log : mg "Log" = some (.ref A.Log)
  cl_Log : Cls K A.Log
  na_Log_standing : NoAttr K A.Log "standing"
  na_Log_undone : NoAttr K A.Log "undone"
  g_NoDeed : mg "NoDeed" = some (.ref A.NoDeed)
  x_NoDeed : XCls K A.NoDeed
  m_nd : PySem.W.mroIn K A.NoDeed (.ref A.DraftError) = some true
  n_enumerate : mg "enumerate" = none
  n_len : mg "len" = none
  n_list : mg "list" = none
  n_range : mg "range" = none
  n_set : mg "set" = none
  n_sorted : mg "sorted" = none
noncomputable def sp_law (K : PySem.W.Frag) : Sp := fun vs H Q _ => ∃ (a : Addr) (ns : List Int), vs = [.ref a] ∧ SqL K H a (ns.map V.int) ∧ ns.length ≤ 63 ∧ (∀ H', Q (.bl true) H') ∧ Plain H
theorem iteDF {p : Prop} [Decidable p] {A B : Prop} (h : ¬ p) (b : B) : if decide p = true then A else B := by rw [decide_eq_false h]; exact iteF b
theorem iteDT {p : Prop} [Decidable p] {A B : Prop} (h : p) (a : A) : if decide p = true then A else B := by rw [decide_eq_true h]; exact iteT a
theorem Plain.ins {H : Hp} {l C dx : Addr} {fs : List (Str × V)} (p : Plain H) : Plain (upd H l (.ins C dx fs)) := p.upd trivial
/-! the log -/
noncomputable def sp_over (K : PySem.W.Frag) (ND : Addr) : Sp := fun vs H Q E => Plain H ∧ ∃ (a b : Addr) (xs ys : List V) (es : List (List Chg)), vs = [.ref a, .ref b] ∧ H a = some (.lst xs) ∧ H b = some (.lst ys) ∧ a ≠ b ∧ EnL K [a, b] H xs es ∧ okEs es ∧ ys.length < 300 ∧
  (∀ es' d xs' y, es = es' ++ [d] → xs = xs' ++ [y] → ∀ x zs H', H x = none → H' x = some (.lst zs) → H' a = some (.lst xs') → H' b = some (.lst (ys ++ [y])) → But [a, b] H H' → DVs K H' (d.map chD) zs → Plain H' → Q (.ref x) H') ∧
  (es = [] → ∀ H', Same H H' → Plain H' → E (.ref ND) none H')
noncomputable def sp_init (C : Addr) : Sp := fun vs H Q _ => Plain H ∧ ∃ (p dx : Addr), vs = [.ref p] ∧ H p = some (.ins C dx []) ∧ ∀ S U H', H S = none → H U = none → LogK C H' p S U [] [] → But [p] H H' → Plain H' → Q .non H'
noncomputable def sp_forget (C : Addr) : Sp := fun vs H Q _ => Plain H ∧ ∃ (p S U : Addr) (xs ys : List V), vs = [.ref p] ∧ LogK C H p S U xs ys ∧ ∀ W H', H W = none → LogK C H' p S W xs [] → But [p] H H' → Plain H' → Q .non H'
noncomputable def sp_add (K : PySem.W.Frag) (C : Addr) : Sp := fun vs H Q _ => Plain H ∧ ∃ (p S U e : Addr) (xs ys zs : List V), vs = [.ref p, .ref e] ∧ LogK C H p S U xs ys ∧ SqL K H e zs ∧ xs.length < 300 ∧ ∀ l W H', H l = none → H W = none → l ≠ W → LogK C H' p S W (xs ++ [.ref l]) [] → H' l = some (.lst zs) → But [p, S] H H' → Plain H' → Q .non H'
noncomputable def sp_turn (K : PySem.W.Frag) (C ND : Addr) (b : Bool) : Sp := fun vs H Q E => Plain H ∧ ∃ (p S U : Addr) (xs ys : List V) (es : List (List Chg)), vs = [.ref p] ∧ (if b then LogK C H p S U xs ys else LogK C H p U S ys xs) ∧ EnL K [S, U] H xs es ∧ okEs es ∧ ys.length < 300 ∧
  (∀ es' d xs' y, es = es' ++ [d] → xs = xs' ++ [y] → ∀ x zs H', H x = none → H' x = some (.lst zs) → H' S = some (.lst xs') → H' U = some (.lst (ys ++ [y])) → But [S, U] H H' → DVs K H' (d.map chD) zs → Plain H' → Q (.ref x) H') ∧
  (es = [] → ∀ H', Same H H' → Plain H' → E (.ref ND) none H')
noncomputable def sp_many (K : PySem.W.Frag) (C : Addr) : Sp := fun vs H Q _ => Plain H ∧ ∃ (p S U : Addr) (xs ys : List V), vs = [.ref p] ∧ LogK C H p S U xs ys ∧ ∀ t H', Same H H' → SqT K H' t [.int xs.length, .int ys.length] → Plain H' → Q (.ref t) H'
noncomputable def sp_tch (K : PySem.W.Frag) (C : Addr) : Sp := fun vs H Q _ => Plain H ∧ ∃ (p S U : Addr) (xs ys : List V) (es : List (List Chg)), vs = [.ref p] ∧ LogK C H p S U xs ys ∧ EnL K [] H xs es ∧ okEs es ∧ es.length ≤ 64 ∧ ∀ l ks zs H', H l = none → Same H H' → H' l = some (.lst zs) → DVs K H' (ks.map L2.markD) zs → IsTch es ks → ks.length ≤ 200 → Plain H' → Q (.ref l) H'

noncomputable def sp_mix : Sp := fun vs H Q _ => ∃ (c k : Int), vs = [.int c, .int k] ∧ 0 ≤ k ∧ k < 100 ∧ ∀ z : Int, Q (.int z) H
noncomputable def sp_ent (K : PySem.W.Frag) : Sp := fun vs H Q _ => Plain H ∧ ∃ c k : Int, vs = [.int c, .int k] ∧ ∀ x zs e H', H x = none → Same H H' → H' x = some (.lst zs) → DVs K H' (e.map chD) zs → okEn e → Plain H' → Q (.ref x) H'
noncomputable def sp_chg (K : PySem.W.Frag) : Sp := fun vs H Q _ => Plain H ∧ ∃ (x : Addr) (n : Int) (zs : List V) (e : List Chg), vs = [.ref x, .int n] ∧ H x = some (.lst zs) ∧ DVs K H (e.map chD) zs ∧ okEn e ∧ ∀ H', But [x] H H' → Plain H' → Q .non H'
noncomputable def sp_trn (K : PySem.W.Frag) (C : Addr) : Sp := fun vs H Q _ => Plain H ∧ ∃ (p S U : Addr) (xs ys : List V) (es : List (List Chg)) (b : Bool), vs = [.ref p, .bl b] ∧ (if b then LogK C H p S U xs ys else LogK C H p U S ys xs) ∧ EnL K [S, U] H xs es ∧ okEs es ∧ ys.length < 300 ∧
  (∀ es' d xs' y, es = es' ++ [d] → xs = xs' ++ [y] → ∀ x zs H', H x = none → H' x = some (.lst zs) → H' S = some (.lst xs') → H' U = some (.lst (ys ++ [y])) → But [S, U] H H' → DVs K H' (d.map chD) zs → Plain H' → Q (.ref x) H') ∧
  (es = [] → ∀ H', Same H H' → Plain H' → Q (.str "refused") H')
noncomputable def sp_mks (K : PySem.W.Frag) : Sp := fun vs H Q _ => Plain H ∧ ∃ (a : Addr) (xs : List V) (es : List (List Chg)), vs = [.ref a] ∧ H a = some (.lst xs) ∧ EnL K [] H xs es ∧ okEs es ∧ es.length ≤ 64 ∧ ∀ l ks zs H', Same H H' → H' l = some (.lst zs) → DVs K H' (ks.map L2.markD) zs → IsTch es ks → Plain H' → Q (.ref l) H'
/-- a log and the law's own lists; M: the other lists that may change; F: what stays -/
structure Stx (K : PySem.W.Frag) (C : Addr) (M : List Addr) (F H : Hp) (p S U ls lg : Addr) (st un : List (List Chg)) : Prop where
  ex : ∃ xs ys as bs, LogK C H p S U xs ys ∧ H ls = some (.lst as) ∧ H lg = some (.lst bs) ∧ EnL K ([S, U, ls, lg] ++ M) H xs st ∧ EnL K ([S, U, ls, lg] ++ M) H ys un ∧ EnL K ([S, U, ls, lg] ++ M) H as st ∧ EnL K ([S, U, ls, lg] ++ M) H bs un
  nd : [S, U, ls, lg].Nodup
  fn : ∀ a ∈ [p, S, U, ls, lg], F a = none
  fh : Same F H
  ok : okEs st ∧ okEs un
noncomputable def sp_tld (K : PySem.W.Frag) (C : Addr) : Sp := fun vs H Q _ => Plain H ∧ ∃ (M : List Addr) (F : Hp) (p S U ls lg : Addr) (st un : List (List Chg)) (n : Int), vs = [.ref p, .ref ls, .ref lg, .int n] ∧ Stx K C M F H p S U ls lg st un ∧ st.length + un.length ≤ 64 ∧ ∀ H', Same H H' → Plain H' → Q (.bl true) H'
noncomputable def sp_ded (K : PySem.W.Frag) (C : Addr) : Sp := fun vs H Q _ => Plain H ∧ ∃ (M : List Addr) (F : Hp) (p S U ls lg : Addr) (st un : List (List Chg)) (n k : Int), vs = [.ref p, .ref ls, .ref lg, .int n, .int k] ∧ Stx K C M F H p S U ls lg st un ∧ (∀ m ∈ M, H m ≠ none) ∧ st.length + un.length ≤ 63 ∧ ∀ W st' un' H', Stx K C M F H' p S W ls lg st' un' → But [p, S, U, ls, lg] H H' → (W = U ∨ H W = none) → st'.length + un'.length ≤ st.length + un.length + 1 → Plain H' → Q (.bl true) H'
noncomputable def sp_emp (K : PySem.W.Frag) (C : Addr) : Sp := fun vs H Q _ => Plain H ∧ ∃ (M : List Addr) (F : Hp) (p S U ls lg : Addr) (st un : List (List Chg)), vs = [.ref p, .ref ls] ∧ Stx K C M F H p S U ls lg st un ∧ st.length + un.length ≤ 64 ∧ ∀ H', But [p, S, U, ls, lg] H H' → Plain H' → Q (.bl true) H'
section
variable {K : PySem.W.Frag} {C : Addr} {M : List Addr} {F H H' : Hp} {p S U ls lg : Addr} {st un : List (List Chg)}
theorem Stx.same (h : Stx K C M F H p S U ls lg st un) (s : Same H H') : Stx K C M F H' p S U ls lg st un := by
  obtain ⟨⟨xs, ys, as, bs, L, h1, h2, e1, e2, e3, e4⟩, nd, fn, fh, ok⟩ := h
  exact ⟨⟨xs, ys, as, bs, L.same s, s _ _ h1, s _ _ h2, e1.same s, e2.same s, e3.same s, e4.same s⟩, nd, fn, fh.trans s, ok⟩
theorem Stx.noT (h : Stx K C M F H p S U ls lg st un) : NoT [p, S, U, ls, lg] H := fun m hm o e => by
  obtain ⟨⟨xs, ys, as, bs, L, h1, h2, _⟩, _⟩ := h
  obtain ⟨dx, hp⟩ := L.hp
  simp only [List.mem_cons, List.mem_nil_iff, or_false] at hm
  rcases hm with rfl | rfl | rfl | rfl | rfl
  · rw [hp] at e; cases e; exact noT_ins _ _ _
  · rw [L.hS] at e; cases e; exact noT_lst _
  · rw [L.hU] at e; cases e; exact noT_lst _
  · rw [h1] at e; cases e; exact noT_lst _
  · rw [h2] at e; cases e; exact noT_lst _
theorem Stx.some_ (h : Stx K C M F H p S U ls lg st un) : ∀ m ∈ [p, S, U, ls, lg], H m ≠ none := fun m hm e => by
  obtain ⟨⟨xs, ys, as, bs, L, h1, h2, _⟩, _⟩ := h
  obtain ⟨dx, hp⟩ := L.hp
  simp only [List.mem_cons, List.mem_nil_iff, or_false] at hm
  rcases hm with rfl | rfl | rfl | rfl | rfl
  · rw [hp] at e; cases e
  · rw [L.hS] at e; cases e
  · rw [L.hU] at e; cases e
  · rw [h1] at e; cases e
  · rw [h2] at e; cases e
/-- other things change: W is new, all that changes is in M or an instance -/
theorem Stx.but {B : List Addr} {W : Addr} (h : Stx K C M F H p S U ls lg st un) (k : But B H H') (n : NoT B H) (hB : ∀ b ∈ B, b ∈ M ∨ ∃ C dx fs, H b = some (.ins C dx fs)) (nB : ∀ a ∈ [p, S, U, ls, lg], a ∉ B) (fB : ∀ b ∈ B, F b = none) (hW : W ∈ M ∨ H W = none) {M' : List Addr} (hM : ∀ m ∈ M', m ∈ M ∨ m = W) : Stx K C M' F H' p S U ls lg st un := by
  obtain ⟨⟨xs, ys, as, bs, L, h1, h2, e1, e2, e3, e4⟩, nd, fn, fh, ok⟩ := h
  have go : ∀ {vs : List V} {es : List (List Chg)}, EnL K ([S, U, ls, lg] ++ M) H vs es → EnL K ([S, U, ls, lg] ++ M') H' vs es := fun {vs es} e => by
    have e' : EnL K (W :: ([S, U, ls, lg] ++ M)) H vs es := by
      rcases hW with hW | hW
      · exact e.less fun a ha => (List.mem_cons.mp ha).elim (fun z => by rw [z]; exact List.mem_append_right _ hW) id
      · exact e.more hW
    refine (e'.but k n fun b hb => (hB b hb).imp (fun z => List.mem_cons_of_mem _ (List.mem_append_right _ z)) id).less fun a ha => ?_
    rcases List.mem_append.mp ha with ha | ha
    · exact List.mem_cons_of_mem _ (List.mem_append_left _ ha)
    · exact (hM a ha).elim (fun z => List.mem_cons_of_mem _ (List.mem_append_right _ z)) fun z => by rw [z]; exact List.mem_cons_self
  exact ⟨⟨xs, ys, as, bs, L.but k fun a ha => nB a (by simp only [List.mem_cons, List.mem_nil_iff, or_false] at ha ⊢; rcases ha with rfl | rfl | rfl <;> simp), k _ _ (nB ls (by simp)) h1, k _ _ (nB lg (by simp)) h2, go e1, go e2, go e3, go e4⟩, nd, fn, fun b o e => k b o (fun z => by rw [fB b z] at e; cases e) (fh b o e), ok⟩
end
/-- two logs -/
structure Two (K : PySem.W.Frag) (C : Addr) (F H : Hp) (p0 S0 U0 a0 g0 p1 S1 U1 a1 g1 : Addr) (st0 un0 st1 un1 : List (List Chg)) : Prop where
  x0 : Stx K C [S1, U1, a1, g1] F H p0 S0 U0 a0 g0 st0 un0
  x1 : Stx K C [S0, U0, a0, g0] F H p1 S1 U1 a1 g1 st1 un1
  nd : ∀ a ∈ [p0, S0, U0, a0, g0], a ∉ [p1, S1, U1, a1, g1]
section
variable {K : PySem.W.Frag} {C : Addr} {F H H' : Hp} {p0 S0 U0 a0 g0 p1 S1 U1 a1 g1 W : Addr} {st0 un0 st1 un1 st un : List (List Chg)}
theorem Two.flip (t : Two K C F H p0 S0 U0 a0 g0 p1 S1 U1 a1 g1 st0 un0 st1 un1) : Two K C F H p1 S1 U1 a1 g1 p0 S0 U0 a0 g0 st1 un1 st0 un0 := ⟨t.x1, t.x0, fun a h g => t.nd a g h⟩
theorem Two.same (t : Two K C F H p0 S0 U0 a0 g0 p1 S1 U1 a1 g1 st0 un0 st1 un1) (s : Same H H') : Two K C F H' p0 S0 U0 a0 g0 p1 S1 U1 a1 g1 st0 un0 st1 un1 := ⟨t.x0.same s, t.x1.same s, t.nd⟩
theorem Stx.ins_ (h : Stx K C [S1, U1, a1, g1] F H p0 S0 U0 a0 g0 st un) : ∀ b ∈ [p0, S0, U0, a0, g0], b ∈ [S0, U0, a0, g0] ∨ ∃ C dx fs, H b = some (.ins C dx fs) := fun b hb => by
  obtain ⟨⟨xs, ys, as, bs, L, _⟩, _⟩ := h
  obtain ⟨dx, hp⟩ := L.hp
  rcases List.mem_cons.mp hb with rfl | hb
  · exact .inr ⟨_, _, _, hp⟩
  · exact .inl hb
theorem Two.deed (t : Two K C F H p0 S0 U0 a0 g0 p1 S1 U1 a1 g1 st0 un0 st1 un1) (h : Stx K C [S1, U1, a1, g1] F H' p0 S0 W a0 g0 st un) (k : But [p0, S0, U0, a0, g0] H H') (hW : W = U0 ∨ H W = none) : Two K C F H' p0 S0 W a0 g0 p1 S1 U1 a1 g1 st un st1 un1 := by
  refine ⟨h, t.x1.but (W := W) k t.x0.noT t.x0.ins_ (fun a ha z => t.nd a z ha) t.x0.fn (hW.imp (fun z => by rw [z]; simp) id) fun m hm => ?_, fun a ha z => ?_⟩
  · simp only [List.mem_cons, List.mem_nil_iff, or_false] at hm ⊢
    rcases hm with h | h | h | h <;> simp [h]
  · simp only [List.mem_cons, List.mem_nil_iff, or_false] at ha
    rcases ha with h | h | h | h | h
    · exact t.nd a (by simp [h]) z
    · exact t.nd a (by simp [h]) z
    · rcases hW with hW | hW
      · exact t.nd a (by simp [h, hW]) z
      · rw [h] at z
        exact t.x1.some_ W z hW
    · exact t.nd a (by simp [h]) z
    · exact t.nd a (by simp [h]) z
end
theorem mks_lay : ∀ ks : List Mark, PyData.canLayAll0 (ks.map L2.markD) = true ∧ PyData.depthAll (ks.map L2.markD) ≤ 1
  | [] => ⟨rfl, Nat.zero_le _⟩
  | k :: ks => by
    obtain ⟨h1, h2⟩ := mks_lay ks
    refine ⟨?_, ?_⟩
    · show (PyData.canLay0 (L2.markD k) && PyData.canLayAll0 (ks.map L2.markD)) = true
      rw [h1]
      rfl
    · show max 1 (PyData.depthAll (ks.map L2.markD)) ≤ 1
      omega
theorem mks_shaped (ks : List Mark) : SeqAt.shaped (.list (ks.map L2.markD)) = true := by
  obtain ⟨h1, h2⟩ := mks_lay ks
  unfold SeqAt.shaped
  rw [show PyData.canLay0 (.list (ks.map L2.markD)) = true from h1, Bool.true_and]
  refine decide_eq_true ?_
  show PyData.depthAll (ks.map L2.markD) + 1 ≤ _
  omega
theorem mks_eqv (ks : List Mark) : PyData.eqv (.list (ks.map L2.markD)) (.list (ks.map L2.markD)) = true := SeqAt.eqvAll_refl _ (mks_lay ks).1
theorem noT_four {H : Hp} {a b c d : Addr} {xs ys zs ws : List V} (h1 : H a = some (.lst xs)) (h2 : H b = some (.lst ys)) (h3 : H c = some (.lst zs)) (h4 : H d = some (.lst ws)) : NoT [a, b, c, d] H := fun m hm o e => by
  simp only [List.mem_cons, List.mem_nil_iff, or_false] at hm
  rcases hm with rfl | rfl | rfl | rfl
  · rw [h1] at e; cases e; exact noT_lst _
  · rw [h2] at e; cases e; exact noT_lst _
  · rw [h3] at e; cases e; exact noT_lst _
  · rw [h4] at e; cases e; exact noT_lst _
theorem atI_last {xs : List V} {v : V} : atI (xs ++ [v]) (-1) = some v := by
  have e : ixN (xs ++ [v]).length (-1) = some xs.length := by
    unfold ixN
    rw [List.length_append, if_neg (by decide), if_pos (by simp only [List.length_singleton]; omega)]
    congr 1
    simp only [List.length_singleton]
    omega
  unfold atI
  rw [e]
  simp

section
variable (P : Program) (w : World) (K : PySem.W.Frag) (mg : Str → Option Value) (base : Heap) (A : Adr)
noncomputable abbrev Ok_last_over : Prop := FnOk P w K mg base (CX1 P w base) 1 A.f_last_over A.d_last_over ["entries", "others"] (sp_over K A.NoDeed)
noncomputable abbrev Ok_Log____init__ : Prop := FnOk P w K mg base (CX1 P w base) 1 A.f_Log____init__ A.d_Log____init__ ["self"] (sp_init A.Log)
noncomputable abbrev Ok_Log__forget : Prop := FnOk P w K mg base (CX1 P w base) 1 A.f_Log__forget A.d_Log__forget ["self"] (sp_forget A.Log)
noncomputable abbrev Ok_Log__add : Prop := FnOk P w K mg base (CX1 P w base) 2 A.f_Log__add A.d_Log__add ["self", "entry"] (sp_add K A.Log)
noncomputable abbrev Ok_Log__undo : Prop := FnOk P w K mg base (CX1 P w base) 2 A.f_Log__undo A.d_Log__undo ["self"] (sp_turn K A.Log A.NoDeed true)
noncomputable abbrev Ok_Log__again : Prop := FnOk P w K mg base (CX1 P w base) 2 A.f_Log__again A.d_Log__again ["self"] (sp_turn K A.Log A.NoDeed false)
noncomputable abbrev Ok_Log__many : Prop := FnOk P w K mg base (CX1 P w base) 1 A.f_Log__many A.d_Log__many ["self"] (sp_many K A.Log)
noncomputable abbrev Ok_Log__touched : Prop := FnOk P w K mg base (CX1 P w base) 1 A.f_Log__touched A.d_Log__touched ["self"] (sp_tch K A.Log)
noncomputable abbrev Ok__law_entry : Prop := FnOk P w K mg base (CX1 P w base) 1 A.f__law_entry A.d__law_entry ["_law_cell", "_law_k"] (sp_ent K)
noncomputable abbrev Ok__law_changed : Prop := FnOk P w K mg base (CX1 P w base) 1 A.f__law_changed A.d__law_changed ["_law_rows", "_law_cell"] (sp_chg K)
noncomputable abbrev Ok__law_turned : Prop := FnOk P w K mg base (CX1 P w base) 3 A.f__law_turned A.d__law_turned ["_law_log", "_law_back"] (sp_trn K A.Log)
noncomputable abbrev Ok__law_marks : Prop := FnOk P w K mg base (CX1 P w base) 1 A.f__law_marks A.d__law_marks ["_law_entries"] (sp_mks K)
noncomputable abbrev Ok__law_told : Prop := FnOk P w K mg base (CX1 P w base) 2 A.f__law_told A.d__law_told ["_law_log", "_law_stand", "_law_gone", "_law_cell"] (sp_tld K A.Log)
noncomputable abbrev Ok__law_deed : Prop := FnOk P w K mg base (CX1 P w base) 4 A.f__law_deed A.d__law_deed ["_law_log", "_law_stand", "_law_gone", "_law_cell", "_law_k"] (sp_ded K A.Log)
noncomputable abbrev Ok__law_emptied : Prop := FnOk P w K mg base (CX1 P w base) 4 A.f__law_emptied A.d__law_emptied ["_law_log", "_law_stand"] (sp_emp K A.Log)
noncomputable abbrev Ok__law_mixed : Prop := FnOk P w K mg base (CX1 P w base) 1 A.f__law_mixed A.d__law_mixed ["_law_cell", "_law_k"] sp_mix
noncomputable abbrev Ok_law : Prop := FnOk P w K mg base (CX1 P w base) 5 A.f_law A.d_law ["_law_script"] (sp_law K)
end
set_option maxHeartbeats 4000000
section
variable {P : Program} {w : World} {K : PySem.W.Frag} {mg : Str → Option Value} {base : Heap} {A : Adr}
theorem sc_last_over : FnScope ["entries", "others", "entry"] ["entries", "others"] (defScope s_last_over) := by walk_at "sc"
-- HB
theorem ok_last_over (T : Txt K mg A)  : Ok_last_over P w K mg base A := by
  refine T.F_last_over.okX sc_last_over (fun vs H Q E h => ?_) (fun _ _ _ _ H vs Q E hr h => ?_)
  · obtain ⟨_, a, b, xs, ys, es, rfl, _⟩ := h
    rfl
  · obtain ⟨hP, a, b, xs, ys, es, rfl, ha, hb, ne, he, ok, few, q, qe⟩ := h
    refine ⟨_, (pss_cons (ps_if (pt_cmpR (op_eqD hr.units) (pv 0) (pe_lst pa_nil) (nomark _)) (pss_one (ps_raise T.x_NoDeed wants_fn rfl rfl T.g_NoDeed (pa_cons pe_str pa_nil))) pss_nil)
      (pss_cons (ps_set (i := 2) sc_last_over.nd rfl (Or.inl rfl) (pe_bm0 PySem.F.plainAttrs_list PySem.F.slot_list_pop PySem.F.type_list_pop mt_pop (pv 0)))
      (pss_cons (ps_expr (pe_bm PySem.F.plainAttrs_list PySem.F.slot_list_append PySem.F.type_list_append mt_append (pv 1) (pa_cons (pv 2) pa_nil)))
      (pss_one (ps_ret (pe_callTy call_list_of rfl T.n_list (by decide +kernel) (pa_cons (pv 2) pa_nil))))))), ?_⟩
    refine ⟨_, rfl, Nat.zero_le _, fun l hp1 => ?_⟩
    generalize hH1 : upd H l (HO.lst _) = H1
    have s1 : Same H H1 := hH1 ▸ same_upd hp1
    have P1 : Plain H1 := hH1 ▸ hP.lst
    have h1 := (congrFun hH1 l).symm.trans upd_same
    have ha1 := s1 _ _ ha
    have hb1 := s1 _ _ hb
    refine ⟨.list (es.map eD), .list [], ⟨a, xs, rfl, SqL.of ha1, DVs.same s1 _ _ he.dv⟩, ⟨l, [], rfl, SqL.of h1, rfl⟩, es_shaped ok, rfl, _, rfl, ?_⟩
    rcases List.eq_nil_or_concat es with e | ⟨es', d, e⟩
    · subst e
      refine iteT ?_
      exact ⟨sz_1, qe rfl _ s1 P1⟩
    · have e : es = es' ++ [d] := by rw [e]; simp
      subst e
      have hf : PyData.eqv (.list ((es' ++ [d]).map eD)) (.list []) = false := by
        rw [List.map_append]
        cases es'.map eD <;> rfl
      rw [hf]
      refine iteF ?_
      obtain ⟨xs', y, rfl, he', ⟨ye, yv, rfl, ny, hy, hyd, nly⟩⟩ := paired_last he
      refine ⟨_, rfl, .inl ⟨rfl, _, SqL.of ha1⟩, a, _, .ref ye, rfl, rfl, ha1, (by simp), ?_⟩
      rw [List.dropLast_concat]
      have k2 : But [a, b] H1 (upd H1 a (.lst xs')) := But.put (by simp)
      have hb2 : (upd H1 a (.lst xs')) b = some (.lst ys) := by rw [upd_ne ne.symm]; exact hb1
      have ha2 : (upd H1 a (.lst xs')) a = some (.lst xs') := upd_same
      have P2 : Plain (upd H1 a (.lst xs')) := P1.upd trivial
      generalize upd H1 a (.lst xs') = H2 at k2 hb2 ha2 P2 ⊢
      refine ⟨_, rfl, .inl ⟨rfl, _, SqL.of hb2⟩, _, rfl, b, ys, _, rfl, rfl, hb2, small1000 (by omega), ?_⟩
      have k3 : But [a, b] H2 (upd H2 b (.lst (ys ++ [.ref ye]))) := But.put (by simp)
      have ha3 : (upd H2 b (.lst (ys ++ [.ref ye]))) a = some (.lst xs') := by rw [upd_ne ne]; exact ha2
      have hb3 : (upd H2 b (.lst (ys ++ [.ref ye]))) b = some (.lst (ys ++ [.ref ye])) := upd_same
      have P3 : Plain (upd H2 b (.lst (ys ++ [.ref ye]))) := P2.upd trivial
      generalize upd H2 b (.lst (ys ++ [.ref ye])) = H3 at k3 hb3 ha3 P3 ⊢
      have K3 : But [a, b] H H3 := (But.of s1).trans (k2.trans k3)
      refine ⟨_, rfl, ye, yv, rfl, .inl (SqL.of (K3 _ _ ny hy)), fun x hp4 => ?_⟩
      generalize hH4 : upd H3 x (HO.lst _) = H4
      have s4 : Same H3 H4 := hH4 ▸ same_upd hp4
      have P4 : Plain H4 := hH4 ▸ P3.lst
      have h4 := (congrFun hH4 x).symm.trans upd_same
      have K4 := K3.trans (But.of s4)
      have nx : x ∉ [a, b] := fun z => by
        rcases List.mem_cons.mp z with rfl | z
        · rw [ha3] at hp4; cases hp4
        · rw [List.mem_singleton.mp z, hb3] at hp4; cases hp4
      exact q es' d xs' (.ref ye) rfl rfl x yv H4 (K3.free hp4 nx) h4 (s4 _ _ ha3) (s4 _ _ hb3) K4 (dvs_but K4 (noT_two ha hb) _ _ nly hyd) P4
theorem sc_Log____init__ : FnScope ["self"] ["self"] (defScope s_Log____init__) := by walk_at "sc"
-- HB
theorem ok_Log____init__ (T : Txt K mg A)  : Ok_Log____init__ P w K mg base A := by
  refine T.F_Log____init__.okN sc_Log____init__ (fun vs H Q E h => ?_) (fun _ _ _ _ H vs Q E hr h => ?_)
  · obtain ⟨_, p, dx, rfl, _⟩ := h
    rfl
  · obtain ⟨hP, p, dx, rfl, hp, q⟩ := h
    refine ⟨_, (pss_cons (ps_fld (pv 0) (pe_lst pa_nil) rfl)
      (pss_one (ps_fld (pv 0) (pe_lst pa_nil) rfl))), ?_⟩
    refine ⟨Nat.zero_le _, fun S hS => ?_⟩
    have npS : p ≠ S := ne_of_none hp hS
    refine ⟨_, rfl, p, A.Log, dx, [], rfl, (by rw [upd_ne npS]; exact hp), T.cl_Log, T.na_Log_standing, (by show 0 < 1000; decide), Nat.zero_le _, fun U hU => ?_⟩
    have npU : p ≠ U := ne_of_none upd_same hU
    have nUS : S ≠ U := ne_of_none (show (upd (upd H S (.lst [])) p _) S = some (.lst []) by rw [upd_ne npS.symm]; exact upd_same) hU
    refine ⟨_, rfl, p, A.Log, dx, _, rfl, (by rw [upd_ne npU]; exact upd_same), T.cl_Log, T.na_Log_undone, (by show 1 < 1000; decide), ?_⟩
    have hU0 : H U = none := by
      rw [upd_ne npU.symm, upd_ne nUS.symm] at hU
      exact hU
    refine q S U _ hS hU0 ⟨⟨dx, upd_same⟩, by rw [upd_ne npS.symm, upd_ne nUS, upd_ne npS.symm]; exact upd_same, by rw [upd_ne npU.symm]; exact upd_same, nUS⟩ (fun b o n e => ?_) (Plain.ins (Plain.ins hP.lst).lst)
    have nb : b ≠ p := fun z => n (by rw [z]; simp)
    rw [upd_ne nb, upd_ne (ne_of_none e hU0), upd_ne nb, upd_ne (ne_of_none e hS)]
    exact e
theorem sc_Log__forget : FnScope ["self"] ["self"] (defScope s_Log__forget) := by walk_at "sc"
-- HB
theorem ok_Log__forget (T : Txt K mg A)  : Ok_Log__forget P w K mg base A := by
  refine T.F_Log__forget.okN sc_Log__forget (fun vs H Q E h => ?_) (fun _ _ _ _ H vs Q E hr h => ?_)
  · obtain ⟨_, p, S, U, xs, ys, rfl, _⟩ := h
    rfl
  · obtain ⟨hP, p, S, U, xs, ys, rfl, L, q⟩ := h
    refine ⟨_, (pss_one (ps_fld (pv 0) (pe_lst pa_nil) rfl)), ?_⟩
    obtain ⟨dx, hp⟩ := L.hp
    refine ⟨Nat.zero_le _, fun W hW => ?_⟩
    have npW : p ≠ W := ne_of_none hp hW
    have nSW : S ≠ W := ne_of_none L.hS hW
    refine ⟨_, rfl, p, A.Log, dx, _, rfl, (by rw [upd_ne npW]; exact hp), T.cl_Log, T.na_Log_undone, (by rw [lf_eq]; show 2 < 1000; decide), ?_⟩
    rw [lf_put]
    refine q W _ hW ⟨⟨dx, upd_same⟩, by rw [upd_ne L.nS.symm, upd_ne nSW]; exact L.hS, by rw [upd_ne npW.symm]; exact upd_same, nSW⟩ (fun b o n e => ?_) (Plain.ins hP.lst)
    rw [upd_ne (fun z => n (by rw [z]; simp)), upd_ne (ne_of_none e hW)]
    exact e
theorem sc_Log__add : FnScope ["self", "entry"] ["self", "entry"] (defScope s_Log__add) := by walk_at "sc"
-- HB
theorem ok_Log__add (T : Txt K mg A) (G_Log__forget : Ok_Log__forget P w K mg base A) : Ok_Log__add P w K mg base A := by
  have B_Log__forget := T.b_Log__forget
  refine T.F_Log__add.okN sc_Log__add (fun vs H Q E h => ?_) (fun _ _ _ _ H vs Q E hr h => ?_)
  · obtain ⟨_, p, S, U, e, xs, ys, zs, rfl, _⟩ := h
    rfl
  · obtain ⟨hP, p, S, U, e, xs, ys, zs, rfl, L, hq, few, q⟩ := h
    refine ⟨_, (pss_cons (ps_expr (pe_bm PySem.F.plainAttrs_list PySem.F.slot_list_append PySem.F.type_list_append mt_append (pe_fld (pv 0) rfl) (pa_cons (pe_callTy call_list_of rfl T.n_list (by decide +kernel) (pa_cons (pv 1) pa_nil)) pa_nil)))
      (pss_one (ps_expr (pe_meth0 (pv 0) T.cl_Log T.m_Log__forget G_Log__forget (hr.mono (by decide)) B_Log__forget .nil pass1)))), ?_⟩
    obtain ⟨dx, hp⟩ := L.hp
    refine ⟨_, rfl, p, A.Log, dx, _, _, rfl, hp, T.cl_Log, T.na_Log_standing, lf_s _ _, .inl ⟨rfl, _, SqL.of L.hS⟩, _, rfl, e, zs, rfl, .inl hq, fun l hp1 => ?_⟩
    generalize hH1 : upd H l (HO.lst _) = H1
    have s1 : Same H H1 := hH1 ▸ same_upd hp1
    have P1 : Plain H1 := hH1 ▸ hP.lst
    have h1 := (congrFun hH1 l).symm.trans upd_same
    have L1 := L.same s1
    refine ⟨S, xs, _, rfl, rfl, L1.hS, small1000 (by omega), ?_⟩
    have nlS : l ≠ S := fun z => by rw [z, L.hS] at hp1; cases hp1
    have L2 : LogK A.Log (upd H1 S (.lst (xs ++ [.ref l]))) p S U (xs ++ [.ref l]) ys := ⟨⟨dx, by rw [upd_ne L.nS]; exact s1 _ _ hp⟩, upd_same, by rw [upd_ne L.ne.symm]; exact L1.hU, L.ne⟩
    have k2 : But [p, S] H (upd H1 S (.lst (xs ++ [.ref l]))) := (But.of s1).trans (But.put (by simp))
    have h2 : (upd H1 S (.lst (xs ++ [.ref l]))) l = some (.lst zs) := by rw [upd_ne nlS]; exact h1
    have P2 : Plain (upd H1 S (.lst (xs ++ [.ref l]))) := P1.upd trivial
    generalize upd H1 S (.lst (xs ++ [.ref l])) = H2 at L2 k2 h2 P2 ⊢
    obtain ⟨dx2, hp2⟩ := id L2.hp
    refine ⟨_, rfl, p, _, _, rfl, hp2, lf_no _ _ (by decide +kernel) (by decide +kernel), P2, p, S, U, _, _, rfl, L2, fun W H3 hW L3 k3 P3 => ?_⟩
    have nW : W ∉ [p, S] := fun z => by
      rcases List.mem_cons.mp z with rfl | z
      · rw [hp2] at hW; cases hW
      · rw [List.mem_singleton.mp z, L2.hS] at hW; cases hW
    have nlp : l ≠ p := fun z => by rw [z, hp] at hp1; cases hp1
    exact q l W H3 hp1 (k2.free hW nW) (fun z => by rw [← z, h2] at hW; cases hW) L3 (k3 _ _ (by simp [nlp]) h2) (k2.trans (k3.mono (by simp))) P3
theorem sc_Log__undo : FnScope ["self"] ["self"] (defScope s_Log__undo) := by walk_at "sc"
-- HB
theorem ok_Log__undo (T : Txt K mg A) (G_last_over : Ok_last_over P w K mg base A) : Ok_Log__undo P w K mg base A := by
  have B_last_over := T.b_last_over
  refine T.F_Log__undo.okX sc_Log__undo (fun vs H Q E h => ?_) (fun _ _ _ _ H vs Q E hr h => ?_)
  · obtain ⟨_, p, S, U, xs, ys, es, rfl, _⟩ := h
    rfl
  · obtain ⟨hP, p, S, U, xs, ys, es, rfl, L, he, ok, few, q, qe⟩ := h
    refine ⟨_, (pss_one (ps_ret (pe_call G_last_over (hr.mono (by decide)) rfl T.g_last_over T.k_last_over B_last_over .nil (Wants.passes wants_fn) (pa_cons (pe_fld (pv 0) rfl) (pa_cons (pe_fld (pv 0) rfl) pa_nil))))), ?_⟩
    have L : LogK A.Log H p S U xs ys := L
    obtain ⟨dx, hp⟩ := id L.hp
    refine ⟨_, rfl, p, A.Log, dx, _, _, rfl, hp, T.cl_Log, T.na_Log_standing, lf_s _ _, _, rfl, p, A.Log, dx, _, _, rfl, hp, T.cl_Log, T.na_Log_undone, lf_u _ _, hP, S, U, xs, ys, es, rfl, L.hS, L.hU, L.ne, he, ok, few, q, qe⟩
theorem sc_Log__again : FnScope ["self"] ["self"] (defScope s_Log__again) := by walk_at "sc"
-- HB
theorem ok_Log__again (T : Txt K mg A) (G_last_over : Ok_last_over P w K mg base A) : Ok_Log__again P w K mg base A := by
  have B_last_over := T.b_last_over
  refine T.F_Log__again.okX sc_Log__again (fun vs H Q E h => ?_) (fun _ _ _ _ H vs Q E hr h => ?_)
  · obtain ⟨_, p, S, U, xs, ys, es, rfl, _⟩ := h
    rfl
  · obtain ⟨hP, p, S, U, xs, ys, es, rfl, L, he, ok, few, q, qe⟩ := h
    refine ⟨_, (pss_one (ps_ret (pe_call G_last_over (hr.mono (by decide)) rfl T.g_last_over T.k_last_over B_last_over .nil (Wants.passes wants_fn) (pa_cons (pe_fld (pv 0) rfl) (pa_cons (pe_fld (pv 0) rfl) pa_nil))))), ?_⟩
    have L : LogK A.Log H p U S ys xs := L
    obtain ⟨dx, hp⟩ := id L.hp
    refine ⟨_, rfl, p, A.Log, dx, _, _, rfl, hp, T.cl_Log, T.na_Log_undone, lf_u _ _, _, rfl, p, A.Log, dx, _, _, rfl, hp, T.cl_Log, T.na_Log_standing, lf_s _ _, hP, S, U, xs, ys, es, rfl, L.hU, L.hS, L.ne.symm, he, ok, few, q, qe⟩
theorem sc_Log__many : FnScope ["self"] ["self"] (defScope s_Log__many) := by walk_at "sc"
-- HB
theorem ok_Log__many (T : Txt K mg A)  : Ok_Log__many P w K mg base A := by
  refine T.F_Log__many.okN sc_Log__many (fun vs H Q E h => ?_) (fun _ _ _ _ H vs Q E hr h => ?_)
  · obtain ⟨_, p, S, U, xs, ys, rfl, _⟩ := h
    rfl
  · obtain ⟨hP, p, S, U, xs, ys, rfl, L, q⟩ := h
    refine ⟨_, (pss_one (ps_ret (pe_tup (pa_cons (pe_callB call_len_seq rfl T.n_len (by decide +kernel) (pa_cons (pe_fld (pv 0) rfl) pa_nil)) (pa_cons (pe_callB call_len_seq rfl T.n_len (by decide +kernel) (pa_cons (pe_fld (pv 0) rfl) pa_nil)) pa_nil))))), ?_⟩
    obtain ⟨dx, hp⟩ := L.hp
    refine ⟨_, rfl, p, A.Log, dx, _, _, rfl, hp, T.cl_Log, T.na_Log_standing, lf_s _ _, S, _, rfl, .inl (SqL.of L.hS), _, rfl, p, A.Log, dx, _, _, rfl, hp, T.cl_Log, T.na_Log_undone, lf_u _ _, U, _, rfl, .inl (SqL.of L.hU), sz_2, fun t ht => ?_⟩
    exact q t _ (same_upd ht) (SqT.of upd_same) hP.tup
theorem sc_Log__touched : FnScope ["self"] ["self"] (defScope s_Log__touched) := by walk_at "sc"
-- HB
theorem ok_Log__touched (T : Txt K mg A)  : Ok_Log__touched P w K mg base A := by
  refine T.F_Log__touched.okN sc_Log__touched (fun vs H Q E h => ?_) (fun _ _ _ _ H vs Q E hr h => ?_)
  · obtain ⟨_, p, S, U, xs, ys, es, rfl, _⟩ := h
    rfl
  · obtain ⟨hP, p, S, U, xs, ys, es, rfl, L, he, ok, few, q⟩ := h
    refine ⟨_, (pss_one (ps_ret (pe_callB (call_sortedS rfl hr.u100) rfl T.n_sorted (by decide +kernel) (pa_cons (pe_setcomp2 ["entry", "mark", "before", "after"] rfl hr.u100 (pi_list (pe_fld (pv 0) rfl)) (fun _ _ _ _ _ => pg_name (i := 0) (show List.Nodup (["entry", "mark", "before", "after"] : List Str) by decide +kernel) rfl (Or.inl rfl)) (fun _ _ _ _ _ => pi_listK (K := K) rfl (pv 0)) (fun _ _ _ _ _ => pg_tup rfl (pgs_cons (pg_name (i := 1) (show List.Nodup (["entry", "mark", "before", "after"] : List Str) by decide +kernel) rfl (Or.inl rfl)) (pgs_cons (pg_name (i := 2) (show List.Nodup (["entry", "mark", "before", "after"] : List Str) by decide +kernel) rfl (Or.inl rfl)) (pgs_cons (pg_name (i := 3) (show List.Nodup (["entry", "mark", "before", "after"] : List Str) by decide +kernel) rfl (Or.inl rfl)) pgs_nil)))) (fun _ _ _ _ _ => (pv 1))) pa_nil)))), ?_⟩
    obtain ⟨dx, hp⟩ := L.hp
    have hxl : xs.length = es.length := Paired.length he
    refine ⟨_, rfl, p, A.Log, dx, _, _, rfl, hp, T.cl_Log, T.na_Log_standing, lf_s _ _, S, rfl, ⟨_, SqL.of L.hS⟩, fun D hD => ?_⟩
    refine ⟨xs.length, fun i qs H2 => i ≤ xs.length ∧ Plain H2 ∧ Same H H2 ∧ SWt w K H2 D qs ∧ qs.length ≤ 3 * i ∧ ∀ d, (∃ q ∈ qs, q.2 = d) ↔ ∃ m, d = L2.markD m ∧ ∃ e ∈ es.take i, m ∈ e.map (·.1), ⟨Nat.zero_le _, hP.upd trivial, same_upd hD, ⟨upd_same, (fun q hq => by cases hq), (fun q hq => by cases hq), List.nodup_nil⟩, Nat.le_refl _, fun d => ⟨(fun ⟨q, hq, _⟩ => by cases hq), (fun ⟨m, _, e, he, _⟩ => by cases he)⟩⟩, ?_⟩
    rintro i qs H2 ⟨hi, P2, S2, W2, lq, mq⟩
    refine ⟨W2, ?_⟩
    by_cases hlt : i < xs.length
    · obtain ⟨go, _, yl⟩ := itl_ok (SqL.of L.hS) i H2 S2
      refine .inr ⟨hlt, go hlt, fun x H3 hy => ?_⟩
      obtain ⟨rfl, rfl⟩ := yl x H3 hlt hy
      have hi2 : i < es.length := by omega
      obtain ⟨v, hv, l, zs, rfl, _, hl, hz, nlz⟩ := pair_at he (List.getElem?_eq_getElem hi2)
      have eg : xs.getD i .non = .ref l := by rw [List.getD_eq_getElem?_getD, hv]; rfl
      rw [eg]
      have hzl : zs.length = es[i].length := by rw [hz.length, List.length_map]
      obtain ⟨okc, ndm, l3⟩ := ok _ (List.getElem_mem hi2)
      refine ⟨_, rfl, l, rfl, ⟨_, SqL.of (S2 _ _ hl)⟩, zs.length, fun j qs2 H4 => j ≤ zs.length ∧ Plain H4 ∧ Same H H4 ∧ SWt w K H4 D qs2 ∧ qs2.length ≤ 3 * i + j ∧ ∀ d, (∃ q ∈ qs2, q.2 = d) ↔ ∃ m, d = L2.markD m ∧ ((∃ e ∈ es.take i, m ∈ e.map (·.1)) ∨ m ∈ (es[i].take j).map (·.1)), ⟨Nat.zero_le _, P2, S2, W2, by omega, fun d => (mq d).trans ⟨fun ⟨m, e, h⟩ => ⟨m, e, .inl h⟩, fun ⟨m, e, h⟩ => ⟨m, e, h.elim id fun h => by cases h⟩⟩⟩, ?_⟩
      rintro j qs2 H4 ⟨hj, P4, S4, W4, lq4, mq4⟩
      refine ⟨W4, ?_⟩
      obtain ⟨go2, st2, yl2⟩ := itl_ok (SqL.of hl) j H4 S4
      by_cases hlt2 : j < zs.length
      · refine .inr ⟨hlt2, go2 hlt2, by omega, fun y H5 hy2 => ?_⟩
        obtain ⟨rfl, rfl⟩ := yl2 y H5 hlt2 hy2
        have hjc : j < es[i].length := by omega
        obtain ⟨y, hy, hyd⟩ := (DVs.same S4 _ _ hz).get (i := j) (d := chD es[i][j]) (by rw [List.getElem?_map, List.getElem?_eq_getElem hjc]; rfl)
        obtain ⟨t, q0, va, vb, ey, hq, hm, h1, h2⟩ := ch_of hyd
        have eg2 : zs.getD j .non = .ref t := by rw [List.getD_eq_getElem?_getD, hy, ey]; rfl
        rw [eg2]
        have tk : ∀ m, m ∈ (es[i].take (j + 1)).map (fun c : Chg => c.1) ↔ m ∈ (es[i].take j).map (fun c : Chg => c.1) ∨ m = es[i][j].1 := fun m => by
          rw [List.take_succ_eq_append_getElem hjc, List.map_append, List.mem_append, List.map_singleton, List.mem_singleton]
        refine ⟨t, _, rfl, hq, rfl, _, _, rfl, _, _, rfl, _, _, rfl, rfl, ?_⟩
        refine ⟨_, rfl, q0, L2.markD es[i][j].1, rfl, mkV_dv hm, ok4_mark _, W4, fun hold => ⟨hlt2, P4, S4, W4, by omega, fun d => ?_⟩, fun hnew => ⟨hlt2, P4.upd trivial, S4.upd hD, W4.add (mkV_dv hm) (ok4_mark _) hnew, by rw [List.length_cons]; omega, fun d => ?_⟩⟩
        · rw [mq4 d]
          constructor
          · rintro ⟨m, e, h⟩
            exact ⟨m, e, h.imp id fun h => (tk m).mpr (.inl h)⟩
          · rintro ⟨m, e, h⟩
            rcases h with h | h
            · exact ⟨m, e, .inl h⟩
            · rcases (tk m).mp h with h | h
              · exact ⟨m, e, .inr h⟩
              · exact (mq4 d).mp (by rw [e, h]; exact hold)
        · constructor
          · rintro ⟨q, hq, e⟩
            rcases List.mem_cons.mp hq with rfl | hq
            · exact ⟨_, e.symm, .inr ((tk _).mpr (.inr rfl))⟩
            · obtain ⟨m, e, h⟩ := (mq4 d).mp ⟨q, hq, e⟩
              exact ⟨m, e, h.imp id fun h => (tk m).mpr (.inl h)⟩
          · rintro ⟨m, e, h⟩
            rcases h with h | h
            · obtain ⟨q, hq, e⟩ := (mq4 d).mpr ⟨m, e, .inl h⟩
              exact ⟨q, List.mem_cons_of_mem _ hq, e⟩
            · rcases (tk m).mp h with h | h
              · obtain ⟨q, hq, e⟩ := (mq4 d).mpr ⟨m, e, .inr h⟩
                exact ⟨q, List.mem_cons_of_mem _ hq, e⟩
              · exact ⟨_, List.mem_cons_self, by rw [e, h]⟩
      · have e : j = zs.length := by omega
        subst e
        refine .inl ⟨st2, hlt, P4, S4, W4, by omega, fun d => (mq4 d).trans ?_⟩
        rw [hzl, List.take_length]
        refine exists_congr fun m => and_congr_right fun _ => ?_
        rw [List.take_succ_eq_append_getElem hi2]
        constructor
        · rintro (⟨e, h1, h2⟩ | h)
          · exact ⟨e, List.mem_append_left _ h1, h2⟩
          · exact ⟨_, List.mem_append_right _ (List.mem_singleton.mpr rfl), h⟩
        · rintro ⟨e, h1, h2⟩
          rcases List.mem_append.mp h1 with h1 | h1
          · exact .inl ⟨e, h1, h2⟩
          · rw [List.mem_singleton.mp h1] at h2
            exact .inr h2
    · have e : i = xs.length := by omega
      subst e
      obtain ⟨_, st9, _⟩ := itl_ok (SqL.of L.hS) 0 H2 S2
      refine .inl ⟨st9, ?_⟩
      rw [hxl, List.take_length] at mq
      refine ⟨D, qs, rfl, W2, (fun q hq => ?_), by omega, fun l bs zs hl pw mem len hz => ?_⟩
      · obtain ⟨m, e, _⟩ := (mq q.2).mp ⟨q, hq, rfl⟩
        exact ⟨m, e⟩
      refine q l bs zs _ (S2.free hl) (S2.trans (same_upd hl)) upd_same (DVs.same (same_upd hl) _ _ hz) ⟨pw, fun m => ?_⟩ (by omega) P2.lst
      rw [mem m, mq]
      exact ⟨fun ⟨m', e, h⟩ => by rw [markD_inj e]; exact h, fun h => ⟨m, rfl, h⟩⟩
theorem sc__law_entry : FnScope ["_law_cell", "_law_k", "_law_found"] ["_law_cell", "_law_k"] (defScope s__law_entry) := by walk_at "sc"
-- HB
theorem ok__law_entry (T : Txt K mg A)  : Ok__law_entry P w K mg base A := by
  refine T.F__law_entry.okN sc__law_entry (fun vs H Q E h => ?_) (fun _ _ _ _ H vs Q E hr h => ?_)
  · obtain ⟨_, c, k, rfl, _⟩ := h
    rfl
  · obtain ⟨hP, c, k, rfl, q⟩ := h
    refine ⟨_, (pss_cons (ps_set (i := 2) sc__law_entry.nd rfl (Or.inl rfl) (pe_lst (pa_cons (pe_tup (pa_cons (pe_tup (pa_cons (pe_op op_add pe_int (pe_op op_mod (pv 0) pe_int)) (pa_cons (pe_op op_add pe_int (pe_op op_mod (pe_op op_fdiv (pv 0) pe_int) pe_int)) pa_nil))) (pa_cons pe_non (pa_cons (pe_tup (pa_cons (pe_op op_add pe_int (pv 1)) (pa_cons (pe_tup (pa_cons (pe_tup (pa_cons pe_int (pa_cons pe_int (pa_cons (pe_op op_add pe_int (pv 1)) pa_nil)))) pa_nil)) (pa_cons pe_str pa_nil)))) pa_nil)))) pa_nil)))
      (pss_cons (ps_if (pt_cmpR op_eq (pe_op op_mod (pe_op op_fdiv (pv 0) pe_int) pe_int) pe_int (nomark _)) (pss_one (ps_expr (pe_bm PySem.F.plainAttrs_list PySem.F.slot_list_append PySem.F.type_list_append mt_append (pv 2) (pa_cons (pe_tup (pa_cons (pe_tup (pa_cons pe_int (pa_cons (pe_op op_add pe_int (pv 1)) pa_nil))) (pa_cons (pe_tup (pa_cons (pe_op op_add pe_int (pv 1)) (pa_cons (pe_tup pa_nil) (pa_cons pe_str pa_nil)))) (pa_cons (pe_tup (pa_cons (pe_op op_add pe_int (pv 1)) (pa_cons (pe_tup (pa_cons (pe_tup (pa_cons pe_int (pa_cons pe_int (pa_cons (pe_op op_add pe_int (pv 1)) pa_nil)))) pa_nil)) (pa_cons pe_str pa_nil)))) pa_nil)))) pa_nil)))) pss_nil)
      (pss_one (ps_ret (pv 2))))), ?_⟩
    walk_at "rd"
    refine ⟨sz_2, fun t1 hp1 => ?_⟩
    generalize hH1 : upd H t1 (HO.tup _) = H1
    have s1 : Same H H1 := hH1 ▸ same_upd hp1
    have P1 : Plain H1 := hH1 ▸ hP.tup
    have h1 := (congrFun hH1 t1).symm.trans upd_same
    walk_at "rd"
    refine ⟨sz_3, fun t2 hp2 => ?_⟩
    generalize hH2 : upd H1 t2 (HO.tup _) = H2
    have s2 : Same H1 H2 := hH2 ▸ same_upd hp2
    have P2 : Plain H2 := hH2 ▸ P1.tup
    have h2 := (congrFun hH2 t2).symm.trans upd_same
    refine ⟨sz_1, fun t3 hp3 => ?_⟩
    generalize hH3 : upd H2 t3 (HO.tup _) = H3
    have s3 : Same H2 H3 := hH3 ▸ same_upd hp3
    have P3 : Plain H3 := hH3 ▸ P2.tup
    have h3 := (congrFun hH3 t3).symm.trans upd_same
    refine ⟨sz_3, fun t4 hp4 => ?_⟩
    generalize hH4 : upd H3 t4 (HO.tup _) = H4
    have s4 : Same H3 H4 := hH4 ▸ same_upd hp4
    have P4 : Plain H4 := hH4 ▸ P3.tup
    have h4 := (congrFun hH4 t4).symm.trans upd_same
    refine ⟨sz_3, fun t5 hp5 => ?_⟩
    generalize hH5 : upd H4 t5 (HO.tup _) = H5
    have s5 : Same H4 H5 := hH5 ▸ same_upd hp5
    have P5 : Plain H5 := hH5 ▸ P4.tup
    have h5 := (congrFun hH5 t5).symm.trans upd_same
    have s35 := s4.trans s5
    have s25 := s3.trans s35
    have D5 : DV K H5 (chD ((1 + c % 2, 1 + c / 2 % 30), none, some (1 + k, [(0, 1, 1 + k)], "words"))) (.ref t5) := ch_mk (SqT.of h5) (SqT.of ((s2.trans s25) _ _ h1)) rfl (ver_mk (v := (1 + k, [(0, 1, 1 + k)], "words")) (SqT.of (s5 _ _ h4)) ⟨t3, _, rfl, SqT.of (s35 _ _ h3), _, _, rfl, stp_mk (s := (0, 1, 1 + k)) (SqT.of (s25 _ _ h2)), rfl⟩)
    have ok5 : okCh ((1 + c % 2, 1 + c / 2 % 30), none, some (1 + k, [(0, 1, 1 + k)], "words")) := ⟨fun v e => (by cases e), fun v e => by cases e; exact ok_lit "words"⟩
    have S5 := (s1.trans s2).trans s25
    refine ⟨sz_1, fun x hp6 => ?_⟩
    generalize hH6 : upd H5 x (HO.lst _) = H6
    have s6 : Same H5 H6 := hH6 ▸ same_upd hp6
    have P6 : Plain H6 := hH6 ▸ P5.lst
    have h6 := (congrFun hH6 x).symm.trans upd_same
    have nx : H x = none := S5.free hp6
    refine ⟨_, rfl, _, _, rfl, rfl, ⟨by decide, by decide⟩, _, _, rfl, rfl, ip_2, rfl, _, rfl, ite2d (fun _ => ?a) (fun _ => ?b)⟩
    case b => exact ⟨_, rfl, q x _ [_] H6 nx (S5.trans s6) h6 ⟨_, _, rfl, DV.same s6 _ _ D5, rfl⟩ ⟨fun e he => by rw [List.mem_singleton.mp he]; exact ok5, by simp, by show 1 ≤ 3; decide⟩ P6⟩
    case a =>
      refine ⟨_, rfl, .inl ⟨rfl, _, SqL.of h6⟩, ?_⟩
      walk_at "rd"
      refine ⟨sz_2, fun t7 hp7 => ?_⟩
      generalize hH7 : upd H6 t7 (HO.tup _) = H7
      have s7 : Same H6 H7 := hH7 ▸ same_upd hp7
      have P7 : Plain H7 := hH7 ▸ P6.tup
      have h7 := (congrFun hH7 t7).symm.trans upd_same
      walk_at "rd"
      refine ⟨sz_0, fun t8 hp8 => ?_⟩
      generalize hH8 : upd H7 t8 (HO.tup _) = H8
      have s8 : Same H7 H8 := hH8 ▸ same_upd hp8
      have P8 : Plain H8 := hH8 ▸ P7.tup
      have h8 := (congrFun hH8 t8).symm.trans upd_same
      refine ⟨sz_3, fun t9 hp9 => ?_⟩
      generalize hH9 : upd H8 t9 (HO.tup _) = H9
      have s9 : Same H8 H9 := hH9 ▸ same_upd hp9
      have P9 : Plain H9 := hH9 ▸ P8.tup
      have h9 := (congrFun hH9 t9).symm.trans upd_same
      walk_at "rd"
      refine ⟨sz_3, fun ta hpa => ?_⟩
      generalize hHa : upd H9 ta (HO.tup _) = Ha
      have sa : Same H9 Ha := hHa ▸ same_upd hpa
      have Pa : Plain Ha := hHa ▸ P9.tup
      have ha := (congrFun hHa ta).symm.trans upd_same
      refine ⟨sz_1, fun tb hpb => ?_⟩
      generalize hHb : upd Ha tb (HO.tup _) = Hb
      have sb : Same Ha Hb := hHb ▸ same_upd hpb
      have Pb : Plain Hb := hHb ▸ Pa.tup
      have hb := (congrFun hHb tb).symm.trans upd_same
      refine ⟨sz_3, fun tc hpc => ?_⟩
      generalize hHc : upd Hb tc (HO.tup _) = Hc
      have sc : Same Hb Hc := hHc ▸ same_upd hpc
      have Pc : Plain Hc := hHc ▸ Pb.tup
      have hc := (congrFun hHc tc).symm.trans upd_same
      refine ⟨sz_3, fun td hpd => ?_⟩
      generalize hHd : upd Hc td (HO.tup _) = Hd
      have sd : Same Hc Hd := hHd ▸ same_upd hpd
      have Pd : Plain Hd := hHd ▸ Pc.tup
      have hd := (congrFun hHd td).symm.trans upd_same
      have sbd := sc.trans sd
      have sad := sb.trans sbd
      have s9d := sa.trans sad
      have s8d := s9.trans s9d
      have s7d := s8.trans s8d
      have s6d := s7.trans s7d
      have hx := s6d _ _ h6
      have Dd : DV K Hd (chD ((3, 1 + k), some (1 + k, [], ""), some (2 + k, [(1, 3, 1 + k)], ""))) (.ref td) := ch_mk (SqT.of hd) (SqT.of (s7d _ _ h7)) (ver_mk (v := (1 + k, [], "")) (SqT.of (s9d _ _ h9)) ⟨t8, _, rfl, SqT.of (s8d _ _ h8), rfl⟩) (ver_mk (v := (2 + k, [(1, 3, 1 + k)], "")) (SqT.of (sd _ _ hc)) ⟨tb, _, rfl, SqT.of (sbd _ _ hb), _, _, rfl, stp_mk (s := (1, 3, 1 + k)) (SqT.of (sad _ _ ha)), rfl⟩)
      refine ⟨x, _, _, rfl, rfl, hx, by show 1 < sizeLine; decide, ?_⟩
      refine ⟨_, rfl, q x _ [((1 + c % 2, 1 + c / 2 % 30), none, some (1 + k, [(0, 1, 1 + k)], "words")), ((3, 1 + k), some (1 + k, [], ""), some (2 + k, [(1, 3, 1 + k)], ""))] _ nx (fun b o e => by rw [upd_ne (ne_of_none e nx)]; exact ((S5.trans s6).trans s6d) _ _ e) upd_same ?_ ⟨?_, ?_, by show 2 ≤ 3; decide⟩ (Pd.upd trivial)⟩
      · exact ⟨_, _, rfl, dv_other hx (noT_lst _) _ _ (noL_ch _) (DV.same (s6.trans s6d) _ _ D5), _, _, rfl, dv_other hx (noT_lst _) _ _ (noL_ch _) Dd, rfl⟩
      · intro e he
        rcases List.mem_cons.mp he with rfl | he
        · exact ok5
        · rw [List.mem_singleton.mp he]
          exact ⟨fun v e => (by cases e; exact ok_lit ""), fun v e => (by cases e; exact ok_lit "")⟩
      · have := Int.emod_lt_of_pos c (show (0 : Int) < 2 by decide)
        refine List.nodup_cons.mpr ⟨fun h => ?_, List.nodup_cons.mpr ⟨fun h => (by cases h), List.nodup_nil⟩⟩
        have h : (1 + c % 2, 1 + c / 2 % 30) = ((3 : Int), 1 + k) := List.mem_singleton.mp h
        have := congrArg Prod.fst h
        simp only at this
        omega
theorem sc__law_changed : FnScope ["_law_rows", "_law_cell"] ["_law_rows", "_law_cell"] (defScope s__law_changed) := by walk_at "sc"
-- HB
theorem ok__law_changed (T : Txt K mg A)  : Ok__law_changed P w K mg base A := by
  refine T.F__law_changed.okN sc__law_changed (fun vs H Q E h => ?_) (fun _ _ _ _ H vs Q E hr h => ?_)
  · obtain ⟨_, x, n, zs, e, rfl, _⟩ := h
    rfl
  · obtain ⟨hP, x, n, zs, e, rfl, hx, hz, ok, q⟩ := h
    refine ⟨_, (pss_one (ps_if (pt_cmpR op_eq (pe_op op_mod (pv 1) pe_int) pe_int (nomark _)) (pss_one (ps_expr (pe_bm PySem.F.plainAttrs_list PySem.F.slot_list_append PySem.F.type_list_append mt_append (pv 0) (pa_cons (pe_tup (pa_cons (pe_tup (pa_cons pe_int (pa_cons pe_int pa_nil))) (pa_cons pe_non (pa_cons pe_non pa_nil)))) pa_nil)))) (pss_one (ps_if (PW.pt (pw_and (pt_cmpR op_eq (pe_op op_mod (pv 1) pe_int) pe_int (nomark _)) (pw_and1 (pt_cmpR (op_neD hr.units) (pv 0) (pe_lst pa_nil) (nomark _))))) (pss_one (ps_expr (pe_bm0 PySem.F.plainAttrs_list PySem.F.slot_list_pop PySem.F.type_list_pop mt_pop (pv 0)))) (pss_one (ps_expr (pe_bm0 PySem.F.plainAttrs_list PySem.F.slot_list_clear PySem.F.type_list_clear mt_clear (pv 0)))))))), ?_⟩
    have hzl : zs.length = e.length := by rw [hz.length, List.length_map]
    have l3 := ok.2.2
    refine ⟨_, rfl, _, _, rfl, rfl, ip_3, rfl, _, rfl, ite2d (fun _ => ?a) (fun _ => ?b)⟩
    case a =>
      refine ⟨_, rfl, .inl ⟨rfl, _, SqL.of hx⟩, sz_2, fun t1 hp1 => ?_⟩
      generalize hH1 : upd H t1 (HO.tup _) = H1
      have s1 : Same H H1 := hH1 ▸ same_upd hp1
      have P1 : Plain H1 := hH1 ▸ hP.tup
      have h1 := (congrFun hH1 t1).symm.trans upd_same
      refine ⟨sz_3, fun t2 hp2 => ?_⟩
      generalize hH2 : upd H1 t2 (HO.tup _) = H2
      have s2 : Same H1 H2 := hH2 ▸ same_upd hp2
      have P2 : Plain H2 := hH2 ▸ P1.tup
      have h2 := (congrFun hH2 t2).symm.trans upd_same
      exact ⟨x, zs, _, rfl, rfl, (s1.trans s2) _ _ hx, small1000 (by omega), q _ ((But.of (s1.trans s2)).trans (But.put (by simp))) (P2.upd trivial)⟩
    case b =>
      refine ⟨_, rfl, _, _, rfl, rfl, ip_3, rfl, _, rfl, ite2d (fun _ => ?c) (fun _ => ?d)⟩
      case d => exact iteF ⟨_, rfl, .inl ⟨rfl, _, SqL.of hx⟩, x, zs, rfl, rfl, hx, q _ (But.put (by simp)) (hP.upd trivial)⟩
      case c =>
        refine ⟨_, rfl, Nat.zero_le _, fun l hp1 => ?_⟩
        generalize hH1 : upd H l (HO.lst _) = H1
        have s1 : Same H H1 := hH1 ▸ same_upd hp1
        have P1 : Plain H1 := hH1 ▸ hP.lst
        have h1 := (congrFun hH1 l).symm.trans upd_same
        have hx1 := s1 _ _ hx
        refine ⟨.list (e.map chD), .list [], ⟨x, zs, rfl, SqL.of hx1, DVs.same s1 _ _ hz⟩, ⟨l, [], rfl, SqL.of h1, rfl⟩, chs_shaped ok.1, rfl, _, rfl, ?_⟩
        cases e with
        | nil => exact iteF ⟨_, rfl, .inl ⟨rfl, _, SqL.of hx1⟩, x, zs, rfl, rfl, hx1, q _ ((But.of s1).trans (But.put (by simp))) (P1.upd trivial)⟩
        | cons c e =>
          have hl1 : zs.length = e.length + 1 := hzl
          exact iteT ⟨_, rfl, .inl ⟨rfl, _, SqL.of hx1⟩, x, zs, zs[zs.length - 1]'(by omega), rfl, rfl, hx1, List.getElem?_eq_getElem _, q _ ((But.of s1).trans (But.put (by simp))) (P1.upd trivial)⟩
theorem sc__law_turned : FnScope ["_law_log", "_law_back", "_law_entry_here"] ["_law_log", "_law_back"] (defScope s__law_turned) := by walk_at "sc"
-- HB
theorem ok__law_turned (T : Txt K mg A) (G_Log__undo : Ok_Log__undo P w K mg base A) (G_Log__again : Ok_Log__again P w K mg base A) : Ok__law_turned P w K mg base A := by
  have B_Log__undo := T.b_Log__undo
  have B_Log__again := T.b_Log__again
  refine T.F__law_turned.okN sc__law_turned (fun vs H Q E h => ?_) (fun _ _ _ _ H vs Q E hr h => ?_)
  · obtain ⟨_, p, S, U, xs, ys, es, b, rfl, _⟩ := h
    rfl
  · obtain ⟨hP, p, S, U, xs, ys, es, b, rfl, L, he, ok, few, q, qe⟩ := h
    refine ⟨_, (pss_cons (ps_set (i := 2) sc__law_turned.nd rfl (Or.inl rfl) pe_non)
      (pss_cons (ps_tryN T.x_DraftError rfl T.g_DraftError ⟨⟨_, _, _, rfl, rfl, rfl⟩⟩ (fun _ _ _ _ hx => (pss_one (ps_if (pt_val (pv 1)) (pss_one (ps_set (i := 2) sc__law_turned.nd rfl (Or.inl rfl) (pe_meth0S (pv 0) T.cl_Log T.m_Log__undo G_Log__undo (hr.mono (by decide)) B_Log__undo .nil hx))) (pss_one (ps_set (i := 2) sc__law_turned.nd rfl (Or.inl rfl) (pe_meth0S (pv 0) T.cl_Log T.m_Log__again G_Log__again (hr.mono (by decide)) B_Log__again .nil hx)))))) (fun _ => (pss_one (ps_set (i := 2) sc__law_turned.nd rfl (Or.inl rfl) pe_str))))
      (pss_one (ps_ret (pv 2))))), ?_⟩
    refine ⟨fun v o H1 => v = .ref A.NoDeed ∧ o = none ∧ es = [] ∧ Same H H1 ∧ Plain H1, ?_, ?_⟩
    · refine ⟨_, rfl, b, rfl, ?_⟩
      cases b with
      | true =>
        have L : LogK A.Log H p S U xs ys := L
        obtain ⟨dx, hp⟩ := id L.hp
        refine iteT ⟨rfl, _, rfl, p, dx, _, rfl, hp, lf_no _ _ (by decide +kernel) (by decide +kernel), hP, p, S, U, xs, ys, es, rfl, L, he, ok, few, fun es' d xs' y e1 e2 x zs H' nx hx hS' hU' k hz P' => ?_, fun e H' s' P' => ⟨rfl, rfl, e, s', P'⟩⟩
        exact ⟨_, rfl, q es' d xs' y e1 e2 x zs H' nx hx hS' hU' k hz P'⟩
      | false =>
        have L : LogK A.Log H p U S ys xs := L
        obtain ⟨dx, hp⟩ := id L.hp
        refine iteF ⟨rfl, _, rfl, p, dx, _, rfl, hp, lf_no _ _ (by decide +kernel) (by decide +kernel), hP, p, S, U, xs, ys, es, rfl, L, he, ok, few, fun es' d xs' y e1 e2 x zs H' nx hx hS' hU' k hz P' => ?_, fun e H' s' P' => ⟨rfl, rfl, e, s', P'⟩⟩
        exact ⟨_, rfl, q es' d xs' y e1 e2 x zs H' nx hx hS' hU' k hz P'⟩
    · rintro C H1 ⟨e, _, e0, s1, P1⟩
      cases e
      refine ⟨T.x_NoDeed, T.m_nd, ?_⟩
      exact ⟨_, rfl, qe e0 H1 s1 P1⟩
theorem sc__law_marks : FnScope ["_law_entries", "_law_found", "_law_entry_here"] ["_law_entries"] (defScope s__law_marks) := by walk_at "sc"
-- HB
theorem ok__law_marks (T : Txt K mg A)  : Ok__law_marks P w K mg base A := by
  refine T.F__law_marks.okN sc__law_marks (fun vs H Q E h => ?_) (fun _ _ _ _ H vs Q E hr h => ?_)
  · obtain ⟨_, a, xs, es, rfl, _⟩ := h
    rfl
  · obtain ⟨hP, a, xs, es, rfl, ha, he, ok, few, q⟩ := h
    refine ⟨_, (pss_cons (ps_set (i := 1) sc__law_marks.nd rfl (Or.inl rfl) (pe_lst pa_nil))
      (pss_cons (ps_for PassesOwn.never rfl (pi_list (pv 0)) (pg_name (i := 2) sc__law_marks.nd rfl (Or.inl rfl)) (pss_one (ps_set (i := 1) sc__law_marks.nd rfl (Or.inl rfl) (pe_op op_cat (pv 1) (pe_comp ["_law_mark", "_law_before", "_law_after"] 3 [] rfl (pi_list (pv 2)) gk3 (fun _ _ _ _ _ => pg_tup rfl (pgs_cons (pg_name (i := 0) (show List.Nodup (["_law_mark", "_law_before", "_law_after"] : List Str) by decide +kernel) rfl (Or.inl rfl)) (pgs_cons (pg_name (i := 1) (show List.Nodup (["_law_mark", "_law_before", "_law_after"] : List Str) by decide +kernel) rfl (Or.inl rfl)) (pgs_cons (pg_name (i := 2) (show List.Nodup (["_law_mark", "_law_before", "_law_after"] : List Str) by decide +kernel) rfl (Or.inl rfl)) pgs_nil)))) (fun _ _ _ _ _ => pif_nil) (fun _ _ _ _ _ => (pv 0)))))))
      (pss_one (ps_ret (pe_callB (call_sortedS rfl hr.u100) rfl T.n_sorted (by decide +kernel) (pa_cons (pe_callTy (call_setW rfl hr.u100) rfl T.n_set (by decide +kernel) (pa_cons (pv 1) pa_nil)) pa_nil)))))), ?_⟩
    refine ⟨Nat.zero_le _, fun lm hp1 => ?_⟩
    generalize hH1 : upd H lm (HO.lst _) = H1
    have s1 : Same H H1 := hH1 ▸ same_upd hp1
    have P1 : Plain H1 := hH1 ▸ hP.lst
    have h1 := (congrFun hH1 lm).symm.trans upd_same
    have hxl : xs.length = es.length := Paired.length he
    refine ⟨_, rfl, a, rfl, ⟨_, SqL.of (s1 _ _ ha)⟩, for_list (K := K) (a := a) (xs := xs) (fun i σ H2 => ∃ (o2 : Option V) (lm : Addr) (zs : List V) (ms : List Mark), σ = [some (.ref a), some (.ref lm), o2] ∧ Plain H2 ∧ Same H H2 ∧ H2 lm = some (.lst zs) ∧ DVs K H2 (ms.map L2.markD) zs ∧ ms.length ≤ 3 * i ∧ ∀ m, m ∈ ms ↔ ∃ e ∈ es.take i, m ∈ e.map (·.1))
      ⟨_, lm, [], [], rfl, P1, s1, h1, rfl, Nat.le_refl _, fun m => ⟨fun h => (by cases h), fun ⟨e, h, _⟩ => (by cases h)⟩⟩ (fun i σ H2 _ ⟨_, _, _, _, _, _, s, _⟩ => SqL.of (s _ _ ha)) ?_ ?_⟩
    · rintro i y σ H2 hy ⟨o2, lm, zs, ms, rfl, P2, S2, hlm, hzs, lms, mem⟩
      have hi : i < es.length := by have := (List.getElem?_eq_some_iff.mp hy).1; omega
      obtain ⟨v, hv, l, ws, rfl, _, hl, hw, nlw⟩ := pair_at he (List.getElem?_eq_getElem hi)
      rw [hy] at hv
      cases hv
      obtain ⟨okc, ndm, l3⟩ := ok _ (List.getElem_mem hi)
      generalize hE : es[i] = e at hw ndm l3
      have hwl : ws.length = e.length := by rw [hw.length, List.length_map]
      refine ⟨_, rfl, _, rfl, l, rfl, ⟨_, SqL.of (S2 _ _ hl)⟩, fun D hD => comp_gen (fun i => ws.getD i .non) (fun i y H => DV K H (L2.markD (e.getD i default).1) y) hD P2 (n := ws.length) (sm1 ((by omega))) (itl_ok (SqL.of (S2 _ _ hl))) (fun i y Ha Hb h k hz => DV.mono k hz _ _ (noL_of _ (ok4_mark _).1) h) ?_ ?_⟩
      · intro j H3 R hj P3 S3 hR
        have hjc : j < e.length := by omega
        have S23 := S2.trans S3
        obtain ⟨y, hy2, hyd⟩ := (DVs.same S23 _ _ hw).get (i := j) (d := chD e[j]) (by rw [List.getElem?_map, List.getElem?_eq_getElem hjc]; rfl)
        have ec : e.getD j default = e[j] := by rw [List.getD_eq_getElem?_getD, List.getElem?_eq_getElem hjc]; rfl
        rw [ec] at hR
        obtain ⟨t, q0, va, vb, ey, hq, hm, h1, h2⟩ := ch_of hyd
        have eg : ws.getD j .non = .ref t := by rw [List.getD_eq_getElem?_getD, hy2, ey]; rfl
        rw [eg]
        refine ⟨t, _, rfl, hq, rfl, _, _, rfl, _, _, rfl, _, _, rfl, rfl, ?_⟩
        exact ⟨_, rfl, hR _ _ (mkV_dv hm) (Same.refl _) P3⟩
      · intro ys H3 hyl hr hD3 S3 P3
        have hys : DVs K H3 ((e.map (·.1)).map L2.markD) ys := by
          rw [List.map_map]
          refine DVs.of (f := L2.markD ∘ fun c : Chg => c.1) (by rw [hyl, hwl]) fun j v c hv hc => ?_
          have h1 := hr j v hv
          rw [List.getD_eq_getElem?_getD, hc] at h1
          exact h1
        have hzl : zs.length = ms.length := by rw [hzs.length, List.length_map]
        refine ⟨lm, D, zs, ys, rfl, rfl, S3 _ _ hlm, hD3, sm1 ((by omega)), fun pc hp4 => ?_⟩
        generalize hH4 : upd H3 pc (HO.lst _) = H4
        have s4 : Same H3 H4 := hH4 ▸ same_upd hp4
        have P4 : Plain H4 := hH4 ▸ P3.lst
        have h4 := (congrFun hH4 pc).symm.trans upd_same
        refine ⟨_, pc, _, ms ++ e.map (·.1), rfl, P4, (S2.trans S3).trans s4, h4, ?_, ?_, fun m => ?_⟩
        · rw [List.map_append]
          exact (DVs.same (S3.trans s4) _ _ hzs).append (DVs.same s4 _ _ hys)
        · rw [List.length_append, List.length_map]
          omega
        · rw [List.take_succ_eq_append_getElem hi, hE, List.mem_append, mem]
          constructor
          · rintro (⟨x, h1, h2⟩ | h)
            · exact ⟨x, List.mem_append_left _ h1, h2⟩
            · exact ⟨e, List.mem_append_right _ (List.mem_singleton.mpr rfl), h⟩
          · rintro ⟨x, h1, h2⟩
            rcases List.mem_append.mp h1 with h1 | h1
            · exact .inl ⟨x, h1, h2⟩
            · rw [List.mem_singleton.mp h1] at h2
              exact .inr h2
    rintro σ H2 ⟨o2, lm, zs, ms, rfl, P2, S2, hlm, hzs, lms, mem⟩
    rw [hxl, List.take_length] at mem
    have hzl : zs.length = ms.length := by rw [hzs.length, List.length_map]
    refine ⟨_, rfl, lm, ms.map L2.markD, zs, rfl, SqL.of hlm, hzs, (fun d hd => by obtain ⟨m, _, rfl⟩ := List.mem_map.mp hd; exact ok4_mark _), (by rw [List.length_map]; omega), fun D qs hD W mq lq => ?_⟩
    rw [List.length_map] at lq
    refine ⟨D, qs, rfl, W, (fun q hq => ?_), by omega, fun l bs ws hl pw mb lb hw => ?_⟩
    · obtain ⟨m, _, e⟩ := List.mem_map.mp ((mq q.2).mp ⟨q, hq, rfl⟩)
      exact ⟨m, e.symm⟩
    refine q l bs ws _ ((S2.trans (same_upd hD)).trans (same_upd hl)) upd_same (DVs.same (same_upd hl) _ _ hw) ⟨pw, fun m => ?_⟩ (Plain.lst (P2.upd trivial))
    rw [mb m, mq, ← mem m]
    exact ⟨fun h => by obtain ⟨m', h', e⟩ := List.mem_map.mp h; rw [← markD_inj e]; exact h', fun h => List.mem_map_of_mem h⟩
theorem sc__law_told : FnScope ["_law_log", "_law_stand", "_law_gone", "_law_cell", "_law_marks_here", "_law_right"] ["_law_log", "_law_stand", "_law_gone", "_law_cell"] (defScope s__law_told) := by walk_at "sc"
-- HB
theorem ok__law_told (T : Txt K mg A) (G_Log__many : Ok_Log__many P w K mg base A) (G_Log__touched : Ok_Log__touched P w K mg base A) (G__law_marks : Ok__law_marks P w K mg base A) : Ok__law_told P w K mg base A := by
  have B_Log__many := T.b_Log__many
  have B_Log__touched := T.b_Log__touched
  have B__law_marks := T.b__law_marks
  refine T.F__law_told.okN sc__law_told (fun vs H Q E h => ?_) (fun _ _ _ _ H vs Q E hr h => ?_)
  · obtain ⟨_, M, F, p, S, U, ls, lg, st, un, n, rfl, _⟩ := h
    rfl
  · obtain ⟨hP, M, F, p, S, U, ls, lg, st, un, n, rfl, s0, few, q⟩ := h
    refine ⟨_, (pss_cons (ps_set (i := 4) sc__law_told.nd rfl (Or.inl rfl) (pe_meth0 (pv 0) T.cl_Log T.m_Log__touched G_Log__touched (hr.mono (by decide)) B_Log__touched .nil pass1))
      (pss_cons (ps_set (i := 5) sc__law_told.nd rfl (Or.inl rfl) (pe_and (pe_cmpR (op_eqD hr.units) (pv 4) (pe_call G__law_marks (hr.mono (by decide)) rfl T.g__law_marks T.k__law_marks B__law_marks .nil pass1 (pa_cons (pv 1) pa_nil)) (nomark _)) (pe_one (pe_cmpR (op_eqD hr.units) (pe_meth0 (pv 0) T.cl_Log T.m_Log__many G_Log__many (hr.mono (by decide)) B_Log__many .nil pass1) (pe_tup (pa_cons (pe_callB call_len_seq rfl T.n_len (by decide +kernel) (pa_cons (pv 1) pa_nil)) (pa_cons (pe_callB call_len_seq rfl T.n_len (by decide +kernel) (pa_cons (pv 2) pa_nil)) pa_nil))) (nomark _)))))
      (pss_cons (ps_expr (pe_bm PySem.F.plainAttrs_list PySem.F.slot_list_append PySem.F.type_list_append mt_append (pv 4) (pa_cons (pe_tup (pa_cons pe_int (pa_cons (pe_op op_add pe_int (pe_op op_mod (pv 3) pe_int)) pa_nil))) pa_nil)))
      (pss_one (ps_ret (pe_and (pv 5) (pe_one (pe_cmpR (op_eqD hr.units) (pe_meth0 (pv 0) T.cl_Log T.m_Log__touched G_Log__touched (hr.mono (by decide)) B_Log__touched .nil pass1) (pe_call G__law_marks (hr.mono (by decide)) rfl T.g__law_marks T.k__law_marks B__law_marks .nil pass1 (pa_cons (pv 1) pa_nil)) (nomark _))))))))), ?_⟩
    obtain ⟨⟨xs, ys, as, bs, L, hls, hlg, e1, e2, e3, e4⟩, nd, fn, fh, ok⟩ := id s0
    obtain ⟨dx, hp⟩ := id L.hp
    have la : as.length = xs.length := (Paired.length e3).trans (Paired.length e1).symm
    have lb : bs.length = ys.length := (Paired.length e4).trans (Paired.length e2).symm
    have e1' := e1.less (M := []) (by simp)
    have e3' := e3.less (M := []) (by simp)
    refine ⟨_, rfl, p, dx, _, rfl, hp, lf_no _ _ (by decide +kernel) (by decide +kernel), hP, p, S, U, xs, ys, st, rfl, L, e1', ok.1, by omega, fun l ks zs H1 nl s1 h1 hz1 tc lk P1 => ?_⟩
    refine ⟨_, rfl, _, rfl, P1, ls, as, st, rfl, s1 _ _ hls, e3'.same s1, ok.1, by omega, fun l2 ks2 zs2 H2 s2 h2 hz2 tc2 P2 => ?_⟩
    obtain rfl : ks2 = ks := tc2.one tc
    refine ⟨.list _, .list _, ⟨l, zs, rfl, SqL.of (s2 _ _ h1), DVs.same s2 _ _ hz1⟩, ⟨l2, zs2, rfl, SqL.of h2, hz2⟩, mks_shaped _, mks_shaped _, _, rfl, ?_⟩
    rw [mks_eqv]
    refine iteT ?_
    have S2 := s1.trans s2
    refine ⟨_, rfl, p, dx, _, rfl, S2 _ _ hp, lf_no _ _ (by decide +kernel) (by decide +kernel), P2, p, S, U, xs, ys, rfl, L.same S2, fun t H3 s3 ht P3 => ?_⟩
    have S3 := S2.trans s3
    refine ⟨_, rfl, ls, as, rfl, .inl (SqL.of (S3 _ _ hls)), _, rfl, lg, bs, rfl, .inl (SqL.of (S3 _ _ hlg)), sz_2, fun t2 hp4 => ?_⟩
    generalize hH4 : upd H3 t2 (HO.tup _) = H4
    have s4 : Same H3 H4 := hH4 ▸ same_upd hp4
    have P4 : Plain H4 := hH4 ▸ P3.tup
    have h4 := (congrFun hH4 t2).symm.trans upd_same
    refine ⟨.tuple [.int xs.length, .int ys.length], .tuple [.int as.length, .int bs.length], ⟨t, _, rfl, s4.seqT ht, _, _, rfl, rfl, _, _, rfl, rfl, rfl⟩, ⟨t2, _, rfl, SqT.of h4, _, _, rfl, rfl, _, _, rfl, rfl, rfl⟩, rfl, rfl, ?_⟩
    rw [la, lb, show PyData.eqv (.tuple [.int xs.length, .int ys.length]) (.tuple [.int xs.length, .int ys.length]) = true from SeqAt.eqvAll_refl _ rfl]
    have S4 := S3.trans s4
    have hl4 := ((s2.trans s3).trans s4) _ _ h1
    have hzl : zs.length = ks2.length := by rw [hz1.length, List.length_map]
    refine ⟨_, rfl, .inl ⟨rfl, _, SqL.of hl4⟩, ?_⟩
    walk_at "rd"
    refine ⟨sz_2, fun t5 hp5 => ?_⟩
    generalize hH5 : upd H4 t5 (HO.tup _) = H5
    have s5 : Same H4 H5 := hH5 ▸ same_upd hp5
    have P5 : Plain H5 := hH5 ▸ P4.tup
    have h5 := (congrFun hH5 t5).symm.trans upd_same
    have hl5 := s5 _ _ hl4
    refine ⟨l, zs, _, rfl, rfl, hl5, small1000 (by omega), ?_⟩
    have S5 := S4.trans s5
    have s6 : Same H (upd H5 l (.lst (zs ++ [.ref t5]))) := fun b o e => by rw [upd_ne (ne_of_none e nl)]; exact S5 _ _ e
    have P6 : Plain (upd H5 l (.lst (zs ++ [.ref t5]))) := P5.upd trivial
    generalize upd H5 l (.lst (zs ++ [.ref t5])) = H6 at s6 P6 ⊢
    refine ⟨_, rfl, true, rfl, iteT ?_⟩
    refine ⟨_, rfl, p, dx, _, rfl, s6 _ _ hp, lf_no _ _ (by decide +kernel) (by decide +kernel), P6, p, S, U, xs, ys, st, rfl, L.same s6, e1'.same s6, ok.1, by omega, fun l7 k7 z7 H7 _ s7 h7 hz7 tc7 _ P7 => ?_⟩
    have S7 := s6.trans s7
    refine ⟨_, rfl, P7, ls, as, st, rfl, S7 _ _ hls, e3'.same S7, ok.1, by omega, fun l8 k8 z8 H8 s8 h8 hz8 tc8 P8 => ?_⟩
    obtain rfl : k8 = k7 := tc8.one tc7
    refine ⟨.list _, .list _, ⟨l7, z7, rfl, SqL.of (s8 _ _ h7), DVs.same s8 _ _ hz7⟩, ⟨l8, z8, rfl, SqL.of h8, hz8⟩, mks_shaped _, mks_shaped _, ?_⟩
    rw [mks_eqv]
    exact q _ (S7.trans s8) P8
theorem sc__law_deed : FnScope ["_law_log", "_law_stand", "_law_gone", "_law_cell", "_law_k", "_law_way", "_law_entry_here", "_law_one", "_law_other", "_law_right"] ["_law_log", "_law_stand", "_law_gone", "_law_cell", "_law_k"] (defScope s__law_deed) := by walk_at "sc"
-- HB
theorem ok__law_deed (T : Txt K mg A) (G_Log__add : Ok_Log__add P w K mg base A) (G__law_entry : Ok__law_entry P w K mg base A) (G__law_changed : Ok__law_changed P w K mg base A) (G__law_turned : Ok__law_turned P w K mg base A) : Ok__law_deed P w K mg base A := by
  have B_Log__add := T.b_Log__add
  have B__law_entry := T.b__law_entry
  have B__law_changed := T.b__law_changed
  have B__law_turned := T.b__law_turned
  refine T.F__law_deed.okN sc__law_deed (fun vs H Q E h => ?_) (fun _ _ _ _ H vs Q E hr h => ?_)
  · obtain ⟨_, M, F, p, S, U, ls, lg, st, un, n, k, rfl, _⟩ := h
    rfl
  · obtain ⟨hP, M, F, p, S0, U0, l0, g0, t0, u0, n, k, rfl, s0, hM, few, q⟩ := h
    refine ⟨_, (pss_cons (ps_set (i := 5) sc__law_deed.nd rfl (Or.inl rfl) (pe_op op_mod (pv 3) pe_int))
      (pss_cons (ps_if (pt_cmpR op_lt (pv 5) pe_int (nomark _)) (pss_cons (ps_set (i := 6) sc__law_deed.nd rfl (Or.inl rfl) (pe_call G__law_entry (hr.mono (by decide)) rfl T.g__law_entry T.k__law_entry B__law_entry .nil pass1 (pa_cons (pe_op op_fdiv (pv 3) pe_int) (pa_cons (pv 4) pa_nil))))
      (pss_cons (ps_expr (pe_bm PySem.F.plainAttrs_list PySem.F.slot_list_append PySem.F.type_list_append mt_append (pv 1) (pa_cons (pe_callTy call_list_of rfl T.n_list (by decide +kernel) (pa_cons (pv 6) pa_nil)) pa_nil)))
      (pss_cons (ps_expr (pe_bm0 PySem.F.plainAttrs_list PySem.F.slot_list_clear PySem.F.type_list_clear mt_clear (pv 2)))
      (pss_cons (ps_expr (pe_meth (pv 0) T.cl_Log T.m_Log__add G_Log__add (hr.mono (by decide)) B_Log__add .nil pass1 (pa_cons (pv 6) pa_nil)))
      (pss_cons (ps_expr (pe_call G__law_changed (hr.mono (by decide)) rfl T.g__law_changed T.k__law_changed B__law_changed .nil pass1 (pa_cons (pv 6) (pa_cons (pe_op op_fdiv (pv 3) pe_int) pa_nil))))
      (pss_one (ps_ret pe_bl))))))) pss_nil)
      (pss_cons (ps_set (i := 7) sc__law_deed.nd rfl (Or.inl rfl) (pv 1))
      (pss_cons (ps_set (i := 8) sc__law_deed.nd rfl (Or.inl rfl) (pv 2))
      (pss_cons (ps_if (pt_cmpR op_eq (pv 5) pe_int (nomark _)) (pss_cons (ps_set (i := 7) sc__law_deed.nd rfl (Or.inl rfl) (pv 2))
      (pss_one (ps_set (i := 8) sc__law_deed.nd rfl (Or.inl rfl) (pv 1)))) pss_nil)
      (pss_cons (ps_set (i := 6) sc__law_deed.nd rfl (Or.inl rfl) (pe_call G__law_turned (hr.mono (by decide)) rfl T.g__law_turned T.k__law_turned B__law_turned .nil pass1 (pa_cons (pv 0) (pa_cons (pe_cmpR op_eq (pv 5) pe_int (nomark _)) pa_nil))))
      (pss_cons (ps_if (pt_cmpR (op_eqD hr.units) (pv 7) (pe_lst pa_nil) (nomark _)) (pss_one (ps_ret (pe_cmpR (op_eqD hr.units) (pv 6) pe_str (nomark _)))) pss_nil)
      (pss_cons (ps_expr (pe_bm PySem.F.plainAttrs_list PySem.F.slot_list_append PySem.F.type_list_append mt_append (pv 8) (pa_cons (pe_bm0 PySem.F.plainAttrs_list PySem.F.slot_list_pop PySem.F.type_list_pop mt_pop (pv 7)) pa_nil)))
      (pss_cons (ps_set (i := 9) sc__law_deed.nd rfl (Or.inl rfl) (pe_cmpR (op_eqD hr.units) (pv 6) (pe_ix ix_list (pv 8) (pe_un un_neg pe_int) (fun _ _ => rfl)) (nomark _)))
      (pss_cons (ps_if (pt_val (pv 9)) (pss_one (ps_expr (pe_call G__law_changed (hr.mono (by decide)) rfl T.g__law_changed T.k__law_changed B__law_changed .nil pass1 (pa_cons (pv 6) (pa_cons (pe_op op_fdiv (pv 3) pe_int) pa_nil))))) pss_nil)
      (pss_one (ps_ret (pv 9))))))))))))), ?_⟩
    refine ⟨_, rfl, _, _, rfl, rfl, ip_5, ?_⟩
    have z0 := Int.emod_nonneg n (show (5 : Int) ≠ 0 by decide)
    have z1 := Int.emod_lt_of_pos n (show (0 : Int) < 5 by decide)
    refine ⟨_, rfl, _, _, rfl, rfl, _, rfl, ite2d (fun h1 => ?a) (fun h1 => ?b)⟩
    case a =>
      obtain ⟨S, rfl⟩ : ∃ z, z = S0 := ⟨_, rfl⟩
      obtain ⟨U, rfl⟩ : ∃ z, z = U0 := ⟨_, rfl⟩
      obtain ⟨ls, rfl⟩ : ∃ z, z = l0 := ⟨_, rfl⟩
      obtain ⟨lg, rfl⟩ : ∃ z, z = g0 := ⟨_, rfl⟩
      obtain ⟨st, rfl⟩ : ∃ z, z = t0 := ⟨_, rfl⟩
      obtain ⟨un, rfl⟩ : ∃ z, z = u0 := ⟨_, rfl⟩
      obtain ⟨⟨xs, ys, as, bs, L, hls, hlg, e1, e2, e3, e4⟩, nd, fn, fh, ok⟩ := id s0
      have nd' := nd
      simp only [List.nodup_cons, List.mem_cons, List.mem_nil_iff, or_false, not_or, not_false_eq_true, List.nodup_nil, and_true] at nd'
      obtain ⟨⟨nSU, nSls, nSlg⟩, ⟨nUls, nUlg⟩, nlsg⟩ := nd'
      obtain ⟨dx, hp⟩ := id L.hp
      have la : as.length = st.length := Paired.length e3
      have lx : xs.length = st.length := Paired.length e1
      have npS := L.nS
      have npls : p ≠ ls := ne_of hp hls (by intro z; cases z)
      have nplg : p ≠ lg := ne_of hp hlg (by intro z; cases z)
      refine ⟨_, rfl, _, _, rfl, rfl, ⟨by decide, by decide⟩, _, rfl, hP, _, _, rfl, fun x zs e H1 nx s1 hx hz oke P1 => ?_⟩
      refine ⟨_, rfl, .inl ⟨rfl, _, SqL.of (s1 _ _ hls)⟩, _, rfl, x, zs, rfl, .inl (SqL.of hx), fun l1 hp2 => ?_⟩
      generalize hH2 : upd H1 l1 (HO.lst _) = H2
      have s2 : Same H1 H2 := hH2 ▸ same_upd hp2
      have P2 : Plain H2 := hH2 ▸ P1.lst
      have h2 := (congrFun hH2 l1).symm.trans upd_same
      have hls2 := (s1.trans s2) _ _ hls
      have hlg2 := (s1.trans s2) _ _ hlg
      refine ⟨ls, as, _, rfl, rfl, hls2, small1000 (by omega), ?_⟩
      have kA : But [ls, lg] H2 (upd H2 ls (.lst (as ++ [.ref l1]))) := But.put (by simp)
      have hlg3 : (upd H2 ls (.lst (as ++ [.ref l1]))) lg = some (.lst bs) := by rw [upd_ne (Ne.symm nlsg)]; exact hlg2
      have hls3 : (upd H2 ls (.lst (as ++ [.ref l1]))) ls = some (.lst (as ++ [.ref l1])) := upd_same
      have P3 : Plain (upd H2 ls (.lst (as ++ [.ref l1]))) := P2.upd trivial
      generalize upd H2 ls (.lst (as ++ [.ref l1])) = H3 at kA hlg3 hls3 P3 ⊢
      refine ⟨_, rfl, .inl ⟨rfl, _, SqL.of hlg3⟩, lg, bs, rfl, rfl, hlg3, ?_⟩
      have kB : But [ls, lg] H3 (upd H3 lg (.lst [])) := But.put (by simp)
      have hlg4 : (upd H3 lg (.lst [])) lg = some (.lst []) := upd_same
      have hls4 : (upd H3 lg (.lst [])) ls = some (.lst (as ++ [.ref l1])) := by rw [upd_ne nlsg]; exact hls3
      have P4 : Plain (upd H3 lg (.lst [])) := P3.upd trivial
      generalize upd H3 lg (.lst []) = H4 at kB hlg4 hls4 P4 ⊢
      have kAB := kA.trans kB
      have nn : ∀ {z : Addr}, H z = none → z ≠ p ∧ z ≠ S ∧ z ≠ U ∧ z ≠ ls ∧ z ≠ lg ∧ z ∉ M := fun {z} h => by
        refine ⟨fun e => ?_, fun e => ?_, fun e => ?_, fun e => ?_, fun e => ?_, fun e => hM z e h⟩
        · rw [e, hp] at h; cases h
        · rw [e, L.hS] at h; cases h
        · rw [e, L.hU] at h; cases h
        · rw [e, hls] at h; cases h
        · rw [e, hlg] at h; cases h
      have nl1 : H l1 = none := s1.free hp2
      obtain ⟨x1, x2, x3, x4, x5, x6⟩ := nn nx
      obtain ⟨b1, b2, b3, b4, b5, b6⟩ := nn nl1
      have hx4 := kAB _ _ (by simp [x4, x5]) (s2 _ _ hx)
      have hl4 := kAB _ _ (by simp [b4, b5]) h2
      have n2 : NoT [ls, lg] H2 := noT_two hls2 hlg2
      have hz4 : DVs K H4 (e.map chD) zs := dvs_but kAB n2 _ _ (noLs_ch _) (DVs.same s2 _ _ hz)
      have L4 := (L.same (s1.trans s2)).but kAB (fun m hm => by
        simp only [List.mem_cons, List.mem_nil_iff, or_false, not_or] at hm ⊢
        rcases hm with rfl | rfl | rfl
        · exact ⟨npls, nplg⟩
        · exact ⟨nSls, nSlg⟩
        · exact ⟨nUls, nUlg⟩)
      obtain ⟨dx4, hp4'⟩ := id L4.hp
      refine ⟨_, rfl, p, dx4, _, rfl, hp4', lf_no _ _ (by decide +kernel) (by decide +kernel), _, rfl, P4, p, S, U, x, xs, ys, zs, rfl, L4, SqL.of hx4, by omega, fun l2 W H5 nl2 nW nlW L5 hl25 k5 P5 => ?_⟩
      have hx5 := k5 _ _ (by simp [x1, x2]) hx4
      have nT4 : NoT [p, S] H4 := fun m hm o e => L4.noT m (by simp only [List.mem_cons, List.mem_nil_iff, or_false] at hm ⊢; rcases hm with rfl | rfl <;> simp) o e
      have hz5 : DVs K H5 (e.map chD) zs := dvs_but k5 nT4 _ _ (noLs_ch _) hz4
      refine ⟨_, rfl, _, rfl, _, _, rfl, rfl, ⟨by decide, by decide⟩, P5, x, _, zs, e, rfl, hx5, hz5, oke, fun H6 k6 P6 => ?_⟩
      have k04 : But [p, S, ls, lg] H H4 := (But.of (s1.trans s2)).trans (kAB.mono (by simp))
      have kk : But [p, S, ls, lg] H H6 := fun b o n e => k6 b o (fun z => by rw [List.mem_singleton.mp z, nx] at e; cases e) ((k04.trans (k5.mono (by simp))) b o n e)
      have fr4 : ∀ {z : Addr}, H4 z = none → H z = none ∧ z ≠ x ∧ z ≠ l1 := fun {z} h => by
        have n1 : z ≠ p := fun e => by rw [e, hp4'] at h; cases h
        have n2 : z ≠ S := fun e => by rw [e, L4.hS] at h; cases h
        have n3 : z ≠ ls := fun e => by rw [e, hls4] at h; cases h
        have n4 : z ≠ lg := fun e => by rw [e, hlg4] at h; cases h
        exact ⟨k04.free h (by simp [n1, n2, n3, n4]), (fun e => by rw [e, hx4] at h; cases h), (fun e => by rw [e, hl4] at h; cases h)⟩
      obtain ⟨hW, wx, wl⟩ := fr4 nW
      obtain ⟨hl2n, l2x, l2l⟩ := fr4 nl2
      obtain ⟨w1, w2, w3, w4, w5, w6⟩ := nn hW
      obtain ⟨c1, c2, c3, c4, c5, c6⟩ := nn hl2n
      have nT5 : NoT [x] H5 := noT_one hx5
      have hz6 : DVs K H6 (e.map chD) zs := dvs_but k6 nT5 _ _ (noLs_ch _) hz5
      have L6 : LogK A.Log H6 p S W (xs ++ [.ref l2]) [] := L5.but k6 (fun m hm => by
        simp only [List.mem_cons, List.mem_nil_iff, or_false] at hm ⊢
        rcases hm with rfl | rfl | rfl
        · exact Ne.symm x1
        · exact Ne.symm x2
        · exact wx)
      have hls6 := k6 _ _ (by simp [Ne.symm x4]) (k5 _ _ (by simp [Ne.symm npls, Ne.symm nSls]) hls4)
      have hlg6 := k6 _ _ (by simp [Ne.symm x5]) (k5 _ _ (by simp [Ne.symm nplg, Ne.symm nSlg]) hlg4)
      have l1x : l1 ≠ x := fun z => by rw [z, hx] at hp2; cases hp2
      have hl16 := k6 _ _ (by simp [l1x]) (k5 _ _ (by simp [b1, b2]) hl4)
      have hl26 := k6 _ _ (by simp [l2x]) hl25
      have nM4 : NoT [p, S, ls, lg] H := fun m hm o e => Stx.noT s0 m (by simp only [List.mem_cons, List.mem_nil_iff, or_false] at hm ⊢; rcases hm with rfl | rfl | rfl | rfl <;> simp) o e
      have go : ∀ {vs : List V} {es : List (List Chg)}, EnL K ([S, U, ls, lg] ++ M) H vs es → EnL K ([S, W, ls, lg] ++ M) H6 vs es := fun {vs es} ee => by
        refine ((ee.more hW).but kk nM4 fun m hm => ?_).less (by intro a ha; simp only [List.mem_append, List.mem_cons, List.mem_nil_iff, or_false] at ha ⊢; rcases ha with (h | h | h | h) | h <;> simp [h])
        simp only [List.mem_cons, List.mem_nil_iff, or_false] at hm
        rcases hm with rfl | rfl | rfl | rfl
        · exact .inr ⟨_, _, _, hp⟩
        · exact .inl (by simp)
        · exact .inl (by simp)
        · exact .inl (by simp)
      refine q W (st ++ [e]) [] H6 ⟨⟨_, _, _, _, L6, hls6, hlg6, Paired.snoc (go e1) ⟨l2, zs, rfl, by simp [c2, nlW, c4, c5, c6], hl26, hz6, noLs_ch _⟩, .nil, Paired.snoc (go e3) ⟨l1, zs, rfl, by simp [b2, Ne.symm wl, b4, b5, b6], hl16, hz6, noLs_ch _⟩, .nil⟩, by simp [nSls, nSlg, nlsg, w4, w5, L6.ne], fun m hm => ?_, fun b o e => kk b o (fun z => ?_) (fh b o e), fun c hc => (List.mem_append.mp hc).elim (ok.1 c) (fun h => by rw [List.mem_singleton.mp h]; exact oke), fun c hc => by cases hc⟩ (kk.mono (by simp)) (.inr hW) (by simp) P6
      · simp only [List.mem_cons, List.mem_nil_iff, or_false] at hm
        rcases hm with rfl | rfl | rfl | rfl | rfl
        · exact fn _ (by simp)
        · exact fn _ (by simp)
        · exact fh.free hW
        · exact fn _ (by simp)
        · exact fn _ (by simp)
      · have := fn b (by simp only [List.mem_cons, List.mem_nil_iff, or_false] at z; rcases z with rfl | rfl | rfl | rfl <;> simp)
        rw [this] at e
        cases e
    case b =>
      refine ⟨_, rfl, _, rfl, ?_⟩
      by_cases h4 : n % 5 = 4
      · have hw3 : decide (V.int (n % 5) = V.int 3) = false := decide_eq_false fun z => by have := V.int.inj z; omega
        refine ⟨_, rfl, rfl, _, rfl, iteDT (congrArg V.int h4) ⟨_, rfl, _, rfl, ?_⟩⟩
        obtain ⟨U, rfl⟩ : ∃ z, z = S0 := ⟨_, rfl⟩
        obtain ⟨S, rfl⟩ : ∃ z, z = U0 := ⟨_, rfl⟩
        obtain ⟨lg, rfl⟩ : ∃ z, z = l0 := ⟨_, rfl⟩
        obtain ⟨ls, rfl⟩ : ∃ z, z = g0 := ⟨_, rfl⟩
        obtain ⟨un, rfl⟩ : ∃ z, z = t0 := ⟨_, rfl⟩
        obtain ⟨st, rfl⟩ : ∃ z, z = u0 := ⟨_, rfl⟩
        obtain ⟨⟨ys, xs, bs, as, L, hlg, hls, e2, e1, e4, e3⟩, nd, fn, fh, ok⟩ := id s0
        have nd' := nd
        simp only [List.nodup_cons, List.mem_cons, List.mem_nil_iff, or_false, not_or, not_false_eq_true, List.nodup_nil, and_true] at nd'
        obtain ⟨⟨nUS, nUlg, nUls⟩, ⟨nSlg, nSls⟩, nlgs⟩ := nd'
        have nSU := Ne.symm nUS
        have nlsg := Ne.symm nlgs
        have L : LogK A.Log H p U S ys xs := L
        have e1 := e1.less (M := [S, U, ls, lg] ++ M) (by intro a ha; simp only [List.mem_append, List.mem_cons, List.mem_nil_iff, or_false] at ha ⊢; rcases ha with (h | h | h | h) | h <;> simp [h])
        have e2 := e2.less (M := [S, U, ls, lg] ++ M) (by intro a ha; simp only [List.mem_append, List.mem_cons, List.mem_nil_iff, or_false] at ha ⊢; rcases ha with (h | h | h | h) | h <;> simp [h])
        have e3 := e3.less (M := [S, U, ls, lg] ++ M) (by intro a ha; simp only [List.mem_append, List.mem_cons, List.mem_nil_iff, or_false] at ha ⊢; rcases ha with (h | h | h | h) | h <;> simp [h])
        have e4 := e4.less (M := [S, U, ls, lg] ++ M) (by intro a ha; simp only [List.mem_append, List.mem_cons, List.mem_nil_iff, or_false] at ha ⊢; rcases ha with (h | h | h | h) | h <;> simp [h])
        obtain ⟨dx, hp⟩ := id L.hp
        have nM : NoT [S, U, ls, lg] H := noT_four L.hU L.hS hls hlg
        have nls : ls ∉ [S, U] := by simp [Ne.symm nSls, Ne.symm nUls]
        have nlg : lg ∉ [S, U] := by simp [Ne.symm nSlg, Ne.symm nUlg]
        have ly : ys.length = un.length := Paired.length e2
        have lb : bs.length = un.length := Paired.length e4
        refine ⟨_, rfl, _, rfl, rfl, hP, p, S, U, xs, ys, st, false, (by rw [hw3]; rfl), L, e1.less (by intro a ha; simp only [List.mem_cons, List.mem_nil_iff, or_false] at ha; rcases ha with h | h <;> simp [h]), ok.2, by omega, fun es' d xs' y h1 h2 x zs H1 nx hx hS hU k1 hz P1 => ?_, fun h0 H1 s1 P1 => ?_⟩
        · subst h1 h2
          have okd : okEn d := ok.2 d (by simp)
          obtain ⟨as', y2, rfl, e3', l2, z2, rfl, nl2, hl2, hz2, nz2⟩ := paired_last e3
          have hls1 := k1 _ _ nls hls
          have hlg1 := k1 _ _ nlg hlg
          refine ⟨_, rfl, Nat.zero_le _, fun le hp2 => ?_⟩
          generalize hH2 : upd H1 le (HO.lst _) = H2
          have s2 : Same H1 H2 := hH2 ▸ same_upd hp2
          have P2 : Plain H2 := hH2 ▸ P1.lst
          have h2 := (congrFun hH2 le).symm.trans upd_same
          have hls2 := s2 _ _ hls1
          have hlg2 := s2 _ _ hlg1
          have fm := fun m h => (Or.inl (List.mem_append_left _ h) : m ∈ [S, U, ls, lg] ++ M ∨ ∃ C dx fs, H m = some (.ins C dx fs))
          have k2 : But [S, U, ls, lg] H H2 := (k1.mono (by simp)).trans (But.of s2)
          refine ⟨.list ((es' ++ [d]).map eD), .list [], ⟨ls, _, rfl, SqL.of hls2, (e3.but k2 nM fm).dv⟩, ⟨le, [], rfl, SqL.of h2, rfl⟩, es_shaped ok.2, rfl, _, rfl, ?_⟩
          have hf : PyData.eqv (.list ((es' ++ [d]).map eD)) (.list []) = false := by
            rw [List.map_append]
            cases es'.map eD <;> rfl
          rw [hf]
          refine iteF ?_
          refine ⟨_, rfl, .inl ⟨rfl, _, SqL.of hlg2⟩, _, rfl, .inl ⟨rfl, _, SqL.of hls2⟩, ls, _, .ref l2, rfl, rfl, hls2, (by simp), ?_⟩
          rw [List.dropLast_concat]
          have kA : But [ls, lg] H2 (upd H2 ls (.lst as')) := But.put (by simp)
          have hlg3 : (upd H2 ls (.lst as')) lg = some (.lst bs) := by rw [upd_ne (Ne.symm nlsg)]; exact hlg2
          have hls3 : (upd H2 ls (.lst as')) ls = some (.lst as') := upd_same
          have P3 : Plain (upd H2 ls (.lst as')) := P2.upd trivial
          generalize upd H2 ls (.lst as') = H3 at kA hlg3 hls3 P3 ⊢
          refine ⟨lg, bs, _, rfl, rfl, hlg3, small1000 (by omega), ?_⟩
          have kB : But [ls, lg] H3 (upd H3 lg (.lst (bs ++ [.ref l2]))) := But.put (by simp)
          have hlg4 : (upd H3 lg (.lst (bs ++ [.ref l2]))) lg = some (.lst (bs ++ [.ref l2])) := upd_same
          have hls4 : (upd H3 lg (.lst (bs ++ [.ref l2]))) ls = some (.lst as') := by rw [upd_ne nlsg]; exact hls3
          have P4 : Plain (upd H3 lg (.lst (bs ++ [.ref l2]))) := P3.upd trivial
          generalize upd H3 lg (.lst (bs ++ [.ref l2])) = H4 at kB hlg4 hls4 P4 ⊢
          have kAB := kA.trans kB
          have k14 : But [ls, lg] H1 H4 := (But.of s2).trans kAB
          have n1 := noT_two hls1 hlg1
          have k04 : But [S, U, ls, lg] H H4 := k2.trans (kAB.mono (by simp))
          have nxM : x ∉ [ls, lg] := fun z => by
            rcases List.mem_cons.mp z with rfl | z
            · rw [hls] at nx; cases nx
            · rw [List.mem_singleton.mp z, hlg] at nx; cases nx
          have hx4 := k14 _ _ nxM hx
          have hz4 := dvs_but k14 n1 _ _ nz2 hz
          have hl4 : LsR K ([S, U, ls, lg] ++ M) H4 (.ref l2) (d.map chD) := LsR.but ⟨l2, z2, rfl, nl2, hl2, hz2, nz2⟩ k04 nM fm
          obtain ⟨_, _, el, _, hl24, hz24, _⟩ := id hl4
          cases el
          refine ⟨_, rfl, _, rfl, _, rfl, lg, _, _, _, rfl, rfl, SqL.of hlg4, atI_last, eD d, eD d, ⟨x, zs, rfl, SqL.of hx4, hz4⟩, ⟨l2, _, rfl, SqL.of hl24, hz24⟩, chs_shaped okd.1, chs_shaped okd.1, ?_⟩
          rw [show PyData.eqv (eD d) (eD d) = true from chs_eqv okd.1]
          refine ⟨_, rfl, true, rfl, iteT ?_⟩
          refine ⟨_, rfl, _, rfl, _, _, rfl, rfl, ⟨by decide, by decide⟩, P4, x, _, zs, d, rfl, hx4, hz4, okd, fun H5 k5 P5 => ?_⟩
          have nn : ∀ {m : Addr}, m ∈ [S, U, ls, lg] → m ∉ [x] := fun {m} hm z => by
            rw [List.mem_singleton.mp z] at hm
            simp only [List.mem_cons, List.mem_nil_iff, or_false] at hm
            rcases hm with rfl | rfl | rfl | rfl
            · rw [L.hU] at nx; cases nx
            · rw [L.hS] at nx; cases nx
            · rw [hls] at nx; cases nx
            · rw [hlg] at nx; cases nx
          have kk : But [S, U, ls, lg] H H5 := fun b o n e => k5 b o (fun z => by rw [List.mem_singleton.mp z, nx] at e; cases e) (k04 b o n e)
          have hS5 := k5 _ _ (nn (by simp)) (k14 _ _ (show S ∉ [ls, lg] by simp [nSls, nSlg]) hS)
          have hU5 := k5 _ _ (nn (by simp)) (k14 _ _ (show U ∉ [ls, lg] by simp [nUls, nUlg]) hU)
          obtain ⟨xs2, yy, exy, e1', ly2⟩ := paired_last e1
          obtain ⟨rfl, rfl⟩ : xs' = xs2 ∧ y = yy := ⟨(List.append_inj' exy rfl).1, (List.cons.inj (List.append_inj' exy rfl).2).1⟩
          have npM : p ∉ [S, U, ls, lg] := fun z => by
            simp only [List.mem_cons, List.mem_nil_iff, or_false] at z
            rcases z with rfl | rfl | rfl | rfl
            · rw [L.hU] at hp; cases hp
            · rw [L.hS] at hp; cases hp
            · rw [hls] at hp; cases hp
            · rw [hlg] at hp; cases hp
          have hl5 : LsR K ([S, U, ls, lg] ++ M) H5 (.ref l2) (d.map chD) := LsR.but ⟨l2, z2, rfl, nl2, hl2, hz2, nz2⟩ kk nM fm
          have hls5 := k5 _ _ (nn (by simp)) hls4
          have hlg5 := k5 _ _ (nn (by simp)) hlg4
          refine ⟨_, rfl, q S (un ++ [d]) es' H5 ⟨⟨ys ++ [y], xs', bs ++ [.ref l2], as', ⟨⟨dx, kk _ _ npM hp⟩, hU5, hS5, nUS⟩, hlg5, hls5, (EnL.less (Paired.snoc (EnL.but e2 kk nM fm) (ly2.but kk nM fm)) (by intro a ha; simp only [List.mem_append, List.mem_cons, List.mem_nil_iff, or_false] at ha ⊢; rcases ha with (h | h | h | h) | h <;> simp [h])), (EnL.but e1' kk nM fm).less (by intro a ha; simp only [List.mem_append, List.mem_cons, List.mem_nil_iff, or_false] at ha ⊢; rcases ha with (h | h | h | h) | h <;> simp [h]), (EnL.less (Paired.snoc (EnL.but e4 kk nM fm) hl5) (by intro a ha; simp only [List.mem_append, List.mem_cons, List.mem_nil_iff, or_false] at ha ⊢; rcases ha with (h | h | h | h) | h <;> simp [h])), (EnL.but e3' kk nM fm).less (by intro a ha; simp only [List.mem_append, List.mem_cons, List.mem_nil_iff, or_false] at ha ⊢; rcases ha with (h | h | h | h) | h <;> simp [h])⟩, nd, fn, fun b o e => kk b o (fun z => ?_) (fh b o e), ?_⟩ (kk.mono (by simp)) (.inl rfl) (by simp only [List.length_append, List.length_singleton]; omega) P5⟩
          · have := fn b (by simp only [List.mem_cons, List.mem_nil_iff, or_false] at z; rcases z with rfl | rfl | rfl | rfl <;> simp)
            rw [this] at e
            cases e
          · exact ⟨(fun c hc => (List.mem_append.mp hc).elim (ok.1 c) (fun h => by rw [List.mem_singleton.mp h]; exact okd)), (fun c hc => ok.2 c (List.mem_append_left _ hc))⟩
        · subst h0
          cases e1
          cases e3
          refine ⟨_, rfl, Nat.zero_le _, fun le hp2 => ?_⟩
          generalize hH2 : upd H1 le (HO.lst _) = H2
          have s2 : Same H1 H2 := hH2 ▸ same_upd hp2
          have P2 : Plain H2 := hH2 ▸ P1.lst
          have h2 := (congrFun hH2 le).symm.trans upd_same
          refine ⟨.list [], .list [], ⟨ls, [], rfl, SqL.of ((s1.trans s2) _ _ hls), rfl⟩, ⟨le, [], rfl, SqL.of h2, rfl⟩, rfl, rfl, _, rfl, ?_⟩
          refine iteT ?_
          refine ⟨_, rfl, .str "refused", .str "refused", rfl, rfl, (by decide +kernel), (by decide +kernel), ?_⟩
          rw [show PyData.eqv (.str "refused") (.str "refused") = true by decide +kernel]
          exact q S _ _ H2 (s0.same (s1.trans s2)) (But.of (s1.trans s2)) (.inl rfl) (Nat.le_succ _) P2
      · have hw3 : decide (V.int (n % 5) = V.int 3) = true := decide_eq_true (congrArg V.int (by omega))
        refine ⟨_, rfl, rfl, _, rfl, iteDF (fun z => h4 (V.int.inj z)) ?_⟩
        obtain ⟨S, rfl⟩ : ∃ z, z = S0 := ⟨_, rfl⟩
        obtain ⟨U, rfl⟩ : ∃ z, z = U0 := ⟨_, rfl⟩
        obtain ⟨ls, rfl⟩ : ∃ z, z = l0 := ⟨_, rfl⟩
        obtain ⟨lg, rfl⟩ : ∃ z, z = g0 := ⟨_, rfl⟩
        obtain ⟨st, rfl⟩ : ∃ z, z = t0 := ⟨_, rfl⟩
        obtain ⟨un, rfl⟩ : ∃ z, z = u0 := ⟨_, rfl⟩
        obtain ⟨⟨xs, ys, as, bs, L, hls, hlg, e1, e2, e3, e4⟩, nd, fn, fh, ok⟩ := id s0
        have nd' := nd
        simp only [List.nodup_cons, List.mem_cons, List.mem_nil_iff, or_false, not_or, not_false_eq_true, List.nodup_nil, and_true] at nd'
        obtain ⟨⟨nSU, nSls, nSlg⟩, ⟨nUls, nUlg⟩, nlsg⟩ := nd'
        have L : LogK A.Log H p S U xs ys := L
        have e1 := e1.less (M := [S, U, ls, lg] ++ M) (by intro a ha; simp only [List.mem_append, List.mem_cons, List.mem_nil_iff, or_false] at ha ⊢; rcases ha with (h | h | h | h) | h <;> simp [h])
        have e2 := e2.less (M := [S, U, ls, lg] ++ M) (by intro a ha; simp only [List.mem_append, List.mem_cons, List.mem_nil_iff, or_false] at ha ⊢; rcases ha with (h | h | h | h) | h <;> simp [h])
        have e3 := e3.less (M := [S, U, ls, lg] ++ M) (by intro a ha; simp only [List.mem_append, List.mem_cons, List.mem_nil_iff, or_false] at ha ⊢; rcases ha with (h | h | h | h) | h <;> simp [h])
        have e4 := e4.less (M := [S, U, ls, lg] ++ M) (by intro a ha; simp only [List.mem_append, List.mem_cons, List.mem_nil_iff, or_false] at ha ⊢; rcases ha with (h | h | h | h) | h <;> simp [h])
        obtain ⟨dx, hp⟩ := id L.hp
        have nM : NoT [S, U, ls, lg] H := noT_four L.hS L.hU hls hlg
        have nls : ls ∉ [S, U] := by simp [Ne.symm nSls, Ne.symm nUls]
        have nlg : lg ∉ [S, U] := by simp [Ne.symm nSlg, Ne.symm nUlg]
        have ly : ys.length = un.length := Paired.length e2
        have lb : bs.length = un.length := Paired.length e4
        refine ⟨_, rfl, _, rfl, rfl, hP, p, S, U, xs, ys, st, true, (by rw [hw3]; rfl), L, e1.less (by intro a ha; simp only [List.mem_cons, List.mem_nil_iff, or_false] at ha; rcases ha with h | h <;> simp [h]), ok.1, by omega, fun es' d xs' y h1 h2 x zs H1 nx hx hS hU k1 hz P1 => ?_, fun h0 H1 s1 P1 => ?_⟩
        · subst h1 h2
          have okd : okEn d := ok.1 d (by simp)
          obtain ⟨as', y2, rfl, e3', l2, z2, rfl, nl2, hl2, hz2, nz2⟩ := paired_last e3
          have hls1 := k1 _ _ nls hls
          have hlg1 := k1 _ _ nlg hlg
          refine ⟨_, rfl, Nat.zero_le _, fun le hp2 => ?_⟩
          generalize hH2 : upd H1 le (HO.lst _) = H2
          have s2 : Same H1 H2 := hH2 ▸ same_upd hp2
          have P2 : Plain H2 := hH2 ▸ P1.lst
          have h2 := (congrFun hH2 le).symm.trans upd_same
          have hls2 := s2 _ _ hls1
          have hlg2 := s2 _ _ hlg1
          have fm := fun m h => (Or.inl (List.mem_append_left _ h) : m ∈ [S, U, ls, lg] ++ M ∨ ∃ C dx fs, H m = some (.ins C dx fs))
          have k2 : But [S, U, ls, lg] H H2 := (k1.mono (by simp)).trans (But.of s2)
          refine ⟨.list ((es' ++ [d]).map eD), .list [], ⟨ls, _, rfl, SqL.of hls2, (e3.but k2 nM fm).dv⟩, ⟨le, [], rfl, SqL.of h2, rfl⟩, es_shaped ok.1, rfl, _, rfl, ?_⟩
          have hf : PyData.eqv (.list ((es' ++ [d]).map eD)) (.list []) = false := by
            rw [List.map_append]
            cases es'.map eD <;> rfl
          rw [hf]
          refine iteF ?_
          refine ⟨_, rfl, .inl ⟨rfl, _, SqL.of hlg2⟩, _, rfl, .inl ⟨rfl, _, SqL.of hls2⟩, ls, _, .ref l2, rfl, rfl, hls2, (by simp), ?_⟩
          rw [List.dropLast_concat]
          have kA : But [ls, lg] H2 (upd H2 ls (.lst as')) := But.put (by simp)
          have hlg3 : (upd H2 ls (.lst as')) lg = some (.lst bs) := by rw [upd_ne (Ne.symm nlsg)]; exact hlg2
          have hls3 : (upd H2 ls (.lst as')) ls = some (.lst as') := upd_same
          have P3 : Plain (upd H2 ls (.lst as')) := P2.upd trivial
          generalize upd H2 ls (.lst as') = H3 at kA hlg3 hls3 P3 ⊢
          refine ⟨lg, bs, _, rfl, rfl, hlg3, small1000 (by omega), ?_⟩
          have kB : But [ls, lg] H3 (upd H3 lg (.lst (bs ++ [.ref l2]))) := But.put (by simp)
          have hlg4 : (upd H3 lg (.lst (bs ++ [.ref l2]))) lg = some (.lst (bs ++ [.ref l2])) := upd_same
          have hls4 : (upd H3 lg (.lst (bs ++ [.ref l2]))) ls = some (.lst as') := by rw [upd_ne nlsg]; exact hls3
          have P4 : Plain (upd H3 lg (.lst (bs ++ [.ref l2]))) := P3.upd trivial
          generalize upd H3 lg (.lst (bs ++ [.ref l2])) = H4 at kB hlg4 hls4 P4 ⊢
          have kAB := kA.trans kB
          have k14 : But [ls, lg] H1 H4 := (But.of s2).trans kAB
          have n1 := noT_two hls1 hlg1
          have k04 : But [S, U, ls, lg] H H4 := k2.trans (kAB.mono (by simp))
          have nxM : x ∉ [ls, lg] := fun z => by
            rcases List.mem_cons.mp z with rfl | z
            · rw [hls] at nx; cases nx
            · rw [List.mem_singleton.mp z, hlg] at nx; cases nx
          have hx4 := k14 _ _ nxM hx
          have hz4 := dvs_but k14 n1 _ _ nz2 hz
          have hl4 : LsR K ([S, U, ls, lg] ++ M) H4 (.ref l2) (d.map chD) := LsR.but ⟨l2, z2, rfl, nl2, hl2, hz2, nz2⟩ k04 nM fm
          obtain ⟨_, _, el, _, hl24, hz24, _⟩ := id hl4
          cases el
          refine ⟨_, rfl, _, rfl, _, rfl, lg, _, _, _, rfl, rfl, SqL.of hlg4, atI_last, eD d, eD d, ⟨x, zs, rfl, SqL.of hx4, hz4⟩, ⟨l2, _, rfl, SqL.of hl24, hz24⟩, chs_shaped okd.1, chs_shaped okd.1, ?_⟩
          rw [show PyData.eqv (eD d) (eD d) = true from chs_eqv okd.1]
          refine ⟨_, rfl, true, rfl, iteT ?_⟩
          refine ⟨_, rfl, _, rfl, _, _, rfl, rfl, ⟨by decide, by decide⟩, P4, x, _, zs, d, rfl, hx4, hz4, okd, fun H5 k5 P5 => ?_⟩
          have nn : ∀ {m : Addr}, m ∈ [S, U, ls, lg] → m ∉ [x] := fun {m} hm z => by
            rw [List.mem_singleton.mp z] at hm
            simp only [List.mem_cons, List.mem_nil_iff, or_false] at hm
            rcases hm with rfl | rfl | rfl | rfl
            · rw [L.hS] at nx; cases nx
            · rw [L.hU] at nx; cases nx
            · rw [hls] at nx; cases nx
            · rw [hlg] at nx; cases nx
          have kk : But [S, U, ls, lg] H H5 := fun b o n e => k5 b o (fun z => by rw [List.mem_singleton.mp z, nx] at e; cases e) (k04 b o n e)
          have hS5 := k5 _ _ (nn (by simp)) (k14 _ _ (show S ∉ [ls, lg] by simp [nSls, nSlg]) hS)
          have hU5 := k5 _ _ (nn (by simp)) (k14 _ _ (show U ∉ [ls, lg] by simp [nUls, nUlg]) hU)
          obtain ⟨xs2, yy, exy, e1', ly2⟩ := paired_last e1
          obtain ⟨rfl, rfl⟩ : xs' = xs2 ∧ y = yy := ⟨(List.append_inj' exy rfl).1, (List.cons.inj (List.append_inj' exy rfl).2).1⟩
          have npM : p ∉ [S, U, ls, lg] := fun z => by
            simp only [List.mem_cons, List.mem_nil_iff, or_false] at z
            rcases z with rfl | rfl | rfl | rfl
            · rw [L.hS] at hp; cases hp
            · rw [L.hU] at hp; cases hp
            · rw [hls] at hp; cases hp
            · rw [hlg] at hp; cases hp
          have hl5 : LsR K ([S, U, ls, lg] ++ M) H5 (.ref l2) (d.map chD) := LsR.but ⟨l2, z2, rfl, nl2, hl2, hz2, nz2⟩ kk nM fm
          have hls5 := k5 _ _ (nn (by simp)) hls4
          have hlg5 := k5 _ _ (nn (by simp)) hlg4
          refine ⟨_, rfl, q U es' (un ++ [d]) H5 ⟨⟨xs', ys ++ [y], as', bs ++ [.ref l2], ⟨⟨dx, kk _ _ npM hp⟩, hS5, hU5, nSU⟩, hls5, hlg5, (EnL.but e1' kk nM fm).less (by intro a ha; simp only [List.mem_append, List.mem_cons, List.mem_nil_iff, or_false] at ha ⊢; rcases ha with (h | h | h | h) | h <;> simp [h]), (EnL.less (Paired.snoc (EnL.but e2 kk nM fm) (ly2.but kk nM fm)) (by intro a ha; simp only [List.mem_append, List.mem_cons, List.mem_nil_iff, or_false] at ha ⊢; rcases ha with (h | h | h | h) | h <;> simp [h])), (EnL.but e3' kk nM fm).less (by intro a ha; simp only [List.mem_append, List.mem_cons, List.mem_nil_iff, or_false] at ha ⊢; rcases ha with (h | h | h | h) | h <;> simp [h]), (EnL.less (Paired.snoc (EnL.but e4 kk nM fm) hl5) (by intro a ha; simp only [List.mem_append, List.mem_cons, List.mem_nil_iff, or_false] at ha ⊢; rcases ha with (h | h | h | h) | h <;> simp [h]))⟩, nd, fn, fun b o e => kk b o (fun z => ?_) (fh b o e), ?_⟩ (kk.mono (by simp)) (.inl rfl) (by simp only [List.length_append, List.length_singleton]; omega) P5⟩
          · have := fn b (by simp only [List.mem_cons, List.mem_nil_iff, or_false] at z; rcases z with rfl | rfl | rfl | rfl <;> simp)
            rw [this] at e
            cases e
          · exact ⟨(fun c hc => ok.1 c (List.mem_append_left _ hc)), (fun c hc => (List.mem_append.mp hc).elim (ok.2 c) (fun h => by rw [List.mem_singleton.mp h]; exact okd))⟩
        · subst h0
          cases e1
          cases e3
          refine ⟨_, rfl, Nat.zero_le _, fun le hp2 => ?_⟩
          generalize hH2 : upd H1 le (HO.lst _) = H2
          have s2 : Same H1 H2 := hH2 ▸ same_upd hp2
          have P2 : Plain H2 := hH2 ▸ P1.lst
          have h2 := (congrFun hH2 le).symm.trans upd_same
          refine ⟨.list [], .list [], ⟨ls, [], rfl, SqL.of ((s1.trans s2) _ _ hls), rfl⟩, ⟨le, [], rfl, SqL.of h2, rfl⟩, rfl, rfl, _, rfl, ?_⟩
          refine iteT ?_
          refine ⟨_, rfl, .str "refused", .str "refused", rfl, rfl, (by decide +kernel), (by decide +kernel), ?_⟩
          rw [show PyData.eqv (.str "refused") (.str "refused") = true by decide +kernel]
          exact q U _ _ H2 (s0.same (s1.trans s2)) (But.of (s1.trans s2)) (.inl rfl) (Nat.le_succ _) P2
theorem sc__law_emptied : FnScope ["_law_log", "_law_stand", "_law_k"] ["_law_log", "_law_stand"] (defScope s__law_emptied) := by walk_at "sc"
-- HB
theorem ok__law_emptied (T : Txt K mg A) (G__law_turned : Ok__law_turned P w K mg base A) : Ok__law_emptied P w K mg base A := by
  have B__law_turned := T.b__law_turned
  refine T.F__law_emptied.okN sc__law_emptied (fun vs H Q E h => ?_) (fun _ _ _ _ H vs Q E hr h => ?_)
  · obtain ⟨_, M, F, p, S, U, ls, lg, st, un, rfl, _⟩ := h
    rfl
  · obtain ⟨hP, M, F, p, S, U, ls, lg, st, un, rfl, s0, few, q⟩ := h
    refine ⟨_, (pss_cons (ps_for PassesOwn.never rfl (pi_range1 rfl T.n_range (pa_cons (pe_callB call_len_seq rfl T.n_len (by decide +kernel) (pa_cons (pv 1) pa_nil)) pa_nil)) (pg_name (i := 2) sc__law_emptied.nd rfl (Or.inl rfl)) (pss_one (ps_if (pt_cmpR (op_neD hr.units) (pe_call G__law_turned (hr.mono (by decide)) rfl T.g__law_turned T.k__law_turned B__law_turned .nil pass1 (pa_cons (pv 0) (pa_cons pe_bl pa_nil))) (pe_ix ix_list (pv 1) (pe_op op_sub (pe_op op_sub (pe_callB call_len_seq rfl T.n_len (by decide +kernel) (pa_cons (pv 1) pa_nil)) pe_int) (pv 2)) (fun _ _ => rfl)) (nomark _)) (pss_one (ps_ret pe_bl)) pss_nil)))
      (pss_one (ps_ret (pe_cmpR (op_eqD hr.units) (pe_call G__law_turned (hr.mono (by decide)) rfl T.g__law_turned T.k__law_turned B__law_turned .nil pass1 (pa_cons (pv 0) (pa_cons pe_bl pa_nil))) pe_str (nomark _))))), ?_⟩
    obtain ⟨⟨xs, ys, as, bs, L, hls, hlg, e1, e2, e3, e4⟩, nd, fn, fh, ok⟩ := id s0
    have nd' := nd
    simp only [List.nodup_cons, List.mem_cons, List.mem_nil_iff, or_false, not_or, not_false_eq_true, List.nodup_nil, and_true] at nd'
    obtain ⟨⟨nSU, nSls, nSlg⟩, ⟨nUls, nUlg⟩, nlsg⟩ := nd'
    have la : as.length = st.length := Paired.length e3
    have ly : ys.length = un.length := Paired.length e2
    have nSUT : NoT [S, U] H := noT_two L.hS L.hU
    have fm := fun m h => (Or.inl (List.mem_append_left _ h) : m ∈ [S, U, ls, lg] ++ M ∨ ∃ C dx fs, H m = some (.ins C dx fs))
    have nls : ls ∉ [S, U] := by simp [Ne.symm nSls, Ne.symm nUls]
    refine ⟨_, rfl, ls, as, rfl, .inl (SqL.of hls), _, rfl, by omega, by omega, for_range (n := as.length) (fun i σ H2 => ∃ (o2 : Option V) (vs ws : List V), σ = [some (.ref p), some (.ref ls), o2] ∧ Plain H2 ∧ But [S, U] H H2 ∧ LogK A.Log H2 p S U vs ws ∧ EnL K [S, U] H2 vs (st.take (st.length - i)) ∧ ws.length ≤ un.length + i)
      ⟨_, xs, ys, rfl, hP, But.of (Same.refl _), L, by rw [Nat.sub_zero, List.take_length]; exact e1.less (by intro a ha; simp only [List.mem_cons, List.mem_nil_iff, or_false] at ha; rcases ha with h | h <;> simp [h]), by omega⟩ ?_ ?_⟩
    · rintro i σ H2 hi ⟨o2, vs, ws, rfl, P2, k2, L2, ev, lw⟩
      rw [Int.zero_add]
      obtain ⟨j, hj⟩ : ∃ j, st.length - i = j + 1 := ⟨st.length - i - 1, by omega⟩
      have hjl : j < st.length := by omega
      have etk : st.take (st.length - i) = st.take j ++ [st[j]] := by rw [hj, List.take_succ_eq_append_getElem hjl]
      rw [etk] at ev
      have okd : okEn st[j] := ok.1 _ (List.getElem_mem hjl)
      refine ⟨_, rfl, P2, p, S, U, vs, ws, _, true, rfl, L2, ev, (fun e he => ok.1 e (by rw [← etk] at he; exact List.mem_of_mem_take he)), by omega, fun es' d xs' y h1 h2 x zs H3 nx hx hS hU k3 hz P3 => ?_, fun h0 => absurd h0 (List.append_ne_nil_of_right_ne_nil _ (List.cons_ne_nil _ _))⟩
      obtain ⟨rfl, ed⟩ := List.append_inj' h1 rfl
      obtain rfl : st[j] = d := (List.cons.inj ed).1
      subst h2
      have k03 : But [S, U] H H3 := k2.trans k3
      have hls3 := k03 _ _ nls hls
      obtain ⟨v, hv, l, z2, rfl, nl, hl, hz2, nz2⟩ := pair_at e3 (List.getElem?_eq_getElem hjl)
      have hl3 := k03 _ _ (fun z => nl (by simp only [List.mem_cons, List.mem_nil_iff, or_false] at z; rcases z with h | h <;> simp [h])) hl
      have hz23 := dvs_but k03 nSUT _ _ nz2 hz2
      refine ⟨_, rfl, _, rfl, ls, as, rfl, .inl (SqL.of hls3), _, _, rfl, rfl, _, rfl, _, _, rfl, rfl, ls, as, _, _, rfl, rfl, SqL.of hls3, (by rw [show (as.length : Int) - 1 - (i : Int) = ((j : Nat) : Int) by omega]; exact atI_nat hv), ?_⟩
      refine ⟨eD st[j], eD st[j], ⟨x, zs, rfl, SqL.of hx, hz⟩, ⟨l, z2, rfl, SqL.of hl3, hz23⟩, chs_shaped okd.1, chs_shaped okd.1, _, rfl, ?_⟩
      rw [show PyData.eqv (eD st[j]) (eD st[j]) = true from chs_eqv okd.1]
      refine iteF ?_
      obtain ⟨xs2, yy, exy, ev', _⟩ := paired_last ev
      obtain ⟨rfl, rfl⟩ : xs' = xs2 ∧ y = yy := ⟨(List.append_inj' exy rfl).1, (List.cons.inj (List.append_inj' exy rfl).2).1⟩
      obtain ⟨dx, hp⟩ := id L2.hp
      refine ⟨_, xs', _, rfl, P3, k03, ⟨⟨dx, k3 _ _ (by simp [L2.nS, L2.nU]) hp⟩, hS, hU, nSU⟩, ?_, by rw [List.length_append, List.length_singleton]; omega⟩
      rw [show st.length - (i + 1) = j by omega]
      exact EnL.but ev' k3 (noT_two L2.hS L2.hU) fun m hm => .inl hm
    rintro σ H2 ⟨o2, vs, ws, rfl, P2, k2, L2, ev, lw⟩
    rw [la, Nat.sub_self, List.take_zero] at ev
    refine ⟨_, rfl, P2, p, S, U, vs, ws, [], true, rfl, L2, ev, (fun e he => by cases he), by omega, (fun es' d xs' y h1 => absurd h1 (by simp)), fun _ H3 s3 P3 => ?_⟩
    refine ⟨.str "refused", .str "refused", rfl, rfl, (by decide +kernel), (by decide +kernel), ?_⟩
    rw [show PyData.eqv (.str "refused") (.str "refused") = true by decide +kernel]
    exact q H3 ((k2.mono (by simp)).trans (But.of s3)) P3
theorem sc__law_mixed : FnScope ["_law_cell", "_law_k", "_law_one", "_law_two", "_law_three", "_law_four"] ["_law_cell", "_law_k"] (defScope s__law_mixed) := by walk_at "sc"
-- HB
theorem ok__law_mixed (T : Txt K mg A)  : Ok__law_mixed P w K mg base A := by
  refine T.F__law_mixed.okN sc__law_mixed (fun vs H Q E h => ?_) (fun _ _ _ _ H vs Q E hr h => ?_)
  · obtain ⟨c, k, rfl, _⟩ := h
    rfl
  · obtain ⟨c, k, rfl, k0, k1, q⟩ := h
    refine ⟨_, (pss_cons (ps_set (i := 2) sc__law_mixed.nd rfl (Or.inl rfl) (pe_op op_add (pe_op op_add (pe_op op_mod (pe_op op_mul (pe_op op_add (pe_op op_mod (pv 0) pe_int) pe_int) pe_int) pe_int) (pe_op op_mul (pe_op op_mul (pv 1) (pv 1)) pe_int)) (pv 1)))
      (pss_cons (ps_set (i := 3) sc__law_mixed.nd rfl (Or.inl rfl) (pe_op op_fdiv (pe_op op_mod (pe_op op_mul (pv 2) pe_int) pe_int) pe_int))
      (pss_cons (ps_set (i := 4) sc__law_mixed.nd rfl (Or.inl rfl) (pe_op op_fdiv (pe_op op_mod (pe_op op_mul (pv 2) pe_int) pe_int) pe_int))
      (pss_cons (ps_set (i := 5) sc__law_mixed.nd rfl (Or.inl rfl) (pe_op op_fdiv (pe_op op_mod (pe_op op_add (pe_op op_mul (pv 3) pe_int) (pv 2)) pe_int) pe_int))
      (pss_one (ps_ret (pe_op op_add (pe_op op_mul (pe_op op_add (pe_op op_mul (pv 5) pe_int) (pv 4)) pe_int) (pv 3)))))))), ?_⟩
    walk_at "rd"
    refine ⟨Or.inl ⟨by omega, by omega⟩, ?_⟩
    walk_at "rd"
    exact q _
theorem sc_law : FnScope ["_law_script", "_law_logs", "_law_stand", "_law_gone", "_law_k", "_law_cell", "_law_number", "_law_at"] ["_law_script"] (defScope s_law) := by walk_at "sc"
-- HB
theorem ok_law (T : Txt K mg A) (G_Log____init__ : Ok_Log____init__ P w K mg base A) (G__law_told : Ok__law_told P w K mg base A) (G__law_deed : Ok__law_deed P w K mg base A) (G__law_emptied : Ok__law_emptied P w K mg base A) (G__law_mixed : Ok__law_mixed P w K mg base A) : Ok_law P w K mg base A := by
  have B_Log____init__ := T.b_Log____init__
  have B__law_told := T.b__law_told
  have B__law_deed := T.b__law_deed
  have B__law_emptied := T.b__law_emptied
  have B__law_mixed := T.b__law_mixed
  refine T.F_law.okN sc_law (fun vs H Q E h => ?_) (fun _ _ _ _ H vs Q E hr h => ?_)
  · obtain ⟨a, ns, rfl, _⟩ := h
    rfl
  · obtain ⟨a, ns, rfl, hS, hlen, k, hP⟩ := h
    refine ⟨_, (pss_cons (ps_set (i := 1) sc_law.nd rfl (Or.inl rfl) (pe_lst (pa_cons (pe_make0 T.mk_Log G_Log____init__ (hr.mono (by decide)) rfl T.g_Log B_Log____init__ .nil pass1) (pa_cons (pe_make0 T.mk_Log G_Log____init__ (hr.mono (by decide)) rfl T.g_Log B_Log____init__ .nil pass1) pa_nil))))
      (pss_cons (ps_set (i := 2) sc_law.nd rfl (Or.inl rfl) (pe_lst (pa_cons (pe_lst pa_nil) (pa_cons (pe_lst pa_nil) pa_nil))))
      (pss_cons (ps_set (i := 3) sc_law.nd rfl (Or.inl rfl) (pe_lst (pa_cons (pe_lst pa_nil) (pa_cons (pe_lst pa_nil) pa_nil))))
      (pss_cons (ps_for PassesOwn.never rfl (pi_enum rfl T.n_enumerate (by decide +kernel) (pa_cons (pe_slice sl_list (pv 0) po_none (po_some pe_int)) pa_nil)) (pg_tup rfl (pgs_cons (pg_name (i := 4) sc_law.nd rfl (Or.inl rfl)) (pgs_cons (pg_name (i := 5) sc_law.nd rfl (Or.inl rfl)) pgs_nil))) (pss_cons (ps_set (i := 6) sc_law.nd rfl (Or.inl rfl) (pv 5))
      (pss_cons (ps_if (pt_cmpR op_lt (pe_op op_mod (pv 5) pe_int) pe_int (nomark _)) (pss_one (ps_set (i := 6) sc_law.nd rfl (Or.inl rfl) (pe_call G__law_mixed (hr.mono (by decide)) rfl T.g__law_mixed T.k__law_mixed B__law_mixed .nil pass1 (pa_cons (pv 5) (pa_cons (pv 4) pa_nil))))) pss_nil)
      (pss_cons (ps_set (i := 7) sc_law.nd rfl (Or.inl rfl) (pe_op op_mod (pe_op op_fdiv (pv 6) pe_int) pe_int))
      (pss_cons (ps_if (pt_not (pt_val (pe_call G__law_deed (hr.mono (by decide)) rfl T.g__law_deed T.k__law_deed B__law_deed .nil pass1 (pa_cons (pe_ix ix_list (pv 1) (pv 7) (fun _ _ => rfl)) (pa_cons (pe_ix ix_list (pv 2) (pv 7) (fun _ _ => rfl)) (pa_cons (pe_ix ix_list (pv 3) (pv 7) (fun _ _ => rfl)) (pa_cons (pv 6) (pa_cons (pv 4) pa_nil)))))))) (pss_one (ps_ret pe_bl)) pss_nil)
      (pss_one (ps_if (PW.pt (pw_or (pt_not (pt_val (pe_call G__law_told (hr.mono (by decide)) rfl T.g__law_told T.k__law_told B__law_told .nil pass1 (pa_cons (pe_ix ix_list (pv 1) pe_int (fun _ _ => rfl)) (pa_cons (pe_ix ix_list (pv 2) pe_int (fun _ _ => rfl)) (pa_cons (pe_ix ix_list (pv 3) pe_int (fun _ _ => rfl)) (pa_cons (pv 6) pa_nil))))))) (pw_or1 (pt_not (pt_val (pe_call G__law_told (hr.mono (by decide)) rfl T.g__law_told T.k__law_told B__law_told .nil pass1 (pa_cons (pe_ix ix_list (pv 1) pe_int (fun _ _ => rfl)) (pa_cons (pe_ix ix_list (pv 2) pe_int (fun _ _ => rfl)) (pa_cons (pe_ix ix_list (pv 3) pe_int (fun _ _ => rfl)) (pa_cons (pv 6) pa_nil)))))))))) (pss_one (ps_ret pe_bl)) pss_nil)))))))
      (pss_one (ps_ret (pe_and (pe_call G__law_emptied (hr.mono (by decide)) rfl T.g__law_emptied T.k__law_emptied B__law_emptied .nil pass1 (pa_cons (pe_ix ix_list (pv 1) pe_int (fun _ _ => rfl)) (pa_cons (pe_ix ix_list (pv 2) pe_int (fun _ _ => rfl)) pa_nil))) (pe_one (pe_call G__law_emptied (hr.mono (by decide)) rfl T.g__law_emptied T.k__law_emptied B__law_emptied .nil pass1 (pa_cons (pe_ix ix_list (pv 1) pe_int (fun _ _ => rfl)) (pa_cons (pe_ix ix_list (pv 2) pe_int (fun _ _ => rfl)) pa_nil))))))))))), ?_⟩
    intro p0 dx0 np0 ndp0 nex0
    have sx0 : Same H (upd (upd H dx0 (.own p0)) p0 (.ins A.Log dx0 [])) := fun b o e => by
      rw [upd_ne (ne_of_none e np0), upd_ne (ne_of_none e ndp0)]
      exact e
    refine ⟨Plain.ins (hP.upd trivial), p0, dx0, rfl, upd_same, fun S0 U0 H1 nS0 nU0 L0 k1 P1 => ⟨rfl, ?_⟩⟩
    have s1 : Same H H1 := fun b o e => k1 b o (by simp [ne_of_none e np0]) (sx0 b o e)
    have nS0' : H S0 = none := sx0.free nS0
    have nU0' : H U0 = none := sx0.free nU0
    clear sx0
    intro p1 dx1 np1 ndp1 nex1
    have sx1 : Same H1 (upd (upd H1 dx1 (.own p1)) p1 (.ins A.Log dx1 [])) := fun b o e => by
      rw [upd_ne (ne_of_none e np1), upd_ne (ne_of_none e ndp1)]
      exact e
    refine ⟨Plain.ins (P1.upd trivial), p1, dx1, rfl, upd_same, fun S1 U1 H2 nS1 nU1 L1 k2 P2 => ⟨rfl, ?_⟩⟩
    have s2 : Same H1 H2 := fun b o e => k2 b o (by simp [ne_of_none e np1]) (sx1 b o e)
    have nS1' : H1 S1 = none := sx1.free nS1
    have nU1' : H1 U1 = none := sx1.free nU1
    clear sx1
    refine ⟨sz_2, fun lo hp3 => ?_⟩
    generalize hH3 : upd H2 lo (HO.lst _) = H3
    have s3 : Same H2 H3 := hH3 ▸ same_upd hp3
    have P3 : Plain H3 := hH3 ▸ P2.lst
    have h3 := (congrFun hH3 lo).symm.trans upd_same
    refine ⟨Nat.zero_le _, fun a0 hp4 => ?_⟩
    generalize hH4 : upd H3 a0 (HO.lst _) = H4
    have s4 : Same H3 H4 := hH4 ▸ same_upd hp4
    have P4 : Plain H4 := hH4 ▸ P3.lst
    have h4 := (congrFun hH4 a0).symm.trans upd_same
    refine ⟨Nat.zero_le _, fun a1 hp5 => ?_⟩
    generalize hH5 : upd H4 a1 (HO.lst _) = H5
    have s5 : Same H4 H5 := hH5 ▸ same_upd hp5
    have P5 : Plain H5 := hH5 ▸ P4.lst
    have h5 := (congrFun hH5 a1).symm.trans upd_same
    refine ⟨sz_2, fun sl hp6 => ?_⟩
    generalize hH6 : upd H5 sl (HO.lst _) = H6
    have s6 : Same H5 H6 := hH6 ▸ same_upd hp6
    have P6 : Plain H6 := hH6 ▸ P5.lst
    have h6 := (congrFun hH6 sl).symm.trans upd_same
    refine ⟨Nat.zero_le _, fun g0 hp7 => ?_⟩
    generalize hH7 : upd H6 g0 (HO.lst _) = H7
    have s7 : Same H6 H7 := hH7 ▸ same_upd hp7
    have P7 : Plain H7 := hH7 ▸ P6.lst
    have h7 := (congrFun hH7 g0).symm.trans upd_same
    refine ⟨Nat.zero_le _, fun g1 hp8 => ?_⟩
    generalize hH8 : upd H7 g1 (HO.lst _) = H8
    have s8 : Same H7 H8 := hH8 ▸ same_upd hp8
    have P8 : Plain H8 := hH8 ▸ P7.lst
    have h8 := (congrFun hH8 g1).symm.trans upd_same
    refine ⟨sz_2, fun gl hp9 => ?_⟩
    generalize hH9 : upd H8 gl (HO.lst _) = H9
    have s9 : Same H8 H9 := hH9 ▸ same_upd hp9
    have P9 : Plain H9 := hH9 ▸ P8.lst
    have h9 := (congrFun hH9 gl).symm.trans upd_same
    have sH9 : Same H H9 := s1.trans (s2.trans (s3.trans (s4.trans (s5.trans (s6.trans (s7.trans (s8.trans s9)))))))
    refine ⟨_, rfl, 60, rfl, a, _, rfl, sH9.seq hS, fun c1 hpc => ?_⟩
    have hci : ∀ x ∈ cutV (ns.map V.int) none (some 60), ∃ n, x = V.int n := fun x hx => by
      obtain ⟨i, hi⟩ := List.getElem?_of_mem hx
      exact cut_int hi
    have lc : (cutV (ns.map V.int) none (some 60)).length ≤ 60 := by
      unfold cutV
      rw [List.length_take, show HT.sIx (ns.map V.int).length (ns.map V.int).length (some 60) = min 60 (ns.map V.int).length from HT.sIx_nat ..]
      omega
    generalize cutV (ns.map V.int) none (some 60) = cells at hci lc hpc ⊢
    generalize hHc : upd H9 c1 (HO.lst _) = Hc
    have sc : Same H9 Hc := hHc ▸ same_upd hpc
    have Pc : Plain Hc := hHc ▸ P9.lst
    have hc := (congrFun hHc c1).symm.trans upd_same
    have s8c := s9.trans sc
    have s7c := s8.trans s8c
    have s6c := s7.trans s7c
    have s5c := s6.trans s6c
    have s4c := s5.trans s5c
    have s3c := s4.trans s4c
    have s2c := s3.trans s3c
    have s1c := s2.trans s2c
    have LL0 := L0.same s1c
    have LL1 := L1.same s2c
    obtain ⟨dq0, hq0⟩ := id LL0.hp
    obtain ⟨dq1, hq1⟩ := id LL1.hp
    have ha0 := s4c _ _ h4
    have ha1 := s5c _ _ h5
    have hg0 := s7c _ _ h7
    have hg1 := s8c _ _ h8
    obtain ⟨F, hF⟩ : ∃ F : Hp, F = fun b => if b ∈ [p0, S0, U0, a0, g0, p1, S1, U1, a1, g1] then none else Hc b := ⟨_, rfl⟩
    have Fn : ∀ b ∈ [p0, S0, U0, a0, g0, p1, S1, U1, a1, g1], F b = none := fun b hb => by rw [hF]; exact if_pos hb
    have Fh : Same F Hc := fun b o e => by
      have e : (if b ∈ [p0, S0, U0, a0, g0, p1, S1, U1, a1, g1] then none else Hc b) = some o := by rw [hF] at e; exact e
      split at e
      · cases e
      · exact e
    obtain ⟨db0, hb0⟩ := id L0.hp
    obtain ⟨db1, hb1⟩ := id L1.hp
    have n_S0_S1 : S0 ≠ S1 := ne_of_none (L0.hS) nS1'
    have n_S0_U1 : S0 ≠ U1 := ne_of_none (L0.hS) nU1'
    have n_S0_a0 : S0 ≠ a0 := ne_of_none ((Same.trans s2 s3) _ _ L0.hS) hp4
    have n_S0_a1 : S0 ≠ a1 := ne_of_none ((Same.trans (Same.trans s2 s3) s4) _ _ L0.hS) hp5
    have n_S0_c1 : S0 ≠ c1 := ne_of_none ((Same.trans (Same.trans (Same.trans (Same.trans (Same.trans (Same.trans (Same.trans s2 s3) s4) s5) s6) s7) s8) s9) _ _ L0.hS) hpc
    have n_S0_g0 : S0 ≠ g0 := ne_of_none ((Same.trans (Same.trans (Same.trans (Same.trans s2 s3) s4) s5) s6) _ _ L0.hS) hp7
    have n_S0_g1 : S0 ≠ g1 := ne_of_none ((Same.trans (Same.trans (Same.trans (Same.trans (Same.trans s2 s3) s4) s5) s6) s7) _ _ L0.hS) hp8
    have n_S0_gl : S0 ≠ gl := ne_of_none ((Same.trans (Same.trans (Same.trans (Same.trans (Same.trans (Same.trans s2 s3) s4) s5) s6) s7) s8) _ _ L0.hS) hp9
    have n_S0_lo : S0 ≠ lo := ne_of_none (s2 _ _ L0.hS) hp3
    have n_S0_p1 : S0 ≠ p1 := ne_of_none (L0.hS) np1
    have n_S0_sl : S0 ≠ sl := ne_of_none ((Same.trans (Same.trans (Same.trans s2 s3) s4) s5) _ _ L0.hS) hp6
    have n_S1_a0 : S1 ≠ a0 := ne_of_none (s3 _ _ L1.hS) hp4
    have n_S1_a1 : S1 ≠ a1 := ne_of_none ((Same.trans s3 s4) _ _ L1.hS) hp5
    have n_S1_c1 : S1 ≠ c1 := ne_of_none ((Same.trans (Same.trans (Same.trans (Same.trans (Same.trans (Same.trans s3 s4) s5) s6) s7) s8) s9) _ _ L1.hS) hpc
    have n_S1_g0 : S1 ≠ g0 := ne_of_none ((Same.trans (Same.trans (Same.trans s3 s4) s5) s6) _ _ L1.hS) hp7
    have n_S1_g1 : S1 ≠ g1 := ne_of_none ((Same.trans (Same.trans (Same.trans (Same.trans s3 s4) s5) s6) s7) _ _ L1.hS) hp8
    have n_S1_gl : S1 ≠ gl := ne_of_none ((Same.trans (Same.trans (Same.trans (Same.trans (Same.trans s3 s4) s5) s6) s7) s8) _ _ L1.hS) hp9
    have n_S1_lo : S1 ≠ lo := ne_of_none (L1.hS) hp3
    have n_S1_sl : S1 ≠ sl := ne_of_none ((Same.trans (Same.trans s3 s4) s5) _ _ L1.hS) hp6
    have n_U0_S1 : U0 ≠ S1 := ne_of_none (L0.hU) nS1'
    have n_U0_U1 : U0 ≠ U1 := ne_of_none (L0.hU) nU1'
    have n_U0_a0 : U0 ≠ a0 := ne_of_none ((Same.trans s2 s3) _ _ L0.hU) hp4
    have n_U0_a1 : U0 ≠ a1 := ne_of_none ((Same.trans (Same.trans s2 s3) s4) _ _ L0.hU) hp5
    have n_U0_c1 : U0 ≠ c1 := ne_of_none ((Same.trans (Same.trans (Same.trans (Same.trans (Same.trans (Same.trans (Same.trans s2 s3) s4) s5) s6) s7) s8) s9) _ _ L0.hU) hpc
    have n_U0_g0 : U0 ≠ g0 := ne_of_none ((Same.trans (Same.trans (Same.trans (Same.trans s2 s3) s4) s5) s6) _ _ L0.hU) hp7
    have n_U0_g1 : U0 ≠ g1 := ne_of_none ((Same.trans (Same.trans (Same.trans (Same.trans (Same.trans s2 s3) s4) s5) s6) s7) _ _ L0.hU) hp8
    have n_U0_gl : U0 ≠ gl := ne_of_none ((Same.trans (Same.trans (Same.trans (Same.trans (Same.trans (Same.trans s2 s3) s4) s5) s6) s7) s8) _ _ L0.hU) hp9
    have n_U0_lo : U0 ≠ lo := ne_of_none (s2 _ _ L0.hU) hp3
    have n_U0_p1 : U0 ≠ p1 := ne_of_none (L0.hU) np1
    have n_U0_sl : U0 ≠ sl := ne_of_none ((Same.trans (Same.trans (Same.trans s2 s3) s4) s5) _ _ L0.hU) hp6
    have n_U1_a0 : U1 ≠ a0 := ne_of_none (s3 _ _ L1.hU) hp4
    have n_U1_a1 : U1 ≠ a1 := ne_of_none ((Same.trans s3 s4) _ _ L1.hU) hp5
    have n_U1_c1 : U1 ≠ c1 := ne_of_none ((Same.trans (Same.trans (Same.trans (Same.trans (Same.trans (Same.trans s3 s4) s5) s6) s7) s8) s9) _ _ L1.hU) hpc
    have n_U1_g0 : U1 ≠ g0 := ne_of_none ((Same.trans (Same.trans (Same.trans s3 s4) s5) s6) _ _ L1.hU) hp7
    have n_U1_g1 : U1 ≠ g1 := ne_of_none ((Same.trans (Same.trans (Same.trans (Same.trans s3 s4) s5) s6) s7) _ _ L1.hU) hp8
    have n_U1_gl : U1 ≠ gl := ne_of_none ((Same.trans (Same.trans (Same.trans (Same.trans (Same.trans s3 s4) s5) s6) s7) s8) _ _ L1.hU) hp9
    have n_U1_lo : U1 ≠ lo := ne_of_none (L1.hU) hp3
    have n_U1_sl : U1 ≠ sl := ne_of_none ((Same.trans (Same.trans s3 s4) s5) _ _ L1.hU) hp6
    have n_a0_a1 : a0 ≠ a1 := ne_of_none (h4) hp5
    have n_a0_c1 : a0 ≠ c1 := ne_of_none ((Same.trans (Same.trans (Same.trans (Same.trans s5 s6) s7) s8) s9) _ _ h4) hpc
    have n_a0_g0 : a0 ≠ g0 := ne_of_none ((Same.trans s5 s6) _ _ h4) hp7
    have n_a0_g1 : a0 ≠ g1 := ne_of_none ((Same.trans (Same.trans s5 s6) s7) _ _ h4) hp8
    have n_a0_gl : a0 ≠ gl := ne_of_none ((Same.trans (Same.trans (Same.trans s5 s6) s7) s8) _ _ h4) hp9
    have n_a0_sl : a0 ≠ sl := ne_of_none (s5 _ _ h4) hp6
    have n_a1_c1 : a1 ≠ c1 := ne_of_none ((Same.trans (Same.trans (Same.trans s6 s7) s8) s9) _ _ h5) hpc
    have n_a1_g0 : a1 ≠ g0 := ne_of_none (s6 _ _ h5) hp7
    have n_a1_g1 : a1 ≠ g1 := ne_of_none ((Same.trans s6 s7) _ _ h5) hp8
    have n_a1_gl : a1 ≠ gl := ne_of_none ((Same.trans (Same.trans s6 s7) s8) _ _ h5) hp9
    have n_a1_sl : a1 ≠ sl := ne_of_none (h5) hp6
    have n_g0_c1 : g0 ≠ c1 := ne_of_none ((Same.trans s8 s9) _ _ h7) hpc
    have n_g0_g1 : g0 ≠ g1 := ne_of_none (h7) hp8
    have n_g0_gl : g0 ≠ gl := ne_of_none (s8 _ _ h7) hp9
    have n_g1_c1 : g1 ≠ c1 := ne_of_none (s9 _ _ h8) hpc
    have n_g1_gl : g1 ≠ gl := ne_of_none (h8) hp9
    have n_lo_a0 : lo ≠ a0 := ne_of_none (h3) hp4
    have n_lo_a1 : lo ≠ a1 := ne_of_none (s4 _ _ h3) hp5
    have n_lo_g0 : lo ≠ g0 := ne_of_none ((Same.trans (Same.trans s4 s5) s6) _ _ h3) hp7
    have n_lo_g1 : lo ≠ g1 := ne_of_none ((Same.trans (Same.trans (Same.trans s4 s5) s6) s7) _ _ h3) hp8
    have n_p0_S1 : p0 ≠ S1 := ne_of_none (hb0) nS1'
    have n_p0_U1 : p0 ≠ U1 := ne_of_none (hb0) nU1'
    have n_p0_a1 : p0 ≠ a1 := ne_of_none ((Same.trans (Same.trans s2 s3) s4) _ _ hb0) hp5
    have n_p0_c1 : p0 ≠ c1 := ne_of_none ((Same.trans (Same.trans (Same.trans (Same.trans (Same.trans (Same.trans (Same.trans s2 s3) s4) s5) s6) s7) s8) s9) _ _ hb0) hpc
    have n_p0_g1 : p0 ≠ g1 := ne_of_none ((Same.trans (Same.trans (Same.trans (Same.trans (Same.trans s2 s3) s4) s5) s6) s7) _ _ hb0) hp8
    have n_p0_gl : p0 ≠ gl := ne_of_none ((Same.trans (Same.trans (Same.trans (Same.trans (Same.trans (Same.trans s2 s3) s4) s5) s6) s7) s8) _ _ hb0) hp9
    have n_p0_lo : p0 ≠ lo := ne_of_none (s2 _ _ hb0) hp3
    have n_p0_p1 : p0 ≠ p1 := ne_of_none (hb0) np1
    have n_p0_sl : p0 ≠ sl := ne_of_none ((Same.trans (Same.trans (Same.trans s2 s3) s4) s5) _ _ hb0) hp6
    have n_p1_a0 : p1 ≠ a0 := ne_of_none (s3 _ _ hb1) hp4
    have n_p1_c1 : p1 ≠ c1 := ne_of_none ((Same.trans (Same.trans (Same.trans (Same.trans (Same.trans (Same.trans s3 s4) s5) s6) s7) s8) s9) _ _ hb1) hpc
    have n_p1_g0 : p1 ≠ g0 := ne_of_none ((Same.trans (Same.trans (Same.trans s3 s4) s5) s6) _ _ hb1) hp7
    have n_p1_gl : p1 ≠ gl := ne_of_none ((Same.trans (Same.trans (Same.trans (Same.trans (Same.trans s3 s4) s5) s6) s7) s8) _ _ hb1) hp9
    have n_p1_lo : p1 ≠ lo := ne_of_none (hb1) hp3
    have n_p1_sl : p1 ≠ sl := ne_of_none ((Same.trans (Same.trans s3 s4) s5) _ _ hb1) hp6
    have n_sl_g0 : sl ≠ g0 := ne_of_none (h6) hp7
    have n_sl_g1 : sl ≠ g1 := ne_of_none (s7 _ _ h6) hp8
    have no : ∀ b, b ∉ [p0, S0, U0, a0, g0, p1, S1, U1, a1, g1] → F b = Hc b := fun b hb => by rw [hF]; exact if_neg hb
    have hlo : F lo = some (.lst [.ref p0, .ref p1]) := (no lo (by simp [Ne.symm n_p0_lo, Ne.symm n_S0_lo, Ne.symm n_U0_lo, n_lo_a0, n_lo_g0, Ne.symm n_p1_lo, Ne.symm n_S1_lo, Ne.symm n_U1_lo, n_lo_a1, n_lo_g1])).trans (s3c _ _ h3)
    have hsl : F sl = some (.lst [.ref a0, .ref a1]) := (no sl (by simp [Ne.symm n_p0_sl, Ne.symm n_S0_sl, Ne.symm n_U0_sl, Ne.symm n_a0_sl, n_sl_g0, Ne.symm n_p1_sl, Ne.symm n_S1_sl, Ne.symm n_U1_sl, Ne.symm n_a1_sl, n_sl_g1])).trans (s6c _ _ h6)
    have hgl : F gl = some (.lst [.ref g0, .ref g1]) := (no gl (by simp [Ne.symm n_p0_gl, Ne.symm n_S0_gl, Ne.symm n_U0_gl, Ne.symm n_a0_gl, Ne.symm n_g0_gl, Ne.symm n_p1_gl, Ne.symm n_S1_gl, Ne.symm n_U1_gl, Ne.symm n_a1_gl, Ne.symm n_g1_gl])).trans (sc _ _ h9)
    have hc1 : F c1 = some (.lst cells) := (no c1 (by simp [Ne.symm n_p0_c1, Ne.symm n_S0_c1, Ne.symm n_U0_c1, Ne.symm n_a0_c1, Ne.symm n_g0_c1, Ne.symm n_p1_c1, Ne.symm n_S1_c1, Ne.symm n_U1_c1, Ne.symm n_a1_c1, Ne.symm n_g1_c1])).trans hc
    have tc : Two K A.Log F Hc p0 S0 U0 a0 g0 p1 S1 U1 a1 g1 [] [] [] [] := by
      refine ⟨⟨⟨[], [], [], [], LL0, ha0, hg0, .nil, .nil, .nil, .nil⟩, by simp [LL0.ne, n_S0_a0, n_S0_g0, n_U0_a0, n_U0_g0, n_a0_g0], fun m hm => Fn m (by simp only [List.mem_cons, List.mem_nil_iff, or_false] at hm; rcases hm with h | h | h | h | h <;> simp [h]), Fh, (fun c hc => by cases hc), fun c hc => by cases hc⟩, ⟨⟨[], [], [], [], LL1, ha1, hg1, .nil, .nil, .nil, .nil⟩, by simp [LL1.ne, n_S1_a1, n_S1_g1, n_U1_a1, n_U1_g1, n_a1_g1], fun m hm => Fn m (by simp only [List.mem_cons, List.mem_nil_iff, or_false] at hm; rcases hm with h | h | h | h | h <;> simp [h]), Fh, (fun c hc => by cases hc), fun c hc => by cases hc⟩, fun m hm => ?_⟩
      simp only [List.mem_cons, List.mem_nil_iff, or_false] at hm
      rcases hm with rfl | rfl | rfl | rfl | rfl
      · simp [n_p0_p1, n_p0_S1, n_p0_U1, n_p0_a1, n_p0_g1]
      · simp [n_S0_p1, n_S0_S1, n_S0_U1, n_S0_a1, n_S0_g1]
      · simp [n_U0_p1, n_U0_S1, n_U0_U1, n_U0_a1, n_U0_g1]
      · simp [Ne.symm n_p1_a0, Ne.symm n_S1_a0, Ne.symm n_U1_a0, n_a0_a1, n_a0_g1]
      · simp [Ne.symm n_p1_g0, Ne.symm n_S1_g0, Ne.symm n_U1_g0, Ne.symm n_a1_g0, n_g0_g1]
    refine ⟨c1, rfl, ⟨_, SqL.of hc⟩, for_enum (K := K) (a := c1) (xs := cells) (fun i σ H2 => ∃ (o4 o5 o6 o7 : Option V) (U0 U1 : Addr) (st0 un0 st1 un1 : List (List Chg)), σ = [some (.ref a), some (.ref lo), some (.ref sl), some (.ref gl), o4, o5, o6, o7] ∧ Plain H2 ∧ Two K A.Log F H2 p0 S0 U0 a0 g0 p1 S1 U1 a1 g1 st0 un0 st1 un1 ∧ (st0.length + un0.length) + (st1.length + un1.length) ≤ i)
      ⟨_, _, _, _, U0, U1, [], [], [], [], rfl, Pc, tc, Nat.le_refl _⟩ (fun i σ H2 _ ⟨_, _, _, _, _, _, _, _, _, _, _, _, t, _⟩ => SqL.of (t.x0.fh _ _ hc1)) ?_ ?_⟩
    · rintro i xc T' σ H2 hxc ⟨o4, o5, o6, o7, U0, U1, st0, un0, st1, un1, rfl, P2, t2, l2⟩ hT
      obtain ⟨cell, rfl⟩ := hci xc (List.mem_of_getElem? hxc)
      have hi := (List.getElem?_eq_some_iff.mp hxc).1
      refine ⟨T', _, rfl, SqT.of upd_same, rfl, _, _, rfl, _, _, rfl, rfl, ?_⟩
      have s3 : Same H2 (upd H2 T' (.tup [.int i, .int cell])) := same_upd hT
      have P3 : Plain (upd H2 T' (.tup [.int i, .int cell])) := P2.tup
      generalize upd H2 T' (.tup [.int i, .int cell]) = H3 at s3 P3 ⊢
      refine ⟨_, rfl, ?_⟩
      refine ⟨_, rfl, _, _, rfl, rfl, ip_7, _, _, rfl, rfl, _, rfl, ite2d (fun _ => ?yes) (fun _ => ?no)⟩
      case yes =>
        refine ⟨_, rfl, _, rfl, _, _, rfl, by omega, by omega, fun num => ?_⟩
        have z0 := Int.emod_nonneg (num / 5) (show (2 : Int) ≠ 0 by decide)
        have z1 := Int.emod_lt_of_pos (num / 5) (show (0 : Int) < 2 by decide)
        by_cases h2 : num / 5 % 2 = 0
        · have t3 := (t2).same s3
          have e0 : num / 5 % 2 = 0 := by omega
          refine ⟨_, rfl, _, _, rfl, rfl, ⟨by decide, by decide⟩, _, _, rfl, rfl, ip_2, ?_⟩
          dsimp only
          rw [e0]
          have F3 := t3.x0.fh
          refine ⟨_, rfl, _, rfl, lo, _, _, _, rfl, rfl, SqL.of (F3 _ _ hlo), rfl, _, rfl, _, rfl, sl, _, _, _, rfl, rfl, SqL.of (F3 _ _ hsl), rfl, _, rfl, _, rfl, gl, _, _, _, rfl, rfl, SqL.of (F3 _ _ hgl), rfl, _, rfl, _, rfl, P3, _, F, p0, S0, U0, a0, g0, st0, un0, num, _, rfl, t3.x0, (fun m hm => t3.x1.some_ m (List.mem_cons_of_mem _ hm)), by omega, fun W st' un' H4 x4 k4 hW l4 P4 => ⟨true, rfl, iteF ?_⟩⟩
          have t4 := (t3.deed x4 k4 hW)
          have F4 := t4.x0.fh
          refine ⟨_, rfl, lo, _, _, _, rfl, rfl, SqL.of (F4 _ _ hlo), rfl, _, rfl, sl, _, _, _, rfl, rfl, SqL.of (F4 _ _ hsl), rfl, _, rfl, gl, _, _, _, rfl, rfl, SqL.of (F4 _ _ hgl), rfl, _, rfl, P4, _, F, p0, S0, _, a0, g0, _, _, num, rfl, t4.x0, by omega, fun H5 s5 P5 => ⟨true, rfl, iteF ?_⟩⟩
          have t5 := t4.same s5
          have F5 := t5.x0.fh
          refine ⟨_, rfl, lo, _, _, _, rfl, rfl, SqL.of (F5 _ _ hlo), rfl, _, rfl, sl, _, _, _, rfl, rfl, SqL.of (F5 _ _ hsl), rfl, _, rfl, gl, _, _, _, rfl, rfl, SqL.of (F5 _ _ hgl), rfl, _, rfl, P5, _, F, p1, S1, _, a1, g1, _, _, num, rfl, t5.x1, by omega, fun H6 s6 P6 => ⟨true, rfl, iteF ?_⟩⟩
          exact ⟨_, _, _, _, _, _, _, _, _, _, rfl, P6, t5.same s6, by omega⟩
        · have t3 := (t2.flip).same s3
          have e0 : num / 5 % 2 = 1 := by omega
          refine ⟨_, rfl, _, _, rfl, rfl, ⟨by decide, by decide⟩, _, _, rfl, rfl, ip_2, ?_⟩
          dsimp only
          rw [e0]
          have F3 := t3.x0.fh
          refine ⟨_, rfl, _, rfl, lo, _, _, _, rfl, rfl, SqL.of (F3 _ _ hlo), rfl, _, rfl, _, rfl, sl, _, _, _, rfl, rfl, SqL.of (F3 _ _ hsl), rfl, _, rfl, _, rfl, gl, _, _, _, rfl, rfl, SqL.of (F3 _ _ hgl), rfl, _, rfl, _, rfl, P3, _, F, p1, S1, U1, a1, g1, st1, un1, num, _, rfl, t3.x0, (fun m hm => t3.x1.some_ m (List.mem_cons_of_mem _ hm)), by omega, fun W st' un' H4 x4 k4 hW l4 P4 => ⟨true, rfl, iteF ?_⟩⟩
          have t4 := (t3.deed x4 k4 hW).flip
          have F4 := t4.x0.fh
          refine ⟨_, rfl, lo, _, _, _, rfl, rfl, SqL.of (F4 _ _ hlo), rfl, _, rfl, sl, _, _, _, rfl, rfl, SqL.of (F4 _ _ hsl), rfl, _, rfl, gl, _, _, _, rfl, rfl, SqL.of (F4 _ _ hgl), rfl, _, rfl, P4, _, F, p0, S0, _, a0, g0, _, _, num, rfl, t4.x0, by omega, fun H5 s5 P5 => ⟨true, rfl, iteF ?_⟩⟩
          have t5 := t4.same s5
          have F5 := t5.x0.fh
          refine ⟨_, rfl, lo, _, _, _, rfl, rfl, SqL.of (F5 _ _ hlo), rfl, _, rfl, sl, _, _, _, rfl, rfl, SqL.of (F5 _ _ hsl), rfl, _, rfl, gl, _, _, _, rfl, rfl, SqL.of (F5 _ _ hgl), rfl, _, rfl, P5, _, F, p1, S1, _, a1, g1, _, _, num, rfl, t5.x1, by omega, fun H6 s6 P6 => ⟨true, rfl, iteF ?_⟩⟩
          exact ⟨_, _, _, _, _, _, _, _, _, _, rfl, P6, t5.same s6, by omega⟩
    
      case no =>
        obtain ⟨num, rfl⟩ : ∃ num, num = cell := ⟨_, rfl⟩
        have z0 := Int.emod_nonneg (num / 5) (show (2 : Int) ≠ 0 by decide)
        have z1 := Int.emod_lt_of_pos (num / 5) (show (0 : Int) < 2 by decide)
        by_cases h2 : num / 5 % 2 = 0
        · have t3 := (t2).same s3
          have e0 : num / 5 % 2 = 0 := by omega
          refine ⟨_, rfl, _, _, rfl, rfl, ⟨by decide, by decide⟩, _, _, rfl, rfl, ip_2, ?_⟩
          dsimp only
          rw [e0]
          have F3 := t3.x0.fh
          refine ⟨_, rfl, _, rfl, lo, _, _, _, rfl, rfl, SqL.of (F3 _ _ hlo), rfl, _, rfl, _, rfl, sl, _, _, _, rfl, rfl, SqL.of (F3 _ _ hsl), rfl, _, rfl, _, rfl, gl, _, _, _, rfl, rfl, SqL.of (F3 _ _ hgl), rfl, _, rfl, _, rfl, P3, _, F, p0, S0, U0, a0, g0, st0, un0, num, _, rfl, t3.x0, (fun m hm => t3.x1.some_ m (List.mem_cons_of_mem _ hm)), by omega, fun W st' un' H4 x4 k4 hW l4 P4 => ⟨true, rfl, iteF ?_⟩⟩
          have t4 := (t3.deed x4 k4 hW)
          have F4 := t4.x0.fh
          refine ⟨_, rfl, lo, _, _, _, rfl, rfl, SqL.of (F4 _ _ hlo), rfl, _, rfl, sl, _, _, _, rfl, rfl, SqL.of (F4 _ _ hsl), rfl, _, rfl, gl, _, _, _, rfl, rfl, SqL.of (F4 _ _ hgl), rfl, _, rfl, P4, _, F, p0, S0, _, a0, g0, _, _, num, rfl, t4.x0, by omega, fun H5 s5 P5 => ⟨true, rfl, iteF ?_⟩⟩
          have t5 := t4.same s5
          have F5 := t5.x0.fh
          refine ⟨_, rfl, lo, _, _, _, rfl, rfl, SqL.of (F5 _ _ hlo), rfl, _, rfl, sl, _, _, _, rfl, rfl, SqL.of (F5 _ _ hsl), rfl, _, rfl, gl, _, _, _, rfl, rfl, SqL.of (F5 _ _ hgl), rfl, _, rfl, P5, _, F, p1, S1, _, a1, g1, _, _, num, rfl, t5.x1, by omega, fun H6 s6 P6 => ⟨true, rfl, iteF ?_⟩⟩
          exact ⟨_, _, _, _, _, _, _, _, _, _, rfl, P6, t5.same s6, by omega⟩
        · have t3 := (t2.flip).same s3
          have e0 : num / 5 % 2 = 1 := by omega
          refine ⟨_, rfl, _, _, rfl, rfl, ⟨by decide, by decide⟩, _, _, rfl, rfl, ip_2, ?_⟩
          dsimp only
          rw [e0]
          have F3 := t3.x0.fh
          refine ⟨_, rfl, _, rfl, lo, _, _, _, rfl, rfl, SqL.of (F3 _ _ hlo), rfl, _, rfl, _, rfl, sl, _, _, _, rfl, rfl, SqL.of (F3 _ _ hsl), rfl, _, rfl, _, rfl, gl, _, _, _, rfl, rfl, SqL.of (F3 _ _ hgl), rfl, _, rfl, _, rfl, P3, _, F, p1, S1, U1, a1, g1, st1, un1, num, _, rfl, t3.x0, (fun m hm => t3.x1.some_ m (List.mem_cons_of_mem _ hm)), by omega, fun W st' un' H4 x4 k4 hW l4 P4 => ⟨true, rfl, iteF ?_⟩⟩
          have t4 := (t3.deed x4 k4 hW).flip
          have F4 := t4.x0.fh
          refine ⟨_, rfl, lo, _, _, _, rfl, rfl, SqL.of (F4 _ _ hlo), rfl, _, rfl, sl, _, _, _, rfl, rfl, SqL.of (F4 _ _ hsl), rfl, _, rfl, gl, _, _, _, rfl, rfl, SqL.of (F4 _ _ hgl), rfl, _, rfl, P4, _, F, p0, S0, _, a0, g0, _, _, num, rfl, t4.x0, by omega, fun H5 s5 P5 => ⟨true, rfl, iteF ?_⟩⟩
          have t5 := t4.same s5
          have F5 := t5.x0.fh
          refine ⟨_, rfl, lo, _, _, _, rfl, rfl, SqL.of (F5 _ _ hlo), rfl, _, rfl, sl, _, _, _, rfl, rfl, SqL.of (F5 _ _ hsl), rfl, _, rfl, gl, _, _, _, rfl, rfl, SqL.of (F5 _ _ hgl), rfl, _, rfl, P5, _, F, p1, S1, _, a1, g1, _, _, num, rfl, t5.x1, by omega, fun H6 s6 P6 => ⟨true, rfl, iteF ?_⟩⟩
          exact ⟨_, _, _, _, _, _, _, _, _, _, rfl, P6, t5.same s6, by omega⟩
    
    rintro σ H2 ⟨o4, o5, o6, o7, U0, U1, st0, un0, st1, un1, rfl, P2, t2, l2⟩
    have F2 := t2.x0.fh
    refine ⟨_, rfl, lo, _, _, _, rfl, rfl, SqL.of (F2 _ _ hlo), rfl, _, rfl, sl, _, _, _, rfl, rfl, SqL.of (F2 _ _ hsl), rfl, P2, _, F, p1, S1, U1, a1, g1, st1, un1, rfl, t2.x1, by omega, fun H3 k3 P3 => ⟨true, rfl, iteT ?_⟩⟩
    have x3 := t2.x0.but (W := S1) (M' := []) k3 t2.x1.noT t2.x1.ins_ (fun m hm => t2.nd m hm) t2.x1.fn (.inl (by simp)) (fun m hm => by cases hm)
    have F3 := x3.fh
    exact ⟨_, rfl, lo, _, _, _, rfl, rfl, SqL.of (F3 _ _ hlo), rfl, _, rfl, sl, _, _, _, rfl, rfl, SqL.of (F3 _ _ hsl), rfl, P3, _, F, p0, S0, U0, a0, g0, st0, un0, rfl, x3, by omega, fun H4 _ _ => k H4⟩
end
theorem ln_1 {us : List Value} (h : us.length = 1) : ∃ a0, us = [a0] := match us, h with | [a0], _ => ⟨a0, rfl⟩
theorem ln_2 {us : List Value} (h : us.length = 2) : ∃ a0 a1, us = [a0, a1] := match us, h with | [a0, a1], _ => ⟨a0, a1, rfl⟩
theorem ln_4 {us : List Value} (h : us.length = 4) : ∃ a0 a1 a2 a3, us = [a0, a1, a2, a3] := match us, h with | [a0, a1, a2, a3], _ => ⟨a0, a1, a2, a3, rfl⟩
theorem ln_5 {us : List Value} (h : us.length = 5) : ∃ a0 a1 a2 a3 a4, us = [a0, a1, a2, a3, a4] := match us, h with | [a0, a1, a2, a3, a4], _ => ⟨a0, a1, a2, a3, a4, rfl⟩
set_option maxHeartbeats 0 in
theorem all_mk {l : PySem.W.OpenLaw} {w : World} {K : PySem.W.Frag} {h : Heap} {mg : Str → Option Value} {fa : Addr} (X : K.In h) (G : h.Ns mainGlobals mg) (hfa : mg "law" = some (.ref fa))
    {f_last_over : Addr} {d_last_over : FuncData}
    {f_Log____init__ : Addr} {d_Log____init__ : FuncData}
    {f_Log__forget : Addr} {d_Log__forget : FuncData}
    {f_Log__add : Addr} {d_Log__add : FuncData}
    {f_Log__undo : Addr} {d_Log__undo : FuncData}
    {f_Log__again : Addr} {d_Log__again : FuncData}
    {f_Log__many : Addr} {d_Log__many : FuncData}
    {f_Log__touched : Addr} {d_Log__touched : FuncData}
    {f__law_entry : Addr} {d__law_entry : FuncData}
    {f__law_changed : Addr} {d__law_changed : FuncData}
    {f__law_turned : Addr} {d__law_turned : FuncData}
    {f__law_marks : Addr} {d__law_marks : FuncData}
    {f__law_told : Addr} {d__law_told : FuncData}
    {f__law_deed : Addr} {d__law_deed : FuncData}
    {f__law_emptied : Addr} {d__law_emptied : FuncData}
    {f__law_mixed : Addr} {d__law_mixed : FuncData}
    {f_law : Addr} {d_law : FuncData}
    {C_DraftError : Addr}
    {C_Log : Addr}
    {C_NoDeed : Addr}
    (a_last_over : PySem.W.nsIn K mainGlobals "last_over" = some (some (.ref f_last_over))) (F_last_over : Fun K "last_over" "last_over" s_last_over f_last_over d_last_over)
    (a_Log____init__ : PySem.W.findIn K (.ref C_Log) "__init__" = some (some (.ref f_Log____init__))) (i_Log____init__ : PySem.W.isFn K (.ref f_Log____init__) = true) (F_Log____init__ : Fun K "__init__" "Log.__init__" s_Log____init__ f_Log____init__ d_Log____init__)
    (a_Log__forget : PySem.W.findIn K (.ref C_Log) "forget" = some (some (.ref f_Log__forget))) (i_Log__forget : PySem.W.isFn K (.ref f_Log__forget) = true) (F_Log__forget : Fun K "forget" "Log.forget" s_Log__forget f_Log__forget d_Log__forget)
    (a_Log__add : PySem.W.findIn K (.ref C_Log) "add" = some (some (.ref f_Log__add))) (i_Log__add : PySem.W.isFn K (.ref f_Log__add) = true) (F_Log__add : Fun K "add" "Log.add" s_Log__add f_Log__add d_Log__add)
    (a_Log__undo : PySem.W.findIn K (.ref C_Log) "undo" = some (some (.ref f_Log__undo))) (i_Log__undo : PySem.W.isFn K (.ref f_Log__undo) = true) (F_Log__undo : Fun K "undo" "Log.undo" s_Log__undo f_Log__undo d_Log__undo)
    (a_Log__again : PySem.W.findIn K (.ref C_Log) "again" = some (some (.ref f_Log__again))) (i_Log__again : PySem.W.isFn K (.ref f_Log__again) = true) (F_Log__again : Fun K "again" "Log.again" s_Log__again f_Log__again d_Log__again)
    (a_Log__many : PySem.W.findIn K (.ref C_Log) "many" = some (some (.ref f_Log__many))) (i_Log__many : PySem.W.isFn K (.ref f_Log__many) = true) (F_Log__many : Fun K "many" "Log.many" s_Log__many f_Log__many d_Log__many)
    (a_Log__touched : PySem.W.findIn K (.ref C_Log) "touched" = some (some (.ref f_Log__touched))) (i_Log__touched : PySem.W.isFn K (.ref f_Log__touched) = true) (F_Log__touched : Fun K "touched" "Log.touched" s_Log__touched f_Log__touched d_Log__touched)
    (a__law_entry : PySem.W.nsIn K mainGlobals "_law_entry" = some (some (.ref f__law_entry))) (F__law_entry : Fun K "_law_entry" "_law_entry" s__law_entry f__law_entry d__law_entry)
    (a__law_changed : PySem.W.nsIn K mainGlobals "_law_changed" = some (some (.ref f__law_changed))) (F__law_changed : Fun K "_law_changed" "_law_changed" s__law_changed f__law_changed d__law_changed)
    (a__law_turned : PySem.W.nsIn K mainGlobals "_law_turned" = some (some (.ref f__law_turned))) (F__law_turned : Fun K "_law_turned" "_law_turned" s__law_turned f__law_turned d__law_turned)
    (a__law_marks : PySem.W.nsIn K mainGlobals "_law_marks" = some (some (.ref f__law_marks))) (F__law_marks : Fun K "_law_marks" "_law_marks" s__law_marks f__law_marks d__law_marks)
    (a__law_told : PySem.W.nsIn K mainGlobals "_law_told" = some (some (.ref f__law_told))) (F__law_told : Fun K "_law_told" "_law_told" s__law_told f__law_told d__law_told)
    (a__law_deed : PySem.W.nsIn K mainGlobals "_law_deed" = some (some (.ref f__law_deed))) (F__law_deed : Fun K "_law_deed" "_law_deed" s__law_deed f__law_deed d__law_deed)
    (a__law_emptied : PySem.W.nsIn K mainGlobals "_law_emptied" = some (some (.ref f__law_emptied))) (F__law_emptied : Fun K "_law_emptied" "_law_emptied" s__law_emptied f__law_emptied d__law_emptied)
    (a__law_mixed : PySem.W.nsIn K mainGlobals "_law_mixed" = some (some (.ref f__law_mixed))) (F__law_mixed : Fun K "_law_mixed" "_law_mixed" s__law_mixed f__law_mixed d__law_mixed)
    (a_law : PySem.W.nsIn K mainGlobals "law" = some (some (.ref f_law))) (F_law : Fun K "law" "law" s_law f_law d_law)
    (q_DraftError : PySem.W.nsIn K mainGlobals "DraftError" = some (some (.ref C_DraftError)))
    (x_DraftError : XCls K C_DraftError)
    (q_Log : PySem.W.nsIn K mainGlobals "Log" = some (some (.ref C_Log)))
    (pg_Log : PySem.W.plainGet K C_Log Str.empty = true) (hd_Log : PySem.W.hasDictIn K C_Log = true) (po_Log : PySem.W.plainOver K C_Log = true) (sa_Log : PySem.W.findIn K (.ref C_Log) "__setattr__" = some (some (.builtin "object.__setattr__"))) (mk_Log : PySem.W.makesIn K C_Log = true) (kc_Log : PySem.W.keepIn K (.ref C_Log) = true)
    (na_Log_standing : PySem.W.findIn K (.ref C_Log) "standing" = some none)
    (na_Log_undone : PySem.W.findIn K (.ref C_Log) "undone" = some none)
    (q_NoDeed : PySem.W.nsIn K mainGlobals "NoDeed" = some (some (.ref C_NoDeed)))
    (x_NoDeed : XCls K C_NoDeed)
    (m_nd : PySem.W.mroIn K C_NoDeed (.ref C_DraftError) = some true)
    (n_enumerate : PySem.W.nsIn K mainGlobals "enumerate" = some none)
    (n_len : PySem.W.nsIn K mainGlobals "len" = some none)
    (n_list : PySem.W.nsIn K mainGlobals "list" = some none)
    (n_range : PySem.W.nsIn K mainGlobals "range" = some none)
    (n_set : PySem.W.nsIn K mainGlobals "set" = some none)
    (n_sorted : PySem.W.nsIn K mainGlobals "sorted" = some none)
    : ∃ fd : FuncData, (∀ (s : Shared) (v : Value), BindsTo s fd ⟨[v], []⟩ [("_law_script", v)]) ∧ ∀ base : Heap, K.In base → base.Ns mainGlobals mg → FnOk l.prog w K mg base (CX1 l.prog w base) 5 fa fd ["_law_script"] (sp_law K) := by
  have e := hfa.symm.trans (PySem.W.mg_of X G a_law)
  cases e
  obtain ⟨oc_law, od_law, kV_law, dc_law, pm_law, an_law, cd_law, ct_law, sl_law, rfl, l_law, c_law⟩ := id F_law.ex
  have T : Txt K mg ⟨f_last_over, d_last_over, f_Log____init__, d_Log____init__, f_Log__forget, d_Log__forget, f_Log__add, d_Log__add, f_Log__undo, d_Log__undo, f_Log__again, d_Log__again, f_Log__many, d_Log__many, f_Log__touched, d_Log__touched, f__law_entry, d__law_entry, f__law_changed, d__law_changed, f__law_turned, d__law_turned, f__law_marks, d__law_marks, f__law_told, d__law_told, f__law_deed, d__law_deed, f__law_emptied, d__law_emptied, f__law_mixed, d__law_mixed, fa, _, C_DraftError, C_Log, C_NoDeed⟩ := ⟨F_last_over, (PySem.W.mg_of X G a_last_over), F_last_over.kp, (F_last_over.binds fun _ _ _ _ _ _ us hl => by obtain ⟨a0, a1, rfl⟩ := ln_2 hl; rfl), F_Log____init__, (F_Log____init__.binds fun _ _ _ _ _ _ us hl => by obtain ⟨a0, rfl⟩ := ln_1 hl; rfl), ⟨mk_Log, a_Log____init__, i_Log____init__, kc_Log⟩, F_Log__forget, (F_Log__forget.binds fun _ _ _ _ _ _ us hl => by obtain ⟨a0, rfl⟩ := ln_1 hl; rfl), ⟨a_Log__forget, i_Log__forget, F_Log__forget.kp⟩, F_Log__add, (F_Log__add.binds fun _ _ _ _ _ _ us hl => by obtain ⟨a0, a1, rfl⟩ := ln_2 hl; rfl), ⟨a_Log__add, i_Log__add, F_Log__add.kp⟩, F_Log__undo, (F_Log__undo.binds fun _ _ _ _ _ _ us hl => by obtain ⟨a0, rfl⟩ := ln_1 hl; rfl), ⟨a_Log__undo, i_Log__undo, F_Log__undo.kp⟩, F_Log__again, (F_Log__again.binds fun _ _ _ _ _ _ us hl => by obtain ⟨a0, rfl⟩ := ln_1 hl; rfl), ⟨a_Log__again, i_Log__again, F_Log__again.kp⟩, F_Log__many, (F_Log__many.binds fun _ _ _ _ _ _ us hl => by obtain ⟨a0, rfl⟩ := ln_1 hl; rfl), ⟨a_Log__many, i_Log__many, F_Log__many.kp⟩, F_Log__touched, (F_Log__touched.binds fun _ _ _ _ _ _ us hl => by obtain ⟨a0, rfl⟩ := ln_1 hl; rfl), ⟨a_Log__touched, i_Log__touched, F_Log__touched.kp⟩, F__law_entry, (PySem.W.mg_of X G a__law_entry), F__law_entry.kp, (F__law_entry.binds fun _ _ _ _ _ _ us hl => by obtain ⟨a0, a1, rfl⟩ := ln_2 hl; rfl), F__law_changed, (PySem.W.mg_of X G a__law_changed), F__law_changed.kp, (F__law_changed.binds fun _ _ _ _ _ _ us hl => by obtain ⟨a0, a1, rfl⟩ := ln_2 hl; rfl), F__law_turned, (PySem.W.mg_of X G a__law_turned), F__law_turned.kp, (F__law_turned.binds fun _ _ _ _ _ _ us hl => by obtain ⟨a0, a1, rfl⟩ := ln_2 hl; rfl), F__law_marks, (PySem.W.mg_of X G a__law_marks), F__law_marks.kp, (F__law_marks.binds fun _ _ _ _ _ _ us hl => by obtain ⟨a0, rfl⟩ := ln_1 hl; rfl), F__law_told, (PySem.W.mg_of X G a__law_told), F__law_told.kp, (F__law_told.binds fun _ _ _ _ _ _ us hl => by obtain ⟨a0, a1, a2, a3, rfl⟩ := ln_4 hl; rfl), F__law_deed, (PySem.W.mg_of X G a__law_deed), F__law_deed.kp, (F__law_deed.binds fun _ _ _ _ _ _ us hl => by obtain ⟨a0, a1, a2, a3, a4, rfl⟩ := ln_5 hl; rfl), F__law_emptied, (PySem.W.mg_of X G a__law_emptied), F__law_emptied.kp, (F__law_emptied.binds fun _ _ _ _ _ _ us hl => by obtain ⟨a0, a1, rfl⟩ := ln_2 hl; rfl), F__law_mixed, (PySem.W.mg_of X G a__law_mixed), F__law_mixed.kp, (F__law_mixed.binds fun _ _ _ _ _ _ us hl => by obtain ⟨a0, a1, rfl⟩ := ln_2 hl; rfl), F_law, (PySem.W.mg_of X G a_law), F_law.kp, (F_law.binds fun _ _ _ _ _ _ us hl => match us, hl with | [_], _ => rfl), (PySem.W.mg_of X G q_DraftError), x_DraftError, (PySem.W.mg_of X G q_Log), ⟨pg_Log, hd_Log, po_Log, sa_Log⟩, na_Log_standing, na_Log_undone, (PySem.W.mg_of X G q_NoDeed), x_NoDeed, m_nd, (PySem.W.mg_none_of X G n_enumerate), (PySem.W.mg_none_of X G n_len), (PySem.W.mg_none_of X G n_list), (PySem.W.mg_none_of X G n_range), (PySem.W.mg_none_of X G n_set), (PySem.W.mg_none_of X G n_sorted)⟩
  refine ⟨PySem.W.fnOf "law" "law" (defArgs s_law) (defBody s_law) (defScope s_law) .none kV_law dc_law pm_law an_law cd_law ct_law, fun s v => .of_eq rfl, fun base _ _ => ?_⟩
  have G_last_over := ok_last_over (P := l.prog) (w := w) (base := base) T 
  have G_Log____init__ := ok_Log____init__ (P := l.prog) (w := w) (base := base) T 
  have G_Log__forget := ok_Log__forget (P := l.prog) (w := w) (base := base) T 
  have G_Log__add := ok_Log__add (P := l.prog) (w := w) (base := base) T G_Log__forget
  have G_Log__undo := ok_Log__undo (P := l.prog) (w := w) (base := base) T G_last_over
  have G_Log__again := ok_Log__again (P := l.prog) (w := w) (base := base) T G_last_over
  have G_Log__many := ok_Log__many (P := l.prog) (w := w) (base := base) T 
  have G_Log__touched := ok_Log__touched (P := l.prog) (w := w) (base := base) T 
  have G__law_entry := ok__law_entry (P := l.prog) (w := w) (base := base) T 
  have G__law_changed := ok__law_changed (P := l.prog) (w := w) (base := base) T 
  have G__law_turned := ok__law_turned (P := l.prog) (w := w) (base := base) T G_Log__undo G_Log__again
  have G__law_marks := ok__law_marks (P := l.prog) (w := w) (base := base) T 
  have G__law_told := ok__law_told (P := l.prog) (w := w) (base := base) T G_Log__many G_Log__touched G__law_marks
  have G__law_deed := ok__law_deed (P := l.prog) (w := w) (base := base) T G_Log__add G__law_entry G__law_changed G__law_turned
  have G__law_emptied := ok__law_emptied (P := l.prog) (w := w) (base := base) T G__law_turned
  have G__law_mixed := ok__law_mixed (P := l.prog) (w := w) (base := base) T 
  have G_law := ok_law (P := l.prog) (w := w) (base := base) T G_Log____init__ G__law_told G__law_deed G__law_emptied G__law_mixed
  exact G_law
theorem walk {l : PySem.W.OpenLaw} {q : Program} {loose : List Str} {XP : (Str → Option Value) → Heap → Prop} {YP : World → Heap → Prop} {d : DefRec} {K : Params → PySem.W.Frag} (hn : l.most = some 63) (hdf : d.params.defaults = [])
    (hY : ∀ (w : World) (h : Heap), YP w h → (K w.params).In h)
    (F : ∀ (w : World) (mg : Str → Option Value) (fa : Addr) (h : Heap), (K w.params).In h → h.Ns mainGlobals mg → mg d.name = some (.ref fa) →
      ∃ fd : FuncData, (∀ (s : Shared) (u : Value), BindsTo s fd ⟨[u], []⟩ [("_law_script", u)]) ∧ ∀ base : Heap, (K w.params).In base → base.Ns mainGlobals mg → FnOk l.prog w (K w.params) mg base (CX1 l.prog w base) 5 fa fd ["_law_script"] (sp_law (K w.params))) :
    PySem.W.WalkO q loose XP YP l.row.toRowW d [] (fun f vs => PySem.call f vs) :=
  walk_ofX (n := 63) (k := 5) (x := "_law_script") (sp := fun w => sp_law (K w.params)) hn (by decide) hdf ⟨rfl, by decide, by decide⟩ hY F (fun _ _ a ns hl hO hS => ⟨a, ns, rfl, hS, hl, fun _ => rfl, hO.plain⟩)
end My
open PySem PySem.W PyProof.Rows
open Lean in
local macro_rules
  | `(tactic| o_head $H) => do
    let (hl, hw, hc) := (mkIdent `hl, mkIdent `hw, mkIdent `hc)
    `(tactic| refine PySem.W.holds_open (q := My.viewQ) (loose := []) (Xt := fun s => xlAt My.viewQ [] s && recOk (RowW.records PySem.Challenge.rw_twotabs_k19_log_shared.row.toRowW) s) (XP := XL My.viewQ []) (Yf := Hook.obs $H) (Ya := Hook.val $H) (YP := Hook.says $H) (N := 2554) ?$hl (Hook.of $H) (Hook.keeps $H) (fun s e => xl_of s (Bool.and_eq_true_iff.mp e).1) XL.keeps (by rfl) (by rfl) (by rfl) (fun s e => recFacts_of (Bool.and_eq_true_iff.mp e).2) (by rfl) (by assumption) (by decide +kernel) ⟨rfl, rfl, rfl, rfl, rfl, by decide +kernel⟩ ?$hw ?$hc)
local macro_rules | `(tactic| walk_at "fn") => `(tactic| (refine' L2.fun_mk ?l ?c ?k; (case l => k_is); (case c => k_is); (case k => k_is)))
set_option maxRecDepth 100000 in
set_option maxHeartbeats 0 in
theorem PySem.Challenge.cw_twotabs_k19_log_shared_holds : PySem.Challenge.rw_twotabs_k19_log_shared.Holds := by
  w_on; o_law; k_head; (case hw => w_witness2); (case hl => exact My.hlQ)
  k_fill
  refine My.walk (l := PySem.Challenge.rw_twotabs_k19_log_shared) rfl rfl (fun w h Y => PySem.W.kIn_of Y) ?F
  case F =>
    intro w mg fa h KX G hmg
    refine' My.all_mk KX G hmg ?a_last_over ?F_last_over ?a_Log____init__ ?i_Log____init__ ?F_Log____init__ ?a_Log__forget ?i_Log__forget ?F_Log__forget ?a_Log__add ?i_Log__add ?F_Log__add ?a_Log__undo ?i_Log__undo ?F_Log__undo ?a_Log__again ?i_Log__again ?F_Log__again ?a_Log__many ?i_Log__many ?F_Log__many ?a_Log__touched ?i_Log__touched ?F_Log__touched ?a__law_entry ?F__law_entry ?a__law_changed ?F__law_changed ?a__law_turned ?F__law_turned ?a__law_marks ?F__law_marks ?a__law_told ?F__law_told ?a__law_deed ?F__law_deed ?a__law_emptied ?F__law_emptied ?a__law_mixed ?F__law_mixed ?a_law ?F_law ?q_DraftError ?x_DraftError ?q_Log ?pg_Log ?hd_Log ?po_Log ?sa_Log ?mk_Log ?kc_Log ?na_Log_standing ?na_Log_undone ?q_NoDeed ?x_NoDeed ?m_nd ?n_enumerate ?n_len ?n_list ?n_range ?n_set ?n_sorted
    (case q_Log => k_is)
    (case a_last_over => k_is)
    (case F_last_over => walk_at "fn")
    (case a_Log____init__ => k_is)
    (case i_Log____init__ => k_is)
    (case F_Log____init__ => walk_at "fn")
    (case a_Log__forget => k_is)
    (case i_Log__forget => k_is)
    (case F_Log__forget => walk_at "fn")
    (case a_Log__add => k_is)
    (case i_Log__add => k_is)
    (case F_Log__add => walk_at "fn")
    (case a_Log__undo => k_is)
    (case i_Log__undo => k_is)
    (case F_Log__undo => walk_at "fn")
    (case a_Log__again => k_is)
    (case i_Log__again => k_is)
    (case F_Log__again => walk_at "fn")
    (case a_Log__many => k_is)
    (case i_Log__many => k_is)
    (case F_Log__many => walk_at "fn")
    (case a_Log__touched => k_is)
    (case i_Log__touched => k_is)
    (case F_Log__touched => walk_at "fn")
    (case a__law_entry => k_is)
    (case F__law_entry => walk_at "fn")
    (case a__law_changed => k_is)
    (case F__law_changed => walk_at "fn")
    (case a__law_turned => k_is)
    (case F__law_turned => walk_at "fn")
    (case a__law_marks => k_is)
    (case F__law_marks => walk_at "fn")
    (case a__law_told => k_is)
    (case F__law_told => walk_at "fn")
    (case a__law_deed => k_is)
    (case F__law_deed => walk_at "fn")
    (case a__law_emptied => k_is)
    (case F__law_emptied => walk_at "fn")
    (case a__law_mixed => k_is)
    (case F__law_mixed => walk_at "fn")
    (case a_law => k_is)
    (case F_law => walk_at "fn")
    (case q_DraftError => k_is)
    (case x_DraftError => refine' L2.XCls.mk ?_ ?_ ?_ ?_ ?_ ?_ ?_ ?_ ?_; all_goals (first | k_is | k_exc))
    (case pg_Log => k_is)
    (case hd_Log => k_is)
    (case po_Log => k_is)
    (case sa_Log => k_is)
    (case mk_Log => k_is)
    (case kc_Log => k_is)
    (case na_Log_standing => k_is)
    (case na_Log_undone => k_is)
    (case q_NoDeed => k_is)
    (case x_NoDeed => refine' L2.XCls.mk ?_ ?_ ?_ ?_ ?_ ?_ ?_ ?_ ?_; all_goals (first | k_is | k_exc))
    (case m_nd => first | k_is | kit_is)
    (case n_enumerate => k_is)
    (case n_len => k_is)
    (case n_list => k_is)
    (case n_range => k_is)
    (case n_set => k_is)
    (case n_sorted => k_is)
