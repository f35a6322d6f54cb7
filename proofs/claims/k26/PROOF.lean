import PyProof.Rows.All
import Wide.All
import OpenK.AllK
import Wide.FinOn
import Lean
import PyProof.EqAt
import PyProof.EqKinds
import PyProof.TupleCall
import PySem.Challenge.RW_twotabs_k26_since_and_trails
set_option Elab.async false
set_option linter.all false
set_option genSizeOfSpec false
set_option genSizeOf false
set_option maxRecDepth 100000
namespace My
open PySem PySem.W PyProof.Rows
/-- the top's run over a heap that is a tree -/
noncomputable def topRunT (tb : String → Option Builtin) (p : Program) (w : World) (n0 : Nat) (ann : Option Value) : Nat → SharedT → Thread → Option SharedT
  | 0, _, _ => none
  | n + 1, s, t => match through t with
    | true => some s
    | false => match stepOk n0 ann t with
      | false => none
      | true => match stepT (denote tb) p w s t with
        | some (s', t') => topRunT tb p w n0 ann n s' t'
        | none => none
theorem topRun_of {tb : String → Option Builtin} {p : Program} {w : World} {n0 : Nat} {ann : Option Value} : ∀ {n : Nat} {s s' : SharedT} {t : Thread}, topRunT tb p w n0 ann n s t = some s' → topRun tb p w n0 ann n s.abs t = some s'.abs
  | 0, _, _, _, h => by cases h
  | n + 1, s, s', t, h => by
    unfold topRunT at h
    unfold topRun
    cases he : through t with
    | true => rw [he] at h; cases h; rfl
    | false =>
      rw [he] at h
      cases hk : stepOk n0 ann t with
      | false => rw [hk] at h; cases h
      | true =>
        rw [hk] at h
        cases hs : stepT (denote tb) p w s t with
        | none => rw [hs] at h; cases h
        | some r => obtain ⟨s2, t2⟩ := r; rw [hs] at h; rw [stepT_spec hs]; exact topRun_of h
noncomputable def treeOf (l : List Obj) : BT := (l.foldl (fun x o => (x.1.ins x.2 o, x.2 + 1)) (BT.nil, 0)).1
theorem left_tree {p q : Program} {loose : List Str} {Xt : Shared → Bool} {α : Type} {Yf : Shared → α} {Ya : World → α} {N : Nat} {g0 : Bool} {m0 : Nat} {T0 : Params → BT} {L0 : Params → Life}
    (e : opening p = plainProg p.main.scope.names) (hN : Nat.ble 600 N = true) (f : ∀ s, fenceModules? p s = some s)
    (hT : ∀ P : Params, absHeap (T0 P) m0 (L0 P) = boot_heap P)
    (size : ∀ P : Params, ((boot_heap P).isNs mainGlobals, (boot_heap P).objs.size) = (true, m0))
    (all : ∀ w : World, (fun os => (topRunT treeTable p w m0 ((boot_heap w.params).nsMap mainGlobals "__annotations__") N ⟨T0 w.params, m0, L0 w.params, Array.mk [], boot_drawn, boot_toks, os⟩ (topStub p)).map fun s => (fun r : Shared => ((staticsOk (importedModules p.main.body) (boot_heap w.params) r.heap && namesBound p r.heap && gensDone r && laidKept (boot_heap w.params) r.heap), openSeen q loose (importedModules p.main.body) Xt g0 r, Yf r)) s.abs) = fun _ => some (true, openGood q loose, Ya w)) :
    LeftO p q loose Xt Yf Ya N g0 := fun w => by
  obtain ⟨⟨h, gs, d, k, os⟩, e1, e2⟩ := Option.map_eq_some_iff.mp (boot_open e hN f w)
  obtain ⟨rfl, rfl, rfl, rfl⟩ : h = boot_heap w.params ∧ gs = Array.mk [] ∧ d = boot_drawn ∧ k = boot_toks := by simpa using e2
  obtain ⟨z1, z2⟩ : _ ∧ _ := by simpa only [Prod.mk.injEq] using size w.params
  obtain ⟨s, h1, h2⟩ := Option.map_eq_some_iff.mp (congrFun (all w) os)
  obtain ⟨l1, l2, l3⟩ : _ ∧ _ ∧ _ := by simpa only [Prod.mk.injEq] using h2
  have r := topRun_of h1
  have r : topRun treeTable p w m0 ((boot_heap w.params).nsMap mainGlobals "__annotations__") N ⟨boot_heap w.params, Array.mk [], boot_drawn, boot_toks, os⟩ (topStub p) = some s.abs := by
    have e3 : (⟨T0 w.params, m0, L0 w.params, Array.mk [], boot_drawn, boot_toks, os⟩ : SharedT).abs = ⟨boot_heap w.params, Array.mk [], boot_drawn, boot_toks, os⟩ := by
      show (⟨absHeap (T0 w.params) m0 (L0 w.params), _, _, _, _⟩ : Shared) = _
      rw [hT]
    rw [← e3]
    exact r
  have t : topFrom treeTable p w N ⟨boot_heap w.params, Array.mk [], boot_drawn, boot_toks, os⟩ = some s.abs := by
    unfold topFrom
    dsimp only
    rw [z1, z2, r]
    show (match staticsOk (importedModules p.main.body) (boot_heap w.params) s.abs.heap && namesBound p s.abs.heap && gensDone s.abs && laidKept (boot_heap w.params) s.abs.heap with | true => _ | false => _) = _
    rw [l1]
  unfold openEnds
  rw [e1]
  show (topFrom treeTable p w N _).map _ = _
  rw [t]
  exact congrArg some (Prod.ext l2 l3)
end My
section
open PySem PySem.W PyProof.Rows
noncomputable def My.viewQ : Program := { PySem.Challenge.pw_twotabs_k26_since_and_trails with main := { PySem.Challenge.pw_twotabs_k26_since_and_trails.main with body := [0, 2, 3, 4, 5, 7, 9, 11, 13, 14, 15, 16, 17, 18, 19, 20, 21, 22, 23, 24].filterMap (PySem.Challenge.pw_twotabs_k26_since_and_trails.main.body[·]?) } }
open Lean in
local macro_rules
  | `(tactic| o_head $H) => do
    let (hl, hw, hc) := (mkIdent `hl, mkIdent `hw, mkIdent `hc)
    `(tactic| refine PySem.W.holds_open (q := My.viewQ) (loose := []) (Xt := fun s => xlAt My.viewQ [] s && recOk (RowW.records PySem.Challenge.rw_twotabs_k26_since_and_trails.row.toRowW) s) (XP := XL My.viewQ []) (Yf := Hook.obs $H) (Ya := Hook.val $H) (YP := Hook.says $H) (N := 4954) ?$hl (Hook.of $H) (Hook.keeps $H) (fun s e => xl_of s (Bool.and_eq_true_iff.mp e).1) XL.keeps (by rfl) (by rfl) (by rfl) (fun s e => recFacts_of (Bool.and_eq_true_iff.mp e).2) (by rfl) (by assumption) (by decide +kernel) ⟨rfl, rfl, rfl, rfl, rfl, by decide +kernel⟩ ?$hw ?$hc)
set_option maxRecDepth 100000 in
set_option maxHeartbeats 0 in
theorem My.dummy (hF : False) : PySem.Challenge.rw_twotabs_k26_since_and_trails.Holds := by
  w_on; o_law; k_head
  all_goals exact hF.elim
set_option maxRecDepth 100000 in
set_option maxHeartbeats 0 in
theorem My.hlQ : LeftO PySem.Challenge.rw_twotabs_k26_since_and_trails.row.prog My.viewQ [] (fun s => xlAt My.viewQ [] s && recOk (RowW.records PySem.Challenge.rw_twotabs_k26_since_and_trails.row.toRowW) s) (kHook My.dummy.heap_39 [2, 3, 15, 17, 18, 20, 21, 22, 29, 30, 31, 32, 35, 42, 43, 44, 47, 54, 55, 56, 59, 66, 67, 68, 71, 73, 74, 76, 77, 85, 87, 88, 90, 91, 92, 94, 95, 97, 98, 99, 102, 103, 104, 106, 107, 109, 110, 111, 113, 114, 116, 117, 118, 120, 121, 123, 124, 125, 127, 128, 130, 131, 132, 134, 135, 137, 138, 139, 141, 142, 144, 145, 146, 148, 149, 151, 152, 153, 154, 155, 156, 157, 167, 169, 170, 172, 173, 174, 176, 177, 179, 180, 181, 183, 184, 186, 187, 188, 190, 191, 193, 194, 195, 197, 198, 200, 201, 202, 204, 205, 207, 208, 209, 211, 212, 214, 215, 216, 219, 220, 221, 223, 224, 226, 227, 228, 230, 231, 233, 234, 235, 237, 238, 240, 241, 242, 244, 245, 247, 248, 249, 251, 252, 254, 255, 256, 257, 258, 259, 260, 263, 265, 266, 268, 269, 270, 272, 273, 275, 276, 277, 280, 281, 282, 284, 285, 287, 288, 296, 299, 300, 301, 303, 304, 306, 307, 308, 311, 312, 313, 315, 316, 318, 319, 320, 323, 324, 325, 327, 328, 330, 331, 332, 334, 335, 337, 338] (fun _ => rfl)).obs (kHook My.dummy.heap_39 [2, 3, 15, 17, 18, 20, 21, 22, 29, 30, 31, 32, 35, 42, 43, 44, 47, 54, 55, 56, 59, 66, 67, 68, 71, 73, 74, 76, 77, 85, 87, 88, 90, 91, 92, 94, 95, 97, 98, 99, 102, 103, 104, 106, 107, 109, 110, 111, 113, 114, 116, 117, 118, 120, 121, 123, 124, 125, 127, 128, 130, 131, 132, 134, 135, 137, 138, 139, 141, 142, 144, 145, 146, 148, 149, 151, 152, 153, 154, 155, 156, 157, 167, 169, 170, 172, 173, 174, 176, 177, 179, 180, 181, 183, 184, 186, 187, 188, 190, 191, 193, 194, 195, 197, 198, 200, 201, 202, 204, 205, 207, 208, 209, 211, 212, 214, 215, 216, 219, 220, 221, 223, 224, 226, 227, 228, 230, 231, 233, 234, 235, 237, 238, 240, 241, 242, 244, 245, 247, 248, 249, 251, 252, 254, 255, 256, 257, 258, 259, 260, 263, 265, 266, 268, 269, 270, 272, 273, 275, 276, 277, 280, 281, 282, 284, 285, 287, 288, 296, 299, 300, 301, 303, 304, 306, 307, 308, 311, 312, 313, 315, 316, 318, 319, 320, 323, 324, 325, 327, 328, 330, 331, 332, 334, 335, 337, 338] (fun _ => rfl)).val 4954 := by
  refine My.left_tree (T0 := fun P => My.treeOf (boot_heap P).objs.toList) (L0 := fun P => (boot_heap P).life) (m0 := 11) (by kernel_rfl) (by kernel_rfl) (fun s => by kernel_rfl) (fun P => by kernel_rfl) (fun P => by kernel_rfl) (fun w => ?_)
  kernel_rfl
end
/-! THE HAND LAYER, for ints, bools, texts, own classes, LISTS and tuples (index, slices, in, append, pop ..), calls, loops. Paste it whole ahead of your own text; what your proof does not reach may be deleted. -/
namespace L2
open PySem PySem.Spec PyProof.Rows

/-- a key: an int or a str -/
noncomputable abbrev Key := Sum Int Str
noncomputable def keyIs : Key → Value → Bool
  | .inl k, v => Value.isInt k v
  | .inr x, v => Value.isStrOf x v
noncomputable def keyH (w : World) : Key → Int
  | .inl k => hashInt k
  | .inr x => hashStr w x
theorem keyIs_shape : ∀ {k : Key} {v : Value}, keyIs k v = true → (∃ i t, k = Sum.inl i ∧ v = Value.int i t) ∨ (∃ x t, k = Sum.inr x ∧ v = Value.str x t)
  | .inl i, v, h => by
    obtain ⟨t, e⟩ := Value.isInt_shape (k := i) (v := v) h
    exact .inl ⟨i, t, rfl, e⟩
  | .inr x, v, h => by
    obtain ⟨t, e⟩ := Value.isStrOf_shape (x := x) (v := v) h
    exact .inr ⟨x, t, rfl, e⟩
theorem keyIs_int (i : Int) (t : Tok) : keyIs (.inl i) (.int i t) = true := by simp [keyIs, Value.isInt]
theorem key_ll (a b : Int) : decide ((Sum.inl a : Key) = Sum.inl b) = (a == b) := by
  by_cases e : a = b
  · subst e; simp
  · have h : ¬ (Sum.inl a : Key) = Sum.inl b := fun q => e (Sum.inl.inj q)
    rw [decide_eq_false h]
    exact (beq_eq_false_iff_ne.mpr e).symm
theorem key_rr (a b : Str) : decide ((Sum.inr a : Key) = Sum.inr b) = decide (a = b) := by
  by_cases e : a = b
  · subst e; simp
  · have h : ¬ (Sum.inr a : Key) = Sum.inr b := fun q => e (Sum.inr.inj q)
    rw [decide_eq_false h, decide_eq_false e]
theorem key_lr (a : Int) (b : Str) : decide ((Sum.inl a : Key) = Sum.inr b) = false := decide_eq_false (fun q => nomatch q)
theorem key_rl (a : Str) (b : Int) : decide ((Sum.inr a : Key) = Sum.inl b) = false := decide_eq_false (fun q => nomatch q)

noncomputable def mixKind (prog : Program) (w : World) : PySem.KeyKind prog w Key where
  is := keyIs
  hash := keyH w
  inj := fun v a b ha hb => by
    rcases keyIs_shape ha with ⟨i, t, rfl, rfl⟩ | ⟨x, t, rfl, rfl⟩
    · rcases keyIs_shape hb with ⟨j, u, rfl, e⟩ | ⟨y, u, rfl, e⟩
      · injection e with e1 _; rw [e1]
      · exact nomatch e
    · rcases keyIs_shape hb with ⟨j, u, rfl, e⟩ | ⟨y, u, rfl, e⟩
      · exact nomatch e
      · injection e with e1 _; rw [e1]
  byValue := fun k v h => by
    rcases keyIs_shape h with ⟨i, t, rfl, rfl⟩ | ⟨x, t, rfl, rfl⟩ <;> rfl
  pyHash := fun hv h => by
    rcases keyIs_shape hv with ⟨i, t, rfl, rfl⟩ | ⟨x, t, rfl, rfl⟩
    · exact wpAny_pyHash_int h
    · exact wpAny_pyHash_str h
  eqBool := fun hu hv h => by
    rcases keyIs_shape hu with ⟨i, t, rfl, rfl⟩ | ⟨x, t, rfl, rfl⟩
    · rcases keyIs_shape hv with ⟨j, u, rfl, rfl⟩ | ⟨y, u, rfl, rfl⟩
      · rw [key_ll] at h; exact wpAny_eqBool_int h
      · rw [key_lr] at h; exact SeqAt.EqAt.int_str i t y u _ _ _ _ h
    · rcases keyIs_shape hv with ⟨j, u, rfl, rfl⟩ | ⟨y, u, rfl, rfl⟩
      · rw [key_rl] at h; exact SeqAt.EqAt.str_int x t j u _ _ _ _ h
      · rw [key_rr] at h; exact wpAny_eqBool_str h
  «strs» := fun k x t v h => by
    rcases keyIs_shape h with ⟨i, u, rfl, e⟩ | ⟨y, u, rfl, e⟩
    · exact nomatch e
    · injection e with e1 _
      subst e1
      cases v <;> rfl

theorem mixKind_int (prog : Program) (w : World) (i : Int) (t : Tok) : (mixKind prog w).is (.inl i) (.int i t) = true := keyIs_int i t
end L2

namespace L2
open PySem PySem.Spec PyProof.Rows

/-- a value, without the heap -/
inductive V where
  | non | bl (b : Bool) | int (i : Int) | str (x : Str) | byt (b : Array UInt8) | flt (b : UInt64) | ref (a : Addr) | ty (n : String)
  deriving DecidableEq

noncomputable def RelV : V → Value → Prop
  | .non, u => u = Value.none
  | .bl b, u => u = Value.bool b
  | .int i, u => ∃ t, u = Value.int i t
  | .str x, u => ∃ t, u = Value.str x t
  | .byt b, u => ∃ t, u = Value.bytes b t
  | .flt b, u => ∃ t, u = Value.float b t
  | .ref a, u => u = Value.ref a
  | .ty n, u => u = Value.type n

noncomputable abbrev Vals : List V → List Value → Prop := Paired RelV
theorem Vals.length {xs : List V} {us : List Value} (r : Vals xs us) : xs.length = us.length := Paired.length r
theorem Vals.get : ∀ {xs : List V} {us : List Value} {i : Nat} {x : V}, Vals xs us → xs[i]? = some x → ∃ u, us[i]? = some u ∧ RelV x u
  | _, _, _, _, .nil, e => by simp at e
  | _, _, 0, _, .cons r _, e => by simp at e; subst e; exact ⟨_, rfl, r⟩
  | _, _, i + 1, x, .cons _ t, e => by
    obtain ⟨u, h1, h2⟩ := Vals.get (i := i) (x := x) t (by simpa using e)
    exact ⟨u, by simpa using h1, h2⟩
theorem Vals.append : ∀ {xs ys : List V} {us ws : List Value}, Vals xs us → Vals ys ws → Vals (xs ++ ys) (us ++ ws)
  | _, _, _, _, .nil, s => s
  | _, _, _, _, .cons r t, s => .cons r (Vals.append t s)
theorem Vals.take : ∀ {xs : List V} {us : List Value} (n : Nat), Vals xs us → Vals (xs.take n) (us.take n)
  | _, _, 0, _ => .nil
  | _, _, _ + 1, .nil => .nil
  | _, _, n + 1, .cons r t => .cons r (Vals.take n t)
theorem Vals.drop : ∀ {xs : List V} {us : List Value} (n : Nat), Vals xs us → Vals (xs.drop n) (us.drop n)
  | _, _, 0, r => r
  | _, _, _ + 1, .nil => .nil
  | _, _, n + 1, .cons _ t => Vals.drop n t
noncomputable def RelO : Option V → Option Value → Prop
  | some v, some u => RelV v u
  | none, none => True
  | _, _ => False
noncomputable def KV {κ : Type} : List (κ × V) → List (κ × Value) → Prop := Paired fun (p : κ × V) (q : κ × Value) => p.1 = q.1 ∧ RelV p.2 q.2

/-- a key of a dict (00_mix): an int or a text -/
noncomputable def kV : Key → V
  | .inl i => .int i
  | .inr x => .str x

/-- what stands at a tracked address -/
inductive HO where
  /-- a list -/
  | lst (xs : List V)
  /-- a tuple (never changes) -/
  | tup (xs : List V)
  /-- a dict whose keys are ints and texts; one whose keys are tuples of ints and texts (the empty one is both) -/
  | dK (kvs : List (Key × V)) | dT (kvs : List (List Key × V))
  /-- a set of ints: its members, its size -/
  | set (S : Int → Bool) (n : Nat)
  /-- an instance of the class at C, its dict at dx, its attributes -/
  | ins (C dx : Addr) (fs : List (Str × V))
  /-- the dict of the instance at x -/
  | own (x : Addr)
  /-- the dict of an exception -/
  | xd (fs : List (Str × V))
  /-- a bound method, f of x -/
  | met (f x : Addr)
  /-- a range object lo, lo + 1, .. below hi -/
  | rng (lo hi : Int)
  /-- a thing that is known to the object (the script; a dict while a loop walks it): read, never written while it is so -/
  | frz (o : Obj) (u : HO)
  /-- a code object's table -/
  | tbl (ps : Array Value)
  /-- any other thing, by what is true of its one object (a def of one's own: SetO a S n := HO.ext fun h => ..) -/
  | ext (φ : Heap → Prop)

noncomputable abbrev Hp := Addr → Option HO
noncomputable def upd (H : Hp) (a : Addr) (o : HO) : Hp := fun b => if b = a then some o else H b
theorem upd_same {H : Hp} {a : Addr} {o : HO} : upd H a o a = some o := by unfold upd; rw [if_pos rfl]
theorem upd_ne {H : Hp} {a b : Addr} {o : HO} (h : b ≠ a) : upd H a o b = H b := by unfold upd; rw [if_neg h]
theorem upd_upd {H : Hp} {a : Addr} {o u : HO} : upd (upd H a o) a u = upd H a u := by
  funext b; unfold upd; split <;> rfl
/-- two objects of different content stand apart -/
theorem ne_of {H : Hp} {a b : Addr} {o u : HO} (h : H a = some o) (h' : H b = some u) (d : o ≠ u) : a ≠ b := by
  intro e; subst e; rw [h] at h'; exact d (Option.some.inj h')
theorem ne_of_none {H : Hp} {a b : Addr} {o : HO} (h : H a = some o) (h' : H b = none) : a ≠ b := by
  intro e; subst e; rw [h] at h'; cases h'

section
variable (P : Program) (w : World)
noncomputable def ObjOk (H : Hp) (h : Heap) (a : Addr) : HO → Prop
  | .lst xs => xs.length ≤ sizeLine ∧ ∃ (its : List Value) (n : Nat), Vals xs its ∧ h.get? a = some { cls := .type "list", data := .seq its.toArray n }
  | .tup xs => xs.length ≤ sizeLine ∧ ∃ its : List Value, Vals xs its ∧ IsTup h a its.toArray
  | .dK kvs => kvs.length ≤ sizeLine ∧ (a == sysModules) = false ∧ ∃ vs, KV kvs vs ∧ h.DictOf (mixKind P w) a vs
  | .dT kvs => kvs.length ≤ sizeLine ∧ (a == sysModules) = false ∧ ∃ xs : List (List Key × Addr × Value),
      Paired (fun (p : List Key × V) (q : List Key × Addr × Value) => p.1 = q.1 ∧ H q.2.1 = some (.tup (p.1.map kV)) ∧ RelV p.2 q.2.2) kvs xs ∧
      ∃ o es ep, h.get? a = some o ∧ o.ExactDict ∧ o.data = .dict es ep ∧ es.toList = xs.map (entryOfKey (tupleKind (mixKind P w))) ∧ (xs.map (·.1)).Nodup
  | .set S n => h.SetOf (intKind P w) a S n
  | .ins C dx fs => H dx = some (.own a) ∧ fs.length ≤ 1000 ∧ dx ≠ a ∧ h.get? a = some (PySem.W.instObj C dx) ∧
      ∃ mA, h.Ns1 dx mA ∧ (∀ f, RelO (fs.lookup f) (mA f)) ∧ PySem.Within mA (fs.map (·.1))
  | .own _ => ∃ o, h.get? a = some o
  | .xd fs => ∃ mA, h.Ns1 a mA ∧ ∀ f, RelO (fs.lookup f) (mA f)
  | .rng lo hi => ∃ t u v, h.get? a = some { cls := .type "range", data := .fields #[.int lo t, .int hi u, .int 1 v] }
  | .frz o u => h.get? a = some o ∧ ObjOk H h a u
  | .tbl ps => h.get? a = some { cls := .none, data := .fields ps }
  | .met f x => h.get? a = some (PySem.W.methodObj (.ref f) (.ref x))
  | .ext φ => φ h ∧ (∃ o, h.get? a = some o) ∧ ∀ h1 h2 : Heap, φ h1 → (∀ o, h1.get? a = some o → h2.get? a = some o) → φ h2
/-- the abstract heap is held -/
noncomputable def HOk (H : Hp) (h : Heap) : Prop := ∀ a o, H a = some o → ObjOk P w H h a o
end

section
variable {P : Program} {w : World} {H H' : Hp} {h h' : Heap} {a : Addr} {o : HO}
theorem ObjOk.lt (x : ObjOk P w H h a o) : a < h.objs.size := by
  cases o with
  | lst xs => obtain ⟨_, _, _, _, e⟩ := x; exact Heap.lt_size e
  | tup xs => obtain ⟨_, _, _, p⟩ := x; exact p.lt
  | dK kvs => obtain ⟨_, _, _, _, o, _, _, e, _⟩ := x; exact Heap.lt_size e
  | dT kvs => obtain ⟨_, _, _, _, o, _, _, e, _⟩ := x; exact Heap.lt_size e
  | set S n => obtain ⟨o, _, _, _, e, _⟩ := x; exact Heap.lt_size e
  | ins C dx fs => obtain ⟨_, _, _, e, _⟩ := x; exact Heap.lt_size e
  | own y => obtain ⟨_, e⟩ := x; exact Heap.lt_size e
  | xd fs => obtain ⟨_, ⟨_, _, _, e, _⟩, _⟩ := x; exact Heap.lt_size e
  | rng lo hi => obtain ⟨_, _, _, e⟩ := x; exact Heap.lt_size e
  | frz ob u => obtain ⟨e, _⟩ := x; exact Heap.lt_size e
  | tbl ps => exact Heap.lt_size (show h.get? a = some _ from x)
  | met f y => exact Heap.lt_size (show h.get? a = some _ from x)
  | ext φ => obtain ⟨_, ⟨_, e⟩, _⟩ := x; exact Heap.lt_size e
theorem Paired.mapP {α β : Type} {F G : α → β → Prop} : ∀ {l₁ : List α} {l₂ : List β}, Paired F l₁ l₂ → (∀ a b, F a b → G a b) → Paired G l₁ l₂
  | _, _, .nil, _ => .nil
  | _, _, .cons r t, f => .cons (f _ _ r) (Paired.mapP t f)
/-- what an object's description leans on: its own object, its own dict, the tuples -/
theorem ObjOk.stay (x : ObjOk P w H h a o) (k : ∀ b u, (b = a ∨ H b = some (.own a)) → h.get? b = some u → h'.get? b = some u)
    (ho : ∀ b, H b = some (.own a) → H' b = some (.own a)) (ht : ∀ b xs, H b = some (.tup xs) → H' b = some (.tup xs)) : ObjOk P w H' h' a o := by
  induction o with
  | lst xs => obtain ⟨z, its, n, r, e⟩ := x; exact ⟨z, its, n, r, k _ _ (.inl rfl) e⟩
  | tup xs => obtain ⟨z, its, r, ob, e, c⟩ := x; exact ⟨z, its, r, ob, k _ _ (.inl rfl) e, c⟩
  | dK kvs => obtain ⟨z, y, vs, r, ob, es, ep, e, c⟩ := x; exact ⟨z, y, vs, r, ob, es, ep, k _ _ (.inl rfl) e, c⟩
  | dT kvs =>
    obtain ⟨z, y, xs, r, ob, es, ep, e, c⟩ := x
    exact ⟨z, y, xs, Paired.mapP r fun p q z => ⟨z.1, ht _ _ z.2.1, z.2.2⟩, ob, es, ep, k _ _ (.inl rfl) e, c⟩
  | set S n => obtain ⟨ob, es, ep, t, e, c⟩ := x; exact ⟨ob, es, ep, t, k _ _ (.inl rfl) e, c⟩
  | ins C dx fs =>
    obtain ⟨d, z, ne, e, mA, ⟨od, es, ep, e2, c⟩, r⟩ := x
    exact ⟨ho _ d, z, ne, k _ _ (.inl rfl) e, mA, ⟨od, es, ep, k _ _ (.inr d) e2, c⟩, r⟩
  | own y => obtain ⟨ob, e⟩ := x; exact ⟨ob, k _ _ (.inl rfl) e⟩
  | xd fs => obtain ⟨mA, ⟨od, es, ep, e, c⟩, r⟩ := x; exact ⟨mA, ⟨od, es, ep, k _ _ (.inl rfl) e, c⟩, r⟩
  | rng lo hi => obtain ⟨t, u, v, e⟩ := x; exact ⟨t, u, v, k _ _ (.inl rfl) e⟩
  | frz ob u ih => obtain ⟨e, q⟩ := x; exact ⟨k _ _ (.inl rfl) e, ih q⟩
  | tbl ps =>
    have e : h.get? a = some { cls := .none, data := .fields ps } := x
    show h'.get? a = some { cls := .none, data := .fields ps }
    exact k a _ (.inl rfl) e
  | met f y =>
    have e : h.get? a = some (PySem.W.methodObj (.ref f) (.ref y)) := x
    show h'.get? a = some (PySem.W.methodObj (.ref f) (.ref y))
    exact k a _ (.inl rfl) e
  | ext φ => obtain ⟨p, ⟨o, e⟩, st⟩ := x; exact ⟨st _ _ p fun o q => k _ _ (.inl rfl) q, ⟨o, k _ _ (.inl rfl) e⟩, st⟩
theorem HOk.lt (x : HOk P w H h) (e : H a = some o) : a < h.objs.size := (x a o e).lt
theorem HOk.fresh (x : HOk P w H h) (e : h.objs.size ≤ a) : H a = none := by
  cases q : H a with
  | none => rfl
  | some u => exact absurd (Nat.lt_of_lt_of_le (x.lt q) e) (Nat.lt_irrefl _)
/-- every object of the heap is kept -/
theorem HOk.kept (x : HOk P w H h) (k : ∀ b u, h.get? b = some u → h'.get? b = some u) : HOk P w H h' := fun a o e =>
  (x a o e).stay (fun b u _ q => k b u q) (fun _ q => q) fun _ _ q => q
/-- a new object is laid and tracked -/
theorem HOk.laid (x : HOk P w H h) (k : ∀ b u, h.get? b = some u → h'.get? b = some u) (hp : h.objs.size ≤ a) (new : ObjOk P w (upd H a o) h' a o) : HOk P w (upd H a o) h' := fun b u e => by
  have hn := x.fresh hp
  by_cases hb : b = a
  · subst hb; rw [upd_same] at e; cases e; exact new
  · rw [upd_ne hb] at e
    exact (x b u e).stay (fun c v _ q => k c v q) (fun c q => by rw [upd_ne (ne_of_none q hn)]; exact q) fun c xs q => by rw [upd_ne (ne_of_none q hn)]; exact q
end

/-- what may be read as u: it is u, or a known u -/
noncomputable def Rd (H : Hp) (a : Addr) (u : HO) : Prop := H a = some u ∨ ∃ o, H a = some (.frz o u)
theorem Rd.ok {P : Program} {w : World} {H : Hp} {h : Heap} {a : Addr} {u : HO} (r : Rd H a u) (x : HOk P w H h) : ObjOk P w H h a u := by
  rcases r with r | ⟨o, r⟩
  · exact x a u r
  · obtain ⟨_, q⟩ := x a _ r
    exact q
/-- what may be written -/
noncomputable def Mut : Option HO → Prop
  | some (.lst _) => True
  | some (.dK _) => True
  | some (.dT _) => True
  | some (.set _ _) => True
  | some (.ins _ _ _) => True
  | some (.ext _) => True
  | _ => False
section
variable {P : Program} {w : World} {H : Hp} {h h' : Heap} {x e : Addr} {o' : HO}
/-- the object at e is changed: x itself, or the dict of the instance x -/
theorem HOk.write (ok : HOk P w H h) (mu : Mut (H x)) (he : e = x ∨ H e = some (.own x)) (k : ∀ b u, b ≠ e → h.get? b = some u → h'.get? b = some u) (heo : ∃ u, h'.get? e = some u)
    (new : ObjOk P w (upd H x o') h' x o') : HOk P w (upd H x o') h' := fun b u q => by
  have nown : ∀ c y, H c = some (.own y) → c ≠ x := fun c y r z => by subst z; rw [r] at mu; exact mu
  have ntup : ∀ c xs, H c = some (.tup xs) → c ≠ x := fun c xs r z => by subst z; rw [r] at mu; exact mu
  by_cases hb : b = x
  · subst hb; rw [upd_same] at q; cases q; exact new
  · rw [upd_ne hb] at q
    by_cases hbe : b = e
    · have q' : H b = some (.own x) := by
        rcases he with z | z
        · exact absurd (hbe.trans z) hb
        · rw [hbe]; exact z
      rw [q] at q'; cases q'
      obtain ⟨v, hv⟩ := heo
      exact ⟨v, by rw [hbe]; exact hv⟩
    · refine (ok b u q).stay (fun c v hc r => k c v ?_ r) (fun c r => by rw [upd_ne (nown c b r)]; exact r) fun c xs r => by rw [upd_ne (ntup c xs r)]; exact r
      rcases hc with rfl | hc
      · exact hbe
      · rintro rfl
        rcases he with z | z
        · exact nown c b hc z
        · rw [hc] at z; cases z; exact hb rfl
end

/-! ### kept unless tracked; of the frames at fs (the callers') the slots may change (an exception that passes writes there); of the records at ex (iterators) nothing is said -/
structure Un (fs ex : List Addr) (H H' : Hp) (h h' : Heap) : Prop where
  keep : ∀ b o, h.get? b = some o → H b = none → b ∉ fs → b ∉ ex → h'.get? b = some o
  slot : ∀ b o, h.get? b = some o → H b = none → b ∈ fs → b ∉ ex → ∃ sl, h'.get? b = some { o with slots := sl }
  free : ∀ b o, h.get? b = some o → H b = none → b ∉ ex → H' b = none
  there : ∀ b o, h.get? b = some o → b ∉ ex → ∃ o', h'.get? b = some o'
  tups : ∀ b xs, H b = some (.tup xs) → H' b = some (.tup xs)
  frzs : ∀ b o u, H b = some (.frz o u) → H' b = some (.frz o u)
  tbls : ∀ b ps, H b = some (.tbl ps) → ∃ more, H' b = some (.tbl (ps ++ more))
section
variable {fs fs' ex ex' : List Addr} {H H1 H2 : Hp} {h h1 h2 h' : Heap} {a x e : Addr} {o : HO}
theorem Un.any (u : Un fs ex H H1 h h1) {b : Addr} {ob : Obj} (q : h.get? b = some ob) (n : H b = none) (hx : b ∉ ex) : ∃ sl, h1.get? b = some { ob with slots := sl } := by
  by_cases hb : b ∈ fs
  · exact u.slot b ob q n hb hx
  · exact ⟨ob.slots, u.keep b ob q n hb hx⟩
theorem Un.kept (k : ∀ b u, h.get? b = some u → h'.get? b = some u) : Un fs ex H H h h' :=
  ⟨fun b ob q _ _ _ => k b ob q, fun b ob q _ _ _ => ⟨ob.slots, k b ob q⟩, fun _ _ _ n _ => n, fun b ob q _ => ⟨ob, k b ob q⟩, fun _ _ q => q, fun _ _ _ q => q, fun _ ps q => ⟨#[], by rw [q]; simp⟩⟩
theorem Un.refl : Un fs ex H H h h := Un.kept fun _ _ q => q
theorem Un.laid (k : ∀ b u, h.get? b = some u → h'.get? b = some u) (hp : h.objs.size ≤ a) (hn : H a = none) : Un fs ex H (upd H a o) h h' where
  keep := fun b u q _ _ _ => k b u q
  slot := fun b u q _ _ _ => ⟨u.slots, k b u q⟩
  free := fun b u q n _ => by rw [upd_ne (Nat.ne_of_lt (Nat.lt_of_lt_of_le (Heap.lt_size q) hp))]; exact n
  there := fun b u q _ => ⟨u, k b u q⟩
  tups := fun b xs q => by rw [upd_ne (ne_of_none q hn)]; exact q
  frzs := fun b u xs q => by rw [upd_ne (ne_of_none q hn)]; exact q
  tbls := fun b ps q => ⟨#[], by rw [upd_ne (ne_of_none q hn), q]; simp⟩
theorem Un.write (mu : Mut (H x)) (he : e = x ∨ H e = some (.own x)) (k : ∀ b u, b ≠ e → h.get? b = some u → h'.get? b = some u) (heo : ∃ u, h'.get? e = some u) : Un fs ex H (upd H x o) h h' := by
  have hx : ∀ b, H b = none → b ≠ x := fun b n z => by subst z; rw [n] at mu; exact mu
  have hb : ∀ b, H b = none → b ≠ e := fun b n z => by
    subst z
    rcases he with r | r
    · exact hx b n r
    · rw [n] at r; cases r
  have hm : ∀ b u, H b = some u → ¬ Mut (some u) → b ≠ x := fun b u q nm z => by subst z; rw [q] at mu; exact nm mu
  refine ⟨fun b u q n _ _ => k b u (hb b n) q, fun b u q n _ _ => ⟨u.slots, k b u (hb b n) q⟩, fun b u q n _ => by rw [upd_ne (hx b n)]; exact n, fun b u q _ => ?_,
    fun b xs q => by rw [upd_ne (hm b _ q fun z => z)]; exact q, fun b u xs q => by rw [upd_ne (hm b _ q fun z => z)]; exact q, fun b ps q => ⟨#[], by rw [upd_ne (hm b _ q fun z => z), q]; simp⟩⟩
  by_cases hbe : b = e
  · subst hbe; exact heo
  · exact ⟨u, k b u hbe q⟩
end

/-! ### the heap without what is tracked -/
noncomputable def trk (h : Heap) (H : Hp) : List Addr := (List.range h.objs.size).filter fun a => (H a).isSome
noncomputable def hidT (h : Heap) (H : Hp) : Heap := PySem.W.hideAll h (trk h H)
theorem hidT_size (h : Heap) (H : Hp) : (hidT h H).objs.size = h.objs.size := PySem.W.hideAll_size _ _
theorem hidT_get {h : Heap} {H : Hp} {b : Addr} {o : Obj} (e : h.get? b = some o) (n : H b = none) : (hidT h H).get? b = some o :=
  PySem.W.hideAll_get _ e fun hm => by
    have q : (H b).isSome = true := (List.mem_filter.mp hm).2
    rw [n] at q; simp at q
theorem of_hidT {h : Heap} {H : Hp} {b : Addr} {o : Obj} (e : (hidT h H).get? b = some o) : h.get? b = some o ∧ H b = none := by
  have e' : h.get? b = some o := PySem.W.of_hideAll (trk h H) e
  refine ⟨e', ?_⟩
  cases q : H b with
  | none => rfl
  | some x =>
    have hm : b ∈ trk h H := List.mem_filter.mpr ⟨List.mem_range.mpr (Heap.lt_size e'), by simp [q]⟩
    have z : (hidT h H).get? b = none := PySem.W.hideAll_none (trk h H) hm
    rw [z] at e; cases e

/-! ### OpenK's ledger, filled with every new object but one -/
end L2

namespace L2
open PySem PySem.Spec PyProof.Rows

/-- the module's facts, over the base: the heap at the law's entry without what is tracked there -/
structure Mod (K : PySem.W.Frag) (mg : Str → Option Value) (base : Heap) : Prop where
  kin : K.In base
  glob : base.Ns mainGlobals mg
  blt : ∃ mb, base.Ns builtinsNs mb ∧ ∀ x : Str, x ≠ "__name__" → mb x = bootBuiltins x
  nolimit : base.NoLimit

/-- the context: a def's body (or a comprehension's block) running. base: fixed through the whole law; s₀, H₀: the entry; outer: the frames whose slots others may change (a def's callers); stack: all frames that run;
   ex: iterators that were made ahead of the entry and are walked here (a comprehension's); fn: the names whose cells were made at the entry (a def: all; a comprehension's block: its own); calm: not within an except suite; pn: pins that every state bears; xe: what is wanted of an exception that leaves the code -/
structure Cx where
  prog : Program
  w : World
  K : PySem.W.Frag
  mg : Str → Option Value
  base : Heap
  A : Around
  N : List Str
  s₀ : Shared
  H₀ : Hp
  env : Env
  outer : List Env
  stack : List Env
  ex : List Addr
  fn : Str → Bool
  calm : Bool
  pn : List (Addr × Obj)
  xe : Value → Shared → Prop
/-- the callers' frames -/
noncomputable def frs (l : List Env) : List Addr := l.filterMap (·.frame)
noncomputable abbrev Cx.fs (X : Cx) : List Addr := frs X.outer

noncomputable def Vis (sc : Scope) (x : Str) : Prop := sc.names.lookup x = some .local ∨ sc.names.lookup x = some .cell ∨ sc.names.lookup x = some .free
noncomputable def Loc (sc : Scope) (x : Str) : Prop := sc.names.lookup x = some .local ∨ sc.names.lookup x = some .cell
noncomputable def Look (env : Env) (h : Heap) (m : Str → Option Value) (x : Str) (u : Value) : Prop :=
  (env.kindOf x = some .local ∧ m x = some u) ∨ ((env.kindOf x = some .cell ∨ env.kindOf x = some .free) ∧ ∃ c, env.cells.lookup x = some c ∧ h.IsCell c (some u))

structure Cx.Ok (X : Cx) : Prop where
  mod : Mod X.K X.mg X.base
  kind : X.env.scope.kind = .function
  glob : X.env.globals = mainGlobals
  blt : X.env.builtins = builtinsNs
  above : X.s₀.heap.objs.size ≤ X.env.locals
  inj : ∀ x y c, X.env.cells.lookup x = some c → X.env.cells.lookup y = some c → x = y
  has : ∀ x, (X.env.kindOf x = some .cell ∨ X.env.kindOf x = some .free) → ∃ c, X.env.cells.lookup x = some c
  cab : ∀ x c, X.fn x = true → X.env.cells.lookup x = some c → X.s₀.heap.objs.size ≤ c
  hd : X.calm = true → X.A.handled = none
  frames : X.A.frames = some X.stack
  stk : X.stack = X.outer ∨ (X.stack = X.env :: X.outer ∧ X.env.frame = some X.env.locals)
  exf : ∀ b ∈ X.ex, b ≠ X.env.locals ∧ ∀ x c, X.env.cells.lookup x = some c → c ≠ b
  bs : ∀ b o, X.base.get? b = some o → X.s₀.heap.get? b = some o ∧ X.H₀ b = none
  bsz : X.base.objs.size ≤ X.s₀.heap.objs.size
  noex : ∀ b o, X.base.get? b = some o → b ∉ X.ex
  exfs : ∀ b ∈ X.ex, b ∉ X.fs
  funs : X.s₀.heap.FunFrames X.base X.outer
  frf : ∀ b ∈ X.fs, X.H₀ b = none

structure Inv (X : Cx) (pins : List (Addr × Obj)) (σ : List (Option V)) (H : Hp) (s : Shared) : Prop where
  ok : X.Ok
  os : s.os = X.s₀.os
  bare : AllBare s.gens
  base : Un X.fs X.ex X.H₀ H X.s₀.heap s.heap
  loc : ∃ m, s.heap.Ns X.env.locals m ∧ ∀ (i : Nat) (x : Str) (v : V), X.N[i]? = some x → σ[i]? = some (some v) → Vis X.env.scope x → ∃ u, RelV v u ∧ Look X.env s.heap m x u
  cell : ∀ x c, X.env.cells.lookup x = some c → ∃ v, s.heap.IsCell c v
  free : H X.env.locals = none
  freeC : ∀ x c, X.env.cells.lookup x = some c → H c = none
  pin : ∀ p ∈ X.pn ++ pins, s.heap.get? p.1 = some p.2 ∧ H p.1 = none ∧ p.1 ≠ X.env.locals ∧ p.1 ∉ X.fs ∧ ∀ v, p.2.data ≠ .cell v
  hok : HOk X.prog X.w H s.heap
  len : σ.length = X.N.length

section
variable {X : Cx} {pins : List (Addr × Obj)} {σ : List (Option V)} {H H' : Hp} {s : Shared} {h' : Heap}

theorem Cx.Ok.nofr (ok : X.Ok) {b : Addr} {o : Obj} (e : X.base.get? b = some o) : b ∉ X.fs := fun hb => by
  have := (ok.funs.mem hb).1
  rw [e] at this; cases this
theorem Inv.bs (I : Inv X pins σ H s) : ∀ b o, X.base.get? b = some o → s.heap.get? b = some o ∧ H b = none := fun b o e =>
  ⟨I.base.keep b o (I.ok.bs b o e).1 (I.ok.bs b o e).2 (I.ok.nofr e) (I.ok.noex b o e), I.base.free b o (I.ok.bs b o e).1 (I.ok.bs b o e).2 (I.ok.noex b o e)⟩
theorem Inv.bk (I : Inv X pins σ H s) : ∀ b o, X.base.get? b = some o → s.heap.get? b = some o := fun b o e => (I.bs b o e).1
theorem Inv.mod (I : Inv X pins σ H s) : Mod X.K X.mg X.base := I.ok.mod
theorem Inv.kIn (I : Inv X pins σ H s) : X.K.In s.heap := I.ok.mod.kin.keeps I.bk
theorem Inv.lt (I : Inv X pins σ H s) : X.env.locals < s.heap.objs.size := let ⟨_, hn, _⟩ := I.loc; hn.lt
theorem Inv.sz (I : Inv X pins σ H s) : X.s₀.heap.objs.size ≤ s.heap.objs.size := Nat.le_trans I.ok.above (Nat.le_of_lt I.lt)
theorem Inv.nofs (I : Inv X pins σ H s) {a : Addr} (h : s.heap.objs.size ≤ a) : a ∉ X.fs := fun hb => by
  obtain ⟨_, o, ho, _⟩ := I.ok.funs.mem hb
  exact absurd (Nat.lt_of_lt_of_le (Heap.lt_size ho) (Nat.le_trans I.sz h)) (Nat.lt_irrefl _)
theorem Inv.cne (I : Inv X pins σ H s) : ∀ x c, X.env.cells.lookup x = some c → c ≠ X.env.locals := fun x c e z => by
  obtain ⟨v, o, ho, hd⟩ := I.cell x c e
  obtain ⟨m, ⟨o', es, ep, ho', hd', _⟩, _⟩ := I.loc
  rw [z, ho'] at ho; cases ho; rw [hd'] at hd; cases hd
theorem Inv.funs (I : Inv X pins σ H s) : s.heap.FunFrames X.base X.outer := by
  have all : ∀ (l : List Env), (∀ b ∈ frs l, b ∈ X.fs) → X.s₀.heap.FunFrames X.base l → s.heap.FunFrames X.base l := by
    intro l
    induction l with
    | nil => intro _ _; trivial
    | cons env r ih =>
      intro hs hl
      obtain ⟨hk, ⟨L, o, hf, hn, ho, hd⟩, hr⟩ := hl
      have hL : L ∈ X.fs := hs L (by unfold frs; rw [List.filterMap_cons, hf]; exact List.mem_cons_self)
      obtain ⟨sl, e⟩ := I.base.slot L o ho (I.ok.frf L hL) hL fun z => I.ok.exfs L z hL
      exact ⟨hk, ⟨L, _, hf, hn, e, hd⟩, ih (fun b hb => hs b (by unfold frs; rw [List.filterMap_cons, hf]; exact List.mem_cons_of_mem _ hb)) hr⟩
  exact all X.outer (fun _ hb => hb) I.ok.funs

/-- the frames that run, for a call -/
theorem Inv.stack (I : Inv X pins σ H s) : s.heap.FunFrames X.base X.stack := by
  rcases I.ok.stk with e | ⟨e, hf⟩
  · rw [e]; exact I.funs
  · rw [e]
    obtain ⟨m, hn, _⟩ := I.loc
    refine .cons (by rw [I.ok.kind]; decide) hf hn ?_ I.funs
    exact Heap.get?_none_of_le (Nat.le_trans I.ok.bsz I.ok.above)
theorem Inv.stkSub (I : Inv X pins σ H s) : ∀ b ∈ frs X.stack, b ∈ X.env.locals :: X.fs := fun b hb => by
  rcases I.ok.stk with e | ⟨e, hf⟩
  · rw [e] at hb; exact List.mem_cons_of_mem _ hb
  · rw [e] at hb
    unfold frs at hb
    rw [List.filterMap_cons, hf] at hb
    exact hb
theorem Inv.stkFree (I : Inv X pins σ H s) : ∀ b ∈ frs X.stack, H b = none := fun b hb => by
  rcases List.mem_cons.mp (I.stkSub b hb) with e | hb
  · rw [e]; exact I.free
  · obtain ⟨_, o, ho, _⟩ := I.ok.funs.mem hb
    exact I.base.free b o ho (I.ok.frf b hb) fun z => I.ok.exfs b z hb

/-- THE STEP: the untracked objects but the frame and the records at ch are kept (the callers' frames up to slots), the frame's map is kept, the new abstract heap is held -/
theorem Inv.step {g' : Array GenState} {t' : Nat} {d' : Drawn} {ch : List Addr} (I : Inv X pins σ H s)
    (hch : ∀ b ∈ ch, (b ∈ X.ex ∨ X.s₀.heap.objs.size ≤ b) ∧ b ≠ X.env.locals ∧ (∀ x c, X.env.cells.lookup x = some c → c ≠ b) ∧ ∀ p ∈ X.pn ++ pins, p.1 ≠ b)
    (keep : ∀ b o, b ≠ X.env.locals → b ∉ X.fs → b ∉ ch → s.heap.get? b = some o → H b = none → h'.get? b = some o)
    (slot : ∀ b o, b ≠ X.env.locals → b ∈ X.fs → b ∉ ch → s.heap.get? b = some o → H b = none → ∃ sl, h'.get? b = some { o with slots := sl }) (free : ∀ b o, b ∉ ch → s.heap.get? b = some o → H b = none → H' b = none)
    (there : ∀ b o, b ∉ ch → s.heap.get? b = some o → ∃ o', h'.get? b = some o')
    (tups : ∀ b xs, H b = some (.tup xs) → H' b = some (.tup xs)) (frzs : ∀ b o u, H b = some (.frz o u) → H' b = some (.frz o u)) (tbls : ∀ b ps, H b = some (.tbl ps) → ∃ more, H' b = some (.tbl (ps ++ more)))
    (ns : ∀ m, s.heap.Ns X.env.locals m → h'.Ns X.env.locals m) (hok : HOk X.prog X.w H' h') (hg : AllBare g') :
    Inv X pins σ H' { s with heap := h', gens := g', drawn := d', toks := t' } := by
  have neL : ∀ b o, X.s₀.heap.get? b = some o → b ≠ X.env.locals := fun b o e => Nat.ne_of_lt (Nat.lt_of_lt_of_le (Heap.lt_size e) I.ok.above)
  have neC : ∀ b o, X.s₀.heap.get? b = some o → b ∉ X.ex → b ∉ ch := fun b o e hx hb => by
    rcases (hch b hb).1 with z | z
    · exact hx z
    · exact absurd (Nat.lt_of_lt_of_le (Heap.lt_size e) z) (Nat.lt_irrefl _)
  have cellK : ∀ x c, X.env.cells.lookup x = some c → ∀ v, s.heap.IsCell c v → h'.IsCell c v := fun x c e v ⟨o, ho, hd⟩ => by
    have nch : c ∉ ch := fun z => (hch c z).2.2.1 x c e rfl
    by_cases hc : c ∈ X.fs
    · obtain ⟨sl, q⟩ := slot c o (I.cne x c e) hc nch ho (I.freeC x c e)
      exact ⟨_, q, hd⟩
    · exact ⟨o, keep c o (I.cne x c e) hc nch ho (I.freeC x c e), hd⟩
  refine ⟨I.ok, I.os, hg, ⟨fun b o e n hb hx => ?_, fun b o e n hb hx => ?_, fun b o e n hx => ?_, fun b o e hx => ?_, fun b xs e => tups b xs (I.base.tups b xs e), fun b o xs e => frzs b o xs (I.base.frzs b o xs e), fun b ps e => ?_⟩, ?_, fun x c e => ?_, ?_, fun x c e => ?_, fun p hp => ?_, hok, I.len⟩
  · exact keep b o (neL b o e) hb (neC b o e hx) (I.base.keep b o e n hb hx) (I.base.free b o e n hx)
  · obtain ⟨sl, e1⟩ := I.base.slot b o e n hb hx
    obtain ⟨sl', e2⟩ := slot b _ (neL b o e) hb (neC b o e hx) e1 (I.base.free b o e n hx)
    exact ⟨sl', e2⟩
  · obtain ⟨o', e1⟩ := I.base.there b o e hx
    exact free b o' (neC b o e hx) e1 (I.base.free b o e n hx)
  · obtain ⟨o', e1⟩ := I.base.there b o e hx
    exact there b o' (neC b o e hx) e1
  · obtain ⟨m1, e1⟩ := I.base.tbls b ps e
    obtain ⟨m2, e2⟩ := tbls b _ e1
    exact ⟨m1 ++ m2, by rw [e2, Array.append_assoc]⟩
  · obtain ⟨m, hn, hl⟩ := I.loc
    refine ⟨m, ns m hn, fun i x v e1 e2 e3 => ?_⟩
    obtain ⟨u, r, l⟩ := hl i x v e1 e2 e3
    refine ⟨u, r, ?_⟩
    rcases l with l | ⟨k, c, e, z⟩
    · exact .inl l
    · exact .inr ⟨k, c, e, cellK x c e _ z⟩
  · obtain ⟨v, z⟩ := I.cell x c e
    exact ⟨v, cellK x c e v z⟩
  · obtain ⟨m, ⟨o, _, _, ho, _⟩, _⟩ := I.loc
    exact free _ o (fun z => (hch _ z).2.1 rfl) ho I.free
  · obtain ⟨v, o, ho, hd⟩ := I.cell x c e
    exact free c o (fun z => (hch c z).2.2.1 x c e rfl) ho (I.freeC x c e)
  · obtain ⟨e, n, ne, nf, d⟩ := I.pin p hp
    have nch : p.1 ∉ ch := fun z => (hch p.1 z).2.2.2 p hp rfl
    exact ⟨keep p.1 p.2 ne nf nch e n, free p.1 p.2 nch e n, ne, nf, d⟩
/-- .. where the frame's own object is kept too -/
theorem Inv.un {t' : Nat} (I : Inv X pins σ H s) (u : Un X.fs [] H H' s.heap h') (hok : HOk X.prog X.w H' h') : Inv X pins σ H' { s with heap := h', toks := t' } := by
  obtain ⟨m, ⟨o, es, ep, ho, r⟩, _⟩ := id I.loc
  obtain ⟨sl, hL⟩ := u.any ho I.free (by simp)
  exact I.step (g' := s.gens) (d' := s.drawn) (ch := []) (fun _ z => nomatch z) (fun b o _ hb _ e n => u.keep b o e n hb (by simp)) (fun b o _ hb _ e n => u.slot b o e n hb (by simp)) (fun b o _ e n => u.free b o e n (by simp)) (fun b o _ e => u.there b o e (by simp)) u.tups u.frzs u.tbls (fun m' hm => by
    obtain ⟨o', es', ep', ho', r'⟩ := hm
    rw [ho] at ho'; cases ho'
    exact ⟨_, es', ep', hL, r'⟩) hok I.bare
/-- behind a call (or a comprehension's block): the slots of this frame may have changed too, the records at ch may have turned -/
theorem Inv.call {g' : Array GenState} {t' : Nat} {d' : Drawn} {ch : List Addr} (I : Inv X pins σ H s) (u : Un (frs X.stack) ch H H' s.heap h') (hok : HOk X.prog X.w H' h') (hg : AllBare g')
    (hch : ∀ b ∈ ch, (b ∈ X.ex ∨ X.s₀.heap.objs.size ≤ b) ∧ b ≠ X.env.locals ∧ (∀ x c, X.env.cells.lookup x = some c → c ≠ b) ∧ ∀ p ∈ X.pn ++ pins, p.1 ≠ b) :
    Inv X pins σ H' { s with heap := h', gens := g', drawn := d', toks := t' } := by
  obtain ⟨m, ⟨o, es, ep, ho, r⟩, _⟩ := id I.loc
  obtain ⟨sl, hL⟩ := u.any ho I.free fun z => (hch _ z).2.1 rfl
  exact I.step (ch := ch) hch (fun b o hL hb hc e n => u.keep b o e n (fun z => (List.mem_cons.mp (I.stkSub b z)).elim hL hb) hc) (fun b o _ _ hc e n => u.any e n hc) (fun b o hc e n => u.free b o e n hc) (fun b o hc e => u.there b o e hc) u.tups u.frzs u.tbls (fun m' hm => by
    obtain ⟨o', es', ep', ho', r'⟩ := hm
    rw [ho] at ho'; cases ho'
    exact ⟨_, es', ep', hL, r'⟩) hok hg
/-- an untracked record of ours (an iterator) has turned -/
theorem Inv.turned {t' : Nat} {it : Addr} (I : Inv X pins σ H s) (k : ∀ b o, b ≠ it → s.heap.get? b = some o → h'.get? b = some o) (hn : H it = none) (hL : it ≠ X.env.locals)
    (h1 : it ∈ X.ex ∨ X.s₀.heap.objs.size ≤ it) (h2 : ∀ x c, X.env.cells.lookup x = some c → c ≠ it) (h3 : ∀ p ∈ X.pn ++ pins, p.1 ≠ it) : Inv X pins σ H { s with heap := h', toks := t' } := by
  have nit : ∀ b u, H b = some u → b ≠ it := fun b u e z => by rw [z, hn] at e; cases e
  refine I.step (g' := s.gens) (d' := s.drawn) (ch := [it]) (fun b hb => ?_) (fun b o _ _ hc e _ => k b o (fun z => hc (by simp [z])) e) (fun b o _ _ hc e _ => ⟨o.slots, k b o (fun z => hc (by simp [z])) e⟩) (fun _ _ _ _ n => n)
    (fun b o hc e => ⟨o, k b o (fun z => hc (by simp [z])) e⟩) (fun _ _ e => e) (fun _ _ _ e => e) (fun b ps e => ⟨#[], by rw [e]; simp⟩) (fun m hm => ?_) (fun b u e => ?_) I.bare
  · have e : b = it := by simpa using hb
    subst e
    exact ⟨h1, hL, h2, h3⟩
  · obtain ⟨o, es, ep, ho, r⟩ := hm
    exact ⟨o, es, ep, k _ o (Ne.symm hL) ho, r⟩
  · refine (I.hok b u e).stay (fun c v hc q => k c v ?_ q) (fun _ q => q) fun _ _ q => q
    rcases hc with z | z
    · rw [z]; exact nit b u e
    · exact nit c _ z
theorem Inv.tok (I : Inv X pins σ H s) (t : Nat) : Inv X pins σ H { s with toks := t } := I.un (h' := s.heap) (t' := t) Un.refl I.hok
/-- all objects kept -/
theorem Inv.kept {t' : Nat} (I : Inv X pins σ H s) (k : ∀ b u, s.heap.get? b = some u → h'.get? b = some u) : Inv X pins σ H { s with heap := h', toks := t' } := I.un (Un.kept k) (I.hok.kept k)
/-- a new object laid and tracked -/
theorem Inv.laid {a : Addr} {o : HO} {t' : Nat} (I : Inv X pins σ H s) (k : ∀ b u, s.heap.get? b = some u → h'.get? b = some u) (hp : s.heap.objs.size ≤ a) (new : ObjOk X.prog X.w (upd H a o) h' a o) :
    Inv X pins σ (upd H a o) { s with heap := h', toks := t' } := I.un (Un.laid k hp (I.hok.fresh hp)) (I.hok.laid k hp new)
/-- an object written -/
theorem Inv.write {x e : Addr} {o : HO} {t' : Nat} (I : Inv X pins σ H s) (mu : Mut (H x)) (he : e = x ∨ H e = some (.own x)) (k : ∀ b u, b ≠ e → s.heap.get? b = some u → h'.get? b = some u) (heo : ∃ u, h'.get? e = some u)
    (new : ObjOk X.prog X.w (upd H x o) h' x o) : Inv X pins σ (upd H x o) { s with heap := h', toks := t' } := I.un (Un.write mu he k heo) (I.hok.write mu he k heo new)
/-- forgetting slots, pins -/
theorem Inv.weak {σ' : List (Option V)} (I : Inv X pins σ H s) (hl : σ'.length = σ.length) (w : ∀ (i : Nat) v, σ'[i]? = some (some v) → σ[i]? = some (some v)) : Inv X pins σ' H s :=
  ⟨I.ok, I.os, I.bare, I.base, let ⟨m, hn, hl'⟩ := I.loc; ⟨m, hn, fun i x v e1 e2 e3 => hl' i x v e1 (w i v e2) e3⟩, I.cell, I.free, I.freeC, I.pin, I.hok, hl.trans I.len⟩
theorem Inv.pins_of {pins' : List (Addr × Obj)} (I : Inv X pins σ H s) (h : ∀ p ∈ pins', s.heap.get? p.1 = some p.2 ∧ H p.1 = none ∧ p.1 ≠ X.env.locals ∧ p.1 ∉ X.fs ∧ ∀ v, p.2.data ≠ .cell v) : Inv X pins' σ H s :=
  ⟨I.ok, I.os, I.bare, I.base, I.loc, I.cell, I.free, I.freeC, fun p hp => (List.mem_append.mp hp).elim (fun z => I.pin p (List.mem_append_left _ z)) (h p), I.hok, I.len⟩

theorem nodup_ix {N : List Str} (hN : N.Nodup) {i j : Nat} {x : Str} (a : N[i]? = some x) (b : N[j]? = some x) : i = j := by
  obtain ⟨h1, e1⟩ := List.getElem?_eq_some_iff.mp a
  obtain ⟨h2, e2⟩ := List.getElem?_eq_some_iff.mp b
  exact (List.getElem_inj hN).mp (e1.trans e2.symm)

/-- a name is stored; what changed -/
theorem store_ok2 {M : Model} {A : Around} {E : Value → Shared → Prop} {i : Nat} {x : Str} {v : V} {u : Value} {Q : Unit → Shared → Prop} (I : Inv X pins σ H s) (hN : X.N.Nodup) (hi : X.N[i]? = some x) (hx : Loc X.env.scope x) (r : RelV v u)
    (h : ∀ s', Inv X pins (σ.set i (some v)) H s' → (∃ a, Heap.SameBut a s.heap s'.heap ∧ (a = X.env.locals ∨ X.env.cells.lookup x = some a)) → Q () s') (hf : X.fn x = true ∨ X.env.scope.names.lookup x = some .local := by first | exact .inl rfl | exact .inr rfl | assumption) : wpAny M A (storeName X.env x u) Q E s := by
  obtain ⟨m, hn, hl⟩ := id I.loc
  have hcls : (X.env.scope.kind == .class || (X.env.scope.kind == .module && X.env.locals != X.env.globals)) = false := by rw [I.ok.kind]; rfl
  have hiσ : i < σ.length := by rw [I.len]; exact (List.getElem?_eq_some_iff.mp hi).1
  have cne := I.cne
  have tracked : ∀ {a : Addr} {h' : Heap}, (∃ o, s.heap.get? a = some o ∧ H a = none) → Heap.SameBut a s.heap h' → HOk X.prog X.w H h' := fun {a h'} ha hs b ob e => by
    obtain ⟨_, _, hfree⟩ := ha
    refine (I.hok b ob e).stay (fun c w' hc q => (hs.2 c ?_).trans q) (fun _ q => q) fun _ _ q => q
    rintro rfl
    rcases hc with rfl | hc
    · rw [hfree] at e; cases e
    · rw [hfree] at hc; cases hc
  rcases hx with hk | hk
  · refine wpAny_storeName_local hk hn (fun h' hn' hs => ?_) hcls
    obtain ⟨oL, _, _, hoL, _⟩ := id hn
    refine h _ ⟨I.ok, I.os, I.bare, ⟨fun b o e n hb hx => ?_, fun b o e n hb hx => ?_, I.base.free, fun b o e hx => ?_, I.base.tups, I.base.frzs, I.base.tbls⟩, ⟨_, hn', fun j y v' e1 e2 e3 => ?_⟩, fun y c e => ?_, I.free, I.freeC, fun p hp => ?_, tracked ⟨oL, hoL, I.free⟩ hs, by simpa using I.len⟩ ⟨_, hs, .inl rfl⟩
    · exact (hs.2 b (Nat.ne_of_lt (Nat.lt_of_lt_of_le (Heap.lt_size e) I.ok.above))).trans (I.base.keep b o e n hb hx)
    · obtain ⟨sl, e1⟩ := I.base.slot b o e n hb hx
      exact ⟨sl, (hs.2 b (Nat.ne_of_lt (Nat.lt_of_lt_of_le (Heap.lt_size e) I.ok.above))).trans e1⟩
    · obtain ⟨o', e1⟩ := I.base.there b o e hx
      exact ⟨o', (hs.2 b (Nat.ne_of_lt (Nat.lt_of_lt_of_le (Heap.lt_size e) I.ok.above))).trans e1⟩
    · by_cases hj : j = i
      · subst hj
        rw [hi] at e1; cases e1
        rw [List.getElem?_set_self hiσ] at e2
        cases e2
        exact ⟨u, r, .inl ⟨hk, by simp⟩⟩
      · rw [List.getElem?_set_ne (Ne.symm hj)] at e2
        obtain ⟨u', r', q⟩ := hl j y v' e1 e2 e3
        refine ⟨u', r', ?_⟩
        rcases q with ⟨k, e⟩ | ⟨k, c, e, z⟩
        · refine .inl ⟨k, ?_⟩
          have : y ≠ x := fun e => hj (nodup_ix hN e1 (e ▸ hi))
          simp [this, e]
        · exact .inr ⟨k, c, e, z.sameBut hs (cne y c e)⟩
    · obtain ⟨w', z⟩ := I.cell y c e
      exact ⟨w', z.sameBut hs (cne y c e)⟩
    · obtain ⟨e, n, ne, nf, d⟩ := I.pin p hp
      exact ⟨(hs.2 p.1 ne).trans e, n, ne, nf, d⟩
  · have hfn : X.fn x = true := by
      rcases hf with z | z
      · exact z
      · rw [z] at hk; cases hk
    obtain ⟨c, hc⟩ := I.ok.has x (.inl hk)
    obtain ⟨w', z⟩ := I.cell x c hc
    refine wpAny_storeName_cell I.ok.kind hk hc z (fun h' hc' hs => ?_)
    obtain ⟨oc, hoc, hocd⟩ := id z
    refine h { s with heap := h' } ⟨I.ok, I.os, I.bare, ⟨fun b o e n hb hx => ?_, fun b o e n hb hx => ?_, I.base.free, fun b o e hx => ?_, I.base.tups, I.base.frzs, I.base.tbls⟩, ⟨m, hn.sameBut hs (Ne.symm (cne x c hc)), fun j y v' e1 e2 e3 => ?_⟩, fun y c' e => ?_, I.free, I.freeC, fun p hp => ?_, tracked ⟨oc, hoc, I.freeC x c hc⟩ hs, by simpa using I.len⟩ ⟨c, hs, .inr hc⟩
    · exact (hs.2 b (Nat.ne_of_lt (Nat.lt_of_lt_of_le (Heap.lt_size e) (I.ok.cab x c hfn hc)))).trans (I.base.keep b o e n hb hx)
    · obtain ⟨sl, e1⟩ := I.base.slot b o e n hb hx
      exact ⟨sl, (hs.2 b (Nat.ne_of_lt (Nat.lt_of_lt_of_le (Heap.lt_size e) (I.ok.cab x c hfn hc)))).trans e1⟩
    · obtain ⟨o', e1⟩ := I.base.there b o e hx
      exact ⟨o', (hs.2 b (Nat.ne_of_lt (Nat.lt_of_lt_of_le (Heap.lt_size e) (I.ok.cab x c hfn hc)))).trans e1⟩
    · by_cases hj : j = i
      · subst hj
        rw [hi] at e1; cases e1
        rw [List.getElem?_set_self hiσ] at e2
        cases e2
        exact ⟨u, r, .inr ⟨.inl hk, c, hc, hc'⟩⟩
      · rw [List.getElem?_set_ne (Ne.symm hj)] at e2
        obtain ⟨u', r', q⟩ := hl j y v' e1 e2 e3
        refine ⟨u', r', ?_⟩
        rcases q with q | ⟨k, c', e, z'⟩
        · exact .inl q
        · refine .inr ⟨k, c', e, z'.sameBut hs ?_⟩
          rintro rfl
          exact hj (nodup_ix hN e1 (I.ok.inj _ _ _ e hc ▸ hi))
    · by_cases hcc : c' = c
      · subst hcc; exact ⟨_, hc'⟩
      · obtain ⟨w2, z2⟩ := I.cell y c' e
        exact ⟨w2, z2.sameBut hs hcc⟩
    · obtain ⟨e, n, ne, nf, d⟩ := I.pin p hp
      refine ⟨(hs.2 p.1 ?_).trans e, n, ne, nf, d⟩
      intro q
      rw [q, hoc] at e
      have q' : oc = p.2 := Option.some.inj e
      exact d w' (by rw [← q']; exact hocd)
theorem store_ok {M : Model} {A : Around} {E : Value → Shared → Prop} {i : Nat} {x : Str} {v : V} {u : Value} {Q : Unit → Shared → Prop} (I : Inv X pins σ H s) (hN : X.N.Nodup) (hi : X.N[i]? = some x) (hx : Loc X.env.scope x) (r : RelV v u)
    (h : ∀ s', Inv X pins (σ.set i (some v)) H s' → Q () s') (hf : X.fn x = true ∨ X.env.scope.names.lookup x = some .local := by first | exact .inl rfl | exact .inr rfl | assumption) : wpAny M A (storeName X.env x u) Q E s :=
  store_ok2 I hN hi hx r (fun s' I' _ => h s' I') hf
/-- behind a call or a block, the state as it is -/
theorem Inv.call' {s' : Shared} {ch : List Addr} (I : Inv X pins σ H s) (ho : s'.os = s.os) (u : Un (frs X.stack) ch H H' s.heap s'.heap) (hok : HOk X.prog X.w H' s'.heap) (hg : AllBare s'.gens)
    (hch : ∀ b ∈ ch, (b ∈ X.ex ∨ X.s₀.heap.objs.size ≤ b) ∧ b ≠ X.env.locals ∧ (∀ x c, X.env.cells.lookup x = some c → c ≠ b) ∧ ∀ p ∈ X.pn ++ pins, p.1 ≠ b) : Inv X pins σ H' s' := by
  obtain ⟨h', g', d', t', o'⟩ := s'
  have e : o' = s.os := ho
  subst e
  exact I.call (g' := g') (t' := t') (d' := d') u hok hg hch
end

/-! ### the judgements -/
/-- an exception: its class, its own dict's address (where it has one), the abstract heap behind it -/
noncomputable abbrev XK := Value → Option Addr → Hp → Prop
noncomputable abbrev St := List (Option V)
noncomputable abbrev VK := V → Hp → Prop
/-- an expression's reading; a test's; an argument list's -/
noncomputable abbrev TE := St → Hp → VK → Prop
noncomputable abbrev TT := St → Hp → (Bool → Hp → Prop) → Prop
noncomputable abbrev TA := St → Hp → (List V → Hp → Prop) → Prop
/-- what is wanted behind a statement -/
structure Ends where
  nx : St → Hp → Prop
  rt : VK
  bk : St → Hp → Prop := fun _ _ => False
  ct : St → Hp → Prop := fun _ _ => False
noncomputable abbrev TS := Ends → St → Hp → Prop

noncomputable def EP (X : Cx) (pins : List (Addr × Obj)) (σ : St) (Q : VK) (u : Value) (s' : Shared) : Prop := ∃ v H', Inv X pins σ H' s' ∧ RelV v u ∧ Q v H'
noncomputable def TP (X : Cx) (pins : List (Addr × Obj)) (σ : St) (Q : Bool → Hp → Prop) (b : Bool) (s' : Shared) : Prop := ∃ H', Inv X pins σ H' s' ∧ Q b H'
noncomputable def AP (X : Cx) (pins : List (Addr × Obj)) (σ : St) (Q : List V → Hp → Prop) (us : List Value) (s' : Shared) : Prop := ∃ vs H', Inv X pins σ H' s' ∧ Vals vs us ∧ Q vs H'
noncomputable def SP (X : Cx) (pins : List (Addr × Obj)) (D : Ends) (f : Flow) (s' : Shared) : Prop :=
  match f with
  | .next => ∃ σ' H', Inv X pins σ' H' s' ∧ D.nx σ' H'
  | .brk => ∃ σ' H', Inv X pins σ' H' s' ∧ D.bk σ' H'
  | .cont => ∃ σ' H', Inv X pins σ' H' s' ∧ D.ct σ' H'
  | .ret u => ∃ v σ' H', Inv X pins σ' H' s' ∧ RelV v u ∧ D.rt v H'

structure PE (X : Cx) (e : Expr) (t : TE) : Prop where
  run :
  ∀ (pins : List (Addr × Obj)) (s : Shared) (σ : St) (H : Hp) (Q : VK), Inv X pins σ H s → t σ H Q → wpAny (model X.prog X.w) X.A (eval e X.env) (EP X pins σ Q) X.xe s
noncomputable instance {X : Cx} {e : Expr} {t : TE} : CoeFun (PE X e t) (fun _ =>
  ∀ (pins : List (Addr × Obj)) (s : Shared) (σ : St) (H : Hp) (Q : VK), Inv X pins σ H s → t σ H Q → wpAny (model X.prog X.w) X.A (eval e X.env) (EP X pins σ Q) X.xe s
  ) := ⟨fun h => h.run⟩
structure PT (X : Cx) (e : Expr) (t : TT) : Prop where
  run :
  ∀ (pins : List (Addr × Obj)) (s : Shared) (σ : St) (H : Hp) (Q : Bool → Hp → Prop), Inv X pins σ H s → t σ H Q → wpAny (model X.prog X.w) X.A (isTrue e X.env (eval e X.env)) (TP X pins σ Q) X.xe s
noncomputable instance {X : Cx} {e : Expr} {t : TT} : CoeFun (PT X e t) (fun _ =>
  ∀ (pins : List (Addr × Obj)) (s : Shared) (σ : St) (H : Hp) (Q : Bool → Hp → Prop), Inv X pins σ H s → t σ H Q → wpAny (model X.prog X.w) X.A (isTrue e X.env (eval e X.env)) (TP X pins σ Q) X.xe s
  ) := ⟨fun h => h.run⟩
/-- a test whatever its 'whole' is (and, or) -/
structure PW (X : Cx) (e : Expr) (t : TT) : Prop where
  run :
  ∀ (whole : Sem Value) (pins : List (Addr × Obj)) (s : Shared) (σ : St) (H : Hp) (Q : Bool → Hp → Prop), Inv X pins σ H s → t σ H Q → wpAny (model X.prog X.w) X.A (isTrue e X.env whole) (TP X pins σ Q) X.xe s
noncomputable instance {X : Cx} {e : Expr} {t : TT} : CoeFun (PW X e t) (fun _ =>
  ∀ (whole : Sem Value) (pins : List (Addr × Obj)) (s : Shared) (σ : St) (H : Hp) (Q : Bool → Hp → Prop), Inv X pins σ H s → t σ H Q → wpAny (model X.prog X.w) X.A (isTrue e X.env whole) (TP X pins σ Q) X.xe s
  ) := ⟨fun h => h.run⟩
theorem PW.pt {X : Cx} {e : Expr} {t : TT} (h : PW X e t) : PT X e t := .mk (h _)
/-- an argument list (no star), from the left -/
structure PA (X : Cx) (es : List Expr) (t : TA) : Prop where
  run :
  ∀ (pos : Pos) (pins : List (Addr × Obj)) (s : Shared) (σ : St) (H : Hp) (Q : List V → Hp → Prop), Inv X pins σ H s → t σ H Q → wpAny (model X.prog X.w) X.A (spliced (backTo pos (starEach es X.env))) (AP X pins σ Q) X.xe s
noncomputable instance {X : Cx} {es : List Expr} {t : TA} : CoeFun (PA X es t) (fun _ =>
  ∀ (pos : Pos) (pins : List (Addr × Obj)) (s : Shared) (σ : St) (H : Hp) (Q : List V → Hp → Prop), Inv X pins σ H s → t σ H Q → wpAny (model X.prog X.w) X.A (spliced (backTo pos (starEach es X.env))) (AP X pins σ Q) X.xe s
  ) := ⟨fun h => h.run⟩
structure PS (X : Cx) (st : Stmt) (t : TS) : Prop where
  run :
  ∀ (pins : List (Addr × Obj)) (s : Shared) (σ : St) (H : Hp) (D : Ends), Inv X pins σ H s → t D σ H → wpAny (model X.prog X.w) X.A (exec st X.env) (SP X pins D) X.xe s
noncomputable instance {X : Cx} {st : Stmt} {t : TS} : CoeFun (PS X st t) (fun _ =>
  ∀ (pins : List (Addr × Obj)) (s : Shared) (σ : St) (H : Hp) (D : Ends), Inv X pins σ H s → t D σ H → wpAny (model X.prog X.w) X.A (exec st X.env) (SP X pins D) X.xe s
  ) := ⟨fun h => h.run⟩
structure PSs (X : Cx) (st : List Stmt) (t : TS) : Prop where
  run :
  ∀ (pins : List (Addr × Obj)) (s : Shared) (σ : St) (H : Hp) (D : Ends), Inv X pins σ H s → t D σ H → wpAny (model X.prog X.w) X.A (execs st X.env) (SP X pins D) X.xe s
noncomputable instance {X : Cx} {st : List Stmt} {t : TS} : CoeFun (PSs X st t) (fun _ =>
  ∀ (pins : List (Addr × Obj)) (s : Shared) (σ : St) (H : Hp) (D : Ends), Inv X pins σ H s → t D σ H → wpAny (model X.prog X.w) X.A (execs st X.env) (SP X pins D) X.xe s
  ) := ⟨fun h => h.run⟩
/-- weaken the end -/
theorem thn {α : Type} {t : Sem α} {Q Q' : α → Shared → Prop} {M : Model} {A : Around} {E : Value → Shared → Prop} {s : Shared} (h : wpAny M A t Q E s) (hQ : ∀ a s, Q a s → Q' a s) : wpAny M A t Q' E s := wpAny_mono h hQ fun _ _ x => x
end L2

namespace L2
open PySem PySem.Spec PyProof.Rows
section
variable {X : Cx}

/-! ### names and constants -/
noncomputable def tVar (i : Nat) : TE := fun σ H Q => ∃ v, σ[i]? = some (some v) ∧ Q v H
noncomputable def tC (v : V) : TE := fun _ H Q => Q v H
theorem pe_var {i : Nat} {x : Str} {pos : Pos} (hN : X.N[i]? = some x) (hv : Vis X.env.scope x) (hd : (x == ("__debug__" : Str)) = false := by decide) (hcd : (x == ("__classdict__" : Str)) = false := by decide) : PE X (.Name x pos) (tVar i) := .mk <| by
  intro pins s σ H Q I h
  obtain ⟨v, e, h⟩ := h
  obtain ⟨m, hn, hl⟩ := I.loc
  obtain ⟨u, r, l⟩ := hl i x v hN e hv
  have fin : EP X pins σ Q u s := ⟨v, H, I, r, h⟩
  rcases l with ⟨hk, hm⟩ | ⟨hk, c, hc, hcell⟩
  · exact wpAny_Name (wpAny_loadName_local I.ok.kind hk hn hm fin) hd
  · rcases hk with hk | hk
    · exact wpAny_Name (wpAny_loadName_cell I.ok.kind hk hc hcell fin) hd
    · exact wpAny_Name (wpAny_loadName_free I.ok.kind hk hc hcell fin hcd) hd
theorem pe_int {i j pos} : PE X (.Constant (.int i) j pos) (tC (.int i)) := .mk <| fun _ _ _ H _ I h => wpAny_Constant_int ⟨.int i, H, I.tok _, ⟨_, rfl⟩, h⟩
theorem pe_bl {b j pos} : PE X (.Constant (.bool b) j pos) (tC (.bl b)) := .mk <| fun _ _ _ H _ I h => Constant_bool ⟨.bl b, H, I, rfl, h⟩
theorem pe_non {j pos} : PE X (.Constant .none j pos) (tC .non) := .mk <| fun _ _ _ H _ I h => Constant_none ⟨.non, H, I, rfl, h⟩
theorem pe_str {x j pos} : PE X (.Constant (.str x) j pos) (tC (.str x)) := .mk <| fun _ _ _ H _ I h => Calls.Constant_str ⟨.str x, H, I.tok _, ⟨_, rfl⟩, h⟩

/-- a global name of the def -/
noncomputable def Gl (X : Cx) (x : Str) : Prop := X.env.kindOf x = some .globalImplicit
theorem ld_glob {E : Value → Shared → Prop} {pins : List (Addr × Obj)} {s : Shared} {σ : St} {H : Hp} {x : Str} {u : Value} {pos : Pos} {Q : Value → Shared → Prop} (I : Inv X pins σ H s) (hg : Gl X x) (hm : X.mg x = some u) (h : Q u s)
    (hd : (x == ("__debug__" : Str)) = false := by decide) : wpAny (model X.prog X.w) X.A (eval (.Name x pos) X.env) Q E s :=
  Calls.Name_function_global I.ok.kind hg (Calls.loadGlobal_global (by rw [I.ok.glob]; exact I.mod.glob.keeps I.bk) hm h) hd
theorem ld_blt {E : Value → Shared → Prop} {pins : List (Addr × Obj)} {s : Shared} {σ : St} {H : Hp} {x : Str} {u : Value} {pos : Pos} {Q : Value → Shared → Prop} (I : Inv X pins σ H s) (hg : Gl X x) (hm : X.mg x = none) (hv : bootBuiltins x = some u) (h : Q u s)
    (hn : x ≠ "__name__" := by decide) (hd : (x == ("__debug__" : Str)) = false := by decide) : wpAny (model X.prog X.w) X.A (eval (.Name x pos) X.env) Q E s := by
  obtain ⟨mb, h1, h2⟩ := I.mod.blt
  exact Calls.Name_function_global I.ok.kind hg (Calls.loadGlobal_builtin (by rw [I.ok.glob]; exact I.mod.glob.keeps I.bk) hm (by rw [I.ok.blt]; exact h1.keeps I.bk) ((h2 x hn).trans hv) h) hd
/-! ### arithmetic -/
variable {a b : Expr} {ta tb : TE} {pos : Pos}
/-! ### comparisons -/
/-- a comparison as a value, as a test -/
noncomputable def tB (t : TE) : TT := fun σ H Q => t σ H fun x H1 => ∃ c, x = .bl c ∧ Q c H1
/-- an expression whose value is a bool, as a test -/
theorem pt_val {e : Expr} {t : TE} (h : PE X e t) (he : ∀ whole, isTrue e X.env whole = (do let v ← whole; standAt e.pos; holding [v] (truthy v)) := by intro _; rfl) : PT X e (tB t) := .mk <| by
  intro pins s σ H Q I hw
  refine isTrue_plain (thn (h pins s σ H _ I hw) fun v s1 ⟨x, H1, I1, r1, q1⟩ => ?_) (he _)
  obtain ⟨d, rfl, q⟩ := q1
  cases r1
  exact wpAny_truthy_bool ⟨H1, I1, q⟩

/-! ### and, or, not -/
variable {tA tB' : TT} {rest : List Expr}
noncomputable def tAnd (t u : TT) : TT := fun σ H Q => t σ H fun c H1 => if c = true then u σ H1 Q else Q false H1
noncomputable def tOr (t u : TT) : TT := fun σ H Q => t σ H fun c H1 => if c = true then Q true H1 else u σ H1 Q
noncomputable def tNot (t : TT) : TT := fun σ H Q => t σ H fun c H1 => Q (!c) H1
theorem pw_and1 (ha : PT X a tA) : PW X (.BoolOp .And [a] pos) tA := .mk <| by
  intro wh pins s σ H Q I h
  refine isTrue_and (thn (ha pins s σ H Q I h) fun c s1 e => ?_)
  cases c with
  | true => exact isTrue_and_nil e
  | false => exact e
theorem pw_or1 (ha : PT X a tA) : PW X (.BoolOp .Or [a] pos) tA := .mk <| by
  intro wh pins s σ H Q I h
  refine isTrue_or (thn (ha pins s σ H Q I h) fun c s1 e => ?_)
  cases c with
  | false => exact isTrue_or_nil e
  | true => exact e
theorem pw_and (ha : PT X a tA) (hb : PW X (.BoolOp .And (b :: rest) pos) tB') : PW X (.BoolOp .And (a :: b :: rest) pos) (tAnd tA tB') := .mk <| by
  intro wh pins s σ H Q I h
  refine isTrue_and (thn (ha pins s σ H _ I h) fun c s1 ⟨H1, I1, q1⟩ => ?_)
  cases c with
  | true => exact hb wh pins s1 σ H1 Q I1 q1
  | false => exact ⟨H1, I1, q1⟩
theorem pw_or (ha : PT X a tA) (hb : PW X (.BoolOp .Or (b :: rest) pos) tB') : PW X (.BoolOp .Or (a :: b :: rest) pos) (tOr tA tB') := .mk <| by
  intro wh pins s σ H Q I h
  refine isTrue_or (thn (ha pins s σ H _ I h) fun c s1 ⟨H1, I1, q1⟩ => ?_)
  cases c with
  | true => exact ⟨H1, I1, q1⟩
  | false => exact hb wh pins s1 σ H1 Q I1 q1
theorem pt_not (ha : PT X a tA) : PT X (.UnaryOp .Not a pos) (tNot tA) := .mk <| by
  intro pins s σ H Q I h
  exact isTrue_not (ha pins s σ H (fun c H1 => Q (!c) H1) I h)
end
end L2

namespace L2
open PySem PySem.Spec PyProof.Rows

/-! ### a list, a tuple that is read: tracked, frozen, or an object of the module -/
noncomputable def SqL (K : PySem.W.Frag) (H : Hp) (a : Addr) (xs : List V) : Prop :=
  Rd H a (.lst xs) ∨
    ∃ (o : Obj) (its : Array Value) (n : Nat), K.lookup a = some o ∧ o.cls = .type "list" ∧ o.dict = none ∧ o.data = .seq its n ∧ its.size ≤ sizeLine ∧ Vals xs its.toList
noncomputable def SqT (K : PySem.W.Frag) (H : Hp) (a : Addr) (xs : List V) : Prop :=
  Rd H a (.tup xs) ∨
    ∃ (o : Obj) (its : Array Value) (n : Nat), K.lookup a = some o ∧ o.cls = .type "tuple" ∧ o.data = .seq its n ∧ its.size ≤ sizeLine ∧ Vals xs its.toList
noncomputable def absV : Value → Option V
  | .none => some .non
  | .bool b => some (.bl b)
  | .int i _ => some (.int i)
  | .str x _ => some (.str x)
  | .bytes b _ => some (.byt b)
  | .float b _ => some (.flt b)
  | .ref a => some (.ref a)
  | .type n => some (.ty n)
  | _ => none
theorem RelV.abs {x : V} {u : Value} (r : RelV x u) : absV u = some x := by
  cases x with
  | non => cases r; rfl
  | bl _ => cases r; rfl
  | int _ => obtain ⟨t, rfl⟩ := r; rfl
  | str _ => obtain ⟨t, rfl⟩ := r; rfl
  | byt _ => obtain ⟨t, rfl⟩ := r; rfl
  | flt _ => obtain ⟨t, rfl⟩ := r; rfl
  | ref _ => cases r; rfl
  | ty _ => cases r; rfl
theorem RelV.inj {x y : V} {u : Value} (r : RelV x u) (q : RelV y u) : x = y := Option.some.inj (r.abs.symm.trans q.abs)
theorem Vals.inj : ∀ {xs ys : List V} {us : List Value}, Vals xs us → Vals ys us → xs = ys
  | _, _, _, .nil, .nil => rfl
  | _, _, _, .cons r t, .cons r' t' => by rw [r.inj r', Vals.inj t t']
section
variable {X : Cx} {pins : List (Addr × Obj)} {σ : St} {H : Hp} {s : Shared} {a : Addr} {xs ys : List V}
theorem SqL.of {K : PySem.W.Frag} (h : H a = some (.lst xs)) : SqL K H a xs := .inl (.inl h)
theorem SqT.of {K : PySem.W.Frag} (h : H a = some (.tup xs)) : SqT K H a xs := .inl (.inl h)
theorem Inv.list (I : Inv X pins σ H s) (h : SqL X.K H a xs) : ∃ its : List Value, Vals xs its ∧ PlainL s.heap a its.toArray ∧ xs.length ≤ sizeLine := by
  rcases h with h | ⟨o, its, n, hk, hc, hd, hs, hz, r⟩
  · obtain ⟨z, its, n, r, e⟩ := h.ok I.hok
    exact ⟨its, r, ⟨_, n, e, rfl, rfl, rfl⟩, z⟩
  · refine ⟨its.toList, r, ⟨o, n, I.kIn a o hk, hc, hd, by simpa using hs⟩, ?_⟩
    have e := r.length
    simp only [Array.length_toList] at e
    omega
theorem Inv.tuple (I : Inv X pins σ H s) (h : SqT X.K H a xs) : ∃ its : List Value, Vals xs its ∧ IsTup s.heap a its.toArray ∧ xs.length ≤ sizeLine := by
  rcases h with h | ⟨o, its, n, hk, hc, hs, hz, r⟩
  · obtain ⟨z, its, r, p⟩ := h.ok I.hok
    exact ⟨its, r, p, z⟩
  · refine ⟨its.toList, r, ⟨o, I.kIn a o hk, hc, n, by simpa using hs⟩, ?_⟩
    have e := r.length
    simp only [Array.length_toList] at e
    omega
theorem Inv.list_inj (I : Inv X pins σ H s) (h : SqL X.K H a xs) (h' : SqL X.K H a ys) : xs = ys := by
  obtain ⟨its, r, ⟨o, n, e, _, _, d⟩, _⟩ := I.list h
  obtain ⟨its', r', ⟨o', n', e', _, _, d'⟩, _⟩ := I.list h'
  rw [e] at e'; cases e'
  rw [d] at d'
  injection d' with d1 _
  have : its = its' := by simpa using congrArg Array.toList d1
  subst this
  exact r.inj r'
end

/-! ### another wish about exceptions -/
noncomputable abbrev Cx.wish (X : Cx) (E : Value → Shared → Prop) : Cx := { X with xe := E }
/-- no exception leaves -/
noncomputable abbrev Cx.nox (X : Cx) : Cx := X.wish fun _ _ => False
theorem Cx.Ok.wish {X : Cx} (ok : X.Ok) (E : Value → Shared → Prop) : (X.wish E).Ok :=
  ⟨ok.mod, ok.kind, ok.glob, ok.blt, ok.above, ok.inj, ok.has, ok.cab, ok.hd, ok.frames, ok.stk, ok.exf, ok.bs, ok.bsz, ok.noex, ok.exfs, ok.funs, ok.frf⟩
theorem Cx.Ok.unwish {X : Cx} {E : Value → Shared → Prop} (ok : (X.wish E).Ok) : X.Ok :=
  ⟨ok.mod, ok.kind, ok.glob, ok.blt, ok.above, ok.inj, ok.has, ok.cab, ok.hd, ok.frames, ok.stk, ok.exf, ok.bs, ok.bsz, ok.noex, ok.exfs, ok.funs, ok.frf⟩
section
variable {X : Cx} {pins : List (Addr × Obj)} {σ : St} {H : Hp} {s : Shared} {E : Value → Shared → Prop}
theorem Inv.wish (I : Inv X pins σ H s) (E : Value → Shared → Prop) : Inv (X.wish E) pins σ H s := ⟨I.ok.wish E, I.os, I.bare, I.base, I.loc, I.cell, I.free, I.freeC, I.pin, I.hok, I.len⟩
theorem Inv.unwish (I : Inv (X.wish E) pins σ H s) : Inv X pins σ H s := ⟨I.ok.unwish, I.os, I.bare, I.base, I.loc, I.cell, I.free, I.freeC, I.pin, I.hok, I.len⟩
theorem SP.unwish {D : Ends} {f : Flow} {s' : Shared} (h : SP (X.wish E) pins D f s') : SP X pins D f s' := by
  cases f with
  | next => obtain ⟨σ', H', I, q⟩ := h; exact ⟨σ', H', I.unwish, q⟩
  | brk => obtain ⟨σ', H', I, q⟩ := h; exact ⟨σ', H', I.unwish, q⟩
  | cont => obtain ⟨σ', H', I, q⟩ := h; exact ⟨σ', H', I.unwish, q⟩
  | ret u => obtain ⟨v, σ', H', I, r, q⟩ := h; exact ⟨v, σ', H', I.unwish, r, q⟩
theorem PSs.nox {st : List Stmt} {t : TS} (h : PSs X.nox st t) : PSs X st t := .mk <| fun pins s σ H D I hw =>
  wpAny_mono (h pins s σ H D (I.wish _) hw) (fun _ _ q => q.unwish) fun _ _ z => False.elim z
end

/-! ### blocks and small statements -/
section
variable {X : Cx} {st : Stmt} {rest : List Stmt} {t u : TS} {e : Expr} {te : TE} {pos : Pos}
noncomputable def tNext : TS := fun D σ H => D.nx σ H
noncomputable def tSeq (t u : TS) : TS := fun D σ H => t { D with nx := u D } σ H
theorem pss_nil : PSs X [] tNext := .mk <| fun _ _ σ H _ I h => wpAny_execs_nil ⟨σ, H, I, h⟩
theorem pss_cons (h1 : PS X st t) (h2 : PSs X rest u) : PSs X (st :: rest) (tSeq t u) := .mk <| by
  intro pins s σ H D I h
  refine wpAny_execs_cons (thn (h1 pins s σ H { D with nx := u D } I h) fun f s1 q => ?_)
  cases f with
  | next =>
    obtain ⟨σ', H', I', q⟩ := q
    exact h2 pins s1 σ' H' D I' q
  | ret v => exact q
  | brk => exact q
  | cont => exact q
theorem pss_one (h1 : PS X st t) : PSs X [st] t := .mk <| by
  intro pins s σ H D I h
  refine wpAny_execs_cons (thn (h1 pins s σ H D I h) fun f s1 q => ?_)
  cases f with
  | next => exact wpAny_execs_nil q
  | ret v => exact q
  | brk => exact q
  | cont => exact q
/-- in a def's body nothing is shown -/
theorem Inv.quiet {pins : List (Addr × Obj)} {σ : St} {H : Hp} {s : Shared} (I : Inv X pins σ H s) : interactive X.env = false := by simp [interactive, I.ok.kind]
/-- an expression whose value is dropped -/
noncomputable def tDrop (te : TE) : TS := fun D σ H => te σ H fun _ H1 => D.nx σ H1
theorem ps_expr (he : PE X e te) (hs : swapsWith e none pos.line X.env = pure false := by rfl) : PS X (.Expr e pos) (tDrop te) := .mk <| by
  intro pins s σ H D I h
  exact wpAny_Expr_any (thn (he pins s σ H _ I h) fun v s1 ⟨x, H1, I1, r1, q1⟩ => ⟨σ, H1, I1, q1⟩) I.quiet hs
noncomputable def tRet (te : TE) : TS := fun D σ H => te σ H D.rt
theorem ps_ret (he : PE X e te) : PS X (.Return (some e) pos) (tRet te) := .mk <| by
  intro pins s σ H D I h
  exact wpAny_Return_some (thn (he pins s σ H _ I h) fun v s1 ⟨x, H1, I1, r1, q1⟩ => ⟨x, σ, H1, I1, r1, q1⟩)
noncomputable def tIfS (c : TT) (t u : TS) : TS := fun D σ H => c σ H fun b H1 => if b = true then t D σ H1 else u D σ H1
theorem ps_if {c : Expr} {a b : List Stmt} {tc : TT} (hc : PT X c tc) (ha : PSs X a t) (hb : PSs X b u) : PS X (.If c a b pos) (tIfS tc t u) := .mk <| by
  intro pins s σ H D I h
  refine wpAny_If (thn (hc pins s σ H _ I h) fun d s1 ⟨H1, I1, q1⟩ => ?_)
  cases d with
  | true => exact ha pins s1 σ H1 D I1 q1
  | false => exact hb pins s1 σ H1 D I1 q1
end

/-! ### targets -/
noncomputable abbrev TG := V → St → Hp → (St → Hp → Prop) → Prop
noncomputable abbrev TGs := List V → St → Hp → (St → Hp → Prop) → Prop
structure PG (X : Cx) (target : Expr) (t : TG) : Prop where
  run :
  ∀ (pins : List (Addr × Obj)) (s : Shared) (σ : St) (H : Hp) (v : V) (u : Value) (Q : St → Hp → Prop), Inv X pins σ H s → RelV v u → t v σ H Q →
    wpAny (model X.prog X.w) X.A (assign target X.env u) (fun _ s' => ∃ σ' H', Inv X pins σ' H' s' ∧ Q σ' H') X.xe s
noncomputable instance {X : Cx} {target : Expr} {t : TG} : CoeFun (PG X target t) (fun _ =>
  ∀ (pins : List (Addr × Obj)) (s : Shared) (σ : St) (H : Hp) (v : V) (u : Value) (Q : St → Hp → Prop), Inv X pins σ H s → RelV v u → t v σ H Q →
    wpAny (model X.prog X.w) X.A (assign target X.env u) (fun _ s' => ∃ σ' H', Inv X pins σ' H' s' ∧ Q σ' H') X.xe s
  ) := ⟨fun h => h.run⟩
/-- several targets, one after another -/
structure PGs (X : Cx) (ts : List Expr) (t : TGs) : Prop where
  run :
  ∀ (pins : List (Addr × Obj)) (s : Shared) (σ : St) (H : Hp) (vs : List V) (us : List Value) (Q : St → Hp → Prop), Inv X pins σ H s → Vals vs us → t vs σ H Q →
    wpAny (model X.prog X.w) X.A (assignInOrder ((assignEach ts X.env).map (·.2)) us) (fun _ s' => ∃ σ' H', Inv X pins σ' H' s' ∧ Q σ' H') X.xe s
noncomputable instance {X : Cx} {ts : List Expr} {t : TGs} : CoeFun (PGs X ts t) (fun _ =>
  ∀ (pins : List (Addr × Obj)) (s : Shared) (σ : St) (H : Hp) (vs : List V) (us : List Value) (Q : St → Hp → Prop), Inv X pins σ H s → Vals vs us → t vs σ H Q →
    wpAny (model X.prog X.w) X.A (assignInOrder ((assignEach ts X.env).map (·.2)) us) (fun _ s' => ∃ σ' H', Inv X pins σ' H' s' ∧ Q σ' H') X.xe s
  ) := ⟨fun h => h.run⟩
/-- a op= b, by values -/
noncomputable abbrev TIp := V → V → Hp → VK → Prop
noncomputable def PIp (X : Cx) (op : Operator) (t : TIp) : Prop :=
  ∀ (pins : List (Addr × Obj)) (s : Shared) (σ : St) (H : Hp) (x y : V) (v u : Value) (Q : VK), Inv X pins σ H s → RelV x v → RelV y u → t x y H Q →
    wpAny (model X.prog X.w) X.A (inplaceOp op v u) (EP X pins σ Q) X.xe s
section
variable {X : Cx} {pos : Pos}
noncomputable def gName (i : Nat) : TG := fun v σ H Q => Q (σ.set i (some v)) H
theorem pg_name {i : Nat} {x : Str} (hN : X.N.Nodup) (hi : X.N[i]? = some x) (hx : Loc X.env.scope x) (hf : X.fn x = true ∨ X.env.scope.names.lookup x = some .local := by first | exact .inl rfl | exact .inr rfl | assumption) : PG X (.Name x pos) (gName i) := .mk <| by
  intro pins s σ H v u Q I r h
  exact wpAny_assign_Name (store_ok I hN hi hx r (fun s' I' => ⟨_, H, I', h⟩) hf)
noncomputable def gNil : TGs := fun vs σ H Q => vs = [] ∧ Q σ H
noncomputable def gCons (t : TG) (u : TGs) : TGs := fun vs σ H Q => ∃ v r, vs = v :: r ∧ t v σ H fun σ' H' => u r σ' H' Q
theorem pgs_nil : PGs X [] gNil := .mk <| by
  intro pins s σ H vs us Q I r h
  obtain ⟨e, h⟩ := h
  subst e
  cases r
  exact assignInOrder_nil ⟨σ, H, I, h⟩
theorem pgs_cons {e : Expr} {es : List Expr} {t : TG} {u : TGs} (h1 : PG X e t) (h2 : PGs X es u)
    (hs : (assignEach (e :: es) X.env).map (·.2) = assign e X.env :: (assignEach es X.env).map (·.2) := by rfl) : PGs X (e :: es) (gCons t u) := .mk <| by
  intro pins s σ H vs us Q I r h
  obtain ⟨v, vr, e1, h⟩ := h
  subst e1
  cases r with
  | cons r rr =>
    rw [hs]
    refine assignInOrder_cons (thn (h1 pins s σ H _ _ _ I r h) fun _ s1 ⟨σ1, H1, I1, q1⟩ => ?_)
    exact h2 pins s1 σ1 H1 _ _ Q I1 rr q1
/-- (a, b, ..) = a tuple of that length -/
noncomputable def gTup (K : PySem.W.Frag) (n : Nat) (t : TGs) : TG := fun v σ H Q => ∃ a xs, v = .ref a ∧ SqT K H a xs ∧ xs.length = n ∧ t xs σ H Q
theorem pg_tup {es : List Expr} {k : Nat} {t : TGs} {n : Nat} (hc : X.calm = true) (h : PGs X es t)
    (hn : (assignEach es X.env).length = n := by rfl) (hst : (assignEach es X.env).findIdx? (·.1) = none := by rfl) : PG X (.Tuple es k pos) (gTup X.K n t) := .mk <| by
  intro pins s σ H v u Q I r hw
  obtain ⟨a, xs, e1, hq, hl, hw⟩ := hw
  subst e1
  cases r
  obtain ⟨its, rv, ht, hz⟩ := I.tuple hq
  refine assign_Tuple_tuple (I.ok.hd hc) ht (by simp [hn, ← hl, rv.length]) hst fun h' hx => ?_
  have I1 : Inv X pins σ H { s with heap := h' } := I.kept (t' := s.toks) fun b o e => hx b o (Nat.ne_of_lt (Heap.lt_size e)) e
  exact h pins _ σ H xs _ Q I1 (by simpa using rv) hw
/-- target = value -/
noncomputable def tAsg (te : TE) (g : TG) : TS := fun D σ H => te σ H fun x H1 => g x σ H1 D.nx
/-- name = value -/
theorem ps_set {i : Nat} {x : Str} {e : Expr} {te : TE} {pos' : Pos} (hN : X.N.Nodup) (hi : X.N[i]? = some x) (hx : Loc X.env.scope x) (he : PE X e te) (hs : swapsWith e (some (.Name x pos')) pos.line X.env = pure false := by rfl) (hf : X.fn x = true ∨ X.env.scope.names.lookup x = some .local := by first | exact .inl rfl | exact .inr rfl | assumption) :
    PS X (.Assign [.Name x pos'] e pos) (tAsg te (gName i)) := .mk <| by
  intro pins s σ H D I h
  refine wpAny_Assign_Name (thn (he pins s σ H _ I h) fun v s1 ⟨y, H1, I1, r1, q1⟩ => ?_) hs
  exact store_ok I1 hN hi hx r1 (fun s2 I2 => ⟨_, H1, I2, q1⟩) hf
/-- name op= e -/
noncomputable def tAug (i : Nat) (te : TE) (ti : TIp) : TS := fun D σ H => ∃ x, σ[i]? = some (some x) ∧ te σ H fun y H1 => ti x y H1 fun z H2 => D.nx (σ.set i (some z)) H2
theorem ps_aug {i : Nat} {x : Str} {e : Expr} {te : TE} {op : Operator} {ti : TIp} {pos' : Pos} (hN : X.N.Nodup) (hi : X.N[i]? = some x) (hx : Loc X.env.scope x) (he : PE X e te) (ho : PIp X op ti) (hf : X.fn x = true ∨ X.env.scope.names.lookup x = some .local := by first | exact .inl rfl | exact .inr rfl | assumption) :
    PS X (.AugAssign (.Name x pos') op e pos) (tAug i te ti) := .mk <| by
  intro pins s σ H D I h
  obtain ⟨v, e1, h⟩ := h
  obtain ⟨m, hn, hl⟩ := I.loc
  have vis : Vis X.env.scope x := by rcases hx with k | k; exact .inl k; exact .inr (.inl k)
  obtain ⟨u, r, l⟩ := hl i x v hi e1 vis
  refine wpAny_AugAssign_Name ?_
  have go : wpAny (model X.prog X.w) X.A (eval e X.env) (fun w s₂ => wpAny (model X.prog X.w) X.A (inplaceOp op u w) (fun r s₃ => wpAny (model X.prog X.w) X.A (storeName X.env x r) (fun _ => SP X pins D .next) X.xe s₃) X.xe s₂) X.xe s := by
    refine thn (he pins s σ H _ I h) fun w s1 ⟨y, H1, I1, r1, q1⟩ => ?_
    refine thn (ho pins s1 σ H1 v y u w _ I1 r r1 q1) fun z s2 ⟨zv, H2, I2, r2, q2⟩ => ?_
    exact store_ok I2 hN hi hx r2 (fun s3 I3 => ⟨_, H2, I3, q2⟩) hf
  rcases l with ⟨hk, hm⟩ | ⟨hk, c, hc, hcell⟩
  · exact wpAny_loadName_local I.ok.kind hk hn hm go
  · rcases hk with hk | hk
    · exact wpAny_loadName_cell I.ok.kind hk hc hcell go
    · rcases hx with k | k
      · have : X.env.scope.names.lookup x = some .free := hk
        rw [k] at this; cases this
      · have : X.env.scope.names.lookup x = some .free := hk
        rw [k] at this; cases this
/-- ints -/
noncomputable def ipI (f : Int → Int → Int) : TIp := fun x y H Q => ∃ i j, x = .int i ∧ y = .int j ∧ Q (.int (f i j)) H
theorem ip_sub : PIp X .Sub (ipI fun i j => i - j) := by
  intro pins s σ H x y v u Q I r1 r2 h
  obtain ⟨i, j, e1, e2, q⟩ := h
  subst e1; subst e2
  obtain ⟨t, rfl⟩ := r1
  obtain ⟨t', rfl⟩ := r2
  exact isub_int ⟨.int _, H, I.tok _, ⟨_, rfl⟩, q⟩
end

/-! ### while -/
section
variable {X : Cx} {pos : Pos}
/-- the invariant W with its measure -/
noncomputable def tWhile (c : TT) (tb : TS) : TS := fun D σ H => ∃ W : Nat → St → Hp → Prop, (∃ m, W m σ H) ∧ ∀ m σ H, W m σ H →
  c σ H fun b H1 => if b = true then ∃ N : St → Hp → Prop, (∀ σ' H', N σ' H' → ∃ m', m' < m ∧ W m' σ' H') ∧ tb { D with nx := N, ct := N, bk := D.nx } σ H1 else D.nx σ H1
theorem ps_while {c : Expr} {body : List Stmt} {tc : TT} {tb : TS} (hp : PassesOwn (model X.prog X.w) X.A X.env X.xe) (hc : PT X c tc) (hb : PSs X body tb) : PS X (.While c body [] pos) (tWhile tc tb) := .mk <| by
  intro pins s σ H D I h
  obtain ⟨W, ⟨m0, w0⟩, turn⟩ := h
  refine wpAny_While (codeAny_whileLoop (fun n s' => ∃ σ' H', Inv X pins σ' H' s' ∧ W n σ' H') ?_ m0 ⟨σ, H, I, w0⟩)
  rintro n s1 ⟨σ1, H1, I1, w1⟩
  refine wpAny_passesOwn hp (thn (hc pins s1 σ1 H1 _ I1 (turn n σ1 H1 w1)) fun b s2 ⟨H2, I2, q2⟩ => ?_)
  cases b with
  | true =>
    obtain ⟨N, hN, q2⟩ := q2
    rw [if_pos rfl]
    refine wpAny_passesOwn hp (thn (hb pins s2 σ1 H2 _ I2 q2) fun f s3 q3 => ?_)
    cases f with
    | next =>
      obtain ⟨σ3, H3, I3, n3⟩ := q3
      obtain ⟨m', hm, w3⟩ := hN σ3 H3 n3
      exact ⟨m', hm, σ3, H3, I3, w3⟩
    | cont =>
      obtain ⟨σ3, H3, I3, n3⟩ := q3
      obtain ⟨m', hm, w3⟩ := hN σ3 H3 n3
      exact ⟨m', hm, σ3, H3, I3, w3⟩
    | brk => exact q3
    | ret v => exact q3
  | false =>
    rw [if_neg Bool.false_ne_true]
    exact wpAny_execs_nil ⟨σ1, H2, I2, q2⟩
end

/-! ### what a loop or a comprehension walks -/
/-- at turn i: it yields x (the heap may grow), or it stops -/
structure It where
  go : Nat → Hp → Prop
  yld : Nat → Hp → V → Hp → Prop
  stop : Nat → Hp → Prop
/-- the iterator's own objects may turn: they are not the frame's, not pinned, younger than the entry (or a comprehension's own) -/
noncomputable def FpOk (X : Cx) (pins : List (Addr × Obj)) (H : Hp) (b : Addr) : Prop :=
  H b = none ∧ b ≠ X.env.locals ∧ b ∉ X.fs ∧ (b ∈ X.ex ∨ X.s₀.heap.objs.size ≤ b) ∧ (∀ x c, X.env.cells.lookup x = some c → c ≠ b) ∧ ∀ p ∈ X.pn ++ pins, p.1 ≠ b
theorem Inv.fpOk {X : Cx} {pins : List (Addr × Obj)} {σ : St} {H H' : Hp} {s : Shared} {b : Addr} (I : Inv X pins σ H s) (hb : s.heap.objs.size ≤ b) (hn : H' b = none) : FpOk X pins H' b := by
  refine ⟨hn, Nat.ne_of_gt (Nat.lt_of_lt_of_le I.lt hb), I.nofs hb, .inr (Nat.le_trans I.sz hb), fun x c e z => ?_, fun p hp z => ?_⟩
  · obtain ⟨v, q⟩ := I.cell x c e
    exact absurd (Nat.lt_of_lt_of_le q.lt (by rw [z]; exact hb)) (Nat.lt_irrefl _)
  · exact absurd (Nat.lt_of_lt_of_le (Heap.lt_size (I.pin p hp).1) (by rw [z]; exact hb)) (Nat.lt_irrefl _)
structure Turn (P : Program) (w : World) (K : PySem.W.Frag) (tg : Expr) (J : It) (fp : List Addr) (it : Addr) (tn : Nat → Heap → Prop) : Prop where
  mem : it ∈ fp
  obj : ∀ i h, tn i h → ∀ b ∈ fp, ∃ o, h.get? b = some o ∧ ∀ v, o.data ≠ .cell v
  keep : ∀ i h h', tn i h → (∀ b ∈ fp, ∀ o, h.get? b = some o → h'.get? b = some o) → tn i h'
  item : ∀ (X : Cx), X.prog = P → X.w = w → X.K = K → X.calm = true → ∀ (i : Nat) (pins : List (Addr × Obj)) (s : Shared) (σ : St) (H : Hp) (E : Value → Shared → Prop), Inv X pins σ H s → (∀ b ∈ fp, FpOk X pins H b) → tn i s.heap → J.go i H →
    wpAny (model P w) X.A (pyNext (.ref it)) (fun r s1 => ∃ u, r = some u ∧
      wpAny (model P w) X.A (letOwnedTupleGo tg (.ref it) u) (fun _ s2 => ∃ x H', Inv X pins σ H' s2 ∧ RelV x u ∧ J.yld i H x H' ∧ tn (i + 1) s2.heap ∧ ∀ b ∈ fp, H' b = none) E s1) E s
  done : ∀ (X : Cx), X.prog = P → X.w = w → X.K = K → X.calm = true → ∀ (i : Nat) (pins : List (Addr × Obj)) (s : Shared) (σ : St) (H : Hp) (E : Value → Shared → Prop), Inv X pins σ H s → (∀ b ∈ fp, FpOk X pins H b) → tn i s.heap → J.stop i H →
    wpAny (model P w) X.A (pyNext (.ref it)) (fun r s1 => r = none ∧ Inv X pins σ H s1) E s
  self : ∀ (A : Around) (i : Nat) (s : Shared) (Q : Value → Shared → Prop) (E : Value → Shared → Prop), tn i s.heap → Q (.ref it) s → wpAny (model P w) A (pyIter (.ref it)) Q E s
noncomputable abbrev TI := St → Hp → (It → Hp → Prop) → Prop
/-- an iterator has come -/
noncomputable def PIE (X : Cx) (pins : List (Addr × Obj)) (σ : St) (tg : Expr) (R : It → Hp → Prop) (itv : Value) (s2 : Shared) : Prop :=
  ∃ (it : Addr) (fp : List Addr) (tn : Nat → Heap → Prop) (J : It) (H' : Hp), itv = .ref it ∧ Inv X pins σ H' s2 ∧ Turn X.prog X.w X.K tg J fp it tn ∧ tn 0 s2.heap ∧ (∀ b ∈ fp, FpOk X pins H' b) ∧ R J H'
structure PI (X : Cx) (tg iter : Expr) (wi : TI) : Prop where
  run :
  ∀ (pins : List (Addr × Obj)) (s : Shared) (σ : St) (H : Hp) (R : It → Hp → Prop), Inv X pins σ H s → wi σ H R →
    wpAny (model X.prog X.w) X.A (eval iter X.env) (fun v s1 => wpAny (model X.prog X.w) X.A (pyIter v) (PIE X pins σ tg R) X.xe s1) X.xe s
noncomputable instance {X : Cx} {tg iter : Expr} {wi : TI} : CoeFun (PI X tg iter wi) (fun _ =>
  ∀ (pins : List (Addr × Obj)) (s : Shared) (σ : St) (H : Hp) (R : It → Hp → Prop), Inv X pins σ H s → wi σ H R →
    wpAny (model X.prog X.w) X.A (eval iter X.env) (fun v s1 => wpAny (model X.prog X.w) X.A (pyIter v) (PIE X pins σ tg R) X.xe s1) X.xe s
  ) := ⟨fun h => h.run⟩

/-- the step ahead of the store is nothing for an iterator that keeps no tuple -/
theorem go_of {M : Model} {A : Around} {E : Value → Shared → Prop} {s : Shared} {tg : Expr} {it : Addr} {u : Value} {o : Obj} {n : String} {vs : Array Value} {Q : Unit → Shared → Prop} (ho : s.heap.get? it = some o) (hc : o.cls = .type n) (hd : o.data = .fields vs)
    (hn : ["enumerate", "zip", "dict_itemiterator", "dict_reverseitemiterator", "odict_iterator", "itertools.zip_longest", "itertools.pairwise"].contains n = false) (hQ : Q () s) : wpAny M A (letOwnedTupleGo tg (.ref it) u) Q E s := by
  unfold letOwnedTupleGo
  cases tg <;> first
    | exact wpAny_pure hQ
    | (cases u <;> first
        | exact wpAny_pure hQ
        | (refine wpAny_bind (wpAny_load ho ?_)
           rw [hc, hd]
           show wpAny M A (if (["enumerate", "zip", "dict_itemiterator", "dict_reverseitemiterator", "odict_iterator", "itertools.zip_longest", "itertools.pairwise"].contains n && vs[0]? == some (rawInt _)) = true then _ else _) Q E s
           rw [if_neg (by intro h; rw [hn, Bool.false_and] at h; cases h)]
           exact wpAny_pure hQ))

/-- the list at a, as it stands at each turn (a loop may append to it) -/
noncomputable def Itl (K : PySem.W.Frag) (a : Addr) : It :=
  ⟨fun i H => ∃ xs x, SqL K H a xs ∧ xs[i]? = some x, fun i H x H' => H' = H ∧ ∀ xs, SqL K H a xs → xs[i]? = some x, fun i H => ∃ xs, SqL K H a xs ∧ xs.length ≤ i⟩
/-- lo, lo + 1, .. (n of them) -/
noncomputable def Itr (lo : Int) (n : Nat) : It := ⟨fun i _ => i < n, fun i H x H' => H' = H ∧ x = .int (lo + i), fun i _ => n ≤ i⟩
theorem turn_list {P : Program} {w : World} {K : PySem.W.Frag} {tg : Expr} (a it : Addr) : Turn P w K tg (Itl K a) [it] it (fun i h => h.IsListIter it a i) where
  mem := by simp
  obj := fun i h st b hb => by
    have e : b = it := by simpa using hb
    subst e
    obtain ⟨o, e, c, d⟩ := st
    exact ⟨o, e, fun v z => by rw [d] at z; cases z⟩
  keep := fun i h h' st k => st.at fun o e => k it (by simp) o e
  item := by
    intro X hP hw hK hc i pins s σ H E I hf st hg
    subst hP hw hK
    obtain ⟨xs, x, hq, hx⟩ := hg
    obtain ⟨its, rv, p, hz⟩ := I.list hq
    obtain ⟨u, hu, ru⟩ := rv.get hx
    obtain ⟨f0, f1, f2, f3, f4, f5⟩ := hf it (by simp)
    refine wpAny_pyNext_list_item st p.isList (x := u) (by simpa using hu) fun h' st' sb => ?_
    have I1 : Inv X pins σ H { s with heap := h' } := I.turned (t' := s.toks) (fun b o hb e => (sb.2 b hb).trans e) f0 f1 f3 f4 f5
    obtain ⟨o, e, c, d⟩ := id st'
    exact ⟨u, rfl, go_of (s := { s with heap := h' }) e c d (by decide) ⟨x, H, I1, ru, ⟨rfl, fun ys hy => by rw [I.list_inj hy hq]; exact hx⟩, st', fun b hb => (hf b hb).1⟩⟩
  done := by
    intro X hP hw hK hc i pins s σ H E I hf st hg
    subst hP hw hK
    obtain ⟨xs, hq, hx⟩ := hg
    obtain ⟨its, rv, p, hz⟩ := I.list hq
    obtain ⟨f0, f1, f2, f3, f4, f5⟩ := hf it (by simp)
    have hl := rv.length
    exact wpAny_pyNext_list_end (I.ok.hd hc) st p.isList (by simp; omega) fun h' eb => ⟨rfl, I.turned (t' := s.toks) (fun b o hb e => eb b o hb e) f0 f1 f3 f4 f5⟩
  self := fun _ _ _ _ _ st h => wpAny_pyIter_listiter st h
theorem turn_range {P : Program} {w : World} {K : PySem.W.Frag} {tg : Expr} (it : Addr) (lo : Int) (n : Nat) : Turn P w K tg (Itr lo n) [it] it (fun i h => IsRangeIter h it (lo + (i : Nat) * 1) ((n : Int) - (i : Nat)) 1) where
  mem := by simp
  obj := fun i h st b hb => by
    have e : b = it := by simpa using hb
    subst e
    exact ⟨_, st, fun v z => by
      have z' : Data.fields _ = Data.cell v := z
      cases z'⟩
  keep := fun i h h' st k => k it (by simp) _ st
  item := by
    intro X hP hw hK hc i pins s σ H E I hf st hg
    subst hP hw hK
    obtain ⟨f0, f1, f2, f3, f4, f5⟩ := hf it (by simp)
    have W := Walks.range (prog := X.prog) (w := X.w) (I.ok.hd hc) it lo 1 n
    refine W.item i s _ _ hg st fun v h' tk hv st' kk => ?_
    obtain ⟨t, rfl⟩ := hv
    have I1 : Inv X pins σ H { s with heap := h', toks := tk } := I.turned (fun b o hb e => kk b o (by simpa using hb) e) f0 f1 f3 f4 f5
    refine ⟨_, rfl, go_of (s := { s with heap := h', toks := tk }) (n := "range_iterator") st' rfl rfl (by decide) ⟨.int (lo + i), H, I1, ⟨t, ?_⟩, ⟨rfl, rfl⟩, st', fun b hb => (hf b hb).1⟩⟩
    rw [Int.mul_one]
  done := by
    intro X hP hw hK hc i pins s σ H E I hf st hg
    subst hP hw hK
    obtain ⟨f0, f1, f2, f3, f4, f5⟩ := hf it (by simp)
    exact wpAny_pyNext_range_end (I.ok.hd hc) st (by have : n ≤ i := hg; omega) fun h' eb => ⟨rfl, I.turned (t' := s.toks) (fun b o hb e => eb b o hb e) f0 f1 f3 f4 f5⟩
  self := fun _ _ _ _ _ st h => wpAny_pyIter_rangeiter st h
end L2

namespace L2
open PySem PySem.Spec PyProof.Rows
section
variable {X : Cx} {tg : Expr}
noncomputable def iList (K : PySem.W.Frag) (tl : TE) : TI := fun σ H R => tl σ H fun x H1 => ∃ a, x = .ref a ∧ (∃ xs, SqL K H1 a xs) ∧ R (Itl K a) H1
theorem pi_list {l : Expr} {tl : TE} (hl : PE X l tl) : PI X tg l (iList X.K tl) := .mk <| by
  intro pins s σ H R I h
  refine thn (hl pins s σ H _ I h) fun v s1 ⟨x, H1, I1, r1, q1⟩ => ?_
  obtain ⟨a, e, ⟨xs, hq⟩, q⟩ := q1
  subst e
  cases r1
  obtain ⟨its, rv, p, hz⟩ := I1.list hq
  refine wpAny_pyIter_list p.isList ?_
  refine ⟨s1.heap.objs.size, [s1.heap.objs.size], _, _, H1, rfl, I1.kept (t' := s1.toks) fun b o e => Heap.get?_push_of_some _ e, turn_list a _, ⟨_, Heap.get?_push_size _ rfl, rfl, rfl⟩, fun b hb => ?_, q⟩
  have e : b = s1.heap.objs.size := by simpa using hb
  subst e
  exact I1.fpOk (Nat.le_refl _) (I1.hok.fresh (Nat.le_refl _))
/-- a range object just made, walked -/
theorem range_it {pins : List (Addr × Obj)} {σ : St} {H : Hp} {s : Shared} {R : It → Hp → Prop} {E : Value → Shared → Prop} {lo hi : Int} {t u v : Tok} {tk : Nat} (I : Inv X pins σ H s) (h1 : -(2 ^ 62) ≤ lo) (h2 : lo < 2 ^ 62) (h3 : -(2 ^ 62) ≤ hi) (h4 : hi < 2 ^ 62)
    (q : R (Itr lo (hi - lo).toNat) H) : wpAny (model X.prog X.w) X.A (pyIter (.ref s.heap.objs.size)) (PIE X pins σ tg R) E { s with heap := s.heap.push { cls := .type "range", data := .fields #[.int lo t, .int hi u, .int 1 v] }, toks := tk } := by
  refine wpAny_pyIter_range (IsRange.new ..) (small_one h1 h2 h3 h4) ?_
  have I1 : Inv X pins σ H { s with heap := s.heap.push { cls := .type "range", data := .fields #[.int lo t, .int hi u, .int 1 v] }, toks := tk } := I.kept fun b o e => Heap.get?_push_of_some _ e
  refine ⟨(s.heap.push { cls := .type "range", data := .fields #[.int lo t, .int hi u, .int 1 v] }).objs.size, [(s.heap.push { cls := .type "range", data := .fields #[.int lo t, .int hi u, .int 1 v] }).objs.size], _, _, H, rfl,
    I1.kept (t' := tk) fun b o e => Heap.get?_push_of_some _ e, turn_range _ lo (hi - lo).toNat, ?_, fun b hb => ?_, q⟩
  · have e1 : lo + ((0 : Nat) : Int) * 1 = lo := by simp
    have e2 : (((hi - lo).toNat : Nat) : Int) - ((0 : Nat) : Int) = Builtin.Range.rangeSize lo hi 1 := by rw [rangeSize_one]; split <;> omega
    show IsRangeIter _ _ (lo + ((0 : Nat) : Int) * 1) ((((hi - lo).toNat : Nat) : Int) - ((0 : Nat) : Int)) 1
    rw [e1, e2]
    exact Heap.get?_push_size _ rfl
  · have e : b = (s.heap.push { cls := .type "range", data := .fields #[.int lo t, .int hi u, .int 1 v] }).objs.size := by simpa using hb
    subst e
    exact I1.fpOk (Nat.le_refl _) (I1.hok.fresh (Nat.le_refl _))
noncomputable def iRng1 (ta : TA) : TI := fun σ H R => ta σ H fun vs H1 => ∃ j : Int, vs = [.int j] ∧ -(2 ^ 62) ≤ j ∧ j < 2 ^ 62 ∧ R (Itr 0 j.toNat) H1
noncomputable def iRng2 (ta : TA) : TI := fun σ H R => ta σ H fun vs H1 => ∃ i j : Int, vs = [.int i, .int j] ∧ (-(2 ^ 62) ≤ i ∧ i < 2 ^ 62 ∧ -(2 ^ 62) ≤ j ∧ j < 2 ^ 62) ∧ R (Itr i (j - i).toNat) H1
theorem pi_range1 {a : Expr} {ta : TA} {p pos : Pos} (hg : Gl X "range") (hm : X.mg "range" = none) (ha : PA X [a] ta) (hs : starEach [a] X.env = [(false, eval a X.env)] := by rfl) : PI X tg (.Call (.Name "range" p) [a] [] pos) (iRng1 ta) := .mk <| by
  intro pins s σ H R I h
  refine Call_ (ld_blt I hg hm boot_range (PyProof.Rows.callWith_type1 (thn (ha pos pins s σ H _ I h) fun us s1 ⟨vs, H1, I1, r1, q1⟩ => ?_) hs rfl))
  obtain ⟨j, e, q1, q2, q⟩ := q1
  subst e
  cases r1 with
  | cons r rr =>
    cases rr
    obtain ⟨t, rfl⟩ := r
    exact call_range_1 (range_it I1 (by omega) (by omega) q1 q2 (by simpa using q))
theorem pi_range2 {a b : Expr} {ta : TA} {p pos : Pos} (hg : Gl X "range") (hm : X.mg "range" = none) (ha : PA X [a, b] ta) (hs : starEach [a, b] X.env = [(false, eval a X.env), (false, eval b X.env)] := by rfl) (hs2 : starEach [b] X.env = [(false, eval b X.env)] := by rfl) :
    PI X tg (.Call (.Name "range" p) [a, b] [] pos) (iRng2 ta) := .mk <| by
  intro pins s σ H R I h
  refine Call_ (ld_blt I hg hm boot_range (PyProof.Rows.callWith_type1 (thn (ha pos pins s σ H _ I h) fun us s1 ⟨vs, H1, I1, r1, q1⟩ => ?_) (by rw [hs, hs2]) (by rw [hs2]; rfl)))
  obtain ⟨i, j, e, ⟨q1, q2, q3, q4⟩, q⟩ := q1
  subst e
  cases r1 with
  | cons r rr =>
    cases rr with
    | cons r' rr =>
      cases rr
      obtain ⟨t, rfl⟩ := r
      obtain ⟨t', rfl⟩ := r'
      exact call_range_2 (range_it I1 q1 q2 q3 q4 q)

/-! ### for -/
/-- W: the invariant by the turn and a measure; N: what the body is to reach -/
noncomputable def tFor (wi : TI) (g : TG) (tb : TS) : TS := fun D σ H => wi σ H fun J H1 => ∃ W : Nat → Nat → St → Hp → Prop, (∃ m, W 0 m σ H1) ∧ ∀ i m σ H, W i m σ H →
  (J.stop i H ∧ D.nx σ H) ∨ (J.go i H ∧ ∃ N : St → Hp → Prop, (∀ σ' H', N σ' H' → ∃ m', m' < m ∧ W (i + 1) m' σ' H') ∧ ∀ x H', J.yld i H x H' → g x σ H' fun σ2 H2 => tb { D with nx := N, ct := N, bk := D.nx } σ2 H2)
/-- the records at fp as they stand -/
noncomputable def pinsAt (fp : List Addr) (h : Heap) : List (Addr × Obj) := fp.filterMap fun b => (h.get? b).map fun o => (b, o)
theorem mem_pinsAt {fp : List Addr} {h : Heap} {b : Addr} {o : Obj} (hb : b ∈ fp) (e : h.get? b = some o) : (b, o) ∈ pinsAt fp h := List.mem_filterMap.mpr ⟨b, hb, by rw [e]; rfl⟩
theorem of_pinsAt {fp : List Addr} {h : Heap} {p : Addr × Obj} (hp : p ∈ pinsAt fp h) : p.1 ∈ fp ∧ h.get? p.1 = some p.2 := by
  obtain ⟨b, hb, e⟩ := List.mem_filterMap.mp hp
  cases q : h.get? b with
  | none => rw [q] at e; cases e
  | some o =>
    rw [q] at e
    have e' : (b, o) = p := Option.some.inj e
    subst e'
    exact ⟨hb, q⟩
theorem Inv.pinned {pins : List (Addr × Obj)} {σ : St} {H : Hp} {s : Shared} {fp : List Addr} (I : Inv X pins σ H s) (hf : ∀ b ∈ fp, FpOk X pins H b) (ho : ∀ b ∈ fp, ∃ o, s.heap.get? b = some o ∧ ∀ v, o.data ≠ .cell v) : Inv X (pins ++ pinsAt fp s.heap) σ H s :=
  I.pins_of fun p hp => (List.mem_append.mp hp).elim (fun z => I.pin p (List.mem_append_right _ z)) fun z => by
    obtain ⟨hb, e⟩ := of_pinsAt z
    obtain ⟨f0, f1, f2, _⟩ := hf p.1 hb
    obtain ⟨o, e', d⟩ := ho p.1 hb
    rw [e] at e'; cases e'
    exact ⟨e, f0, f1, f2, d⟩
theorem Inv.unpinned {pins pl : List (Addr × Obj)} {σ : St} {H : Hp} {s : Shared} (I : Inv X (pins ++ pl) σ H s) : Inv X pins σ H s := I.pins_of fun p hp => I.pin p (List.mem_append_right _ (List.mem_append_left _ hp))
theorem ps_for {iter : Expr} {body : List Stmt} {wi : TI} {g : TG} {tb : TS} {pos : Pos} (hp : PassesOwn (model X.prog X.w) X.A X.env X.xe) (hc : X.calm = true) (hi : PI X tg iter wi) (hg : PG X tg g) (hb : PSs X body tb)
    (hs : ∀ x, foldedSetIterable iter X.env x = pure x := by intro _; rfl) : PS X (.For tg iter body [] pos) (tFor wi g tb) := .mk <| by
  intro pins s σ H D I h
  refine wpAny_For (thn (hi pins s σ H _ I h) fun v s1 h1 => thn h1 fun itv s2 h2 => ?_) hs
  obtain ⟨it, fp, tn, J, H2, e, I2, T, st2, f2, W, ⟨m0, w0⟩, turn⟩ := h2
  subst e
  -- what stays true of the iterator's objects through the loop
  have stat : ∀ {H' : Hp}, (∀ b ∈ fp, H' b = none) → ∀ b ∈ fp, FpOk X pins H' b := fun hn b hb => ⟨hn b hb, (f2 b hb).2⟩
  refine codeAny_forLoop_any (fun n s' => ∃ i σ' H', Inv X pins σ' H' s' ∧ tn i s'.heap ∧ (∀ b ∈ fp, H' b = none) ∧ W i n σ' H') ?_ m0 ⟨0, σ, H2, I2, st2, fun b hb => (f2 b hb).1, w0⟩
  rintro n s3 ⟨i, σ3, H3, I3, st3, fr3, w3⟩
  rcases turn i n σ3 H3 w3 with ⟨stop, qn⟩ | ⟨go, N, hN, step⟩
  · refine wpAny_passesOwn hp (thn (T.done X rfl rfl rfl hc i pins s3 σ3 H3 X.xe I3 (stat fr3) st3 stop) fun r s4 ⟨hr, I4⟩ => ?_)
    subst hr
    exact wpAny_execs_nil ⟨σ3, H3, I4, qn⟩
  · refine wpAny_passesOwn hp (thn (T.item X rfl rfl rfl hc i pins s3 σ3 H3 X.xe I3 (stat fr3) st3 go) fun r s4 ⟨u, hr, h4⟩ => ?_)
    subst hr
    refine wpAny_passesOwn hp (thn h4 fun _ s5 ⟨x, H5, I5, r5, y5, st5, fr5⟩ => ?_)
    have I5' := I5.pinned (stat fr5) (T.obj _ _ st5)
    refine wpAny_passesOwn hp (thn (hg _ s5 σ3 H5 x u _ I5' r5 (step x H5 y5)) fun _ s6 ⟨σ6, H6, I6, q6⟩ => ?_)
    refine wpAny_passesOwn hp (thn (hb _ s6 σ6 H6 _ I6 q6) fun f s7 q7 => ?_)
    have again : ∀ {σ7 : St} {H7 : Hp}, Inv X (pins ++ pinsAt fp s5.heap) σ7 H7 s7 → N σ7 H7 → ∃ m, m < n ∧ ∃ i σ' H', Inv X pins σ' H' s7 ∧ tn i s7.heap ∧ (∀ b ∈ fp, H' b = none) ∧ W i m σ' H' := fun {σ7 H7} I7 n7 => by
      obtain ⟨m', hm, w7⟩ := hN σ7 H7 n7
      refine ⟨m', hm, i + 1, σ7, H7, I7.unpinned, T.keep _ _ _ st5 fun b hb o e => (I7.pin (b, o) (List.mem_append_right _ (List.mem_append_right _ (mem_pinsAt hb e)))).1, fun b hb => ?_, w7⟩
      obtain ⟨o, e, d⟩ := T.obj _ _ st5 b hb
      exact (I7.pin (b, o) (List.mem_append_right _ (List.mem_append_right _ (mem_pinsAt hb e)))).2.1
    cases f with
    | next => obtain ⟨σ7, H7, I7, n7⟩ := q7; exact again I7 n7
    | cont => obtain ⟨σ7, H7, I7, n7⟩ := q7; exact again I7 n7
    | brk => obtain ⟨σ7, H7, I7, q7⟩ := q7; exact ⟨σ7, H7, I7.unpinned, q7⟩
    | ret v => obtain ⟨x7, σ7, H7, I7, r7, q7⟩ := q7; exact ⟨x7, σ7, H7, I7.unpinned, r7, q7⟩
end

/-! ### the forms one uses -/
/-- over a list that the body leaves as it is -/
theorem for_list {K : PySem.W.Frag} {a : Addr} {xs : List V} {g : TG} {tb : TS} {D : Ends} {σ : St} {H : Hp} (Pv : Nat → St → Hp → Prop) (h0 : Pv 0 σ H) (hl : ∀ i σ H, i ≤ xs.length → Pv i σ H → SqL K H a xs)
    (hs : ∀ i x σ H, xs[i]? = some x → Pv i σ H → g x σ H fun σ2 H2 => tb { D with nx := Pv (i + 1), ct := Pv (i + 1), bk := D.nx } σ2 H2) (hd : ∀ σ H, Pv xs.length σ H → D.nx σ H) :
    ∃ W : Nat → Nat → St → Hp → Prop, (∃ m, W 0 m σ H) ∧ ∀ i m σ H, W i m σ H →
      ((Itl K a).stop i H ∧ D.nx σ H) ∨ ((Itl K a).go i H ∧ ∃ N : St → Hp → Prop, (∀ σ' H', N σ' H' → ∃ m', m' < m ∧ W (i + 1) m' σ' H') ∧ ∀ x H', (Itl K a).yld i H x H' → g x σ H' fun σ2 H2 => tb { D with nx := N, ct := N, bk := D.nx } σ2 H2) := by
  refine ⟨fun i m σ H => m = xs.length - i ∧ i ≤ xs.length ∧ Pv i σ H, ⟨xs.length, by simp, Nat.zero_le _, h0⟩, ?_⟩
  rintro i m σ H ⟨rfl, hi, p⟩
  have q := hl i σ H hi p
  by_cases hlt : i < xs.length
  · refine .inr ⟨⟨xs, xs[i], q, by simp [hlt]⟩, Pv (i + 1), fun σ' H' p' => ⟨xs.length - (i + 1), by omega, rfl, hlt, p'⟩, fun x H' y => ?_⟩
    obtain ⟨e, y⟩ := y
    subst e
    exact hs i x σ _ (y xs q) p
  · have e : i = xs.length := by omega
    subst e
    exact .inl ⟨⟨xs, q, Nat.le_refl _⟩, hd σ H p⟩
theorem for_range {lo : Int} {n : Nat} {g : TG} {tb : TS} {D : Ends} {σ : St} {H : Hp} (Pv : Nat → St → Hp → Prop) (h0 : Pv 0 σ H)
    (hs : ∀ i σ H, i < n → Pv i σ H → g (.int (lo + i)) σ H fun σ2 H2 => tb { D with nx := Pv (i + 1), ct := Pv (i + 1), bk := D.nx } σ2 H2) (hd : ∀ σ H, Pv n σ H → D.nx σ H) :
    ∃ W : Nat → Nat → St → Hp → Prop, (∃ m, W 0 m σ H) ∧ ∀ i m σ H, W i m σ H →
      ((Itr lo n).stop i H ∧ D.nx σ H) ∨ ((Itr lo n).go i H ∧ ∃ N : St → Hp → Prop, (∀ σ' H', N σ' H' → ∃ m', m' < m ∧ W (i + 1) m' σ' H') ∧ ∀ x H', (Itr lo n).yld i H x H' → g x σ H' fun σ2 H2 => tb { D with nx := N, ct := N, bk := D.nx } σ2 H2) := by
  refine ⟨fun i m σ H => m = n - i ∧ i ≤ n ∧ Pv i σ H, ⟨n, by simp, Nat.zero_le _, h0⟩, ?_⟩
  rintro i m σ H ⟨rfl, hi, p⟩
  by_cases hlt : i < n
  · refine .inr ⟨hlt, Pv (i + 1), fun σ' H' p' => ⟨n - (i + 1), by omega, rfl, hlt, p'⟩, fun x H' y => ?_⟩
    obtain ⟨e, y⟩ := y
    subst e y
    exact hs i σ _ hlt p
  · have e : i = n := by omega
    subst e
    exact .inl ⟨Nat.le_refl _, hd σ H p⟩
end L2

namespace L2
open PySem PySem.Spec PyProof.Rows

noncomputable abbrev R2 := V → V → Hp → VK → Prop
/-- a two-place operation on values: f is binaryOp op, inplaceOp op or compareOp op -/
noncomputable def OpR (X : Cx) (f : Value → Value → Sem Value) (r : R2) : Prop :=
  ∀ (pins : List (Addr × Obj)) (s : Shared) (σ : St) (H : Hp) (x y : V) (v u : Value) (Q : VK), Inv X pins σ H s → RelV x v → RelV y u → r x y H Q →
    wpAny (model X.prog X.w) X.A (f v u) (EP X pins σ Q) X.xe s
/-- a one-place operation -/
noncomputable def UnR (X : Cx) (f : Value → Sem Value) (r : V → Hp → VK → Prop) : Prop :=
  ∀ (pins : List (Addr × Obj)) (s : Shared) (σ : St) (H : Hp) (x : V) (v : Value) (Q : VK), Inv X pins σ H s → RelV x v → r x H Q →
    wpAny (model X.prog X.w) X.A (f v) (EP X pins σ Q) X.xe s
/-- a call of a value that is known (a builtin, a type) with values -/
noncomputable def CallR (X : Cx) (f : Value) (r : List V → Hp → VK → Prop) : Prop :=
  ∀ (pins : List (Addr × Obj)) (s : Shared) (σ : St) (H : Hp) (xs : List V) (us : List Value) (Q : VK), Inv X pins σ H s → Vals xs us → r xs H Q →
    wpAny (model X.prog X.w) X.A (call f us) (EP X pins σ Q) X.xe s
noncomputable def tOp (r : R2) (ta tb : TE) : TE := fun σ H Q => ta σ H fun x H1 => tb σ H1 fun y H2 => r x y H2 Q
noncomputable def tUn (r : V → Hp → VK → Prop) (ta : TE) : TE := fun σ H Q => ta σ H fun x H1 => r x H1 Q
/-- ints in, under C, and a value out -/
noncomputable def rI (C : Int → Int → Prop) (g : Int → Int → V) : R2 := fun x y H Q => ∃ i j, x = .int i ∧ y = .int j ∧ C i j ∧ Q (g i j) H
noncomputable def rI0 (g : Int → Int → V) : R2 := fun x y H Q => ∃ i j, x = .int i ∧ y = .int j ∧ Q (g i j) H
noncomputable def rU (g : Int → V) : V → Hp → VK → Prop := fun x H Q => ∃ i, x = .int i ∧ Q (g i) H

section
variable {X : Cx} {a b c : Expr} {ta tb tc : TE} {pos : Pos}

theorem binT (ha : PE X a ta) (hb : PE X b tb) {pins : List (Addr × Obj)} {s : Shared} {σ : St} {H : Hp} {R : V → V → Hp → Prop} (I : Inv X pins σ H s)
    (h : ta σ H fun x H1 => tb σ H1 fun y H2 => R x y H2) {Q : Value → Shared → Prop} {f : Value → Value → Sem Value}
    (hf : ∀ v u s2 x y H2, Inv X pins σ H2 s2 → RelV x v → RelV y u → R x y H2 → wpAny (model X.prog X.w) X.A (f v u) Q X.xe s2) :
    wpAny (model X.prog X.w) X.A (eval a X.env) (fun v s₁ => wpAny (model X.prog X.w) X.A (eval b X.env) (fun u s₂ => wpAny (model X.prog X.w) X.A (f v u) Q X.xe s₂) X.xe s₁) X.xe s := by
  refine thn (ha pins s σ H _ I h) fun v s1 ⟨x, H1, I1, r1, q1⟩ => ?_
  refine thn (hb pins s1 σ H1 _ I1 q1) fun u s2 ⟨y, H2, I2, r2, q2⟩ => ?_
  exact hf v u s2 x y H2 I2 r1 r2 q2

theorem pe_op {op : Operator} {r : R2} (ho : OpR X (binaryOp op) r) (ha : PE X a ta) (hb : PE X b tb) : PE X (.BinOp a op b pos) (tOp r ta tb) := .mk <| by
  intro pins s σ H Q I h
  exact wpAny_BinOp (binT ha hb I h fun v u s2 x y H2 I2 rx ry q => ho pins s2 σ H2 x y v u Q I2 rx ry q)
theorem pe_un {op : UnaryOp} {r : V → Hp → VK → Prop} (ho : UnR X (unaryOp op) r) (ha : PE X a ta) : PE X (.UnaryOp op a pos) (tUn r ta) := .mk <| by
  intro pins s σ H Q I h
  exact UnaryOp_ (thn (ha pins s σ H _ I h) fun v s1 ⟨x, H1, I1, r1, q1⟩ => ho pins s1 σ H1 x v Q I1 r1 q1)
/-! ### ints -/
theorem opI {f : Value → Value → Sem Value} {C : Int → Int → Prop} {g : Int → Int → Int}
    (rule : ∀ (i j : Int) (t u : Tok) (s : Shared) (Q : Value → Shared → Prop) (E : Value → Shared → Prop), C i j → Q (.int (g i j) s.toks) { s with toks := s.toks + 1 } → wpAny (model X.prog X.w) X.A (f (.int i t) (.int j u)) Q E s) :
    OpR X f (rI C fun i j => .int (g i j)) := by
  intro pins s σ H x y v u Q I rx ry h
  obtain ⟨i, j, rfl, rfl, hc, q⟩ := h
  obtain ⟨t, rfl⟩ := rx
  obtain ⟨t', rfl⟩ := ry
  exact rule i j t t' s _ _ hc ⟨.int (g i j), H, I.tok _, ⟨_, rfl⟩, q⟩
theorem opI0 {f : Value → Value → Sem Value} {g : Int → Int → Int}
    (rule : ∀ (i j : Int) (t u : Tok) (s : Shared) (Q : Value → Shared → Prop) (E : Value → Shared → Prop), Q (.int (g i j) s.toks) { s with toks := s.toks + 1 } → wpAny (model X.prog X.w) X.A (f (.int i t) (.int j u)) Q E s) :
    OpR X f (rI0 fun i j => .int (g i j)) := by
  intro pins s σ H x y v u Q I rx ry h
  obtain ⟨i, j, rfl, rfl, q⟩ := h
  obtain ⟨t, rfl⟩ := rx
  obtain ⟨t', rfl⟩ := ry
  exact rule i j t t' s _ _ ⟨.int (g i j), H, I.tok _, ⟨_, rfl⟩, q⟩
theorem opB0 {f : Value → Value → Sem Value} {g : Int → Int → Bool}
    (rule : ∀ (i j : Int) (t u : Tok) (s : Shared) (Q : Value → Shared → Prop) (E : Value → Shared → Prop), Q (.bool (g i j)) s → wpAny (model X.prog X.w) X.A (f (.int i t) (.int j u)) Q E s) :
    OpR X f (rI0 fun i j => .bl (g i j)) := by
  intro pins s σ H x y v u Q I rx ry h
  obtain ⟨i, j, rfl, rfl, q⟩ := h
  obtain ⟨t, rfl⟩ := rx
  obtain ⟨t', rfl⟩ := ry
  exact rule i j t t' s _ _ ⟨.bl (g i j), H, I, rfl, q⟩

noncomputable def CDiv (i j : Int) : Prop := 0 < j ∧ j < 1073741824
noncomputable def CPow (i j : Int) : Prop := 0 ≤ j ∧ j ≤ 1000000 ∧ i.natAbs < 2 ^ 64
noncomputable def CMul (i j : Int) : Prop := (-(2 ^ 64) < i ∧ i < 2 ^ 64) ∨ (-(2 ^ 64) < j ∧ j < 2 ^ 64)
theorem CMul.ok {i j : Int} (h : CMul i j) : IntMulOk i j := by
  rcases h with ⟨h1, h2⟩ | ⟨h1, h2⟩
  · exact .of_left (intBits_le_64 h1 h2)
  · exact .of_right (intBits_le_64 h1 h2)
theorem op_add : OpR X (binaryOp .Add) (rI0 fun i j => .int (i + j)) := opI0 fun _ _ _ _ _ _ _ q => add_int q
theorem op_sub : OpR X (binaryOp .Sub) (rI0 fun i j => .int (i - j)) := opI0 fun _ _ _ _ _ _ _ q => sub_int q
theorem op_mul : OpR X (binaryOp .Mult) (rI CMul fun i j => .int (i * j)) := opI fun _ _ _ _ _ _ _ hc q => mul_int q hc.ok
/-- // by a positive divisor -/
theorem op_fdiv : OpR X (binaryOp .FloorDiv) (rI CDiv fun i j => .int (i / j)) := opI fun i j _ _ _ _ _ hc q => by
  have h1 : (0 : Int) < j := hc.1
  have h2 : j < 1073741824 := hc.2
  exact floordiv_int (by omega) (by rw [Int.fdiv_eq_ediv_of_nonneg i (by omega)]; exact q) (.inl (PyProof.noPylong_small (by omega)))
/-- % by a positive divisor of any size -/
theorem op_mod : OpR X (binaryOp .Mod) (rI (fun _ j => 0 < j) fun i j => .int (i % j)) := opI fun i j _ _ _ _ _ hc q => by
  have h1 : (0 : Int) < j := hc
  exact mod_int' (by omega) (by rw [Int.fmod_eq_emod_of_nonneg i (by omega)]; exact q)
theorem op_pow : OpR X (binaryOp .Pow) (rI CPow fun i j => .int (i ^ j.toNat)) := opI fun _ _ _ _ _ _ _ hc q => pow_int_small hc.1 hc.2.1 hc.2.2 q
theorem unI {f : Value → Sem Value} {g : Int → Int}
    (rule : ∀ (i : Int) (t : Tok) (s : Shared) (Q : Value → Shared → Prop) (E : Value → Shared → Prop), Q (.int (g i) s.toks) { s with toks := s.toks + 1 } → wpAny (model X.prog X.w) X.A (f (.int i t)) Q E s) :
    UnR X f (rU fun i => .int (g i)) := by
  intro pins s σ H x v Q I rx h
  obtain ⟨i, rfl, q⟩ := h
  obtain ⟨t, rfl⟩ := rx
  exact rule i t s _ _ ⟨.int (g i), H, I.tok _, ⟨_, rfl⟩, q⟩
theorem un_neg : UnR X (unaryOp .USub) (rU fun i => .int (-i)) := unI fun _ _ _ _ _ q => neg_int q
/-! ### bools among ints: n += (a < b) -/
end

/-! ### comparisons -/
/-- the scalars that == tells apart as data does -/
noncomputable def scal : V → V → Bool
  | .non, .non => true | .non, .int _ => true | .int _, .non => true | .non, .bl _ => true | .bl _, .non => true | .non, .str _ => true | .str _, .non => true
  | .int _, .int _ => true | .bl _, .bl _ => true | .str _, .str _ => true | .byt _, .byt _ => true
  | .int _, .str _ => true | .str _, .int _ => true | .bl _, .str _ => true | .str _, .bl _ => true
  | _, _ => false
noncomputable def rEq : R2 := fun x y H Q => scal x y = true ∧ Q (.bl (decide (x = y))) H
noncomputable def rNe : R2 := fun x y H Q => scal x y = true ∧ Q (.bl (!decide (x = y))) H

theorem dec_int {i j : Int} : decide (V.int i = V.int j) = (i == j) := by
  rw [Bool.eq_iff_iff]
  simp
theorem dec_bl {i j : Bool} : decide (V.bl i = V.bl j) = (i == j) := by
  rw [Bool.eq_iff_iff]
  simp
theorem dec_str {i j : Str} : decide (V.str i = V.str j) = (i == j) := by
  rw [Bool.eq_iff_iff]
  simp
theorem dec_byt {i j : Array UInt8} : decide (V.byt i = V.byt j) = (i.toList == j.toList) := by
  rw [Bool.eq_iff_iff]
  cases i
  cases j
  simp

section
variable {X : Cx} {a b c : Expr} {ta tb tc : TE} {pos : Pos}
theorem fin_bl {pins : List (Addr × Obj)} {σ : St} {H : Hp} {s : Shared} {Q : VK} {k k' : Bool} (I : Inv X pins σ H s) (q : Q (.bl k) H) (e : k = k') : EP X pins σ Q (.bool k') s := by
  subst e
  exact ⟨.bl k, H, I, rfl, q⟩
theorem op_eq : OpR X (compareOp .Eq) rEq := by
  intro pins s σ H x y v u Q I rx ry h
  obtain ⟨hs, q⟩ := h
  cases x with
  | non =>
    cases rx
    cases y with
    | non => cases ry; exact PySem.EqNone.eq_none_none (fin_bl I q (by simp))
    | bl j => cases ry; exact PySem.EqNone.eq_none_bool (fin_bl I q (by simp))
    | int j => obtain ⟨t', rfl⟩ := ry; exact PySem.EqNone.eq_none_int (fin_bl I q (by simp))
    | str j => obtain ⟨t', rfl⟩ := ry; exact PySem.EqNone.eq_none_str (fin_bl I q (by simp))
    | _ => exact absurd (show false = true from hs) Bool.false_ne_true
  | bl i =>
    cases rx
    cases y with
    | non => cases ry; exact PySem.EqNone.eq_bool_none (fin_bl I q (by simp))
    | bl j => cases ry; exact eq_bool (fin_bl I q dec_bl)
    | str j => obtain ⟨t', rfl⟩ := ry; exact PySem.EqMixed.eq_bool_str (fin_bl I q (by simp))
    | _ => exact absurd (show false = true from hs) Bool.false_ne_true
  | int i =>
    obtain ⟨t, rfl⟩ := rx
    cases y with
    | non => cases ry; exact PySem.EqNone.eq_int_none (fin_bl I q (by simp))
    | int j => obtain ⟨t', rfl⟩ := ry; exact eq_int (fin_bl I q dec_int)
    | str j => obtain ⟨t', rfl⟩ := ry; exact PySem.EqMixed.eq_int_str (fin_bl I q (by simp))
    | _ => exact absurd (show false = true from hs) Bool.false_ne_true
  | str i =>
    obtain ⟨t, rfl⟩ := rx
    cases y with
    | non => cases ry; exact PySem.EqNone.eq_str_none (fin_bl I q (by simp))
    | bl j => cases ry; exact PySem.EqMixed.eq_str_bool (fin_bl I q (by simp))
    | int j => obtain ⟨t', rfl⟩ := ry; exact PySem.EqMixed.eq_str_int (fin_bl I q (by simp))
    | str j => obtain ⟨t', rfl⟩ := ry; exact eq_str (fin_bl I q dec_str)
    | _ => exact absurd (show false = true from hs) Bool.false_ne_true
  | byt i =>
    obtain ⟨t, rfl⟩ := rx
    cases y with
    | byt j => obtain ⟨t', rfl⟩ := ry; exact PySem.W.eq_bytes (fin_bl I q dec_byt)
    | _ => exact absurd (show false = true from hs) Bool.false_ne_true
  | _ => cases y <;> exact absurd (show false = true from hs) Bool.false_ne_true
theorem op_ne : OpR X (compareOp .NotEq) rNe := by
  intro pins s σ H x y v u Q I rx ry h
  obtain ⟨hs, q⟩ := h
  cases x with
  | non =>
    cases rx
    cases y with
    | non => cases ry; exact PySem.EqNone.ne_none_none (fin_bl I q (by simp))
    | bl j => cases ry; exact PySem.EqNone.ne_none_bool (fin_bl I q (by simp))
    | int j => obtain ⟨t', rfl⟩ := ry; exact PySem.EqNone.ne_none_int (fin_bl I q (by simp))
    | str j => obtain ⟨t', rfl⟩ := ry; exact PySem.EqNone.ne_none_str (fin_bl I q (by simp))
    | _ => exact absurd (show false = true from hs) Bool.false_ne_true
  | bl i =>
    cases rx
    cases y with
    | non => cases ry; exact PySem.EqNone.ne_bool_none (fin_bl I q (by simp))
    | bl j => cases ry; exact ne_bool (fin_bl I q (congrArg not dec_bl))
    | str j => obtain ⟨t', rfl⟩ := ry; exact PySem.EqMixed.ne_bool_str (fin_bl I q (by simp))
    | _ => exact absurd (show false = true from hs) Bool.false_ne_true
  | int i =>
    obtain ⟨t, rfl⟩ := rx
    cases y with
    | non => cases ry; exact PySem.EqNone.ne_int_none (fin_bl I q (by simp))
    | int j => obtain ⟨t', rfl⟩ := ry; exact ne_int (fin_bl I q (congrArg not dec_int))
    | str j => obtain ⟨t', rfl⟩ := ry; exact PySem.EqMixed.ne_int_str (fin_bl I q (by simp))
    | _ => exact absurd (show false = true from hs) Bool.false_ne_true
  | str i =>
    obtain ⟨t, rfl⟩ := rx
    cases y with
    | non => cases ry; exact PySem.EqNone.ne_str_none (fin_bl I q (by simp))
    | bl j => cases ry; exact PySem.EqMixed.ne_str_bool (fin_bl I q (by simp))
    | int j => obtain ⟨t', rfl⟩ := ry; exact PySem.EqMixed.ne_str_int (fin_bl I q (by simp))
    | str j => obtain ⟨t', rfl⟩ := ry; exact ne_str (fin_bl I q (congrArg not dec_str))
    | _ => exact absurd (show false = true from hs) Bool.false_ne_true
  | byt i =>
    obtain ⟨t, rfl⟩ := rx
    cases y with
    | byt j => obtain ⟨t', rfl⟩ := ry; exact PySem.W.ne_bytes (fin_bl I q (congrArg not dec_byt))
    | _ => exact absurd (show false = true from hs) Bool.false_ne_true
  | _ => cases y <;> exact absurd (show false = true from hs) Bool.false_ne_true

theorem op_lt : OpR X (compareOp .Lt) (rI0 fun i j => .bl (decide (i < j))) := opB0 fun _ _ _ _ _ _ _ q => lt_int q
theorem op_gt : OpR X (compareOp .Gt) (rI0 fun i j => .bl (decide (j < i))) := opB0 fun _ _ _ _ _ _ _ q => gt_int q
theorem op_notN : OpR X (compareOp .IsNot) (fun x y H Q => y = .non ∧ Q (.bl (!decide (x = .non))) H) := by
  intro pins s σ H x y v u Q I rx ry h
  obtain ⟨rfl, q⟩ := h
  cases ry
  refine isnot_none_gen (fin_bl I q ?_)
  cases x <;> first
    | (cases rx; rfl)
    | (obtain ⟨t, rfl⟩ := rx; rfl)

theorem nomark (b : Expr) {op : CmpOp} (h : op ≠ .In := by decide) (h2 : op ≠ .NotIn := by decide) : behindInMarks op b = false := by
  have e1 : (op == CmpOp.In) = false := by cases op <;> first | rfl | exact absurd rfl h
  have e2 : (op == CmpOp.NotIn) = false := by cases op <;> first | rfl | exact absurd rfl h2
  cases b <;> simp [behindInMarks, e1, e2]
/-- a comparison as a value; hm: nomark b, or (for in, not in) by with_unfolding_all rfl -/
theorem pe_cmpR {op : CmpOp} {r : R2} (ho : OpR X (compareOp op) r) (ha : PE X a ta) (hb : PE X b tb) (hm : behindInMarks op b = false) : PE X (.Compare a [op] [b] pos) (tOp r ta tb) := .mk <| by
  intro pins s σ H Q I h
  exact wpAny_Compare1 (binT ha hb I h fun v u s2 x y H2 I2 rx ry q => ho pins s2 σ H2 x y v u Q I2 rx ry q) hm
/-- a reading of a value as a test -/
noncomputable def tTest (t : TE) : TT := fun σ H Q => t σ H fun x H' => ∃ k, x = .bl k ∧ Q k H'
theorem pt_cmpR {op : CmpOp} {r : R2} (ho : OpR X (compareOp op) r) (ha : PE X a ta) (hb : PE X b tb) (hm : behindInMarks op b = false) : PT X (.Compare a [op] [b] pos) (tTest (tOp r ta tb)) := .mk <| by
  intro pins s σ H Q I h
  refine wpAny_isTrue_Compare1 (thn (ha pins s σ H _ I h) fun v s1 ⟨x, H1, I1, r1, q1⟩ => thn (hb pins s1 σ H1 _ I1 q1) fun u s2 ⟨y, H2, I2, r2, q2⟩ =>
    thn (ho pins s2 σ H2 x y v u _ I2 r1 r2 q2) fun c s3 ⟨z, H3, I3, r3, k, e, q3⟩ => ?_) hm
  subst e
  cases r3
  exact wpAny_truthy_bool ⟨H3, I3, q3⟩
/-- a op1 b op2 c -/
noncomputable def tChain (r r' : R2) (ta tb tc : TE) : TE := fun σ H Q => ta σ H fun x H1 => tb σ H1 fun y H2 => r x y H2 fun z H3 => ∃ k, z = .bl k ∧
  (if k = true then tc σ H3 fun w' H4 => r' y w' H4 Q else Q (.bl false) H3)
theorem pt_chain {op op' : CmpOp} {r r' : R2} (ho : OpR X (compareOp op) r) (ho' : OpR X (compareOp op') r') (ha : PE X a ta) (hb : PE X b tb) (hc : PE X c tc)
    (hm : lastMarks [op, op'] [b, c] = false := by with_unfolding_all rfl) : PT X (.Compare a [op, op'] [b, c] pos) (tTest (tChain r r' ta tb tc)) := .mk <| by
  intro pins s σ H Q I h
  refine isTrue_chain (thn (ha pins s σ H _ I h) fun v s1 ⟨x, H1, I1, r1, q1⟩ => test_link (thn (hb pins s1 σ H1 _ I1 q1) fun u s2 ⟨y, H2, I2, r2, q2⟩ =>
    thn (ho pins s2 σ H2 x y v u _ I2 r1 r2 q2) fun d s3 ⟨z, H3, I3, r3, k, e, q3⟩ => ?_)) hm
  subst e
  cases r3
  refine wpAny_truthy_bool ?_
  cases k with
  | false =>
    obtain ⟨k', e', q'⟩ := q3
    cases e'
    exact ite_ff ⟨H3, I3, q'⟩
  | true =>
    refine ite_tt (test_last (thn (hc pins s3 σ H3 _ I3 q3) fun w' s4 ⟨z', H4, I4, r4, q4⟩ => thn (ho' pins s4 σ H4 y z' u w' _ I4 r2 r4 q4) fun d' s5 ⟨z2, H5, I5, r5, k2, e2, q5⟩ => ?_))
    subst e2
    cases r5
    exact wpAny_truthy_bool ⟨H5, I5, q5⟩

/-! ### truth -/
theorem line63 : (sizeLine : Nat) < 2 ^ 63 := by rw [sizeLine_eq]; decide
/-! ### strs and bytes -/
theorem op_add_str : OpR X (binaryOp .Add) (fun x y H Q => ∃ i j, x = .str i ∧ y = .str j ∧ i.length + j.length ≤ sizeLine ∧ Q (.str (i ++ j)) H) := by
  intro pins s σ H x y v u Q I rx ry h
  obtain ⟨i, j, rfl, rfl, hz, q⟩ := h
  obtain ⟨t, rfl⟩ := rx
  obtain ⟨t', rfl⟩ := ry
  exact add_str (fun t' tk => ⟨.str (i ++ j), H, I.tok _, ⟨_, rfl⟩, q⟩) hz
/-! ### scalar builtins, by CallR -/
theorem vals1 {x : V} {us : List Value} (r : Vals [x] us) : ∃ u, us = [u] ∧ RelV x u := by
  cases r with
  | cons r1 r2 => cases r2; exact ⟨_, rfl, r1⟩
theorem vals2 {x y : V} {us : List Value} (r : Vals [x, y] us) : ∃ u w', us = [u, w'] ∧ RelV x u ∧ RelV y w' := by
  cases r with
  | cons r1 r2 =>
    cases r2 with
    | cons r3 r4 => cases r4; exact ⟨_, _, rfl, r1, r3⟩
theorem call_min2 (hc : X.calm = true) : CallR X (.builtin "min") (fun xs H Q => ∃ i j, xs = [.int i, .int j] ∧ Q (.int (if j < i then j else i)) H) := by
  intro pins s σ H xs us Q I r h
  obtain ⟨i, j, rfl, q⟩ := h
  obtain ⟨u, w', rfl, ⟨t, rfl⟩, ⟨t', rfl⟩⟩ := vals2 r
  refine min_two_ints (I.ok.hd hc) fun h' tk k => ⟨_, H, I.kept k, ?_, q⟩
  by_cases hj : j < i
  · rw [if_pos hj, if_pos hj]; exact ⟨_, rfl⟩
  · rw [if_neg hj, if_neg hj]; exact ⟨_, rfl⟩
end
end L2

namespace L2
open PySem PySem.Spec PyProof.Rows

/-! ### an instance, its attributes a map -/
structure ObjM (h : Heap) (x dx C : Addr) (mA : Str → Option Value) : Prop where
  obj : h.get? x = some (PySem.W.instObj C dx)
  ns : h.Ns1 dx mA
  ne : dx ≠ x

theorem lookIn_ns {h : Heap} {dx : Addr} {mA : Str → Option Value} (n : h.Ns1 dx mA) : ∃ od, h.get? dx = some od ∧ ∀ name, PySem.W.lookIn name od = some (mA name) := by
  obtain ⟨o, es, ep, ho, hd, hk, _, hm⟩ := n
  refine ⟨o, ho, fun name => ?_⟩
  have e := hm name
  unfold nsFind findBy at e
  rw [← Array.find?_toList] at e
  unfold PySem.W.lookIn
  rw [hd]
  dsimp only
  split
  · rename_i y q
    rw [q] at e
    exact congrArg some e
  · rename_i q
    rw [q] at e
    have a : es.toList.any (·.refKey) = false := by
      rw [List.any_eq_false]
      intro y hy
      obtain ⟨z, t, hkey⟩ := hk y (Array.mem_toList_iff.mp hy)
      simp [DictEntry.refKey, hkey]
    have a' : ¬ es.toList.any (·.refKey) = true := by rw [a]; exact Bool.false_ne_true
    rw [if_neg a']
    exact congrArg some e

theorem ObjM.look {h : Heap} {x dx C : Addr} {mA : Str → Option Value} (I : ObjM h x dx C mA) : ∃ od, PySem.W.InstAt h x (PySem.W.instObj C dx) C (some od) ∧ ∀ name, PySem.W.lookIn name od = some (mA name) :=
  let ⟨od, ho, hl⟩ := lookIn_ns I.ns
  ⟨od, ⟨I.obj, rfl, rfl, ho⟩, hl⟩

section
variable {prog : Program} {w : World} {A : Around} {E : Value → Shared → Prop} {s : Shared} {K : PySem.W.Frag} {x dx C f : Addr} {mA : Str → Option Value} {name : Str} {v : Value}

theorem get_map {expr : Bool} {Q : Value → Shared → Prop} (X : K.In s.heap) (I : ObjM s.heap x dx C mA) (hg : PySem.W.plainGet K C name = true) (hh : PySem.W.hasDictIn K C = true)
    (ha : PySem.W.findIn K (.ref C) name = some none) (hv : mA name = some v) (hv' : PySem.W.handedIn v = true) (h : Q v { s with toks := s.toks + 1 }) :
    wpAny (model prog w) A (getAttr (.ref x) name expr) Q E s := by
  obtain ⟨od, J, hl⟩ := I.look
  exact PySem.W.get_value X J (PySem.W.plainGet_of hg).1 (PySem.W.findObj_own hh ha rfl (by rw [hl, hv])) hv' h

theorem get_meth {pl : Sem Bool} {Q : Value × List Value → Shared → Prop} (X : K.In s.heap) (I : ObjM s.heap x dx C mA) (hg : PySem.W.plainGet K C name = true)
    (hf : PySem.W.findIn K (.ref C) name = some (some (.ref f))) (ht : PySem.W.isFn K (.ref f) = true) (hv : mA name = none) (h : Q (.ref f, [.ref x]) s) :
    wpAny (model prog w) A (getMethod (.ref x) name pl) Q E s := by
  obtain ⟨od, J, hl⟩ := I.look
  exact PySem.W.method_fn X J (PySem.W.plainGet_of hg).1 (PySem.W.plainGet_of hg).2 hf (beq_iff_eq.mp ht) (by show (PySem.W.lookIn name od).map (·.isSome) = some false; rw [hl, hv]; rfl) h

theorem set_map {ns : List Str} {Q : Unit → Shared → Prop} (X : K.In s.heap) (I : ObjM s.heap x dx C mA)
    (hs : PySem.W.findIn K (.ref C) "__setattr__" = some (some (.builtin "object.__setattr__"))) (hp : PySem.W.plainOver K C = true) (ht : PySem.W.takerIn K C name = some none) (hh : PySem.W.hasDictIn K C = true)
    (hw : PySem.Within mA ns) (hsz : ns.length ≤ sizeLine)
    (h : ∀ h', ObjM h' x dx C (fun y => if y = name then some v else mA y) → Heap.SameBut dx s.heap h' → Q () { s with heap := h', toks := s.toks + 2 }) :
    wpAny (model prog w) A (setAttr (.ref x) name v) Q E s := by
  obtain ⟨od, J, hl⟩ := I.look
  refine PySem.W.set_plain X J hs (PySem.W.osa_open (s := { s with toks := s.toks + 1 }) (r := none) X J hp ht fun b => ?_)
  obtain ⟨cd, hc, hd'⟩ := PySem.W.any_some hh
  have hx : s.heap.get? x = some ⟨.ref C, some dx, .plain, #[]⟩ := I.obj
  refine wpAny_bind (wpAny_pure (wpAny_bind (wpAny_bind (wpAny_loadPart hx (wpAny_bind (PySem.W.Looks.here (s := { s with toks := s.toks + 1 }) (PySem.W.looks_clsIn X hc) ?_))))))
  rw [hd']
  refine wpAny_pure (a := some dx) (wpAny_bind (wpAny_pure (wpAny_bind ?_)))
  refine wpAny_nsSet1 (s := { s with toks := s.toks + 1 }) I.ns fun h' hn2 hs2 => ?_
  obtain ⟨oD, esD, epD, hoD, hdD, hcD⟩ := hn2.count (PySem.Within.cons name v hw)
  refine wpAny_bind (wpAny_lookBehind hoD (by rw [hdD]; exact pastItsLine_dict (Nat.le_trans hcD (by rw [List.length_cons]; omega))) ?_)
  exact wpAny_pure (h _ ⟨(hs2.2 _ (Ne.symm I.ne)).trans I.obj, hn2, I.ne⟩ hs2)

/-- C(..): the dict at the heap's end, the instance behind it; then its __init__ -/
theorem make_map {R : Result → Shared → Prop} {vs : List Value} {kw : List (Str × Value)} (X : K.In s.heap) (hm : PySem.W.makesIn K C = true)
    (hi : PySem.W.findIn K (.ref C) "__init__" = some (some (.ref f))) (hf : PySem.W.typeIn K (.ref f) = some (.type "function"))
    (h : codeAny (model prog w) (A.under (.builtin "type.__call__" ⟨.ref C :: vs, kw⟩)) (.call (.ref f) ⟨.ref (s.heap.objs.size + 1) :: vs, kw⟩) (PySem.W.InitBack (s.heap.objs.size + 1) R)
      { s with heap := (s.heap.push PySem.W.emptyDict).push (PySem.W.instObj C s.heap.objs.size) }) :
    codeAny (model prog w) A (.call (.ref C) ⟨vs, kw⟩) R s := by
  obtain ⟨hh, g, d, t, os⟩ := s
  exact PySem.W.make_core (PySem.W.makes_of X hm) (PySem.W.looks_findIn X hi) (fun self => PySem.W.bind_fn X self hf) (.inl rfl) h
end

/-! ### the attributes as a list of pairs -/
noncomputable def putF (f : Str) (v : V) : List (Str × V) → List (Str × V)
  | [] => [(f, v)]
  | (g, x) :: r => if g = f then (g, v) :: r else (g, x) :: putF f v r
theorem lookup_putF (f g : Str) (v : V) : ∀ fs : List (Str × V), (putF f v fs).lookup g = if g = f then some v else fs.lookup g
  | [] => by
    show List.lookup g [(f, v)] = _
    by_cases h : g = f
    · have hb : (g == f) = true := beq_iff_eq.mpr h
      simp only [List.lookup, hb, if_pos h]
    · have hb : (g == f) = false := beq_eq_false_iff_ne.mpr h
      simp only [List.lookup, hb, if_neg h]
  | (k, x) :: r => by
    have ih := lookup_putF f g v r
    rw [show putF f v ((k, x) :: r) = (if k = f then (k, v) :: r else (k, x) :: putF f v r) from rfl]
    by_cases hk : k = f
    · rw [if_pos hk]
      by_cases h : g = k
      · have hb : (g == k) = true := beq_iff_eq.mpr h
        simp only [List.lookup, hb, if_pos (h.trans hk)]
      · have hb : (g == k) = false := beq_eq_false_iff_ne.mpr h
        simp only [List.lookup, hb, if_neg (fun e : g = f => h (e.trans hk.symm))]
    · rw [if_neg hk]
      by_cases h : g = k
      · have hb : (g == k) = true := beq_iff_eq.mpr h
        simp only [List.lookup, hb, if_neg (fun e : g = f => hk (h.symm.trans e))]
      · have hb : (g == k) = false := beq_eq_false_iff_ne.mpr h
        simp only [List.lookup, hb]
        exact ih
theorem keys_putF (f : Str) (v : V) : ∀ fs : List (Str × V), f ∈ (putF f v fs).map (·.1) ∧ ∀ g, g ∈ fs.map (·.1) → g ∈ (putF f v fs).map (·.1)
  | [] => ⟨by simp [putF], fun g h => by simp at h⟩
  | (k, x) :: r => by
    obtain ⟨i1, i2⟩ := keys_putF f v r
    rw [show putF f v ((k, x) :: r) = (if k = f then (k, v) :: r else (k, x) :: putF f v r) from rfl]
    by_cases hk : k = f
    · rw [if_pos hk]
      subst hk
      exact ⟨by simp, fun g h => by simpa using h⟩
    · rw [if_neg hk]
      refine ⟨?_, fun g h => ?_⟩
      · rw [List.map_cons]
        exact List.mem_cons_of_mem _ i1
      · rw [List.map_cons] at h ⊢
        rcases List.mem_cons.mp h with e | e
        · exact List.mem_cons.mpr (.inl e)
        · exact List.mem_cons_of_mem _ (i2 g e)
theorem length_putF (f : Str) (v : V) : ∀ fs : List (Str × V), (putF f v fs).length ≤ fs.length + 1
  | [] => by simp [putF]
  | (k, x) :: r => by
    have ih := length_putF f v r
    rw [show putF f v ((k, x) :: r) = (if k = f then (k, v) :: r else (k, x) :: putF f v r) from rfl]
    by_cases hk : k = f
    · rw [if_pos hk, List.length_cons, List.length_cons]; omega
    · rw [if_neg hk, List.length_cons, List.length_cons]; omega

theorem RelO.some_of {v : V} {o : Option Value} (r : RelO (some v) o) : ∃ u, o = some u ∧ RelV v u := by
  cases o with
  | none => exact (show False from r).elim
  | some u => exact ⟨u, rfl, r⟩
theorem RelO.none_of {o : Option Value} (r : RelO none o) : o = none := by
  cases o with
  | none => rfl
  | some u => exact (show False from r).elim
theorem handed_of {v : V} {u : Value} (r : RelV v u) : PySem.W.handedIn u = true := by
  cases v with
  | non => cases (show u = Value.none from r); rfl
  | bl b => cases (show u = Value.bool b from r); rfl
  | int i => obtain ⟨t, e⟩ := (show ∃ t, u = Value.int i t from r); cases e; rfl
  | str x => obtain ⟨t, e⟩ := (show ∃ t, u = Value.str x t from r); cases e; rfl
  | byt b => obtain ⟨t, e⟩ := (show ∃ t, u = Value.bytes b t from r); cases e; rfl
  | flt b => obtain ⟨t, e⟩ := (show ∃ t, u = Value.float b t from r); cases e; rfl
  | ref a => cases (show u = Value.ref a from r); rfl
  | ty n => cases (show u = Value.type n from r); rfl

section
variable {P : Program} {w : World} {H H' : Hp} {h h' : Heap} {a C dx : Addr} {fs fs' : List (Str × V)}
theorem ins_get (hok : HOk P w H h) (e : H a = some (.ins C dx fs)) : ∃ mA, ObjM h a dx C mA ∧ (∀ f, RelO (fs.lookup f) (mA f)) ∧ PySem.Within mA (fs.map (·.1)) ∧ fs.length ≤ 1000 ∧ H dx = some (.own a) := by
  obtain ⟨d, z, ne, ob, mA, n, r, q⟩ := (show ObjOk P w H h a (.ins C dx fs) from hok a _ e)
  exact ⟨mA, ⟨ob, n, ne⟩, r, q, z, d⟩
end

/-! ### what of the text a class must have -/
structure Cls (K : PySem.W.Frag) (C : Addr) : Prop where
  pg : PySem.W.plainGet K C Str.empty = true
  hd : PySem.W.hasDictIn K C = true
  po : PySem.W.plainOver K C = true
  sa : PySem.W.findIn K (.ref C) "__setattr__" = some (some (.builtin "object.__setattr__"))
theorem Cls.get {K : PySem.W.Frag} {C : Addr} (c : Cls K C) (f : Str) : PySem.W.plainGet K C f = true := c.pg
/-- no class of it has the name -/
noncomputable def NoAttr (K : PySem.W.Frag) (C : Addr) (f : Str) : Prop := PySem.W.findIn K (.ref C) f = some none
theorem NoAttr.taker {K : PySem.W.Frag} {C : Addr} {f : Str} (n : NoAttr K C f) : PySem.W.takerIn K C f = some none := by
  unfold PySem.W.takerIn
  rw [show PySem.W.findIn K (.ref C) f = some none from n]
  rfl
/-- a method: a plain def of the class or of one above it -/
structure Meth (K : PySem.W.Frag) (C : Addr) (m : Str) (f : Addr) : Prop where
  at_ : PySem.W.findIn K (.ref C) m = some (some (.ref f))
  fn : PySem.W.isFn K (.ref f) = true
  kp : PySem.W.keepIn K (.ref f) = true

section
variable {X : Cx} {pins : List (Addr × Obj)} {σ : St} {H : Hp} {s : Shared} {a C dx : Addr} {fs : List (Str × V)} {f : Str} {v : V} {A : Around} {E : Value → Shared → Prop}

theorem getattr_ok {b : Bool} {Q : Value → Shared → Prop} (I : Inv X pins σ H s) (e : H a = some (.ins C dx fs)) (c : Cls X.K C) (n : NoAttr X.K C f) (l : fs.lookup f = some v)
    (h : ∀ u s', Inv X pins σ H s' → RelV v u → Q u s') : wpAny (model X.prog X.w) A (getAttr (.ref a) f b) Q E s := by
  obtain ⟨mA, O, r, _, _, _⟩ := ins_get I.hok e
  obtain ⟨u, hu, ru⟩ := RelO.some_of (v := v) (o := mA f) (by rw [← l]; exact r f)
  exact get_map I.kIn O (c.get f) c.hd n hu (handed_of ru) (h u _ (I.tok _) ru)

theorem getmeth_ok {m : Str} {g : Addr} {pl : Sem Bool} {Q : Value × List Value → Shared → Prop} (I : Inv X pins σ H s) (e : H a = some (.ins C dx fs)) (c : Cls X.K C) (k : Meth X.K C m g) (l : fs.lookup m = none)
    (h : Q (.ref g, [.ref a]) s) : wpAny (model X.prog X.w) A (getMethod (.ref a) m pl) Q E s := by
  obtain ⟨mA, O, r, _, _, _⟩ := ins_get I.hok e
  have hn : mA m = none := RelO.none_of (by rw [← l]; exact r m)
  exact get_meth I.kIn O (c.get m) k.at_ k.fn hn h

theorem setattr_ok {y : V} {u : Value} {Q : Unit → Shared → Prop} (I : Inv X pins σ H s) (e : H a = some (.ins C dx fs)) (c : Cls X.K C) (n : NoAttr X.K C f) (hl : fs.length < 1000) (ry : RelV y u)
    (h : ∀ s', Inv X pins σ (upd H a (.ins C dx (putF f y fs))) s' → Q () s') : wpAny (model X.prog X.w) A (setAttr (.ref a) f u) Q E s := by
  obtain ⟨mA, O, r, wi, _, ho⟩ := ins_get I.hok e
  have hz : (fs.map (·.1)).length ≤ sizeLine := by rw [List.length_map, sizeLine_eq]; omega
  refine set_map I.kIn O c.sa c.po n.taker c.hd wi hz fun h' O' sb => h _ ?_
  have hd : ∃ o, h'.get? dx = some o := let ⟨o, _, _, e', _⟩ := O'.ns; ⟨o, e'⟩
  refine I.write (x := a) (e := dx) (by rw [e]; exact True.intro) (.inr ho) (fun b q hb z => (sb.2 b hb).trans z) hd ?_
  refine ⟨by rw [upd_ne O.ne]; exact ho, ?_, O.ne, O'.obj, _, O'.ns, fun g => ?_, fun g hg => ?_⟩
  · have := length_putF f y fs; omega
  · show RelO ((putF f y fs).lookup g) (if g = f then some u else mA g)
    rw [lookup_putF]
    by_cases q : g = f
    · rw [if_pos q, if_pos q]; exact ry
    · rw [if_neg q, if_neg q]; exact r g
  · by_cases q : g = f
    · rw [q]; exact (keys_putF f y fs).1
    · refine (keys_putF f y fs).2 g (wi g fun z => hg ?_)
      show (if g = f then some u else mA g) = none
      rw [if_neg q]; exact z

/-- a new instance, tracked, without attributes -/
theorem Inv.made (I : Inv X pins σ H s) : Inv X pins σ (upd (upd H s.heap.objs.size (.own (s.heap.objs.size + 1))) (s.heap.objs.size + 1) (.ins C s.heap.objs.size []))
    { s with heap := (s.heap.push PySem.W.emptyDict).push (PySem.W.instObj C s.heap.objs.size) } := by
  have e1 : (s.heap.push PySem.W.emptyDict).get? s.heap.objs.size = some PySem.W.emptyDict := Heap.get?_push_size s.heap rfl
  have e2 : ((s.heap.push PySem.W.emptyDict).push (PySem.W.instObj C s.heap.objs.size)).get? (s.heap.objs.size + 1) = some (PySem.W.instObj C s.heap.objs.size) := by
    have := Heap.get?_push_size (s.heap.push PySem.W.emptyDict) (o := PySem.W.instObj C s.heap.objs.size) rfl
    rwa [Heap.size_push] at this
  have e3 : (s.heap.push PySem.W.emptyDict).Ns s.heap.objs.size (fun _ => none) := ⟨PySem.W.emptyDict, #[], _, e1, rfl, (fun e he => absurd he (by simp)), fun _ => rfl⟩
  have I1 := I.laid (a := s.heap.objs.size) (o := .own (s.heap.objs.size + 1)) (h' := s.heap.push PySem.W.emptyDict) (t' := s.toks) (fun b u q => Heap.get?_push_of_some _ q) (Nat.le_refl _) ⟨_, e1⟩
  refine I1.laid (a := s.heap.objs.size + 1) (o := .ins C s.heap.objs.size []) (t' := s.toks) (fun b u q => Heap.get?_push_of_some _ q) (Nat.le_of_eq (Heap.size_push _ _)) ?_
  have ne : s.heap.objs.size ≠ s.heap.objs.size + 1 := Nat.ne_of_lt (Nat.lt_succ_self _)
  refine ⟨by rw [upd_ne ne, upd_same], Nat.zero_le _, ne, e2, fun _ => none, (Heap.Ns1.of_empty e3).at fun o q => Heap.get?_push_of_some _ q, fun _ => True.intro, fun y hy => absurd rfl hy⟩

/-- e.f where nothing but the object is asked: through attributeBase (super) and the last hold -/
theorem attr_of {prog : Program} {w : World} {env : Env} {e : Expr} {f : Str} {pos : Pos} {s : Shared} {Q : Value → Shared → Prop} (hb : attributeBase e f env (eval e env) = eval e env)
    (h : wpAny (model prog w) A (eval e env) (fun o s₁ => wpAny (model prog w) A (getAttr o f true) Q E s₁) E s) : wpAny (model prog w) A (eval (.Attribute e f pos) env) Q E s :=
  Attribute_any_ h (by rw [arm_eval_Attribute, hb])
end

/-! ### readings and rules -/
/-- e.f, an attribute of the instance -/
noncomputable def tFld (K : PySem.W.Frag) (ta : TE) (f : Str) : TE := fun σ H Q => ta σ H fun x H1 => ∃ a C dx fs v, x = .ref a ∧ H1 a = some (.ins C dx fs) ∧ Cls K C ∧ NoAttr K C f ∧ fs.lookup f = some v ∧ Q v H1
/-- e.f = value -/
noncomputable def sFld (K : PySem.W.Frag) (ta tv : TE) (f : Str) : TS := fun D σ H => tv σ H fun y H1 => ta σ H1 fun x H2 => ∃ a C dx fs, x = .ref a ∧ H2 a = some (.ins C dx fs) ∧ Cls K C ∧ NoAttr K C f ∧ fs.length < 1000 ∧
  D.nx σ (upd H2 a (.ins C dx (putF f y fs)))
section
variable {X : Cx} {o e value : Expr} {f : Str} {pos pos' tpos : Pos} {ta tv : TE}
theorem pe_fld (he : PE X e ta) (hb : attributeBase e f X.env (eval e X.env) = eval e X.env) : PE X (.Attribute e f pos) (tFld X.K ta f) := .mk <| by
  intro pins s σ H Q I h
  refine attr_of hb (thn (he pins s σ H _ I h) fun u s1 ⟨x, H1, I1, rx, a, C, dx, fs, v, ex, ea, c, n, l, q⟩ => ?_)
  subst ex
  obtain rfl : u = Value.ref a := rx
  exact getattr_ok I1 ea c n l fun u' s2 I2 ru => ⟨v, H1, I2, ru, q⟩
theorem ps_fld (ha : PE X o ta) (hv : PE X value tv) (hs : swapsWith value (some (.Attribute o f pos')) pos.line X.env = pure false) : PS X (.Assign [.Attribute o f pos'] value pos) (sFld X.K ta tv f) := .mk <| by
  intro pins s σ H D I h
  refine plainObj_wpAny_Assign_Attribute (thn (hv pins s σ H _ I h) fun u s1 ⟨y, H1, I1, ry, q⟩ => thn (ha pins s1 σ H1 _ I1 q) fun ov s2 ⟨x, H2, I2, rx, a, C, dx, fs, ex, ea, c, n, l, q2⟩ => ?_) hs
  subst ex
  obtain rfl : ov = Value.ref a := rx
  exact setattr_ok I2 ea c n l ry fun s3 I3 => ⟨σ, _, I3, q2⟩
end

/-! ### isinstance -/
section
variable {X : Cx} {pins : List (Addr × Obj)} {σ : St} {H : Hp} {s : Shared} {A : Around} {E : Value → Shared → Prop} {Q : Value → Shared → Prop} {c : Value} {b : Bool}
end
end L2

namespace L2
open PySem PySem.Spec PyProof.Rows

/-! ### room -/
structure Room (k : Nat) (A : Around) : Prop where
  hd : A.handled = none
  dp : A.depth + 3 * k + 5 < recursionLimit
  un : A.units + 16 * k + 200 < cLine
theorem Room.mono {j k : Nat} {A : Around} (r : Room k A) (h : j ≤ k) : Room j A := ⟨r.hd, by have := r.dp; omega, by have := r.un; omega⟩
theorem Room.deeper {k : Nat} {A : Around} (r : Room (k + 1) A) (env : Env) : Room k (A.deeper env) :=
  ⟨r.hd, by have := r.dp; show A.depth + 1 + 3 * k + 5 < _; omega, by have := r.un; show A.units + 3 + 16 * k + 200 < _; omega⟩
theorem make_depth {A : Around} {C : Addr} {us : List Value} {kw : List (Str × Value)} : (A.under (.builtin "type.__call__" ⟨.ref C :: us, kw⟩)).depth = A.depth + 1 := by
  first | rfl | simp [Around.under, Code.weight, Code.isCreation, Code.isGuard, Code.isCaller, Code.frames, Code.isFrame, guardIds]
theorem make_units {A : Around} {C : Addr} {us : List Value} {kw : List (Str × Value)} : (A.under (.builtin "type.__call__" ⟨.ref C :: us, kw⟩)).units = A.units + 1 := by
  first | rfl | simp [Around.under, Code.cUnits, Code.frames, Code.isFrame]
theorem Room.make {k : Nat} {A : Around} (r : Room (k + 1) A) (C : Addr) (us : List Value) (kw : List (Str × Value)) : Room k (A.under (.builtin "type.__call__" ⟨.ref C :: us, kw⟩)) :=
  ⟨r.hd, by have := r.dp; rw [make_depth]; omega, by have := r.un; rw [make_units]; omega⟩
theorem Room.depth {k : Nat} {A : Around} (r : Room k A) : A.depth < recursionLimit := by have := r.dp; omega
theorem Room.units {k : Nat} {A : Around} (r : Room k A) : A.units + 64 < cLine := by have := r.un; omega
/-! ### argument lists and displays -/
noncomputable def tNil : TA := fun _ H Q => Q [] H
noncomputable def tCons (ta : TE) (tr : TA) : TA := fun σ H Q => ta σ H fun x H1 => tr σ H1 fun xs H2 => Q (x :: xs) H2
section
variable {X : Cx} {e : Expr} {es : List Expr} {te : TE} {t : TA} {pos : Pos}
theorem pa_nil : PA X [] tNil := .mk <| fun _ _ _ _ H Q I h => Calls.spliced_nil ⟨[], H, I, .nil, h⟩
theorem pa_cons (ha : PE X e te) (hr : PA X es t) (hs : starEach (e :: es) X.env = (false, eval e X.env) :: starEach es X.env := by rfl) : PA X (e :: es) (tCons te t) := .mk <| by
  intro pos pins s σ H Q I h
  rw [hs]
  show wpAny _ _ (spliced ((false, eval e X.env) :: backTo pos (starEach es X.env))) _ _ s
  refine Calls.spliced_cons (thn (ha pins s σ H _ I h) fun u s1 ⟨x, H1, I1, r1, q1⟩ => ?_)
  exact thn (hr pos pins s1 σ H1 _ I1 q1) fun us s2 ⟨xs, H2, I2, r2, q2⟩ => ⟨x :: xs, H2, I2, .cons r1 r2, q2⟩

/-- a tuple, a list of written items -/
noncomputable def tTup (t : TA) : TE := fun σ H Q => t σ H fun xs H1 => xs.length ≤ sizeLine ∧ ∀ p, H1 p = none → Q (.ref p) (upd H1 p (.tup xs))
noncomputable def tLst (t : TA) : TE := fun σ H Q => t σ H fun xs H1 => xs.length ≤ sizeLine ∧ ∀ p, H1 p = none → Q (.ref p) (upd H1 p (.lst xs))
theorem pe_tup {x1} (h : PA X es t) : PE X (.Tuple es x1 pos) (tTup t) := .mk <| by
  intro pins s σ H Q I hq
  refine wpAny_Tuple_spliced (thn (h pos pins s σ H _ I hq) fun us s1 ⟨xs, H1, I1, r, z, q⟩ => ⟨by rw [← r.length]; exact z, ?_⟩)
  have hf : H1 s1.heap.objs.size = none := I1.hok.fresh (Nat.le_refl _)
  refine ⟨.ref s1.heap.objs.size, upd H1 s1.heap.objs.size (.tup xs), I1.laid (t' := s1.toks) (fun b u e => Heap.get?_push_of_some _ e) (Nat.le_refl _) ?_, rfl, q _ hf⟩
  exact ⟨z, us, r, ⟨_, Heap.get?_push_size _ rfl, rfl, _, rfl⟩⟩
theorem pe_lst (h : PA X es t) : PE X (.List es pos) (tLst t) := .mk <| by
  intro pins s σ H Q I hq
  refine wpAny_List_spliced (thn (h pos pins s σ H _ I hq) fun us s1 ⟨xs, H1, I1, r, z, q⟩ => ⟨by rw [← r.length]; exact z, ?_⟩)
  have hf : H1 s1.heap.objs.size = none := I1.hok.fresh (Nat.le_refl _)
  refine ⟨.ref s1.heap.objs.size, upd H1 s1.heap.objs.size (.lst xs), I1.laid (t' := s1.toks) (fun b u e => Heap.get?_push_of_some _ e) (Nat.le_refl _) ?_, rfl, q _ hf⟩
  exact ⟨z, us, 0, r, Heap.get?_push_size _ rfl⟩
end

/-! ### what a def promises -/
/-- a def's promise: the bound arguments in the parameters' order, the heap, the wanted end, the wanted exception -/
noncomputable abbrev Sp := List V → Hp → VK → XK → Prop
/-- how an exception lies behind a call (file 08 gives it): the callers' frames, abstract heap and state ahead of the call, the wish, the exception, the state -/
noncomputable abbrev CXT := List Env → Hp → Shared → XK → Value → Shared → Prop

/-- the state at a call -/
structure Env0 (P : Program) (w : World) (K : PySem.W.Frag) (mg : Str → Option Value) (base : Heap) (A : Around) (outer : List Env) (s : Shared) (H : Hp) : Prop where
  frames : A.frames = some outer
  mod : Mod K mg base
  bs : ∀ b o, base.get? b = some o → s.heap.get? b = some o ∧ H b = none
  bsz : base.objs.size ≤ s.heap.objs.size
  funs : s.heap.FunFrames base outer
  frf : ∀ b ∈ frs outer, H b = none
  hok : HOk P w H s.heap
  bare : AllBare s.gens
/-- a call's end -/
noncomputable def CE (outer : List Env) (P : Program) (w : World) (H : Hp) (s : Shared) (Q : VK) (u : Value) (s' : Shared) : Prop :=
  ∃ v H', s'.os = s.os ∧ AllBare s'.gens ∧ Un (frs outer) [] H H' s.heap s'.heap ∧ HOk P w H' s'.heap ∧ RelV v u ∧ Q v H'
noncomputable def CR (CX : CXT) (outer : List Env) (P : Program) (w : World) (H : Hp) (s : Shared) (Q : VK) (E : XK) (r : Result) (s' : Shared) : Prop :=
  match r with
  | .ok (.ret u) => CE outer P w H s Q u s'
  | .ok _ => False
  | .error e => CX outer H s E e s'
structure FnOk (P : Program) (w : World) (K : PySem.W.Frag) (mg : Str → Option Value) (base : Heap) (CX : CXT) (k : Nat) (f : Addr) (fd : FuncData) (ps : List Str) (sp : Sp) : Prop where
  len : ∀ vs H Q E, sp vs H Q E → vs.length = ps.length
  run : ∀ (A : Around) (outer : List Env) (s : Shared) (H : Hp) (args : Args) (us : List Value) (vs : List V) (Q : VK) (E : XK), Room k A → Env0 P w K mg base A outer s H → BindsTo s fd args (ps.zip us) → Vals vs us → sp vs H Q E →
    codeAny (model P w) A (.call (.ref f) args) (CR CX outer P w H s Q E) s
/-- a weaker promise -/
theorem FnOk.imp {P : Program} {w : World} {K : PySem.W.Frag} {mg : Str → Option Value} {base : Heap} {CX : CXT} {k : Nat} {f : Addr} {fd : FuncData} {ps : List Str} {sp sp' : Sp} (F : FnOk P w K mg base CX k f fd ps sp)
    (h : ∀ vs H Q E, sp' vs H Q E → sp vs H Q E) : FnOk P w K mg base CX k f fd ps sp' :=
  ⟨fun vs H Q E q => F.len vs H Q E (h _ _ _ _ q), fun A outer s H args us vs Q E hr he hb hv hs => F.run A outer s H args us vs Q E hr he hb hv (h _ _ _ _ hs)⟩

theorem Env0.make {P : Program} {w : World} {K : PySem.W.Frag} {mg : Str → Option Value} {base : Heap} {A : Around} {outer : List Env} {s : Shared} {H : Hp} (e : Env0 P w K mg base A outer s H) (C : Addr) (us : List Value) (kw : List (Str × Value)) :
    Env0 P w K mg base (A.under (.builtin "type.__call__" ⟨.ref C :: us, kw⟩)) outer s H := ⟨by first | exact e.frames | (simpa [Around.under, Code.envs, Code.isFrame, pushEnvs] using e.frames), e.mod, e.bs, e.bsz, e.funs, e.frf, e.hok, e.bare⟩
section
variable {X : Cx} {pins : List (Addr × Obj)} {σ : St} {H : Hp} {s s' : Shared}
/-- from a body: what a callee wants -/
theorem Inv.env0 (I : Inv X pins σ H s) : Env0 X.prog X.w X.K X.mg X.base X.A X.stack s H :=
  ⟨I.ok.frames, I.ok.mod, I.bs, Nat.le_trans I.ok.bsz I.sz, I.stack, I.stkFree, I.hok, I.bare⟩
/-- behind a call -/
theorem Inv.after {Q : VK} {u : Value} (I : Inv X pins σ H s) (h : CE X.stack X.prog X.w H s Q u s') : EP X pins σ Q u s' := by
  obtain ⟨v, H', os, bare, un, hok, r, q⟩ := h
  obtain ⟨hh, g, d, t, os'⟩ := s'
  obtain rfl : os' = s.os := os
  exact ⟨v, H', I.call (h' := hh) (g' := g) (d' := d) (t' := t) (ch := []) un hok bare (fun b z => absurd z (by simp)), r, q⟩
end

/-! ### calls -/
/-- f(..): the written arguments, then the defaults dvs; E: what is wanted of an exception -/
noncomputable def tCall (sp : Sp) (dvs : List V) (E : XK) (t : TA) : TE := fun σ H Q => t σ H fun vs H1 => sp (vs ++ dvs) H1 Q E
/-- o.m(..) of an instance of the class at C -/
noncomputable def tMeth (C : Addr) (m : Str) (sp : Sp) (dvs : List V) (E : XK) (ta : TE) (t : TA) : TE := fun σ H Q => ta σ H fun x H1 => ∃ a dx fs, x = .ref a ∧ H1 a = some (.ins C dx fs) ∧ fs.lookup m = none ∧
  t σ H1 fun vs H2 => sp (x :: (vs ++ dvs)) H2 Q E
/-- C(..): a new instance and its dict, then __init__ -/
noncomputable def tMake (C : Addr) (sp : Sp) (dvs : List V) (E : XK) (t : TA) : TE := fun σ H Q => t σ H fun vs H1 => ∀ x dx, H1 x = none → H1 dx = none → dx ≠ x →
  sp (.ref x :: (vs ++ dvs)) (upd (upd H1 dx (.own x)) x (.ins C dx [])) (fun v H2 => v = .non ∧ Q (.ref x) H2) E

/-- how the parameters are bound: us the positional arguments, kw the keywords' values by name, ds the defaults that fill up -/
noncomputable def Binds (K : PySem.W.Frag) (fd : FuncData) (ps : List Str) (ds : List Value) : Prop :=
  ∀ (s : Shared) (us : List Value), K.In s.heap → (us ++ ds).length = ps.length → BindsTo s fd ⟨us, []⟩ (ps.zip (us ++ ds))
/-- every parameter is given -/
theorem Binds.all {K : PySem.W.Frag} {fd : FuncData} {ps : List Str} (h : ∀ us : List Value, us.length = ps.length → bindArgs fd ⟨us, []⟩ = pure (ps.zip us)) : Binds K fd ps [] := fun s us _ hl => by
  rw [List.append_nil] at hl ⊢
  exact .of_eq (h us hl)

/-- an exception of a callee reaches what this body wants of exceptions -/
noncomputable def Passes (CX : CXT) (X : Cx) (E : XK) : Prop := ∀ (pins : List (Addr × Obj)) (σ : St) (H : Hp) (s : Shared) (e : Value) (s' : Shared), Inv X pins σ H s → CX X.stack H s E e s' → X.xe e s'

section
variable {X : Cx} {CX : CXT} {k : Nat} {f C : Addr} {fd : FuncData} {ps : List Str} {sp : Sp} {dvs : List V} {ds : List Value} {E : XK} {x m : Str} {p pos apos : Pos} {e o : Expr} {es : List Expr} {ta : TE} {t : TA}

/-- the callee runs -/
theorem run_fn {pins : List (Addr × Obj)} {σ : St} {H : Hp} {s : Shared} {Q : VK} {us : List Value} {vs : List V} (F : FnOk X.prog X.w X.K X.mg X.base CX k f fd ps sp) (hr : Room k X.A) (hb : Binds X.K fd ps ds) (hd : Vals dvs ds) (hx : Passes CX X E)
    (I : Inv X pins σ H s) (r : Vals vs us) (h : sp (vs ++ dvs) H Q E) : wpAny (model X.prog X.w) X.A (call (.ref f) us) (EP X pins σ Q) X.xe s := by
  have r2 : Vals (vs ++ dvs) (us ++ ds) := r.append hd
  have hl : (us ++ ds).length = ps.length := by rw [← r2.length]; exact F.len _ _ _ _ h
  refine wpAny_call (codeAny_mono (F.run X.A X.stack s H ⟨us, []⟩ (us ++ ds) (vs ++ dvs) Q E hr I.env0 (hb s us I.kIn hl) r2 h) fun r s' hq => ?_)
  cases r with
  | error e => exact hx pins σ H s e s' I hq
  | ok fl =>
    cases fl with
    | ret u => exact I.after hq
    | next => exact False.elim hq
    | brk => exact False.elim hq
    | cont => exact False.elim hq

theorem pe_call (F : FnOk X.prog X.w X.K X.mg X.base CX k f fd ps sp) (hr : Room k X.A) (hg : Gl X x) (hm : X.mg x = some (.ref f)) (hk : PySem.W.keepIn X.K (.ref f) = true) (hb : Binds X.K fd ps ds) (hd : Vals dvs ds) (hx : Passes CX X E)
    (ha : PA X (e :: es) t) (hdb : (x == ("__debug__" : Str)) = false := by decide) (he : starEach (e :: es) X.env = (false, eval e X.env) :: starEach es X.env := by rfl) (hpl : (backTo pos (starEach es X.env)).any (·.1) = false := by rfl) :
    PE X (.Call (.Name x p) (e :: es) [] pos) (tCall sp dvs E t) := .mk <| by
  intro pins s σ H Q I h
  refine wpAny_Call_Name_kw (ld_glob I hg hm ?_ hdb)
  refine PySem.W.callWith_K (h₀ := X.base) I.ok.mod.kin hk (thn (ha pos pins s σ H _ I h) fun us s1 ⟨vs, H1, I1, r, q⟩ => ⟨I1.kIn, ?_⟩) he hpl
  exact run_fn F hr hb hd hx I1 r q
theorem pe_call0 (F : FnOk X.prog X.w X.K X.mg X.base CX k f fd ps sp) (hr : Room k X.A) (hg : Gl X x) (hm : X.mg x = some (.ref f)) (hk : PySem.W.keepIn X.K (.ref f) = true) (hb : Binds X.K fd ps ds) (hd : Vals dvs ds) (hx : Passes CX X E)
    (hdb : (x == ("__debug__" : Str)) = false := by decide) : PE X (.Call (.Name x p) [] [] pos) (tCall sp dvs E tNil) := .mk <| by
  intro pins s σ H Q I h
  refine wpAny_Call_Name_kw (ld_glob I hg hm ?_ hdb)
  exact PySem.W.callWith_K0 I.kIn hk (run_fn (us := []) F hr hb hd hx I .nil h)

/-- o.m(e, ..) -/
theorem pe_meth {pl : Sem Bool} (he : PE X o ta) (c : Cls X.K C) (hm : Meth X.K C m f) (F : FnOk X.prog X.w X.K X.mg X.base CX k f fd ps sp) (hr : Room k X.A) (hb : Binds X.K fd ps ds) (hd : Vals dvs ds) (hx : Passes CX X E) (ha : PA X (e :: es) t)
    (hst : starEach (e :: es) X.env = (false, eval e X.env) :: starEach es X.env := by rfl) (hpl : (backTo pos (starEach es X.env)).any (·.1) = false := by rfl)
    (ht : eval (.Call (.Attribute o m apos) (e :: es) [] pos) X.env = (do
      let ov ← eval o X.env
      standAt apos.atName
      let (f, first) ← holding [ov] (getMethod ov m pl)
      callWith pos f first (backTo pos (starEach (e :: es) X.env)) (backToKw pos (keywordEach [] X.env))) := by rfl) :
    PE X (.Call (.Attribute o m apos) (e :: es) [] pos) (tMeth C m sp dvs E ta t) := .mk <| by
  intro pins s σ H Q I h
  refine PySem.W.methodCall_KW (pl := pl) (thn (he pins s σ H _ I h) fun u s1 ⟨x, H1, I1, rx, a, dx, fs, ex, ea, l, q⟩ => ?_) ht
  subst ex
  obtain rfl : u = Value.ref a := rx
  refine getmeth_ok I1 ea c hm l ?_
  refine PySem.W.callWith_K (first := [.ref a]) (h₀ := X.base) I.ok.mod.kin hm.kp (thn (ha pos pins s1 σ H1 _ I1 q) fun us s2 ⟨vs, H2, I2, r, q2⟩ => ⟨I2.kIn, ?_⟩) hst hpl
  exact run_fn (us := .ref a :: us) (vs := .ref a :: vs) F hr hb hd hx I2 (.cons rfl r) q2
/-- o.m() -/
theorem pe_meth0 {pl : Sem Bool} (he : PE X o ta) (c : Cls X.K C) (hm : Meth X.K C m f) (F : FnOk X.prog X.w X.K X.mg X.base CX k f fd ps sp) (hr : Room k X.A) (hb : Binds X.K fd ps ds) (hd : Vals dvs ds) (hx : Passes CX X E)
    (ht : eval (.Call (.Attribute o m apos) [] [] pos) X.env = (do
      let ov ← eval o X.env
      standAt apos.atName
      let (f, first) ← holding [ov] (getMethod ov m pl)
      callWith pos f first (backTo pos (starEach [] X.env)) (backToKw pos (keywordEach [] X.env))) := by rfl) :
    PE X (.Call (.Attribute o m apos) [] [] pos) (tMeth C m sp dvs E ta tNil) := .mk <| by
  intro pins s σ H Q I h
  refine PySem.W.methodCall_KW (pl := pl) (thn (he pins s σ H _ I h) fun u s1 ⟨x, H1, I1, rx, a, dx, fs, ex, ea, l, q⟩ => ?_) ht
  subst ex
  obtain rfl : u = Value.ref a := rx
  refine getmeth_ok I1 ea c hm l ?_
  exact PySem.W.callWith_K0 (first := [.ref a]) I1.kIn hm.kp (run_fn (us := [.ref a]) (vs := [.ref a]) F hr hb hd hx I1 (.cons rfl .nil) q)

/-- what a class must have to be made -/
structure Mk (K : PySem.W.Frag) (C f : Addr) : Prop where
  makes : PySem.W.makesIn K C = true
  init : PySem.W.findIn K (.ref C) "__init__" = some (some (.ref f))
  fn : PySem.W.isFn K (.ref f) = true
  kp : PySem.W.keepIn K (.ref C) = true

theorem run_make {pins : List (Addr × Obj)} {σ : St} {H : Hp} {s : Shared} {Q : VK} {us : List Value} {vs : List V} (M : Mk X.K C f) (F : FnOk X.prog X.w X.K X.mg X.base CX k f fd ps sp) (hr : Room (k + 1) X.A) (hb : Binds X.K fd ps ds) (hd : Vals dvs ds)
    (hx : Passes CX X E) (I : Inv X pins σ H s) (r : Vals vs us)
    (h : ∀ x dx, H x = none → H dx = none → dx ≠ x → sp (.ref x :: (vs ++ dvs)) (upd (upd H dx (.own x)) x (.ins C dx [])) (fun v H2 => v = .non ∧ Q (.ref x) H2) E) :
    wpAny (model X.prog X.w) X.A (call (.ref C) us) (EP X pins σ Q) X.xe s := by
  have hq := h (s.heap.objs.size + 1) s.heap.objs.size (I.hok.fresh (Nat.le_succ _)) (I.hok.fresh (Nat.le_refl _)) (Nat.ne_of_lt (Nat.lt_succ_self _))
  have I2 := Inv.made (C := C) I
  have r2 : Vals (V.ref (s.heap.objs.size + 1) :: (vs ++ dvs)) (Value.ref (s.heap.objs.size + 1) :: (us ++ ds)) := .cons rfl (r.append hd)
  have hl : (Value.ref (s.heap.objs.size + 1) :: us ++ ds).length = ps.length := by
    have e := r2.length
    rw [F.len _ _ _ _ hq] at e
    exact e.symm
  refine wpAny_call (make_map (f := f) I.kIn M.makes M.init (beq_iff_eq.mp M.fn) (codeAny_mono (F.run _ X.stack _ _ ⟨Value.ref (s.heap.objs.size + 1) :: us, []⟩ (Value.ref (s.heap.objs.size + 1) :: (us ++ ds)) _ _ E (hr.make C us [])
    (I2.env0.make C us []) (hb _ (Value.ref (s.heap.objs.size + 1) :: us) I2.kIn hl) r2 hq) fun r s' hq' => ?_))
  cases r with
  | error e => exact hx pins σ _ _ e s' I2 hq'
  | ok fl =>
    cases fl with
    | ret u =>
      obtain ⟨v, H', I3, rv, ev, q3⟩ := I2.after hq'
      subst ev
      exact ⟨rv, ⟨V.ref (s.heap.objs.size + 1), H', I3, rfl, q3⟩⟩
    | next => exact False.elim hq'
    | brk => exact False.elim hq'
    | cont => exact False.elim hq'
theorem pe_make (M : Mk X.K C f) (F : FnOk X.prog X.w X.K X.mg X.base CX k f fd ps sp) (hr : Room (k + 1) X.A) (hg : Gl X x) (hm : X.mg x = some (.ref C)) (hb : Binds X.K fd ps ds) (hd : Vals dvs ds) (hx : Passes CX X E)
    (ha : PA X (e :: es) t) (hdb : (x == ("__debug__" : Str)) = false := by decide) (he : starEach (e :: es) X.env = (false, eval e X.env) :: starEach es X.env := by rfl) (hpl : (backTo pos (starEach es X.env)).any (·.1) = false := by rfl) :
    PE X (.Call (.Name x p) (e :: es) [] pos) (tMake C sp dvs E t) := .mk <| by
  intro pins s σ H Q I h
  refine wpAny_Call_Name_kw (ld_glob I hg hm ?_ hdb)
  refine PySem.W.callWith_K (h₀ := X.base) I.ok.mod.kin M.kp (thn (ha pos pins s σ H _ I h) fun us s1 ⟨vs, H1, I1, r, q⟩ => ⟨I1.kIn, ?_⟩) he hpl
  exact run_make M F hr hb hd hx I1 r q
theorem pe_make0 (M : Mk X.K C f) (F : FnOk X.prog X.w X.K X.mg X.base CX k f fd ps sp) (hr : Room (k + 1) X.A) (hg : Gl X x) (hm : X.mg x = some (.ref C)) (hb : Binds X.K fd ps ds) (hd : Vals dvs ds) (hx : Passes CX X E)
    (hdb : (x == ("__debug__" : Str)) = false := by decide) : PE X (.Call (.Name x p) [] [] pos) (tMake C sp dvs E tNil) := .mk <| by
  intro pins s σ H Q I h
  refine wpAny_Call_Name_kw (ld_glob I hg hm ?_ hdb)
  exact PySem.W.callWith_K0 I.kIn M.kp (run_make (us := []) M F hr hb hd hx I .nil h)
end

/-! ### keywords -/
section
variable {X : Cx} {CX : CXT} {k : Nat} {f C : Addr} {fd : FuncData} {ps ks : List Str} {sp : Sp} {E : XK} {x m : Str} {p pos apos kpos : Pos} {e o : Expr} {es : List Expr} {kws : List Keyword} {te ta : TE} {t tk : TA} {nm : Option Str}
variable {g : List Value → List Value → List Value} {gV : List V → List V → List V}
end

/-! ### a def's body keeps its promise -/
/-- names: the parameters first -/
structure FnScope (N P : List Str) (sc : Scope) : Prop where
  kind : sc.kind = .function
  co : sc.isCoroutine = false
  gen : sc.isGenerator = false
  nd : N.Nodup
  pre : N.take P.length = P
  par : ∀ x ∈ P, sc.names.lookup x = some .local ∨ sc.names.lookup x = some .cell
  nofree : ∀ y ∈ sc.names, y.2 ≠ .free

theorem bindL_out {kindOf : Str → Option NameKind} {x : Str} : ∀ {binds : List (Str × Value)} {m : Str → Option Value}, (∀ v, (x, v) ∉ binds) → bindL kindOf binds m x = m x
  | [], _, _ => rfl
  | (n, v) :: r, m, h => by
    unfold bindL
    rw [bindL_out fun w hw => h w (List.mem_cons_of_mem _ hw)]
    split
    · have : x ≠ n := by rintro rfl; exact h v List.mem_cons_self
      simp [this]
    · rfl
theorem bindC_out {kindOf : Str → Option NameKind} {x : Str} : ∀ {binds : List (Str × Value)} {m : Str → Option Value}, (∀ v, (x, v) ∉ binds) → bindC kindOf binds m x = m x
  | [], _, _ => rfl
  | (n, v) :: r, m, h => by
    unfold bindC
    rw [bindC_out fun w hw => h w (List.mem_cons_of_mem _ hw)]
    split
    · rfl
    · have : x ≠ n := by rintro rfl; exact h v List.mem_cons_self
      simp [this]
theorem bindL_get {kindOf : Str → Option NameKind} {x : Str} {v : Value} : ∀ {P : List Str} {vs : List Value} {i : Nat} {m : Str → Option Value}, P.Nodup → P[i]? = some x → vs[i]? = some v → kindOf x = some .local →
    bindL kindOf (P.zip vs) m x = some v
  | [], _, _, _, _, h, _, _ => by simp at h
  | _ :: _, [], _, _, _, _, h, _ => by simp at h
  | p :: P, w :: vs, 0, m, nd, h1, h2, hk => by
    simp at h1 h2; subst h1; subst h2
    show bindL kindOf ((p, w) :: P.zip vs) m p = _
    unfold bindL
    rw [bindL_out fun v hv => (List.nodup_cons.mp nd).1 (List.of_mem_zip hv).1, if_pos hk]
    simp
  | p :: P, w :: vs, i + 1, m, nd, h1, h2, hk => by
    show bindL kindOf ((p, w) :: P.zip vs) m x = _
    unfold bindL
    exact bindL_get (i := i) (List.nodup_cons.mp nd).2 (by simpa using h1) (by simpa using h2) hk
theorem bindC_get {kindOf : Str → Option NameKind} {x : Str} {v : Value} : ∀ {P : List Str} {vs : List Value} {i : Nat} {m : Str → Option Value}, P.Nodup → P[i]? = some x → vs[i]? = some v → kindOf x ≠ some .local →
    bindC kindOf (P.zip vs) m x = some v
  | [], _, _, _, _, h, _, _ => by simp at h
  | _ :: _, [], _, _, _, _, h, _ => by simp at h
  | p :: P, w :: vs, 0, m, nd, h1, h2, hk => by
    simp at h1 h2; subst h1; subst h2
    show bindC kindOf ((p, w) :: P.zip vs) m p = _
    unfold bindC
    rw [bindC_out fun v hv => (List.nodup_cons.mp nd).1 (List.of_mem_zip hv).1, if_neg hk]
    simp
  | p :: P, w :: vs, i + 1, m, nd, h1, h2, hk => by
    show bindC kindOf ((p, w) :: P.zip vs) m x = _
    unfold bindC
    exact bindC_get (i := i) (List.nodup_cons.mp nd).2 (by simpa using h1) (by simpa using h2) hk

/-- the names' values at the entry -/
noncomputable def start (N : List Str) (vs : List V) : St := vs.map some ++ List.replicate (N.length - vs.length) none

/-- the context of a def's body, at its entry; an exception leaves the frame, then lies as CX says -/
noncomputable def cxOf (CX : CXT) (P : Program) (w : World) (K : PySem.W.Frag) (mg : Str → Option Value) (base : Heap) (N : List Str) (qual : Str) (scope : Scope) (f : Addr) (cd : Value) (A : Around) (outer : List Env) (s : Shared) (H : Hp) (E : XK) : Cx where
  prog := P
  w := w
  K := K
  mg := mg
  base := base
  A := A.deeper (envOfC qual scope s.heap.objs.size f cd)
  N := N
  s₀ := s
  H₀ := H
  env := envOfC qual scope s.heap.objs.size f cd
  outer := outer
  stack := envOfC qual scope s.heap.objs.size f cd :: outer
  ex := []
  calm := true
  fn := fun _ => true
  pn := []
  xe := fun e s' => wpAny (model P w) (A.deeper (envOfC qual scope s.heap.objs.size f cd)) (leaving (envOfC qual scope s.heap.objs.size f cd) e) (fun _ s'' => CX outer H s E e s'') (fun e' s'' => CX outer H s E e' s'') s'

theorem cell_has {sc : Scope} {n : Nat} {x : Str} (h : sc.names.lookup x = some .cell) : ∃ c, (cellsFrom n sc.names []).lookup x = some c := by
  have q := PySem.W.cellsFrom_some sc.names n [] (.inl h)
  exact Option.isSome_iff_exists.mp q

theorem inv_start {CX : CXT} {P : Program} {w : World} {K : PySem.W.Frag} {mg : Str → Option Value} {base : Heap} {N ps : List Str} {qual : Str} {scope : Scope} {f : Addr} {cd : Value} {A : Around} {outer : List Env} {s s1 : Shared} {H : Hp} {E : XK} {us : List Value} {vs : List V}
    (S : FnScope N ps scope) (hd : A.handled = none) (e0 : Env0 P w K mg base A outer s H) (hl : vs.length = ps.length) (r : Vals vs us)
    (x : InCallC s s.heap.objs.size (bindL (envOfC qual scope s.heap.objs.size f cd).kindOf (ps.zip us) fun _ => none) (cellsFrom (s.heap.objs.size + 1) scope.names []) (bindC (envOfC qual scope s.heap.objs.size f cd).kindOf (ps.zip us) fun _ => none) s1) :
    Inv (cxOf CX P w K mg base N qual scope f cd A outer s H E) [] (start N vs) H s1 := by
  have hpl : ps.length ≤ N.length := by have := congrArg List.length S.pre; rw [List.length_take] at this; omega
  obtain ⟨h1, tk, rfl, hk⟩ := x.done
  have noA : ∀ b : Addr, b ∉ (cxOf CX P w K mg base N qual scope f cd A outer s H E).ex := fun b z => absurd (show b ∈ ([] : List Addr) from z) (by simp)
  refine ⟨⟨e0.mod, S.kind, rfl, rfl, Nat.le_refl _, fun y z c h1 h2 => ?_, fun y hy => ?_, fun y c _ h => ?_, fun _ => hd, Around.frames_deeper e0.frames, .inr ⟨rfl, rfl⟩, fun b z => absurd z (noA b), e0.bs, e0.bsz, fun b _ _ => noA b, fun b z => absurd z (noA b), e0.funs, e0.frf⟩,
    rfl, e0.bare, Un.kept hk, ⟨_, x.toInCall.ns, fun i y v h1 h2 h3 => ?_⟩, fun y c h => ⟨_, x.cell y c h⟩, e0.hok.fresh (Nat.le_refl _), fun y c h => ?_, fun p hp => absurd (show p ∈ ([] : List (Addr × Obj)) from hp) (by simp), e0.hok.kept hk, ?_⟩
  · exact name_of_addr x.apart (PySem.mem_of_lookup h1) (PySem.mem_of_lookup h2)
  · have hy : scope.names.lookup y = some .cell ∨ scope.names.lookup y = some .free := hy
    rcases hy with hy | hy
    · exact cell_has hy
    · exact absurd rfl (S.nofree _ (PySem.mem_of_lookup hy))
  · exact Nat.le_of_lt (x.above y c (PySem.mem_of_lookup h))
  · have hi : i < vs.length := by
      unfold start at h2
      by_cases hi : i < vs.length
      · exact hi
      · rw [List.getElem?_append_right (by simpa using hi)] at h2
        rw [List.getElem?_replicate] at h2
        split at h2 <;> cases h2
    have ha : vs[i]? = some v := by
      unfold start at h2
      rw [List.getElem?_append_left (by simpa using hi), List.getElem?_map] at h2
      cases e : vs[i]? with
      | none => rw [e] at h2; cases h2
      | some a => rw [e] at h2; cases h2; rfl
    obtain ⟨u, hu, rv⟩ := r.get ha
    have hp : ps[i]? = some y := by
      rw [← S.pre, List.getElem?_take_of_lt (by omega)]; exact h1
    have ndP : ps.Nodup := by rw [← S.pre]; exact S.nd.sublist (List.take_sublist _ _)
    refine ⟨u, rv, ?_⟩
    rcases S.par y (List.mem_of_getElem? hp) with k | k
    · exact .inl ⟨k, bindL_get ndP hp hu k⟩
    · obtain ⟨c, e⟩ := cell_has (n := s.heap.objs.size + 1) k
      refine .inr ⟨.inl k, c, e, ?_⟩
      have q := x.cell y c e
      rw [bindC_get ndP hp hu (by show scope.names.lookup y ≠ _; rw [k]; decide)] at q
      exact q
  · exact e0.hok.fresh (Nat.le_of_lt (x.above y c (PySem.mem_of_lookup h)))
  · unfold start
    show _ = N.length
    rw [List.length_append, List.length_map, List.length_replicate]
    omega

/-- THE RULE: a def (or a method) of the text, by its body. The body's reading t is chosen for each entry; it is run at the parameters' values -/
theorem fn_of {CX : CXT} {P : Program} {w : World} {K : PySem.W.Frag} {mg : Str → Option Value} {base : Heap} {k : Nat} {f : Addr} {name qual : Str} {params : Arguments} {body : List Stmt} {scope : Scope} {dV kV doc pm cdv ct oc : Value} {an od : Option Addr}
    {osl : Array (Option Value)} {N ps : List Str} {sp : Sp} (lk : K.lookup f = some ⟨oc, od, .func (PySem.W.fnOf name qual params body scope dV kV doc pm an cdv ct), osl⟩) (hcd : PySem.W.codeIn K cdv qual = true) (S : FnScope N ps scope)
    (len : ∀ vs H Q E, sp vs H Q E → vs.length = ps.length)
    (hbody : ∀ (A : Around) (outer : List Env) (s : Shared) (H : Hp) (vs : List V) (Q : VK) (E : XK), Room k (A.deeper (envOfC qual scope s.heap.objs.size f cdv)) → sp vs H Q E →
      ∃ t, PSs (cxOf CX P w K mg base N qual scope f cdv A outer s H E) body t ∧ t { nx := fun _ H' => Q .non H', rt := Q } (start N vs) H) :
    FnOk P w K mg base CX (k + 1) f (PySem.W.fnOf name qual params body scope dV kV doc pm an cdv ct) ps sp := by
  refine ⟨len, fun A outer s H args us vs Q E hr e0 hb r hsp => ?_⟩
  have hl := len _ _ _ _ hsp
  have KX : K.In s.heap := e0.mod.kin.keeps fun b o e => (e0.bs b o e).1
  have lim : s.heap.NoLimit := e0.mod.nolimit.keeps fun b o e => (e0.bs b o e).1
  have hkind : ∀ y ∈ ps.zip us, scope.names.lookup y.1 = some .local ∨ (scope.names.lookup y.1 = some .cell ∧ ((cellsFrom (s.heap.objs.size + 1) scope.names []).lookup y.1).isSome = true) := fun ⟨n, v⟩ hy => by
    rcases S.par n (List.of_mem_zip hy).1 with q | q
    · exact .inl q
    · exact .inr ⟨q, PySem.W.cellsFrom_some _ _ _ (.inl q)⟩
  refine codeAny_call_function hr.depth (KX _ _ lk) rfl S.co S.gen rfl (PySem.W.codeRec_of KX hcd) (hb _ _ _ _ ?_)
  refine wpAny_newFunctionEnv_cells S.kind hkind fun env he s1 x => ?_
  subst he
  refine ⟨lim.keeps x.toInCall.keep, codeAny_func ?_⟩
  obtain ⟨t, ht, hq⟩ := hbody A outer s H vs Q E (hr.deeper _) hsp
  have I : Inv (cxOf CX P w K mg base N qual scope f cdv A outer s H E) [] (start N vs) H s1 := inv_start S hr.hd e0 hl r x
  refine wpAny_mono (ht [] s1 (start N vs) H _ I hq) (fun fl s' hs => ?_) fun e s' hs => hs
  have fin : ∀ {σ' : St} {H' : Hp} {v : V} {u : Value}, Inv (cxOf CX P w K mg base N qual scope f cdv A outer s H E) [] σ' H' s' → RelV v u → Q v H' → CE outer P w H s Q u s' :=
    fun {σ' H' v u} J rv q => ⟨v, H', J.os, J.bare, J.base, J.hok, rv, q⟩
  cases fl with
  | ret u =>
    obtain ⟨v, σ', H', J, rv, q⟩ := hs
    exact fin J rv q
  | next =>
    obtain ⟨σ', H', J, q⟩ := hs
    exact fin (v := V.non) (u := Value.none) J rfl q
  | brk =>
    obtain ⟨_, _, _, q⟩ := hs
    exact False.elim q
  | cont =>
    obtain ⟨_, _, _, q⟩ := hs
    exact False.elim q
end L2

namespace L2
open PySem PySem.Spec PyProof.Rows
section
variable {X : Cx} {x : Str} {p pos : Pos} {e : Expr} {es : List Expr} {t : TA} {id T : String} {r : List V → Hp → VK → Prop}

noncomputable def tCB (r : List V → Hp → VK → Prop) (t : TA) : TE := fun σ H Q => t σ H fun vs H1 => r vs H1 Q
/-- f(e, ..), f a built-in function -/
theorem pe_callB (hc : CallR X (.builtin id) r) (hg : Gl X x) (hm : X.mg x = none) (hv : bootBuiltins x = some (.builtin id)) (ha : PA X (e :: es) t) (hn : x ≠ "__name__" := by decide) (hdb : (x == ("__debug__" : Str)) = false := by decide)
    (he : starEach (e :: es) X.env = (false, eval e X.env) :: starEach es X.env := by rfl) (hpl : (backTo pos (starEach es X.env)).any (·.1) = false := by rfl) : PE X (.Call (.Name x p) (e :: es) [] pos) (tCB r t) := .mk <| by
  intro pins s σ H Q I h
  refine wpAny_Call_Name_kw (ld_blt I hg hm hv ?_ hn hdb)
  exact PyProof.Rows.callWith_builtin1 (thn (ha pos pins s σ H _ I h) fun us s1 ⟨vs, H1, I1, r1, q1⟩ => hc pins s1 σ H1 vs us Q I1 r1 q1) he hpl
/-- T(e, ..), T a built-in type -/
theorem pe_callTy (hc : CallR X (.type T) r) (hg : Gl X x) (hm : X.mg x = none) (hv : bootBuiltins x = some (.type T)) (ha : PA X (e :: es) t) (hn : x ≠ "__name__" := by decide) (hdb : (x == ("__debug__" : Str)) = false := by decide)
    (he : starEach (e :: es) X.env = (false, eval e X.env) :: starEach es X.env := by rfl) (hpl : (backTo pos (starEach es X.env)).any (·.1) = false := by rfl) : PE X (.Call (.Name x p) (e :: es) [] pos) (tCB r t) := .mk <| by
  intro pins s σ H Q I h
  refine wpAny_Call_Name_kw (ld_blt I hg hm hv ?_ hn hdb)
  exact PyProof.Rows.callWith_type1 (thn (ha pos pins s σ H _ I h) fun us s1 ⟨vs, H1, I1, r1, q1⟩ => hc pins s1 σ H1 vs us Q I1 r1 q1) he hpl
end
end L2

namespace HT
open PySem PyProof.Rows

section
open PySem.SeqAt
open PySem.AutoSeq1 (wpAny_loadPart')
open PySem.MeetsSeq PySem.MeetsSeq2 PySem.MeetsSeq3

end

section
variable {prog : Program} {w : World} {A : Around} {E : Value → Shared → Prop} {s : Shared}

/-! ### t[a:b], not the whole -/
/-- a slice's bound as a place among n (d where it is left out) -/
noncomputable def sIx (n d : Nat) : Option Int → Nat
  | none => d
  | some v => if v < 0 then (v + (n : Int)).toNat else min v.toNat n
theorem sIx_nat (n d k : Nat) : sIx n d (some (k : Int)) = min k n := by
  show (if (k : Int) < 0 then ((k : Int) + (n : Int)).toNat else min (k : Int).toNat n) = min k n
  rw [if_neg (by omega), Int.toNat_natCast]
end
end HT

namespace L2
open PySem PySem.Spec PyProof.Rows

/-! ### the parts of a slice -/
noncomputable abbrev TO := St → Hp → (Option Int → Hp → Prop) → Prop
/-- a slice's part (left out, or an int) -/
noncomputable def PO (X : Cx) (e : Option Expr) (t : TO) : Prop :=
  ∀ (pins : List (Addr × Obj)) (s : Shared) (σ : St) (H : Hp) (Q : Option Int → Hp → Prop), Inv X pins σ H s → t σ H Q →
    wpAny (model X.prog X.w) X.A (evalPart e X.env) (fun u s' => ∃ o H', Inv X pins σ H' s' ∧ IsPart u o ∧ Q o H') X.xe s
noncomputable def tPart (t : TE) : TO := fun σ H Q => t σ H fun x H1 => ∃ i, x = .int i ∧ Q (some i) H1

section
variable {X : Cx} {e : Expr} {te : TE} {lo hi : Option Expr} {tl th : TO} {pos p2 : Pos}

theorem po_some (h : PE X e te) : PO X (some e) (tPart te) := by
  intro pins s σ H Q I hw
  rw [evalPart_some]
  refine thn (h pins s σ H _ I hw) fun u s1 ⟨x, H1, I1, r1, q1⟩ => ?_
  obtain ⟨i, rfl, q⟩ := q1
  obtain ⟨t, rfl⟩ := r1
  exact ⟨some i, H1, I1, .int i t, q⟩

/-- what a slice of a value is, by values: the slice object stands at sl -/
noncomputable def SlR (X : Cx) (r : V → Option Int → Option Int → Hp → VK → Prop) : Prop :=
  ∀ (pins : List (Addr × Obj)) (s : Shared) (σ : St) (H : Hp) (x : V) (v vl vu : Value) (lo hi : Option Int) (sl : Addr) (Q : VK), Inv X pins σ H s → RelV x v → s.heap.IsSliceOf sl vl vu .none → IsPart vl lo → IsPart vu hi → r x lo hi H Q →
    ∃ T id, typeLookup (.type T) "__getitem__" = pure (some (.builtin id)) ∧ s.TypeIs v T ∧ wpAny (model X.prog X.w) X.A (getItem v (.ref sl)) (EP X pins σ Q) X.xe s
noncomputable def tSl (r : V → Option Int → Option Int → Hp → VK → Prop) (te : TE) (tl th : TO) : TE := fun σ H Q => te σ H fun x H1 => tl σ H1 fun l H2 => th σ H2 fun u H3 => r x l u H3 Q
/-- a[lo:hi], any a -/
theorem pe_slice {r : V → Option Int → Option Int → Hp → VK → Prop} (hr : SlR X r) (he : PE X e te) (hl : PO X lo tl) (hu : PO X hi th) : PE X (.Subscript e (.Slice lo hi none p2) pos) (tSl r te tl th) := .mk <| by
  intro pins s σ H Q I h
  refine Subscript_ (thn (he pins s σ H _ I h) fun v s1 ⟨x, H1, I1, r1, q1⟩ => ?_)
  refine wpAny_Slice (thn (hl pins s1 σ H1 _ I1 q1) fun vl s2 ⟨l, H2, I2, pl, q2⟩ => thn (hu pins s2 σ H2 _ I2 q2) fun vu s3 ⟨u, H3, I3, pu, q3⟩ => ?_)
  rw [evalPart_none]
  refine wpAny_pure ?_
  have I4 : Inv X pins σ H3 { s3 with heap := s3.heap.push { cls := .type "slice", data := .fields #[vl, vu, .none] } } := I3.kept (t' := s3.toks) fun b ob q => Heap.get?_push_of_some _ q
  obtain ⟨T, id, hT, ht, hg⟩ := hr pins { s3 with heap := s3.heap.push { cls := .type "slice", data := .fields #[vl, vu, .none] } } σ H3 x v vl vu l u s3.heap.objs.size Q I4 r1 (Heap.IsSliceOf.new ..) pl pu q3
  show wpAny (model X.prog X.w) X.A (subscriptTail e (.Slice lo hi none p2) v (.ref s3.heap.objs.size)) (EP X pins σ Q) X.xe { s3 with heap := s3.heap.push { cls := .type "slice", data := .fields #[vl, vu, .none] } }
  exact tail_any (ops := [.ref s3.heap.objs.size, v]) ht hT hg (by with_unfolding_all rfl)

/-- the items of xs[lo:hi] -/
noncomputable def cutV (xs : List V) (lo hi : Option Int) : List V := (xs.drop (HT.sIx xs.length 0 lo)).take (HT.sIx xs.length xs.length hi - HT.sIx xs.length 0 lo)
theorem cutV_length (xs : List V) (lo hi : Option Int) : (cutV xs lo hi).length ≤ xs.length := by
  unfold cutV
  rw [List.length_take, List.length_drop]
  omega
/-! ### t < u, t + u -/
end
end L2

namespace L2
open PySem PySem.Spec PyProof.Rows

/-! ### places -/
/-- the place that an index of any sign means -/
noncomputable def ixN (n : Nat) (i : Int) : Option Nat := if 0 ≤ i then (if i < n then some i.toNat else none) else if -(n : Int) ≤ i then some (i + n).toNat else none
noncomputable def atI {α : Type} (xs : List α) (i : Int) : Option α := (ixN xs.length i).bind fun j => xs[j]?
theorem ixN_seq {n : Nat} {i : Int} {j : Nat} (h : ixN n i = some j) : seqIndex? i n = some j ∧ j < n ∧ -(n : Int) ≤ i ∧ i < n := by
  unfold ixN at h
  by_cases h0 : 0 ≤ i
  · rw [if_pos h0] at h
    by_cases h1 : i < n
    · rw [if_pos h1] at h
      have e : i.toNat = j := Option.some.inj h
      exact ⟨by rw [seqIndex_of h0 h1, e], by omega, by omega, h1⟩
    · rw [if_neg h1] at h; cases h
  · rw [if_neg h0] at h
    by_cases h1 : -(n : Int) ≤ i
    · rw [if_pos h1] at h
      have e : (i + n).toNat = j := Option.some.inj h
      exact ⟨by rw [seqIndex_neg (by omega) h1, e], by omega, h1, by omega⟩
    · rw [if_neg h1] at h; cases h
theorem atI_get {α : Type} {xs : List α} {i : Int} {v : α} (h : atI xs i = some v) : ∃ j, seqIndex? i xs.length = some j ∧ xs[j]? = some v ∧ j < xs.length ∧ -(xs.length : Int) ≤ i ∧ i < xs.length := by
  unfold atI at h
  cases e : ixN xs.length i with
  | none => rw [e] at h; cases h
  | some j =>
    rw [e] at h
    obtain ⟨h1, h2, h3, h4⟩ := ixN_seq e
    exact ⟨j, h1, h, h2, h3, h4⟩
theorem atI_nat {α : Type} {xs : List α} {j : Nat} {v : α} (h : xs[j]? = some v) : atI xs (j : Int) = some v := by
  have hj : j < xs.length := (List.getElem?_eq_some_iff.mp h).1
  have e : ixN xs.length (j : Int) = some j := by
    unfold ixN
    rw [if_pos (by omega), if_pos (by omega)]; simp
  unfold atI; rw [e]; exact h
/-! ### what may be subscripted -/
/-- what stands as an index of a plain subscript -/
noncomputable def PlainIx (b : Expr) : Prop := ∀ o i, subscripted b false o i = operate [o, i] (getItem o i)
/-- a subscript by values -/
noncomputable def IxR (X : Cx) (r : R2) : Prop :=
  ∀ (value slice : Expr) (pins : List (Addr × Obj)) (s : Shared) (σ : St) (H : Hp) (x y : V) (v u : Value) (Q : VK), Inv X pins σ H s → RelV x v → RelV y u → r x y H Q →
    subscripted slice false v u = operate [v, u] (getItem v u) → wpAny (model X.prog X.w) X.A (subscriptTail value slice v u) (EP X pins σ Q) X.xe s
/-- a call of a builtin's method by values: the receiver, the arguments -/
noncomputable def MtR (X : Cx) (id : String) (r : V → List V → Hp → VK → Prop) : Prop :=
  ∀ (pins : List (Addr × Obj)) (s : Shared) (σ : St) (H : Hp) (x : V) (xs : List V) (v : Value) (us : List Value) (Q : VK), Inv X pins σ H s → RelV x v → Vals xs us → r x xs H Q →
    wpAny (model X.prog X.w) X.A (call (.builtin id) (v :: us)) (EP X pins σ Q) X.xe s
section
variable {X : Cx} {a b : Expr} {ta tb : TE} {pos : Pos}
/-- a[b] -/
theorem pe_ix {r : R2} (hr : IxR X r) (ha : PE X a ta) (hb : PE X b tb) (hs : PlainIx b) : PE X (.Subscript a b pos) (tOp r ta tb) := .mk <| by
  intro pins s σ H Q I h
  exact Subscript_ (binT ha hb I h fun v u s2 x y H2 I2 rx ry q => hr a b pins s2 σ H2 x y v u Q I2 rx ry q (hs _ _))

noncomputable def rIxL (K : PySem.W.Frag) : R2 := fun x y H Q => ∃ p xs i v, x = .ref p ∧ y = .int i ∧ SqL K H p xs ∧ atI xs i = some v ∧ Q v H
noncomputable def rIxT (K : PySem.W.Frag) : R2 := fun x y H Q => ∃ p xs i v, x = .ref p ∧ y = .int i ∧ SqT K H p xs ∧ atI xs i = some v ∧ Q v H
noncomputable def rIxS : R2 := fun x y H Q => ∃ z i c, x = .str z ∧ y = .int i ∧ z.length ≤ sizeLine ∧ atI z.cps.toList i = some c ∧ Q (.str ⟨#[c]⟩) H
theorem ix_list : IxR X (rIxL X.K) := by
  intro value slice pins s σ H x y v u Q I rx ry h hs
  obtain ⟨p, xs, i, z, rfl, rfl, hq, he, q⟩ := h
  cases rx
  obtain ⟨t, rfl⟩ := ry
  obtain ⟨its, r, pl, hz⟩ := I.list hq
  obtain ⟨j, h1, h2, h3, h4, h5⟩ := atI_get he
  obtain ⟨w, ew, rw'⟩ := r.get h2
  have hl := r.length
  have hn := line63
  have fin : EP X pins σ Q w s := ⟨z, H, I, rw', q⟩
  by_cases h0 : 0 ≤ i
  · have hj : i.toNat = j := by
      rw [seqIndex_of h0 h5] at h1
      exact Option.some.inj h1
    exact item_listR pl.isList h0 (by omega) (by rw [hj]; simpa using ew) fin hs
  · have hj : (i + (its.toArray.size : Int)).toNat = j := by
      rw [seqIndex_neg (by omega) h4] at h1
      rw [List.size_toArray, ← hl]
      exact Option.some.inj h1
    exact subscriptTail_builtinR (x := w) pl.isList.typeIs slot_list_getitem.lookup
      (wpAny_getItem_list_neg (Q := fun r s' => r = w ∧ EP X pins σ Q r s') pl.isList (by omega) (by rw [List.size_toArray] <;> omega) (by omega) (by rw [hj]; simpa using ew) ⟨rfl, fin⟩) hs
theorem ix_tup : IxR X (rIxT X.K) := by
  intro value slice pins s σ H x y v u Q I rx ry h hs
  obtain ⟨p, xs, i, z, rfl, rfl, hq, he, q⟩ := h
  cases rx
  obtain ⟨t, rfl⟩ := ry
  obtain ⟨its, r, pl, hz⟩ := I.tuple hq
  obtain ⟨j, h1, h2, h3, h4, h5⟩ := atI_get he
  obtain ⟨w, ew, rw'⟩ := r.get h2
  have hl := r.length
  have hn := line63
  have fin : EP X pins σ Q w s := ⟨z, H, I, rw', q⟩
  exact subscriptTail_builtinR (x := w) pl.typeIs slot_tuple_getitem.lookup
    (getItem_tuple (j := j) (Q := fun r s' => r = w ∧ EP X pins σ Q r s') pl (by omega) (by omega) (by rw [List.size_toArray, ← hl]; exact h1) (by simpa using ew) ⟨rfl, fin⟩) hs
theorem ix_str : IxR X rIxS := by
  intro value slice pins s σ H x y v u Q I rx ry h hs
  obtain ⟨z, i, c, rfl, rfl, hz, he, q⟩ := h
  obtain ⟨t, rfl⟩ := rx
  obtain ⟨t', rfl⟩ := ry
  obtain ⟨j, h1, h2, h3, h4, h5⟩ := atI_get he
  have hl : z.cps.toList.length = z.length := by simp [Str.length]
  rw [hl] at h1 h4 h5
  have hn := line63
  exact tail_any (typeIs_str s z t) slot_str_getitem.lookup (getItem_str (c := c) (by
    have e1 : decide (i < -(2 ^ 63 : Int)) = false := decide_eq_false (by omega)
    have e2 : decide (i ≥ 2 ^ 63) = false := decide_eq_false (by omega)
    rw [e1, e2, Bool.or_false]) (by rw [h1]; simpa using h2) ⟨.str ⟨#[c]⟩, H, I.tok _, ⟨_, rfl⟩, q⟩) hs
/-! ### xs[i] = v, any sign -/
/-! ### slices -/
theorem slice_bounds (lo hi : Option Int) (n : Nat) : (sliceBounds lo hi none n).1 = ((HT.sIx n 0 lo : Nat) : Int) ∧ (sliceBounds lo hi none n).2.1 = ((HT.sIx n n hi : Nat) : Int) ∧ (sliceBounds lo hi none n).2.2 = 1 := by
  refine ⟨?_, ?_, rfl⟩
  · cases lo with
    | none => simp [sliceBounds, HT.sIx]
    | some i =>
      simp only [sliceBounds, HT.sIx, Option.getD_none, show (1 : Int) > 0 by decide, if_true]
      by_cases h : i < 0
      · simp only [h, if_true] <;> omega
      · simp only [h, if_false] <;> omega
  · cases hi with
    | none => simp [sliceBounds, HT.sIx]
    | some i =>
      simp only [sliceBounds, HT.sIx, Option.getD_none, show (1 : Int) > 0 by decide, if_true]
      by_cases h : i < 0
      · simp only [h, if_true] <;> omega
      · simp only [h, if_false] <;> omega
theorem slicePick_cut (its : List Value) (lo hi : Option Int) : slicePick its.toArray lo hi none = ((its.drop (HT.sIx its.length 0 lo)).take (HT.sIx its.length its.length hi - HT.sIx its.length 0 lo)).toArray := by
  obtain ⟨h1, h2, h3⟩ := slice_bounds lo hi its.toArray.size
  unfold slicePick
  rw [h1, h2, h3]
  simp only [sliceRange_one, pick_run, List.size_toArray] <;> rfl
/-- xs[lo:hi] of a list: a new list -/
noncomputable def rSlL (K : PySem.W.Frag) : V → Option Int → Option Int → Hp → VK → Prop := fun x lo hi H Q => ∃ a xs, x = .ref a ∧ SqL K H a xs ∧ ∀ p, H p = none → Q (.ref p) (upd H p (.lst (cutV xs lo hi)))
theorem sl_list : SlR X (rSlL X.K) := by
  intro pins s σ H x v vl vu lo hi sl Q I rx hs pl pu h
  obtain ⟨a, xs, rfl, hx, q⟩ := h
  cases rx
  obtain ⟨its, r, ht, hz⟩ := I.list hx
  have hlen := r.length
  refine ⟨"list", _, slot_list_getitem.lookup, ht.isList.typeIs, ?_⟩
  refine wpAny_getItem_list_slice ht.isList hs pl pu .none (by simp) ?_ (by rw [List.size_toArray] <;> omega)
  rw [slicePick_cut, ← hlen]
  refine ⟨.ref s.heap.objs.size, _, I.laid (t' := s.toks) (o := .lst (cutV xs lo hi)) (fun b ob q => Heap.get?_push_of_some _ q) (Nat.le_refl _) ?_, rfl, q _ (I.hok.fresh (Nat.le_refl _))⟩
  exact ⟨Nat.le_trans (cutV_length xs lo hi) hz, _, 0, (r.drop (HT.sIx xs.length 0 lo)).take (HT.sIx xs.length xs.length hi - HT.sIx xs.length 0 lo), Heap.get?_push_size _ rfl⟩

/-! ### in, not in: flat items -/
/-! ### len, list(x), tuple(x) of any list or tuple that is read -/
theorem call_len_seq : CallR X (.builtin "len") (fun xs H Q => ∃ p ys, xs = [.ref p] ∧ (SqL X.K H p ys ∨ SqT X.K H p ys) ∧ Q (.int ys.length) H) := by
  intro pins s σ H xs us Q I r h
  obtain ⟨p, ys, rfl, hq, q⟩ := h
  obtain ⟨u, rfl, rx⟩ := vals1 r
  cases rx
  have hn := line63
  rcases hq with hq | hq
  · obtain ⟨its, r', pl, hz⟩ := I.list hq
    have hlen := r'.length
    exact Calls.call_len_list pl.isList (by simp only [List.size_toArray] <;> omega) ⟨.int ys.length, H, I.tok _, ⟨s.toks + 1, by rw [List.size_toArray, hlen]⟩, q⟩
  · obtain ⟨its, r', pl, hz⟩ := I.tuple hq
    have hlen := r'.length
    exact len_tuple pl (by simp only [List.size_toArray] <;> omega) ⟨.int ys.length, H, I.tok _, ⟨s.toks + 1, by rw [List.size_toArray, hlen]⟩, q⟩
theorem call_tuple_of : CallR X (.type "tuple") (fun xs H Q => ∃ p ys, xs = [.ref p] ∧ ((SqL X.K H p ys ∧ ∀ l, H l = none → Q (.ref l) (upd H l (.tup ys))) ∨ (SqT X.K H p ys ∧ Q (.ref p) H))) := by
  intro pins s σ H xs us Q I r h
  obtain ⟨p, ys, rfl, h⟩ := h
  obtain ⟨u, rfl, rx⟩ := vals1 r
  cases rx
  rcases h with ⟨hq, q⟩ | ⟨hq, q⟩
  · obtain ⟨its, r', pl, hz⟩ := I.list hq
    have hlen := r'.length
    refine call_tuple_list pl.isList (fun h' kp => ?_) (by simp only [List.size_toArray] <;> omega)
    have I1 : Inv X pins σ H { s with heap := h' } := I.kept (t' := s.toks) kp
    have I2 : Inv X pins σ (upd H h'.objs.size (.tup ys)) { s with heap := h'.push { cls := .type "tuple", data := .seq its.toArray } } :=
      I1.laid (t' := s.toks) (fun b o e => Heap.get?_push_of_some _ e) (Nat.le_refl _) (show ObjOk X.prog X.w _ _ _ (.tup ys) from ⟨hz, its, r', IsTup.new _ _⟩)
    exact ⟨.ref h'.objs.size, _, I2, rfl, q _ (I1.hok.fresh (Nat.le_refl _))⟩
  · obtain ⟨its, r', pl, hz⟩ := I.tuple hq
    exact call_tuple_same pl ⟨.ref p, H, I, rfl, q⟩

/-! ### the call of a builtin's method: o.m(..) -/
/-- the value is of that builtin type -/
noncomputable def tyV (K : PySem.W.Frag) (T : String) (x : V) (H : Hp) : Prop := match x with
  | .str _ => T = "str"
  | .int _ => T = "int"
  | .ref p => (T = "list" ∧ ∃ xs, SqL K H p xs) ∨ (T = "tuple" ∧ ∃ o, K.lookup p = some o ∧ o.cls = .type "tuple" ∧ o.dict = none) ∨
      (T = "dict" ∧ ((∃ kvs, H p = some (.dK kvs)) ∨ ∃ kvs, H p = some (.dT kvs))) ∨ (T = "set" ∧ ∃ S n, H p = some (.set S n))
  | _ => False
theorem tyV_is {pins : List (Addr × Obj)} {σ : St} {H : Hp} {s : Shared} {T : String} {x : V} {v : Value} (I : Inv X pins σ H s) (r : RelV x v) (ty : tyV X.K T x H) :
    s.TypeIs v T ∧ ∀ a, v = .ref a → ∃ ob, s.heap.get? a = some ob ∧ ob.dict = none := by
  cases x with
  | str z =>
    obtain ⟨t, rfl⟩ := r
    cases (show T = "str" from ty)
    exact ⟨typeIs_str s z t, fun _ e => nomatch e⟩
  | int i =>
    obtain ⟨t, rfl⟩ := r
    cases (show T = "int" from ty)
    exact ⟨typeIs_int s i t, fun _ e => nomatch e⟩
  | ref p =>
    cases r
    rcases ty with ⟨rfl, xs, hq⟩ | ⟨rfl, o, hk, hc, hd⟩ | ⟨rfl, hk⟩ | ⟨rfl, S, n, hk⟩
    · obtain ⟨its, _, pl, _⟩ := I.list hq
      refine ⟨pl.isList.typeIs, fun a e => ?_⟩
      cases e
      obtain ⟨o, n, e, c, hd, _⟩ := pl
      exact ⟨o, e, hd⟩
    · refine ⟨⟨o, I.kIn p o hk, hc⟩, fun a e => ?_⟩
      cases e
      exact ⟨o, I.kIn _ o hk, hd⟩
    · have z : ∃ o, s.heap.get? p = some o ∧ o.ExactDict := by
        rcases hk with ⟨kvs, hk⟩ | ⟨kvs, hk⟩
        · obtain ⟨_, _, _, _, o, _, _, e, ex, _⟩ := I.hok p _ hk
          exact ⟨o, e, ex⟩
        · obtain ⟨_, _, _, _, o, _, _, e, ex, _⟩ := I.hok p _ hk
          exact ⟨o, e, ex⟩
      obtain ⟨o, e, ex⟩ := z
      refine ⟨⟨o, e, ex.1⟩, fun a e2 => ?_⟩
      cases e2
      exact ⟨o, e, ex.2.1⟩
    · obtain ⟨o, _, _, _, e, ex, _⟩ := I.hok p _ hk
      refine ⟨⟨o, e, ex.1⟩, fun a e2 => ?_⟩
      cases e2
      exact ⟨o, e, ex.2.1⟩
  | _ => exact False.elim ty
noncomputable def tBM0 (K : PySem.W.Frag) (T : String) (r : V → List V → Hp → VK → Prop) (to : TE) : TE := fun σ H Q => to σ H fun x H1 => tyV K T x H1 ∧ r x [] H1 Q
noncomputable def tBM (K : PySem.W.Frag) (T : String) (r : V → List V → Hp → VK → Prop) (to : TE) (t : TA) : TE := fun σ H Q => to σ H fun x H1 => tyV K T x H1 ∧ t σ H1 fun xs H2 => r x xs H2 Q
variable {o e : Expr} {es : List Expr} {to : TE} {t : TA} {name : Str} {apos cpos : Pos} {T id : String} {r : V → List V → Hp → VK → Prop}
theorem pe_bm0 (pa : PlainAttrs T) (slot : Slot T name id) (hty : typeOf (.builtin id) = pure (.type "method_descriptor")) (hm : MtR X id r) (ho : PE X o to)
    (hbase : attributeBase o name X.env (eval o X.env) = eval o X.env := by rfl) (hline : (apos.endLine == cpos.line) = true := by rfl) : PE X (.Call (.Attribute o name apos) [] [] cpos) (tBM0 X.K T r to) := .mk <| by
  intro pins s σ H Q I h
  refine wpAny_Call_method0_late hbase hline (thn (ho pins s σ H _ I h) fun v s1 ⟨x, H1, I1, r1, ty, q1⟩ => ?_)
  obtain ⟨h1, h2⟩ := tyV_is I1 r1 ty
  exact ⟨T, id, pa, slot, hty, h1, h2, Calls.callWith_builtin rfl (PySem.evalArgs_none (hm pins s1 σ H1 x [] v [] Q I1 r1 .nil q1))⟩
theorem pe_bm (pa : PlainAttrs T) (slot : Slot T name id) (hty : typeOf (.builtin id) = pure (.type "method_descriptor")) (hm : MtR X id r) (ho : PE X o to) (ha : PA X (e :: es) t)
    (hbase : attributeBase o name X.env (eval o X.env) = eval o X.env := by rfl)
    (hfew : ((backTo cpos (starEach (e :: es) X.env)).all (fun x => !x.1) && (backToKw cpos (keywordEach [] X.env)).all (fun x => x.1.isSome)
      && decide ((e :: es).length + ([] : List Keyword).length + (if ([] : List Keyword).isEmpty then 0 else 1) < 30)) = true := by rfl)
    (hline : (apos.endLine == cpos.line) = true := by rfl) (hs : starEach (e :: es) X.env = (false, eval e X.env) :: starEach es X.env := by rfl) (hplain : (backTo cpos (starEach es X.env)).any (·.1) = false := by rfl) :
    PE X (.Call (.Attribute o name apos) (e :: es) [] cpos) (tBM X.K T r to t) := .mk <| by
  intro pins s σ H Q I h
  refine wpAny_Call_method_late hbase hfew hline rfl (thn (ho pins s σ H _ I h) fun v s1 ⟨x, H1, I1, r1, ty, q1⟩ => ?_)
  obtain ⟨h1, h2⟩ := tyV_is I1 r1 ty
  refine ⟨T, id, pa, slot, hty, h1, h2, ?_⟩
  have hA := ha cpos pins s1 σ H1 _ I1 q1
  rw [hs] at hA ⊢
  refine Calls.callWith_builtin (by show (false || (backTo cpos (starEach es X.env)).any (·.1)) = false; rw [hplain] <;> rfl) (Calls.evalArgs_plain ?_)
  exact thn hA fun us s2 ⟨vs, H2, I2, r2, q2⟩ => hm pins s2 σ H2 x vs v us Q I2 r1 r2 q2
/- xs.append(e), list.index on a module's tuple .. are MtR facts of 06m -/
end
end L2

namespace L2
open PySem PySem.Spec PyProof.Rows

noncomputable def MtM (X : Cx) (id : String) (r : V → List V → Hp → VK → Prop) : Prop :=
  ∀ (pins : List (Addr × Obj)) (s : Shared) (σ : St) (H : Hp) (x : V) (xs : List V) (v : Value) (us : List Value) (Q : VK), Inv X pins σ H s → RelV x v → Vals xs us → r x xs H Q →
    wpAny (model X.prog X.w) X.A (call (.builtin id) (v :: us)) (EP X pins σ Q) X.xe s

/-! ### lists of values -/
theorem Vals.one : ∀ {x : V} {us : List Value}, Vals [x] us → ∃ u, us = [u] ∧ RelV x u
  | _, _, .cons r .nil => ⟨_, rfl, r⟩
theorem Vals.zero : ∀ {us : List Value}, Vals [] us → us = []
  | _, .nil => rfl
section
variable {X : Cx} {pins : List (Addr × Obj)} {σ : St} {H : Hp} {s : Shared} {l b : Addr} {xs ys zs : List V}

/-! ### the two steps: a tracked list is rewritten, a new list is laid -/
theorem Inv.lset {its its' : List Value} {n : Nat} {f : Array Value → Array Value} {t' : Nat} (I : Inv X pins σ H s) (hH : H l = some (.lst xs))
    (e : s.heap.get? l = some { cls := .type "list", data := .seq its.toArray n }) (hf : f its.toArray = its'.toArray) (hv : Vals ys its') (hz : ys.length ≤ sizeLine) :
    Inv X pins σ (upd H l (.lst ys)) { s with heap := s.heap.update l (Obj.mapSeq f), toks := t' } := by
  have q := PySem.IsL.update e f
  rw [hf] at q
  refine I.write (x := l) (e := l) (by rw [hH]; exact trivial) (.inl rfl) (fun b' u hb hu => (Heap.get?_update_other s.heap (Obj.mapSeq f) (Ne.symm hb)).trans hu) ⟨_, q⟩ ?_
  exact ⟨hz, its', _, hv, q⟩
theorem Inv.lnew {its : List Value} {t' : Nat} (I : Inv X pins σ H s) (hv : Vals ys its) (hz : ys.length ≤ sizeLine) :
    Inv X pins σ (upd H s.heap.objs.size (.lst ys)) { s with heap := s.heap.push { cls := .type "list", data := .seq its.toArray }, toks := t' } :=
  I.laid (fun _ _ q => Heap.get?_push_of_some _ q) (Nat.le_refl _) ⟨hz, its, 0, hv, Heap.get?_push_size _ rfl⟩
theorem Inv.fresh (I : Inv X pins σ H s) : H s.heap.objs.size = none := I.hok.fresh (Nat.le_refl _)
theorem Inv.lstM (I : Inv X pins σ H s) (hH : H l = some (.lst xs)) : xs.length ≤ sizeLine ∧ ∃ (its : List Value) (n : Nat), Vals xs its ∧ xs.length = its.length ∧ s.heap.get? l = some { cls := .type "list", data := .seq its.toArray n } := by
  obtain ⟨z, its, n, r, e⟩ := I.hok l _ hH
  exact ⟨z, its, n, r, r.length, e⟩

end

section
variable {X : Cx}

/-! ### methods -/
noncomputable def rAppend : V → List V → Hp → VK → Prop := fun x vs H Q => ∃ l xs y, x = .ref l ∧ vs = [y] ∧ H l = some (.lst xs) ∧ xs.length < sizeLine ∧ Q .non (upd H l (.lst (xs ++ [y])))
theorem mt_append : MtM X "list.append" rAppend := by
  intro pins s σ H x vs v us Q I rx rv h
  obtain ⟨l, xs, y, rfl, rfl, hH, hz, q⟩ := h
  cases rx
  obtain ⟨u, rfl, ru⟩ := rv.one
  obtain ⟨z, its, n, r, hl, e⟩ := I.lstM hH
  refine call_meets F.slot_list_append ⟨_, e, rfl⟩ F.entry_list_append (F.args_list_append_2 _ _) (PySem.list_append l its.toArray n u (by rw [List.size_toArray]; omega)) ⟨e, ?_⟩
  refine ⟨.non, _, I.lset (its' := its ++ [u]) hH e (by simp) (r.append (.cons ru .nil)) ?_, rfl, q⟩
  rw [List.length_append, List.length_singleton]
  omega

noncomputable def rClear : V → List V → Hp → VK → Prop := fun x vs H Q => ∃ l xs, x = .ref l ∧ vs = [] ∧ H l = some (.lst xs) ∧ Q .non (upd H l (.lst []))
theorem mt_clear : MtM X "list.clear" rClear := by
  intro pins s σ H x vs v us Q I rx rv h
  obtain ⟨l, xs, rfl, rfl, hH, q⟩ := h
  cases rx
  have hus := rv.zero
  subst hus
  obtain ⟨z, its, n, r, hl, e⟩ := I.lstM hH
  refine call_meets F.slot_list_clear ⟨_, e, rfl⟩ F.entry_list_clear (F.args_list_clear_1 _) (AutoSeq1.list_clear_list_0 l its.toArray n (by rw [List.size_toArray]; omega)) ⟨e, ?_⟩
  exact ⟨.non, _, I.lset (its' := []) (ys := []) hH e rfl .nil (Nat.zero_le _), rfl, q⟩

/-! ### list + list, list += list, list * int -/
noncomputable def rCat : R2 := fun x y H Q => ∃ l b xs zs, x = .ref l ∧ y = .ref b ∧ H l = some (.lst xs) ∧ H b = some (.lst zs) ∧ xs.length + zs.length ≤ sizeLine ∧ ∀ p, H p = none → Q (.ref p) (upd H p (.lst (xs ++ zs)))
theorem op_cat : OpR X (binaryOp .Add) rCat := by
  intro pins s σ H x y v u Q I rx ry h
  obtain ⟨l, b, xs, zs, rfl, rfl, hH, hB, hz, q⟩ := h
  cases rx
  cases ry
  obtain ⟨z, its, n, r, hl, e⟩ := I.lstM hH
  obtain ⟨z2, its2, n2, r2, hl2, e2⟩ := I.lstM hB
  refine PySem.P.add_list e e2 ?_ (by rw [List.size_toArray, List.size_toArray]; omega)
  have ea : its.toArray ++ its2.toArray = (its ++ its2).toArray := by simp
  rw [ea]
  exact ⟨.ref _, _, I.lnew (t' := s.toks) (r.append r2) (by rw [List.length_append]; omega), rfl, q _ I.fresh⟩
/-! ### del xs[i] -/
end

/-! ### xs[a:b] = ys -/
section
variable {prog : Program} {w : World} {A : Around} {E : Value → Shared → Prop} {s : Shared}
end

section
variable {X : Cx}
end
end L2

namespace Att
open PySem PySem.W PySem.Calls PyProof.Rows

/-! ### the script -/
theorem ints_of_wellAll {P : Params} {h : Heap} : ∀ (ns : List Int) (vs : List Value), WellAll P h vs (ns.map WData.int) → IntsAre vs ns := by
  intro ns
  induction ns with
  | nil =>
    intro vs w
    rw [List.map_nil] at w
    cases w
    exact .nil
  | cons n ns ih =>
    intro vs w
    rw [List.map_cons] at w
    cases w with
    | cons a b =>
      cases a
      exact .cons _ _ (ih _ b)

theorem script_of {l : OpenLaw} {n : Nat} (hn : l.most = some n) {P : Params} {h : Heap} {args : List WData} {vals : List Value}
    (hpre : l.row.toRowW.claim.pre args = true) (hwl : WellAll P h vals args) :
    ∃ a vs ns, vals = [Value.ref a] ∧ args = [WData.list (ns.map WData.int)] ∧ h.get? a = some { cls := .type "list", data := .seq vs.toArray } ∧ IntsAre vs ns ∧ ns.length ≤ n := by
  have hsh : WShape.hasAll [] args [.list .int] = true := (pre_splitW hpre).1
  have hc : l.pre.holds [] { args := args } = true := (pre_splitW hpre).2
  obtain ⟨d, r, rfl, h1, h2⟩ := hasAllW_cons hsh
  obtain rfl := hasAllW_nil h2
  obtain ⟨xs, rfl, h3⟩ := hasW_list h1
  obtain ⟨ns, rfl⟩ := items_int h3
  have hlen : ns.length ≤ n := by
    unfold OpenLaw.pre at hc
    have h4 : (WTm.not (.lt (.lit (.int (n : Int))) (.len (.arg 0)))).holds [] { args := [.list (ns.map .int)] } = true := by
      have h4 := (holds_andW hc).1
      rw [hn] at h4
      exact h4
    have h5 := condW_of h4 (w_not (w_lt w_lit (w_len_list (w_arg rfl))))
    rw [List.length_map] at h5
    refine Nat.le_of_not_lt fun q => ?_
    have q' : (n : Int) < ((ns.length : Nat) : Int) := by omega
    first
      | (rw [decide_eq_true q'] at h5; exact absurd h5 (by decide))
      | (simp at h5; omega)
  cases hwl with
  | cons w1 w2 =>
    cases w2
    cases w1 with
    | list ho hall => exact ⟨_, _, ns, rfl, rfl, ho, ints_of_wellAll ns _ hall, hlen⟩

theorem post_true (l : OpenLaw) (args : List WData) : l.row.toRowW.claim.post args (.bool true) args = true :=
  postW_of (r := l.row.toRowW) (X := (true == true))
    (show WShape.has [] (.bool true) .bool = true by first | rfl | decide | simp [WShape.has, WShape.arms, WShape.armsAll])
    (show (WTm.eq .res (.lit (.bool true))).value [] { args := args, res := some (.bool true), after := args } = some (.bool (true == true)) from w_eq_bool (w_res rfl) w_lit) rfl

/-! ### the attachment: holds_open's last premise (the goal 'hc' behind k_head) from a wpAny of the law's body -/
/-- the same from a codeAny of the CALL (for a layer whose function contracts speak of calls) -/
theorem attach_call {l : OpenLaw} {n : Nat} {q : Program} {loose : List Str} {XP : (Str → Option Value) → Heap → Prop} {YP : World → Heap → Prop} {d : DefRec}
    (hn : l.most = some n) (hdf : d.params.defaults = [])
    (call : ∀ (w : World) (s₀ s₁ : Shared) (mg mb : Str → Option Value) (fa : Addr) (o : Obj) (pm cd doc : Value) (a : Addr) (vs : List Value) (ns : List Int),
      Ground q loose [] XP w s₀ mg mb s₁.heap → YP w s₁.heap →
      s₁.heap.get? fa = some o → o.data = .func (docDef d.name d.params d.body d.scope pm cd doc) → s₁.heap.CodeRec cd d.name → mg d.name = some (.ref fa) →
      s₁.heap.get? a = some { cls := .type "list", data := .seq vs.toArray } → IntsAre vs ns → ns.length ≤ n → s₁.gens = #[] →
      codeAny (model l.prog w) callerA (.call (.ref fa) ⟨[.ref a], []⟩) (fun r s' => r = .ok (.ret (.bool true)) ∧ OldK s₁.heap s'.heap ∧ s'.os = s₁.os ∧ AllBare s'.gens) s₁) :
    WalkO q loose XP YP l.row.toRowW d [] (fun f vs => PySem.call f vs) := by
  intro w s₀ s₁ mg mb G Y fa o pm cd doc dV kV ho hd hcd hD hmg hg args vals as hpre hlay hrd hwl hlo
  obtain rfl : dV = .none := Dflts.none hD hdf
  obtain rfl : kV = .none := Dflts.noKw hD
  obtain ⟨a, vs, ns, rfl, rfl, hobj, hints, hlen⟩ := script_of hn hpre hwl
  refine enter_call (codeAny_mono (call w s₀ s₁ mg mb fa o pm cd doc a vs ns G Y ho (fd_plain hd) hcd hmg hobj hints hlen hg) fun r s' hq => ?_)
  obtain ⟨rfl, h2, h3, h4⟩ := hq
  exact ⟨.inl ⟨.bool true, .bool true, [], rfl, fun _ => rfl, .bool true, post_true l _, fun _ => ⟨List.Pairwise.nil, fun _ hm => (nomatch hm)⟩⟩, h2, h3, h4⟩

/-! ### rules over ANY heap (no ledger) from facts about the written part K: the library's own take a ledger (News) for what they write -/
section
variable {prog : Program} {w : World} {A : Around} {E : Value → Shared → Prop} {s : Shared} {K : Frag}

/-! the whole heap as the ledger: makes every rule that writes through a ledger a rule over any heap -/
end
end Att

namespace L2
open PySem PySem.Spec PyProof.Rows

theorem vals_ints : ∀ {vs : List Value} {ns : List Int}, IntsAre vs ns → Vals (ns.map V.int) vs
  | _, _, .nil => .nil
  | _, _, .cons n t h => .cons ⟨t, rfl⟩ (vals_ints h)

/-- nothing is tracked but the script, known to the object (or it is an object of the module) -/
noncomputable def Only (H : Hp) : Prop := ∀ b, H b = none ∨ ∃ o xs, H b = some (.frz o (.lst xs))

/-- THE HEAD: the law's promise, at the heap behind the top. F, the promise of the law's def, may use that base is part of the heap (so K.In base, base.Ns mainGlobals mg stand in Mod) -/
theorem law_call {P : Program} {w : World} {K : PySem.W.Frag} {mg mb : Str → Option Value} {CX : CXT} {k : Nat} {fa a : Addr} {fd : FuncData} {x : Str} {sp : Sp} {s₁ : Shared} {vs : List Value} {ns : List Int}
    (KX : K.In s₁.heap) (hns : s₁.heap.Ns mainGlobals mg) (hb : s₁.heap.Ns builtinsNs mb) (hbb : ∀ x : Str, x ≠ "__name__" → mb x = bootBuiltins x) (hlim : s₁.heap.NoLimit) (hg : s₁.gens = #[])
    (ha : s₁.heap.get? a = some { cls := .type "list", data := .seq vs.toArray }) (hi : IntsAre vs ns) (hl : ns.length ≤ sizeLine) (hr : Room k callerA)
    (F : ∀ base : Heap, K.In base → base.Ns mainGlobals mg → FnOk P w K mg base CX k fa fd [x] sp) (hbind : ∀ (s : Shared) (u : Value), BindsTo s fd ⟨[u], []⟩ [(x, u)])
    (hsp : ∀ H : Hp, Only H → SqL K H a (ns.map V.int) → sp [.ref a] H (fun v _ => v = .bl true) fun _ _ _ => False)
    (hCX : ∀ H e s', CX [] H s₁ (fun _ _ _ => False) e s' → False) :
    codeAny (model P w) callerA (.call (.ref fa) ⟨[.ref a], []⟩) (fun r s' => r = .ok (.ret (.bool true)) ∧ OldK s₁.heap s'.heap ∧ s'.os = s₁.os ∧ AllBare s'.gens) s₁ := by
  have rv := vals_ints hi
  have lenV := hi.length
  -- from an abstract heap in which nothing but the script may be tracked
  have core : ∀ H : Hp, Only H → SqL K H a (ns.map V.int) → HOk P w H s₁.heap → (∀ b, H b ≠ none → b = a) → (H a ≠ none → K.lookup a = none) →
      codeAny (model P w) callerA (.call (.ref fa) ⟨[.ref a], []⟩) (fun r s' => r = .ok (.ret (.bool true)) ∧ OldK s₁.heap s'.heap ∧ s'.os = s₁.os ∧ AllBare s'.gens) s₁ := by
    intro H hO hS hok hA hK
    have base_of : ∀ {b : Addr} {o : Obj}, s₁.heap.get? b = some o → H b = none → (hidT s₁.heap H).get? b = some o := fun e n => hidT_get e n
    have noA : ∀ {b : Addr} {o : Obj} {es : Array DictEntry} {ep : Nat}, s₁.heap.get? b = some o → o.data = .dict es ep → H b = none := fun {b o es ep} e d => by
      cases q : H b with
      | none => rfl
      | some u =>
        have e' : b = a := hA b (by rw [q]; simp)
        subst e'
        rw [ha] at e; cases e
        have d' : Data.seq vs.toArray _ = Data.dict es ep := d
        cases d'
    have nsK : ∀ {b : Addr} {m : Str → Option Value}, s₁.heap.Ns b m → (hidT s₁.heap H).Ns b m := fun {b m} ⟨o, es, ep, e, d, r⟩ => ⟨o, es, ep, base_of e (noA e d), d, r⟩
    have hKb : K.In (hidT s₁.heap H) := fun b o e => base_of (KX b o e) (by
      cases q : H b with
      | none => rfl
      | some u =>
        have e' : b = a := hA b (by rw [q]; simp)
        subst e'
        rw [hK (by rw [q]; simp)] at e; cases e)
    have hM : Mod K mg (hidT s₁.heap H) := ⟨hKb, nsK hns, ⟨mb, nsK hb, hbb⟩, let ⟨mc, h1, h2⟩ := hlim; ⟨mc, nsK h1, h2⟩⟩
    have e0 : Env0 P w K mg (hidT s₁.heap H) callerA [] s₁ H := ⟨rfl, hM, fun b o e => of_hidT e, Nat.le_of_eq (hidT_size _ _), trivial, fun b hb => absurd (show b ∈ ([] : List Addr) from hb) (by simp), hok, .of_eq hg⟩
    refine codeAny_mono ((F _ hKb (nsK hns)).run callerA [] s₁ H ⟨[.ref a], []⟩ [.ref a] [.ref a] _ _ hr e0 (hbind s₁ (.ref a)) (.cons rfl .nil) (hsp H hO hS)) fun r s' h => ?_
    cases r with
    | error e => exact (hCX H e s' h).elim
    | ok fl =>
      cases fl with
      | next => exact False.elim h
      | brk => exact False.elim h
      | cont => exact False.elim h
      | ret u =>
        obtain ⟨v, H', os, bare, un, hok', r', q⟩ := h
        have q' : v = .bl true := q
        subst q'
        obtain rfl : u = Value.bool true := r'
        refine ⟨rfl, OldK.of_keep fun b o e => ?_, os, bare⟩
        cases q : H b with
        | none => exact un.keep b o e q (by intro z; exact absurd (show b ∈ ([] : List Addr) from z) (by simp)) (by simp)
        | some u =>
          rcases hO b with z | ⟨ob, xs, z⟩
          · rw [q] at z; cases z
          · have z2 := un.frzs b ob _ z
            obtain ⟨e1, _⟩ := hok b _ z
            obtain ⟨e2, _⟩ := hok' b _ z2
            rw [e] at e1; cases e1
            exact e2
  cases hk : K.lookup a with
  | some o =>
    -- the script is one of the module's own objects
    have e := KX a o hk
    rw [ha] at e
    cases e
    refine core (fun _ => none) (fun _ => .inl rfl) (.inr ⟨_, vs.toArray, _, hk, rfl, rfl, rfl, by rw [List.size_toArray, lenV]; exact hl, by simpa using rv⟩) (fun b u z => by have z' : (none : Option HO) = some u := z; cases z') (fun b z => absurd rfl z) fun z => absurd rfl z
  | none =>
    refine core (fun b => if b = a then some (.frz { cls := .type "list", data := .seq vs.toArray } (.lst (ns.map V.int))) else none) (fun b => ?_) (.inl (.inr ⟨{ cls := .type "list", data := .seq vs.toArray }, if_pos rfl⟩)) (fun b u z => ?_) (fun b z => ?_) fun _ => hk
    · by_cases hb : b = a
      · exact .inr ⟨_, _, if_pos hb⟩
      · exact .inl (if_neg hb)
    · by_cases hb : b = a
      · have z' := (if_pos hb).symm.trans z
        cases z'
        subst hb
        exact ⟨ha, by rw [List.length_map]; exact hl, vs, _, rv, ha⟩
      · have z' := (if_neg hb).symm.trans z
        cases z'
    · by_cases hb : b = a
      · exact hb
      · exact absurd (if_neg hb) z
end L2

namespace L2
open PySem PySem.Spec PyProof.Rows

/-- the goal that k_head leaves (case hc), from the law's promise. F gives the function object fd (K's own) once, then the promise over every base -/
theorem walk_of {l : PySem.W.OpenLaw} {n k : Nat} {q : Program} {loose : List Str} {XP : (Str → Option Value) → Heap → Prop} {YP : World → Heap → Prop} {d : DefRec} {K : Params → PySem.W.Frag} {CX : World → CXT} {sp : World → Sp} {x : Str}
    (hn : l.most = some n) (hn2 : n ≤ sizeLine) (hdf : d.params.defaults = []) (hr : Room k callerA)
    (hY : ∀ (w : World) (h : Heap), YP w h → (K w.params).In h)
    (F : ∀ (w : World) (mg : Str → Option Value) (fa : Addr) (h : Heap), (K w.params).In h → h.Ns mainGlobals mg → mg d.name = some (.ref fa) →
      ∃ fd : FuncData, (∀ (s : Shared) (u : Value), BindsTo s fd ⟨[u], []⟩ [(x, u)]) ∧
        ∀ base : Heap, (K w.params).In base → base.Ns mainGlobals mg → FnOk l.prog w (K w.params) mg base (CX w) k fa fd [x] (sp w))
    (hsp : ∀ (w : World) (H : Hp) (a : Addr) (ns : List Int), ns.length ≤ n → Only H → SqL (K w.params) H a (ns.map V.int) → sp w [.ref a] H (fun v _ => v = .bl true) fun _ _ _ => False)
    (hCX : ∀ (w : World) (H : Hp) (s : Shared) (e : Value) (s' : Shared), CX w [] H s (fun _ _ _ => False) e s' → False) :
    PySem.W.WalkO q loose XP YP l.row.toRowW d [] (fun f vs => PySem.call f vs) := by
  refine Att.attach_call hn hdf fun w s₀ s₁ mg mb fa o pm cd doc a vs ns G Y ho hd hcd hmg hobj hints hlen hg => ?_
  have KX := hY w _ Y
  obtain ⟨fd, hb, hF⟩ := F w mg fa _ KX G.T.g hmg
  exact law_call KX G.T.g G.T.b G.T.builtins G.T.nolimit hg hobj hints (Nat.le_trans hlen hn2) hr hF hb (fun H hO hS => hsp w H a ns hlen hO hS) fun H e s' => hCX w H s₁ e s'
end L2

/- THE LAST THEOREM (shape; LID, My.* are yours):
   My.Adr: a structure of the addresses that your layer names (classes, functions); My.Txt K t: a structure (Prop) of the equations over K;
   My.txt_mk : {K} {implicit addresses ..} (e1 : nsIn K mainGlobals "law" = some (some (.ref f))) (e2 : K.lookup f = some ⟨oc, od, .func (fnOf "law" "law" params body scope dV kV doc pm an cdv ct), sl⟩) (e3 : codeIn K cdv "law" = true) .. : ∃ t, My.Txt K t

set_option maxRecDepth 100000 in
set_option maxHeartbeats 0 in
theorem PySem.Challenge.cw_LID_holds : PySem.Challenge.rw_LID.Holds := by
  w_on; o_law; k_head; (case hw => w_witness2)
  k_fill
  refine L2.walk_of (l := PySem.Challenge.rw_LID) (n := 63) (k := 40) (x := "script") (CX := fun w => ..) (sp := fun _ => My.sp_law) rfl (by decide) rfl ⟨rfl, by decide, by decide⟩ (fun w h Y => PySem.W.kIn_of Y) ?F ?S ?C
  case F =>
    intro w mg fa h KX G hmg
    have T : ∃ t, My.Txt (L2.KOf KX) t := by
      dsimp only [L2.KOf]                          -- K must stand as «<heap const> w.params» for k_is
      refine' My.txt_mk ?e1 ?e2 ?e3 ..
      (case e1 => PySem.W.k_is)                    -- in the order: a name -> its address -> its object -> its parts
      (case e2 => PySem.W.k_is)
      ..
    obtain ⟨t, T⟩ := T
    have e0 := hmg.symm.trans (PySem.W.mg_of KX G T.law)
    cases e0                                       -- fa is the law's own address
    exact ⟨_, fun s u => .of_eq rfl, fun base kb nb => My.law_fn T kb nb⟩     -- if «.of_eq rfl» comes too early: refine' ⟨_, ?b, fun base kb nb => My.law_fn T kb nb⟩; exact fun s u => .of_eq rfl
  case S => exact fun w H a ns hl hO hS => ..
  case C => exact ..
(the tactic k_is has no namespace: write k_is) -/

/-! SHORT WORDS over the layer: a def of the text, its body, what a loop and a test want. -/
namespace L2
open PySem PySem.Spec PyProof.Rows

/-! ### the text by places -/
/-- the j-th statement of a class's body -/
noncomputable def inClass (s : Stmt) (j : Nat) : Stmt := match s with
  | .ClassDef _ _ _ body _ _ _ _ _ _ _ => body.getD j (.Pass ⟨0, 0, 0, 0⟩)
  | _ => .Pass ⟨0, 0, 0, 0⟩
noncomputable def defArgs (s : Stmt) : Arguments := match s with
  | .FunctionDef _ a _ _ _ _ _ _ _ _ => a
  | _ => { posonlyargs := [], args := [], vararg := none, kwonlyargs := [], kw_defaults := [], kwarg := none, defaults := [] }
noncomputable def defBody (s : Stmt) : List Stmt := match s with
  | .FunctionDef _ _ b _ _ _ _ _ _ _ => b
  | _ => []
noncomputable def defScope (s : Stmt) : Scope := match s with
  | .FunctionDef _ _ _ _ _ _ sc _ _ _ => sc
  | _ => { kind := .function, names := [], isGenerator := false, isCoroutine := false }

/-! ### no exception leaves a def -/
noncomputable abbrev E0 : XK := fun _ _ _ => False
/-! ### a def (or method) of the text as it stands behind the top -/
structure Fun (K : PySem.W.Frag) (x qual : Str) (st : Stmt) (f : Addr) (fd : FuncData) : Prop where
  ex : ∃ (oc : Value) (od : Option Addr) (kV doc pm : Value) (an : Option Addr) (cdv ct : Value) (osl : Array (Option Value)),
    fd = PySem.W.fnOf x qual (defArgs st) (defBody st) (defScope st) .none kV doc pm an cdv ct ∧ K.lookup f = some ⟨oc, od, .func fd, osl⟩ ∧ PySem.W.codeIn K cdv qual = true
  kp : PySem.W.keepIn K (.ref f) = true
section
variable {P : Program} {w : World} {K : PySem.W.Frag} {mg : Str → Option Value} {base : Heap}
/-- how its arguments bind (no defaults): h is «fun _ _ _ _ _ _ us hl => match us, hl with | [_, _], _ => rfl», one _ a parameter -/
theorem Fun.binds {x qual : Str} {st : Stmt} {f : Addr} {fd : FuncData} {ps : List Str} (F : Fun K x qual st f fd)
    (h : ∀ (kV doc pm : Value) (an : Option Addr) (cdv ct : Value) (us : List Value), us.length = ps.length → bindArgs (PySem.W.fnOf x qual (defArgs st) (defBody st) (defScope st) .none kV doc pm an cdv ct) ⟨us, []⟩ = pure (ps.zip us)) : Binds K fd ps [] := by
  obtain ⟨oc, od, kV, doc, pm, an, cdv, ct, osl, rfl, lk, hcd⟩ := F.ex
  exact .all (h kV doc pm an cdv ct)
theorem fun_mk {x qual : Str} {st : Stmt} {f : Addr} {oc : Value} {od an : Option Addr} {osl : Array (Option Value)} {kV doc pm cdv ct : Value} (l : K.lookup f = some ⟨oc, od, .func (PySem.W.fnOf x qual (defArgs st) (defBody st) (defScope st) .none kV doc pm an cdv ct), osl⟩)
    (c : PySem.W.codeIn K cdv qual = true) (k : PySem.W.keepIn K (.ref f) = true) : Fun K x qual st f (PySem.W.fnOf x qual (defArgs st) (defBody st) (defScope st) .none kV doc pm an cdv ct) := ⟨⟨oc, od, kV, doc, pm, an, cdv, ct, osl, rfl, l, c⟩, k⟩
end
theorem hu_of {A : Around} {k : Nat} (hr : Room k A) : A.units + 1 < cLine := Nat.lt_of_le_of_lt (Nat.add_le_add_left (by decide : 1 ≤ 64) _) hr.units
theorem small1000 {n : Nat} (h : n ≤ 1000) : n < sizeLine := Nat.lt_of_le_of_lt h (by decide)

/-! ### expressions in short: the name that stands in the i-th slot -/
section
variable {X : Cx}
theorem pv (i : Nat) {x : Str} {pos : Pos} (hN : X.N[i]? = some x := by rfl) (hv : Vis X.env.scope x := by first | exact Or.inl rfl | exact Or.inr (Or.inl rfl) | exact Or.inr (Or.inr rfl)) (hd : (x == ("__debug__" : Str)) = false := by decide)
    (hcd : (x == ("__classdict__" : Str)) = false := by decide) : PE X (.Name x pos) (tVar i) := pe_var hN hv hd hcd
end

/-! ### tests -/
theorem iteF {A B : Prop} (h : B) : if false = true then A else B := by
  rw [if_neg Bool.false_ne_true]
  exact h
theorem iteT {A B : Prop} (h : A) : if true = true then A else B := by
  rw [if_pos rfl]
  exact h
theorem iteNS {c A B : Prop} [Decidable c] (hc : c) (h : B) : if (!decide c) = true then A else B := by
  rw [decide_eq_true hc]
  exact iteF h

/-! ### heaps -/
/-- all that was tracked is as it was -/
noncomputable def Same (H H' : Hp) : Prop := ∀ b o, H b = some o → H' b = some o
theorem Same.refl (H : Hp) : Same H H := fun _ _ h => h
theorem Same.trans {H H1 H2 : Hp} (a : Same H H1) (b : Same H1 H2) : Same H H2 := fun c o h => b c o (a c o h)
theorem Same.free {H H' : Hp} (e : Same H H') {l : Addr} (h : H' l = Option.none) : H l = Option.none := by
  cases q : H l with
  | none => rfl
  | some o =>
    rw [e l o q] at h
    cases h
theorem Same.seq {K : PySem.W.Frag} {H H' : Hp} {a : Addr} {xs : List V} (e : Same H H') (h : SqL K H a xs) : SqL K H' a xs := by
  rcases h with (h | ⟨o, h⟩) | h
  · exact .inl (.inl (e _ _ h))
  · exact .inl (.inr ⟨o, e _ _ h⟩)
  · exact .inr h

end L2

namespace L2
open PySem PySem.Spec PyProof.Rows
section
variable {X : Cx} {pins : List (Addr × Obj)} {σ : St} {H : Hp} {s : Shared} {h' : Heap}
/-- untracked records of ours have turned, and a new object is laid and tracked -/
theorem Inv.turnLay {t' : Nat} {ch : List Addr} {T : Addr} {o : HO} (I : Inv X pins σ H s) (hf : ∀ b ∈ ch, FpOk X pins H b)
    (k : ∀ b u, b ∉ ch → s.heap.get? b = some u → h'.get? b = some u) (hT : s.heap.objs.size ≤ T)
    (new : ObjOk X.prog X.w (upd H T o) h' T o) : Inv X pins σ (upd H T o) { s with heap := h', toks := t' } := by
  have hn : H T = none := I.hok.fresh hT
  have nT : ∀ b u, s.heap.get? b = some u → b ≠ T := fun b u e => Nat.ne_of_lt (Nat.lt_of_lt_of_le (Heap.lt_size e) hT)
  have nch : ∀ b u, H b = some u → b ∉ ch := fun b u e hb => by rw [(hf b hb).1] at e; cases e
  have nTH : ∀ b u, H b = some u → b ≠ T := fun b u e => ne_of_none e hn
  refine I.step (g' := s.gens) (d' := s.drawn) (ch := ch) (fun b hb => ?_) (fun b o _ _ hc e _ => k b o hc e) (fun b o _ _ hc e _ => ⟨o.slots, k b o hc e⟩)
    (fun b u hc e n => by rw [upd_ne (nT b u e)]; exact n) (fun b u hc e => ⟨u, k b u hc e⟩) (fun b xs e => by rw [upd_ne (nTH b _ e)]; exact e) (fun b o' u e => by rw [upd_ne (nTH b _ e)]; exact e)
    (fun b ps e => ⟨#[], by rw [upd_ne (nTH b _ e), e]; simp⟩) (fun m hm => ?_) (fun b u e => ?_) I.bare
  · obtain ⟨f0, f1, f2, f3, f4, f5⟩ := hf b hb
    exact ⟨f3, f1, f4, f5⟩
  · obtain ⟨ob, es, ep, ho, r⟩ := hm
    exact ⟨ob, es, ep, k _ ob (fun z => (hf _ z).2.1 rfl) ho, r⟩
  · by_cases hb : b = T
    · subst hb; rw [upd_same] at e; cases e; exact new
    · rw [upd_ne hb] at e
      refine (I.hok b u e).stay (fun c v hc q => k c v ?_ q) (fun c q => by rw [upd_ne (nTH c _ q)]; exact q) fun c xs q => by rw [upd_ne (nTH c _ q)]; exact q
      rcases hc with z | z
      · rw [z]; exact nch b u e
      · exact nch c _ z
/-- untracked records of ours have turned -/
theorem Inv.turnedL {t' : Nat} {ch : List Addr} (I : Inv X pins σ H s) (hf : ∀ b ∈ ch, FpOk X pins H b)
    (k : ∀ b u, b ∉ ch → s.heap.get? b = some u → h'.get? b = some u) : Inv X pins σ H { s with heap := h', toks := t' } := by
  have nch : ∀ b u, H b = some u → b ∉ ch := fun b u e hb => by rw [(hf b hb).1] at e; cases e
  refine I.step (g' := s.gens) (d' := s.drawn) (ch := ch) (fun b hb => ?_) (fun b o _ _ hc e _ => k b o hc e) (fun b o _ _ hc e _ => ⟨o.slots, k b o hc e⟩)
    (fun b u hc e n => n) (fun b u hc e => ⟨u, k b u hc e⟩) (fun b xs e => e) (fun b o' u e => e)
    (fun b ps e => ⟨#[], by rw [e]; simp⟩) (fun m hm => ?_) (fun b u e => ?_) I.bare
  · obtain ⟨f0, f1, f2, f3, f4, f5⟩ := hf b hb
    exact ⟨f3, f1, f4, f5⟩
  · obtain ⟨ob, es, ep, ho, r⟩ := hm
    exact ⟨ob, es, ep, k _ ob (fun z => (hf _ z).2.1 rfl) ho, r⟩
  · refine (I.hok b u e).stay (fun c v hc q => k c v ?_ q) (fun c q => q) fun c xs q => q
    rcases hc with z | z
    · rw [z]; exact nch b u e
    · exact nch c _ z
end

/-! ### the signs of a text -/
section
variable {X : Cx} {tg : Expr}
end
/-! ### enumerate over a list -/
noncomputable def Ite (K : PySem.W.Frag) (a : Addr) : It :=
  ⟨fun i H => ∃ xs x, SqL K H a xs ∧ xs[i]? = some x, fun i H v H' => ∃ T y, v = .ref T ∧ H T = none ∧ H' = upd H T (.tup [.int i, y]) ∧ ∀ xs, SqL K H a xs → xs[i]? = some y, fun i H => ∃ xs, SqL K H a xs ∧ xs.length ≤ i⟩
theorem turn_enum {P : Program} {w : World} {K : PySem.W.Frag} {elts : List Expr} {kk : Nat} {tp : Pos} (a e it : Addr) (hne : e ≠ it) :
    Turn P w K (.Tuple elts kk tp) (Ite K a) [e, it] e (fun i h => (∃ old, IsEnum h e it (i : Nat) old) ∧ h.IsListIter it a i) where
  mem := by simp
  obj := fun i h st b hb => by
    obtain ⟨⟨old, he⟩, o, e', c, d⟩ := st
    have : b = e ∨ b = it := by simpa using hb
    rcases this with rfl | rfl
    · exact ⟨_, he, fun v z => nomatch z⟩
    · exact ⟨o, e', fun v z => by rw [d] at z; cases z⟩
  keep := fun i h h' st k => ⟨let ⟨old, he⟩ := st.1; ⟨old, k e (by simp) _ he⟩, st.2.at fun o q => k it (by simp) o q⟩
  item := by
    intro X hP hw hK hc i pins s σ H E I hf st hg
    subst hP hw hK
    obtain ⟨⟨old, he⟩, hit⟩ := st
    obtain ⟨xs, x, hq, hx⟩ := hg
    obtain ⟨its, rv, p, hz⟩ := I.list hq
    obtain ⟨u, hu, ru⟩ := rv.get hx
    have helt : e < s.heap.objs.size := Heap.lt_size he
    refine wpAny_pyNext_enum_item he hit p.isList (x := u) (by simpa using hu) hne fun h1 heo hit1 ht1 hz1 hk1 => ?_
    refine ⟨_, rfl, wpAny_letOwnedTupleGo_enum heo fun h2 he2 hs2 => ?_⟩
    have hT2 : h2.get? s.heap.objs.size = some { cls := .type "tuple", data := .seq #[.int i s.toks, u] } := (hs2.2 _ (Nat.ne_of_gt helt)).trans ht1
    have I2 : Inv X pins σ (upd H s.heap.objs.size (.tup [.int i, x])) { s with heap := h2, toks := s.toks + 1 } := by
      refine I.turnLay (ch := [e, it]) hf (fun b o hb q => ?_) (Nat.le_refl _) ?_
      · have n1 : b ≠ e := fun z => hb (by simp [z])
        have n2 : b ≠ it := fun z => hb (by simp [z])
        exact (hs2.2 b n1).trans (hk1 b o n1 n2 q)
      · exact ⟨by show 2 ≤ sizeLine; decide, [.int i s.toks, u], .cons ⟨_, rfl⟩ (.cons ru .nil), ⟨_, hT2, rfl, _, rfl⟩⟩
    have hn : H s.heap.objs.size = none := I.hok.fresh (Nat.le_refl _)
    refine ⟨.ref s.heap.objs.size, _, I2, rfl, ⟨_, x, rfl, hn, rfl, fun ys hy => by rw [I.list_inj hy hq]; exact hx⟩, ⟨⟨u, by simpa using he2⟩, hit1.at fun o q => (hs2.2 it (Ne.symm hne)).trans q⟩, fun b hb => ?_⟩
    have hb' : b < s.heap.objs.size := by
      have : b = e ∨ b = it := by simpa using hb
      rcases this with rfl | rfl
      · exact helt
      · obtain ⟨o, q, _⟩ := hit; exact Heap.lt_size q
    rw [upd_ne (Nat.ne_of_lt hb')]
    exact (hf b hb).1
  done := by
    intro X hP hw hK hc i pins s σ H E I hf st hg
    subst hP hw hK
    obtain ⟨⟨old, he⟩, hit⟩ := st
    obtain ⟨xs, hq, hx⟩ := hg
    obtain ⟨its, rv, p, hz⟩ := I.list hq
    have hl := rv.length
    exact wpAny_pyNext_enum_end (I.ok.hd hc) he hit p.isList (by simp; omega) fun h' eb => ⟨rfl, I.turnedL (t' := s.toks) hf fun b o hb q => eb b o (fun z => hb (by simp [z])) q⟩
  self := fun A i s Q E st h => by
    obtain ⟨⟨old, he⟩, hit⟩ := st
    have hT : s.TypeIs (.ref e) "enumerate" := ⟨_, he, rfl⟩
    refine wpAny_pyIter_slot hT F.slot_enumerate_iter (wpAny_call_entry F.slot_enumerate_iter hT F.entry_enumerate_iter ?_ (F.args_enumerate_iter_1 _))
    show wpAny _ _ (ret (.ref e)) _ _ s
    exact wpAny_pure ⟨_, rfl, "enumerate", _, hT, F.slot_enumerate_next.lookup, h⟩
end L2

namespace L2
open PySem PySem.Spec PyProof.Rows

/-! ### enumerate, as a loop walks it -/
section
variable {X : Cx}
noncomputable def iEnum (K : PySem.W.Frag) (ta : TA) : TI := fun σ H R => ta σ H fun vs H1 => ∃ a, vs = [.ref a] ∧ (∃ xs, SqL K H1 a xs) ∧ R (Ite K a) H1
theorem pi_enum {elts : List Expr} {kk : Nat} {tp : Pos} {a : Expr} {ta : TA} {p pos : Pos} (hg : Gl X "enumerate") (hm : X.mg "enumerate" = none) (hb : bootBuiltins "enumerate" = some (.type "enumerate")) (ha : PA X [a] ta) (hs : starEach [a] X.env = [(false, eval a X.env)] := by rfl) :
    PI X (.Tuple elts kk tp) (.Call (.Name "enumerate" p) [a] [] pos) (iEnum X.K ta) := .mk <| by
  intro pins s σ H R I h
  refine Call_ (ld_blt I hg hm hb (PyProof.Rows.callWith_type1 (thn (ha pos pins s σ H _ I h) fun us s1 ⟨vs, H1, I1, r1, q1⟩ => ?_) hs rfl))
  obtain ⟨b, e, ⟨xs, hq⟩, q⟩ := q1
  subst e
  cases r1 with
  | cons r rr =>
    cases rr
    cases r
    obtain ⟨its, rv, pl, hz⟩ := I1.list hq
    refine call_enumerate_list pl.isList fun h' he hi hsz hk => ?_
    have I2 : Inv X pins σ H1 { s1 with heap := h' } := I1.kept (t' := s1.toks) hk
    have T := turn_enum (P := X.prog) (w := X.w) (K := X.K) (elts := elts) (kk := kk) (tp := tp) b (s1.heap.objs.size + 1) s1.heap.objs.size (Nat.succ_ne_self _)
    have t0 : (∃ old, IsEnum h' (s1.heap.objs.size + 1) s1.heap.objs.size ((0 : Nat) : Int) old) ∧ h'.IsListIter s1.heap.objs.size b 0 := ⟨⟨.none, by simpa using he⟩, hi⟩
    refine T.self X.A 0 _ _ _ t0 ⟨_, _, _, _, H1, rfl, I2, T, t0, fun c hc => ?_, q⟩
    have hc' : s1.heap.objs.size ≤ c := by
      have : c = s1.heap.objs.size + 1 ∨ c = s1.heap.objs.size := by simpa using hc
      rcases this with rfl | rfl
      · exact Nat.le_succ _
      · exact Nat.le_refl _
    exact I1.fpOk hc' (I1.hok.fresh hc')
end
theorem for_enum {K : PySem.W.Frag} {a : Addr} {xs : List V} {g : TG} {tb : TS} {D : Ends} {σ : St} {H : Hp} (Pv : Nat → St → Hp → Prop) (h0 : Pv 0 σ H) (hl : ∀ i σ H, i ≤ xs.length → Pv i σ H → SqL K H a xs)
    (hs : ∀ i x T σ H, xs[i]? = some x → Pv i σ H → H T = none → g (.ref T) σ (upd H T (.tup [.int i, x])) fun σ2 H2 => tb { D with nx := Pv (i + 1), ct := Pv (i + 1), bk := D.nx } σ2 H2) (hd : ∀ σ H, Pv xs.length σ H → D.nx σ H) :
    ∃ W : Nat → Nat → St → Hp → Prop, (∃ m, W 0 m σ H) ∧ ∀ i m σ H, W i m σ H →
      ((Ite K a).stop i H ∧ D.nx σ H) ∨ ((Ite K a).go i H ∧ ∃ N : St → Hp → Prop, (∀ σ' H', N σ' H' → ∃ m', m' < m ∧ W (i + 1) m' σ' H') ∧ ∀ x H', (Ite K a).yld i H x H' → g x σ H' fun σ2 H2 => tb { D with nx := N, ct := N, bk := D.nx } σ2 H2) := by
  refine ⟨fun i m σ H => m = xs.length - i ∧ i ≤ xs.length ∧ Pv i σ H, ⟨xs.length, by simp, Nat.zero_le _, h0⟩, ?_⟩
  rintro i m σ H ⟨rfl, hi, p⟩
  have q := hl i σ H hi p
  by_cases hlt : i < xs.length
  · refine .inr ⟨⟨xs, xs[i], q, by simp [hlt]⟩, Pv (i + 1), fun σ' H' p' => ⟨xs.length - (i + 1), by omega, rfl, hlt, p'⟩, fun x H' y => ?_⟩
    obtain ⟨T, z, rfl, hT, rfl, y⟩ := y
    exact hs i z T σ H (y xs q) p hT
  · have e : i = xs.length := by omega
    subst e
    exact .inl ⟨⟨xs, q, Nat.le_refl _⟩, hd σ H p⟩

/-! ### a comprehension's block -/
noncomputable def clStep (env : Env) (cs : List (Str × Addr)) (p : Str × NameKind) : List (Str × Addr) := if p.2 = .free then (match env.cells.lookup p.1 with | some c => (p.1, c) :: cs | none => cs) else cs
noncomputable def clOf (scope : Scope) (env : Env) : List (Str × Addr) := scope.names.foldl (clStep env) []
noncomputable def compOk (scope : Scope) (env : Env) : Bool :=
  scope.names.all (fun p => p.2 != .cell) && scope.names.all (fun p => p.2 != .local || scope.names.lookup p.1 == some .local) && scope.names.all (fun p => p.2 != .free || (env.scope.names.lookup p.1 == some .cell || env.scope.names.lookup p.1 == some .free))

theorem closure_go {env : Env} : ∀ (ns : List (Str × NameKind)) (cs : List (Str × Addr)), (∀ p ∈ ns, p.2 = .free → ∃ c, env.cells.lookup p.1 = some c) →
    (forIn (m := Sem) ns cs fun (p : Str × NameKind) (cs : List (Str × Addr)) => (if (p.2 == .free) = true then do
        let c ← cellOf env p.1
        pure (ForInStep.yield ((p.1, c) :: cs)) else pure (ForInStep.yield cs))) = pure (ns.foldl (clStep env) cs)
  | [], cs, _ => rfl
  | p :: ns, cs, h => by
    rw [List.forIn_cons, List.foldl_cons]
    have ih := closure_go (env := env) ns
    have hr : ∀ q ∈ ns, q.2 = .free → ∃ c, env.cells.lookup q.1 = some c := fun q hq => h q (List.mem_cons_of_mem _ hq)
    by_cases hk : p.2 = .free
    · obtain ⟨c, e⟩ := h p List.mem_cons_self hk
      have e1 : (p.2 == NameKind.free) = true := by simp [hk]
      have e2 : clStep env cs p = (p.1, c) :: cs := by unfold clStep; rw [if_pos hk, e]
      have e3 : cellOf env p.1 = pure c := by unfold cellOf; rw [e]
      rw [if_pos e1, e3, e2]
      exact ih _ hr
    · have e1 : ¬ ((p.2 == NameKind.free) = true) := by simp [hk]
      have e2 : clStep env cs p = cs := by unfold clStep; rw [if_neg hk]
      rw [if_neg e1, e2]
      exact ih _ hr
theorem closure_is {scope : Scope} {env : Env} (h : ∀ p ∈ scope.names, p.2 = .free → ∃ c, env.cells.lookup p.1 = some c) : closureFor scope env = pure (clOf scope env) := by
  have e := closure_go (env := env) scope.names [] h
  have e2 := congrArg (fun (z : Sem (List (Str × Addr))) => z >>= fun s => pure s) e
  exact e2
theorem cl_in {env : Env} {x : Str} {c : Addr} : ∀ (ns : List (Str × NameKind)) (cs : List (Str × Addr)), (∀ y d, cs.lookup y = some d → env.cells.lookup y = some d) → (ns.foldl (clStep env) cs).lookup x = some c → env.cells.lookup x = some c
  | [], cs, h, e => h x c e
  | p :: ns, cs, h, e => by
    refine cl_in ns (clStep env cs p) (fun y d q => ?_) e
    unfold clStep at q
    split at q
    · split at q
      · rename_i c' ec
        rw [List.lookup_cons] at q
        split at q
        · rename_i he
          have : y = p.1 := by simpa using he
          subst this; rw [← q]; exact ec
        · exact h y d q
      · exact h y d q
    · exact h y d q
theorem cl_mono {env : Env} {x : Str} {c : Addr} (hx : env.cells.lookup x = some c) : ∀ (ns : List (Str × NameKind)) (cs : List (Str × Addr)), cs.lookup x = some c → (ns.foldl (clStep env) cs).lookup x = some c
  | [], cs, e => e
  | p :: ns, cs, e => by
    refine cl_mono hx ns (clStep env cs p) ?_
    unfold clStep
    split
    · split
      · rename_i c' ec
        rw [List.lookup_cons]
        split
        · rename_i he
          have : x = p.1 := by simpa using he
          subst this; rw [hx] at ec; exact ec.symm
        · exact e
      · exact e
    · exact e
theorem cl_has {env : Env} {x : Str} {c : Addr} (hx : env.cells.lookup x = some c) : ∀ (ns : List (Str × NameKind)) (cs : List (Str × Addr)), (x, NameKind.free) ∈ ns → (ns.foldl (clStep env) cs).lookup x = some c
  | [], cs, e => by simp at e
  | p :: ns, cs, e => by
    rcases List.mem_cons.mp e with e | e
    · subst e
      refine cl_mono hx ns _ ?_
      unfold clStep
      rw [if_pos rfl, hx]
      simp
    · exact cl_has hx ns _ e

theorem compOk_cell {scope : Scope} {env : Env} (h : compOk scope env = true) : ∀ p ∈ scope.names, p.2 ≠ .cell := fun p hp => by
  unfold compOk at h
  simp only [Bool.and_eq_true, List.all_eq_true] at h
  simpa using h.1.1 p hp
theorem compOk_local {scope : Scope} {env : Env} (h : compOk scope env = true) : ∀ p ∈ scope.names, p.2 = .local → scope.names.lookup p.1 = some .local := fun p hp e => by
  unfold compOk at h
  simp only [Bool.and_eq_true, List.all_eq_true] at h
  have := h.1.2 p hp
  rw [e] at this
  simpa using this
theorem compOk_free {scope : Scope} {env : Env} (h : compOk scope env = true) : ∀ p ∈ scope.names, p.2 = .free → env.kindOf p.1 = some .cell ∨ env.kindOf p.1 = some .free := fun p hp e => by
  unfold compOk at h
  simp only [Bool.and_eq_true, List.all_eq_true] at h
  have := h.2 p hp
  rw [e] at this
  simpa [Env.kindOf] using this

theorem lookup_relabel {env : Env} : ∀ {names : List (Str × NameKind)} {x : Str} {k : NameKind},
    (names.map fun (n, k) => if (k == NameKind.free && env.scope.kind == .function && env.kindOf n == some .cell) then (n, NameKind.cell) else (n, k)).lookup x = some k →
      names.lookup x = some k ∨ (names.lookup x = some .free ∧ k = .cell)
  | [], _, _, h => by simp at h
  | (n, j) :: r, x, k, h => by
    have ih := @lookup_relabel env r x k
    rw [List.map_cons] at h
    by_cases hx : (x == n) = true
    · rw [List.lookup_cons, hx]
      by_cases hc : (j == NameKind.free && env.scope.kind == .function && env.kindOf n == some .cell) = true
      · simp only [hc, if_true] at h
        rw [List.lookup_cons, hx] at h
        have hj : j = .free := by
          simp only [Bool.and_eq_true] at hc
          simpa using hc.1.1
        exact .inr ⟨by simp [hj], (Option.some.inj h).symm⟩
      · simp only [hc, if_false] at h
        have h' : List.lookup x ((n, j) :: List.map (fun x => if (x.snd == NameKind.free && env.scope.kind == ScopeKind.function && env.kindOf x.fst == some NameKind.cell) = true then (x.fst, NameKind.cell) else (x.fst, x.snd)) r) = some k := by simpa using h
        rw [List.lookup_cons, hx] at h'
        exact .inl h'
    · have hx' : (x == n) = false := by simpa using hx
      rw [List.lookup_cons, hx']
      apply ih
      by_cases hc : (j == NameKind.free && env.scope.kind == .function && env.kindOf n == some .cell) = true
      · simp only [hc, if_true] at h
        rw [List.lookup_cons, hx'] at h
        exact h
      · have h' : List.lookup x ((n, j) :: List.map (fun x => if (x.snd == NameKind.free && env.scope.kind == ScopeKind.function && env.kindOf x.fst == some NameKind.cell) = true then (x.fst, NameKind.cell) else (x.fst, x.snd)) r) = some k := by simpa [hc] using h
        rw [List.lookup_cons, hx'] at h'
        exact h'
theorem relabel_free {env : Env} : ∀ {names : List (Str × NameKind)} {x : Str}, names.lookup x = some .free →
    ∃ k, (names.map fun (n, k) => if (k == NameKind.free && env.scope.kind == .function && env.kindOf n == some .cell) then (n, NameKind.cell) else (n, k)).lookup x = some k ∧ (k = .cell ∨ k = .free)
  | [], _, h => by simp at h
  | (n, j) :: r, x, h => by
    have ih := @relabel_free env r x
    by_cases hx : (x == n) = true
    · rw [List.lookup_cons, hx] at h
      have hj : j = .free := Option.some.inj h
      subst hj
      by_cases hc : (env.scope.kind == .function && env.kindOf n == some .cell) = true
      · refine ⟨.cell, ?_, .inl rfl⟩
        show List.lookup x ((if (NameKind.free == NameKind.free && env.scope.kind == .function && env.kindOf n == some .cell) = true then (n, NameKind.cell) else (n, NameKind.free)) :: _) = _
        rw [if_pos (by simpa using hc), List.lookup_cons, hx]
      · refine ⟨.free, ?_, .inr rfl⟩
        show List.lookup x ((if (NameKind.free == NameKind.free && env.scope.kind == .function && env.kindOf n == some .cell) = true then (n, NameKind.cell) else (n, NameKind.free)) :: _) = _
        rw [if_neg (by simpa using hc), List.lookup_cons, hx]
    · have hx' : (x == n) = false := by simpa using hx
      rw [List.lookup_cons, hx'] at h
      obtain ⟨k, e, hk⟩ := ih h
      refine ⟨k, ?_, hk⟩
      rw [List.map_cons]
      by_cases hc : (j == NameKind.free && env.scope.kind == .function && env.kindOf n == some .cell) = true
      · simp only [hc, if_true, List.lookup_cons, hx']
        exact e
      · show List.lookup x ((if (j == NameKind.free && env.scope.kind == .function && env.kindOf n == some .cell) = true then (n, NameKind.cell) else (n, j)) :: _) = _
        rw [if_neg hc, List.lookup_cons, hx']
        exact e

noncomputable def Cx.comp (X : Cx) (scope : Scope) (C : Addr) (s₀ : Shared) (H₀ : Hp) (fp : List Addr) (N' : List Str) (E' : Value → Shared → Prop) : Cx :=
  { X with N := N', s₀ := s₀, H₀ := H₀, env := compEnvC scope (clOf scope X.env) C X.env, outer := X.stack, ex := fp, fn := fun _ => false, pn := [], xe := E' }
noncomputable def caps (cap : List Nat) (σ : St) : St := cap.map fun j => (σ[j]?).join
noncomputable def capOk (X : Cx) (scope : Scope) (N' : List Str) (nt : Nat) (cap : List Nat) : Bool :=
  (N'.length == nt + cap.length) && ((List.range cap.length).all fun j => match cap[j]?, N'[nt + j]? with
    | some i, some x => X.N[i]? == some x && scope.names.lookup x == some .free
    | _, _ => false)
section
variable {X : Cx}
theorem capOk_get {scope : Scope} {N' : List Str} {nt : Nat} {cap : List Nat} (h : capOk X scope N' nt cap = true) : N'.length = nt + cap.length ∧ ∀ j i, cap[j]? = some i → ∃ x, N'[nt + j]? = some x ∧ X.N[i]? = some x ∧ scope.names.lookup x = some .free := by
  unfold capOk at h
  simp only [Bool.and_eq_true, List.all_eq_true, beq_iff_eq] at h
  refine ⟨h.1, fun j i e => ?_⟩
  have hj : j < cap.length := (List.getElem?_eq_some_iff.mp e).1
  have q := h.2 j (List.mem_range.mpr hj)
  rw [e] at q
  cases q2 : N'[nt + j]? with
  | none => rw [q2] at q; simp at q
  | some x =>
    rw [q2] at q
    simp only [Bool.and_eq_true, beq_iff_eq] at q
    exact ⟨x, rfl, q.1, q.2⟩
/-- the block's context, at its entry -/
theorem comp_start {pins : List (Addr × Obj)} {σ : St} {H : Hp} {s3 : Shared} {scope : Scope} {fp : List Addr} {N' : List Str} {nt : Nat} {cap : List Nat} {h4 : Heap} {t4 : Nat} {E' : Value → Shared → Prop} {m : Str → Option Value}
    (I : Inv X pins σ H s3) (hk : scope.kind = .function) (hb : compOk scope X.env = true) (hc : capOk X scope N' nt cap = true) (hf : ∀ b ∈ fp, FpOk X pins H b) (hfl : ∀ b ∈ fp, b < s3.heap.objs.size)
    (hn : h4.Ns s3.heap.objs.size m) (kp : ∀ b o, s3.heap.get? b = some o → h4.get? b = some o) :
    Inv (X.comp scope s3.heap.objs.size s3 H fp N' E') [] (List.replicate nt none ++ caps cap σ) H { s3 with heap := h4, toks := t4 } := by
  obtain ⟨hlen, hcap⟩ := capOk_get hc
  have cin : ∀ x c, (clOf scope X.env).lookup x = some c → X.env.cells.lookup x = some c := fun x c e => cl_in scope.names [] (fun y d q => by simp at q) e
  have kin : ∀ x, ((X.comp scope s3.heap.objs.size s3 H fp N' E').env.kindOf x = some .cell ∨ (X.comp scope s3.heap.objs.size s3 H fp N' E').env.kindOf x = some .free) → scope.names.lookup x = some .free := fun x hx => by
    have one : ∀ k, (k = NameKind.cell ∨ k = NameKind.free) → (X.comp scope s3.heap.objs.size s3 H fp N' E').env.kindOf x = some k → scope.names.lookup x = some .free := fun k hk' e => by
      rcases lookup_relabel (env := X.env) (names := scope.names) (x := x) (k := k) e with z | z
      · rcases hk' with rfl | rfl
        · exact absurd rfl (compOk_cell hb _ (PySem.mem_of_lookup z))
        · exact z
      · exact z.1
    rcases hx with hx | hx
    · exact one _ (.inl rfl) hx
    · exact one _ (.inr rfl) hx
  have has : ∀ x, scope.names.lookup x = some .free → ∃ c, X.env.cells.lookup x = some c ∧ (clOf scope X.env).lookup x = some c := fun x hx => by
    have hm := PySem.mem_of_lookup hx
    obtain ⟨c, e⟩ := I.ok.has x (compOk_free hb _ hm rfl)
    exact ⟨c, e, cl_has e _ _ hm⟩
  refine ⟨⟨I.ok.mod, hk, I.ok.glob, I.ok.blt, Nat.le_refl _, fun x y c e1 e2 => I.ok.inj x y c (cin x c e1) (cin y c e2), fun x hx => ?_, fun x c z _ => absurd z Bool.false_ne_true, I.ok.hd, I.ok.frames, .inl rfl, fun b hb' => ⟨Nat.ne_of_lt (hfl b hb'), fun x c e => (hf b hb').2.2.2.2.1 x c (cin x c e)⟩,
    I.bs, Nat.le_trans I.ok.bsz I.sz, fun b o e hb' => ?_, fun b hb' hs => ?_, I.stack, I.stkFree⟩, rfl, I.bare, Un.kept kp, ⟨m, hn, fun i x v h1 h2 h3 => ?_⟩, fun x c e => ?_, I.hok.fresh (Nat.le_refl _), fun x c e => I.freeC x c (cin x c e), fun p hp => absurd hp (by simp [Cx.comp]), I.hok.kept kp, ?_⟩
  · obtain ⟨c, _, e⟩ := has x (kin x hx)
    exact ⟨c, e⟩
  · rcases (hf b hb').2.2.2.1 with z | z
    · exact I.ok.noex b o e z
    · exact absurd (Nat.lt_of_lt_of_le (Heap.lt_size e) (Nat.le_trans I.ok.bsz z)) (Nat.lt_irrefl _)
  · rcases List.mem_cons.mp (I.stkSub b hs) with z | z
    · exact (hf b hb').2.1 z
    · exact (hf b hb').2.2.1 z
  · have hge : nt ≤ i := by
      by_cases hlt : i < nt
      · rw [List.getElem?_append_left (by simpa using hlt), List.getElem?_replicate] at h2
        split at h2 <;> cases h2
      · omega
    obtain ⟨j, rfl⟩ : ∃ j, i = nt + j := ⟨i - nt, by omega⟩
    rw [List.getElem?_append_right (by simp), List.length_replicate, Nat.add_sub_cancel_left] at h2
    unfold caps at h2
    rw [List.getElem?_map] at h2
    cases ej : cap[j]? with
    | none => rw [ej] at h2; cases h2
    | some i' =>
      rw [ej] at h2
      have h2' : (σ[i']?).join = some v := Option.some.inj h2
      obtain ⟨x', e1, e2, e3⟩ := hcap j i' ej
      have : x' = x := by
        have h1' : N'[nt + j]? = some x := h1
        rw [e1] at h1'; exact Option.some.inj h1'
      subst this
      have hσ : σ[i']? = some (some v) := by
        cases q : σ[i']? with
        | none => rw [q] at h2'; cases h2'
        | some o => rw [q] at h2'; exact congrArg some h2'
      have hkx := compOk_free hb _ (PySem.mem_of_lookup e3) rfl
      obtain ⟨m', hn', hl'⟩ := I.loc
      obtain ⟨u, ru, lk⟩ := hl' i' x' v e2 hσ (hkx.elim (fun z => .inr (.inl z)) fun z => .inr (.inr z))
      refine ⟨u, ru, .inr ⟨?_, ?_⟩⟩
      · obtain ⟨k, ek, hk'⟩ := relabel_free (env := X.env) e3
        rcases hk' with rfl | rfl
        · exact .inl ek
        · exact .inr ek
      · rcases lk with ⟨kl, _⟩ | ⟨_, c, ec, icell⟩
        · rcases hkx with z | z <;> (rw [kl] at z; cases z)
        · exact ⟨c, cl_has ec _ _ (PySem.mem_of_lookup e3), icell.keeps kp⟩
  · obtain ⟨v, z⟩ := I.cell x c (cin x c e)
    exact ⟨v, z.keeps kp⟩
  · show (List.replicate nt none ++ caps cap σ).length = N'.length
    rw [hlen]
    simp [caps]
end
end L2

namespace L2
open PySem PySem.Spec PyProof.Rows
section
variable {prog : Program} {w : World} {A : Around} {E : Value → Shared → Prop} {R : Result → Shared → Prop} {s : Shared}
theorem compLoop_gen {elt target iter : Expr} {ifs : List Expr} {scope : Scope} {pos : Pos} {it acc : Value} {env : Env} (I : Nat → Shared → Prop)
    (turn : ∀ n s, I n s → wpAny (model prog w) A (pyNext it) (fun r s₁ => match r with
      | none => R (.ok .next) s₁
      | some v => wpAny (model prog w) A (letOwnedTupleGo target it v) (fun _ s₁' => wpAny (model prog w) A (assign target env v) (fun _ s₂ =>
          wpAny (model prog w) A (forIn ifs true fun c r => if r = true then do let ok ← isTrue c env (eval c env); pure (ForInStep.yield ok) else pure (ForInStep.yield r)) (fun ok s₃ =>
            if ok = true then wpAny (model prog w) A (eval elt env) (fun x s₄ =>
              wpAny (model prog w) A (call (.builtin "list.append") [acc, x]) (fun _ s₅ => ∃ m, m < n ∧ I m s₅) (notedBy (model prog w) A env fun e s' => R (.error e) s') s₄) (notedBy (model prog w) A env fun e s' => R (.error e) s') s₃
            else ∃ m, m < n ∧ I m s₃) (notedBy (model prog w) A env fun e s' => R (.error e) s') s₂) (notedBy (model prog w) A env fun e s' => R (.error e) s') s₁') (notedBy (model prog w) A env fun e s' => R (.error e) s') s₁) (notedBy (model prog w) A env fun e s' => R (.error e) s') s)
    (n : Nat) (h : I n s) : codeAny (model prog w) A (.compLoop (.ListComp elt [⟨target, iter, ifs, 0⟩] scope pos) 0 it acc env) R s := by
  refine codeAny_loop rfl I (fun n s hI => ?_) n h
  show wpAny _ A ((compTurn (.ListComp elt [⟨target, iter, ifs, 0⟩] scope pos) 0 it acc env).onRaise (fun x => do noteFrame x env; theTreesLotGoes x)) _ _ s
  refine wpAny_noted ?_
  rw [compTurn_list]
  refine wpAny_bind (wpAny_standAt (wpAny_bind (wpAny_mono (turn n s hI) (fun r s₁ h₁ => ?_) fun _ _ h' => h')))
  cases r with
  | none => exact wpAny_pure h₁
  | some v =>
    refine wpAny_bind (wpAny_mono h₁ (fun _ s₁' h₁' => ?_) fun _ _ h' => h')
    refine wpAny_bind (wpAny_mono h₁' (fun _ s₂ h₂ => wpAny_bind (wpAny_mono h₂ (fun ok s₃ h₃ => ?_) fun _ _ h' => h')) fun _ _ h' => h')
    cases ok with
    | false => exact wpAny_pure ⟨rfl, h₃⟩
    | true =>
      exact wpAny_bind (wpAny_bind (wpAny_mono h₃ (fun x s₄ h₄ => wpAny_bind (wpAny_mono h₄ (fun _ s₅ h₅ => wpAny_pure (wpAny_pure ⟨rfl, h₅⟩)) fun _ _ h' => h')) fun _ _ h' => h'))
end
/-- the tests of a clause -/
structure PIf (X : Cx) (ifs : List Expr) (t : TT) : Prop where
  run :
  ∀ (pins : List (Addr × Obj)) (s : Shared) (σ : St) (H : Hp) (Q : Bool → Hp → Prop), Inv X pins σ H s → t σ H Q →
    wpAny (model X.prog X.w) X.A (forIn ifs true fun c r => if r = true then do let ok ← isTrue c X.env (eval c X.env); pure (ForInStep.yield ok) else pure (ForInStep.yield r)) (TP X pins σ Q) X.xe s
noncomputable instance {X : Cx} {ifs : List Expr} {t : TT} : CoeFun (PIf X ifs t) (fun _ =>
  ∀ (pins : List (Addr × Obj)) (s : Shared) (σ : St) (H : Hp) (Q : Bool → Hp → Prop), Inv X pins σ H s → t σ H Q →
    wpAny (model X.prog X.w) X.A (forIn ifs true fun c r => if r = true then do let ok ← isTrue c X.env (eval c X.env); pure (ForInStep.yield ok) else pure (ForInStep.yield r)) (TP X pins σ Q) X.xe s
  ) := ⟨fun h => h.run⟩
noncomputable def tYes : TT := fun _ H Q => Q true H
noncomputable def CompW (J : It) (D : Addr) (nt : Nat) (cap : List Nat) (g : TG) (ti : TT) (te : TE) (σ : St) (H1 : Hp) (Q : VK) : Prop := ∃ W : Nat → Nat → List V → Hp → Prop, (∃ m, W 0 m [] (upd H1 D (.lst []))) ∧
  ∀ i m ys H2, W i m ys H2 → H2 D = some (.lst ys) ∧ ((J.stop i H2 ∧ Q (.ref D) H2) ∨ (J.go i H2 ∧ ys.length < sizeLine ∧ ∀ x H3, J.yld i H2 x H3 → g x (List.replicate nt none ++ caps cap σ) H3 fun σ4 H4 => ti σ4 H4 fun b H5 =>
    if b = true then te σ4 H5 fun y H6 => H6 D = some (.lst ys) ∧ ∃ m', m' < m ∧ W (i + 1) m' (ys ++ [y]) (upd H6 D (.lst (ys ++ [y]))) else ∃ m', m' < m ∧ W (i + 1) m' ys H5))
noncomputable def tComp (wi : TI) (nt : Nat) (cap : List Nat) (g : TG) (ti : TT) (te : TE) : TE := fun σ H Q => wi σ H fun J H1 => ∀ D, H1 D = none → CompW J D nt cap g ti te σ H1 Q
/-- the targets' slots stand first, and are the only ones stored -/
noncomputable def GKeeps (nt : Nat) (g : TG) : Prop := ∀ (x : V) (c : St) (H : Hp) (Q : St → Hp → Prop), g x (List.replicate nt none ++ c) H Q →
  g x (List.replicate nt none ++ c) H fun σ' H' => Q σ' H' ∧ ∀ (j : Nat) v, (List.replicate nt none ++ c)[j]? = some (some v) → σ'[j]? = some (some v)
theorem gk1 : GKeeps 1 (gName 0) := fun x c H Q h => ⟨h, fun j v e => by
  cases j with
  | zero => simp at e
  | succ j => simpa using e⟩
theorem gk2 {K : PySem.W.Frag} : GKeeps 2 (gTup K 2 (gCons (gName 0) (gCons (gName 1) gNil))) := fun x c H Q h => by
  obtain ⟨a, xs, e1, hq, hl, v, r, e2, v', r', e3, e4, h⟩ := h
  refine ⟨a, xs, e1, hq, hl, v, r, e2, v', r', e3, e4, h, fun j v e => ?_⟩
  match j, e with
  | 0, e => simp [List.replicate] at e
  | 1, e => simp [List.replicate] at e
  | j + 2, e => simpa [List.replicate, List.set] using e
section
variable {X : Cx}
theorem pif_nil : PIf X [] tYes := .mk <| fun _ _ _ H _ I h => wpAny_tests_nil ⟨H, I, h⟩
theorem pif_one {c : Expr} {t : TT} (h : PT X c t) : PIf X [c] t := .mk <| fun pins s σ H Q I hw => wpAny_tests_one (h pins s σ H Q I hw)

theorem comp_back {pins pins' : List (Addr × Obj)} {σ σ' : St} {H H' : Hp} {s3 s' : Shared} {scope : Scope} {fp : List Addr} {N' : List Str} {E' : Value → Shared → Prop}
    (I3 : Inv X pins σ H s3) (hf : ∀ b ∈ fp, FpOk X pins H b) (I' : Inv (X.comp scope s3.heap.objs.size s3 H fp N' E') pins' σ' H' s') : Inv X pins σ H' s' := by
  refine I3.call' (ch := fp) I'.os I'.base I'.hok I'.bare fun b hb => ?_
  obtain ⟨f0, f1, f2, f3, f4, f5⟩ := hf b hb
  exact ⟨f3, f1, f4, f5⟩

theorem comp_core {elt tg iter : Expr} {ifs : List Expr} {scope : Scope} {pos : Pos} {N' : List Str} {nt : Nat} {cap : List Nat} {wi : TI} {g : TG} {ti : TT} {te : TE}
    (EK : Addr → Shared → Hp → List Addr → (Value → Shared → Prop) → Prop)
    (hE : ∀ (pins : List (Addr × Obj)) (σ : St) (s3 : Shared) (H3 : Hp) (fp : List Addr) (Q : VK) (D : Addr), Inv X pins σ H3 s3 → (∀ b ∈ fp, FpOk X pins H3 b) →
      EK s3.heap.objs.size s3 H3 fp (notedBy (model X.prog X.w) X.A (compEnvC scope (clOf scope X.env) s3.heap.objs.size X.env) fun e s' => compPost (model X.prog X.w) X.A X.xe none (EP X pins σ Q) (.ref D) s3.heap.objs.size (.error e) s'))
    (hc : X.calm = true) (hi : PI X tg iter wi)
    (hg : ∀ C s₀ H₀ fp E', EK C s₀ H₀ fp E' → PG (X.comp scope C s₀ H₀ fp N' E') tg g)
    (hif : ∀ C s₀ H₀ fp E', EK C s₀ H₀ fp E' → PIf (X.comp scope C s₀ H₀ fp N' E') ifs ti)
    (he : ∀ C s₀ H₀ fp E', EK C s₀ H₀ fp E' → PE (X.comp scope C s₀ H₀ fp N' E') elt te)
    (hk : scope.kind = .function) (hb : compOk scope X.env = true) (hcap : capOk X scope N' nt cap = true)
    (hgk : GKeeps nt g) (hs : ∀ x, foldedSetIterable iter X.env x = pure x) : PE X (.ListComp elt [⟨tg, iter, ifs, 0⟩] scope pos) (tComp wi nt cap g ti te) := .mk <| by
  intro pins s σ H Q I h
  rw [eval_ListComp]
  have hclos : closureFor scope X.env = pure (clOf scope X.env) := closure_is fun p hp e => I.ok.has p.1 (compOk_free hb p hp e)
  refine wpAny_comprehension_free (use := none) rfl hs hclos hk (compOk_local hb) (thn (hi pins s σ H _ I h) fun v s1 h1 => thn h1 fun itv s2 h2 => ?_)
  obtain ⟨it, fp, tn, J, H2, e, I2, T, st2, f2, q2⟩ := h2
  subst e
  refine wpAny_newObj_type (wpAny_newFunctionEnv (compOk_cell hb) (by intro y hy; simp at hy) (fun h₁ hns₁ hsb₁ => ?_) hk)
  have I3 := I2.lnew (ys := []) (its := []) (t' := s2.toks) .nil (Nat.zero_le _)
  have hfl : ∀ b ∈ fp, b < s2.heap.objs.size := fun b hb' => let ⟨o, e, _⟩ := T.obj 0 _ st2 b hb'; Heap.lt_size e
  obtain ⟨W, ⟨m0, w0⟩, turn⟩ := q2 s2.heap.objs.size (I2.hok.fresh (Nat.le_refl _))
  have nD : ∀ b ∈ fp, b ≠ s2.heap.objs.size := fun b hb' => Nat.ne_of_lt (hfl b hb')
  have f3 : ∀ b ∈ fp, FpOk X pins (upd H2 s2.heap.objs.size (.lst [])) b := fun b hb' => ⟨by rw [upd_ne (nD b hb')]; exact (f2 b hb').1, (f2 b hb').2⟩
  obtain ⟨s3, hs3⟩ : ∃ s3 : Shared, s3 = { s2 with heap := s2.heap.push { cls := .type "list", data := .seq ([] : List Value).toArray }, toks := s2.toks } := ⟨_, rfl⟩
  have hs3' : s3.heap = s2.heap.push { cls := .type "list", data := .seq ([] : List Value).toArray } := by rw [hs3]
  rw [← hs3] at I3
  have hsz : s3.heap.objs.size = s2.heap.objs.size + 1 := by rw [hs3', Heap.size_push]
  have hfl3 : ∀ b ∈ fp, b < s3.heap.objs.size := fun b hb' => by rw [hsz]; exact Nat.lt_succ_of_lt (hfl b hb')
  have hC : (s2.heap.push { cls := Value.type "list", dict := none, data := Data.seq ([] : List Value).toArray }).objs.size = s3.heap.objs.size := by rw [hs3']
  dsimp only at hns₁ hsb₁ ⊢
  rw [hC] at hns₁ hsb₁ ⊢
  rw [← hs3'] at hsb₁
  have kp : ∀ b o, s3.heap.get? b = some o → h₁.get? b = some o := fun b o e => hsb₁.extBut b o (Nat.ne_of_lt (Heap.lt_size e)) (Heap.get?_push_of_some _ e)
  have hEE := hE pins σ s3 _ fp Q s2.heap.objs.size I3 f3
  generalize hE' : (notedBy (model X.prog X.w) X.A (compEnvC scope (clOf scope X.env) s3.heap.objs.size X.env) fun e s' => compPost (model X.prog X.w) X.A X.xe none (EP X pins σ Q) (.ref s2.heap.objs.size) s3.heap.objs.size (.error e) s') = E' at hEE
  have I4 := comp_start (t4 := s2.toks + ([] : List (Str × Value)).length) (E' := E') I3 hk hb hcap f3 hfl3 hns₁ kp
  have st4 : tn 0 h₁ := T.keep 0 _ _ st2 fun b hb' o e => kp b o (by rw [hs3']; exact Heap.get?_push_of_some _ e)
  obtain ⟨s4, hs4⟩ : ∃ s4 : Shared, s4 = { s3 with heap := h₁, toks := s2.toks + ([] : List (Str × Value)).length } := ⟨_, rfl⟩
  rw [← hs4] at I4
  have st4' : tn 0 s4.heap := by rw [hs4]; exact st4
  have cin : ∀ x c, (clOf scope X.env).lookup x = some c → X.env.cells.lookup x = some c := fun x c e => cl_in scope.names [] (fun y d q => by simp at q) e
  have stat : ∀ {H' : Hp}, (∀ b ∈ fp, H' b = none) → ∀ b ∈ fp, FpOk (X.comp scope s3.heap.objs.size s3 (upd H2 s2.heap.objs.size (.lst [])) fp N' E') [] H' b := fun hn b hb' => by
    refine ⟨hn b hb', Nat.ne_of_lt (hfl3 b hb'), fun z => ?_, .inl hb', fun x c e => (f3 b hb').2.2.2.2.1 x c (cin x c e), fun p hp => absurd hp (by simp [Cx.comp])⟩
    rcases List.mem_cons.mp (I3.stkSub b z) with z | z
    · exact (f3 b hb').2.1 z
    · exact (f3 b hb').2.2.1 z
  have loop : codeAny (model X.prog X.w) X.A (.compLoop (.ListComp elt [⟨tg, iter, ifs, 0⟩] scope pos) 0 (.ref it) (.ref s2.heap.objs.size) (compEnvC scope (clOf scope X.env) s3.heap.objs.size X.env))
      (compPost (model X.prog X.w) X.A X.xe none (EP X pins σ Q) (.ref s2.heap.objs.size) s3.heap.objs.size) s4 := by
    refine compLoop_gen (fun n s' => ∃ i ys H', Inv (X.comp scope s3.heap.objs.size s3 (upd H2 s2.heap.objs.size (.lst [])) fp N' E') [] (List.replicate nt none ++ caps cap σ) H' s' ∧ tn i s'.heap ∧ (∀ b ∈ fp, H' b = none) ∧ W i n ys H') ?_ m0
      ⟨0, [], _, I4, st4', fun b hb' => (f3 b hb').1, w0⟩
    rintro n s5 ⟨i, ys, H5, I5, st5, fr5, w5⟩
    rw [hE']
    obtain ⟨hD5, alt⟩ := turn i n ys H5 w5
    rcases alt with ⟨stop, qn⟩ | ⟨go, hyl, step⟩
    · refine thn (T.done (X.comp scope s3.heap.objs.size s3 (upd H2 s2.heap.objs.size (.lst [])) fp N' E') rfl rfl rfl hc i [] s5 _ H5 E' I5 (stat fr5) st5 stop) fun r s6 ⟨hr, I6⟩ => ?_
      subst hr
      obtain ⟨m6, hn6, _⟩ := I6.loc
      refine ⟨m6, hn6, fun h' hsb' => ?_⟩
      have I7 := comp_back I3 f3 I6
      refine ⟨.ref s2.heap.objs.size, H5, ?_, rfl, qn⟩
      refine I7.turnedL (ch := [s3.heap.objs.size]) (t' := s6.toks) (fun b hb' => ?_) fun b u hb' e => (hsb'.2 b fun z => hb' (by simp [z])).trans e
      have eb : b = s3.heap.objs.size := by simpa using hb'
      subst eb
      exact I3.fpOk (Nat.le_refl _) I6.free
    · refine thn (T.item (X.comp scope s3.heap.objs.size s3 (upd H2 s2.heap.objs.size (.lst [])) fp N' E') rfl rfl rfl hc i [] s5 _ H5 E' I5 (stat fr5) st5 go) fun r s6 ⟨u, hr, h6⟩ => ?_
      subst hr
      refine thn h6 fun _ s7 ⟨x, H7, I7, r7, y7, st7, fr7⟩ => ?_
      have I7' := I7.pinned (stat fr7) (T.obj _ _ st7)
      have again : ∀ {σ8 : St} {H8 : Hp} {ys' : List V} {s8 : Shared}, Inv (X.comp scope s3.heap.objs.size s3 (upd H2 s2.heap.objs.size (.lst [])) fp N' E') ([] ++ pinsAt fp s7.heap) σ8 H8 s8 → (∃ m', m' < n ∧ W (i + 1) m' ys' H8) → (∀ (j : Nat) v, (List.replicate nt none ++ caps cap σ)[j]? = some (some v) → σ8[j]? = some (some v)) →
          ∃ m, m < n ∧ ∃ i ys H', Inv (X.comp scope s3.heap.objs.size s3 (upd H2 s2.heap.objs.size (.lst [])) fp N' E') [] (List.replicate nt none ++ caps cap σ) H' s8 ∧ tn i s8.heap ∧ (∀ b ∈ fp, H' b = none) ∧ W i m ys H' := fun {σ8 H8 ys' s8} I8 ⟨m', hm, w8⟩ hσ => by
        refine ⟨m', hm, i + 1, ys', H8, I8.unpinned.weak (by rw [I8.len, I5.len]) hσ, T.keep _ _ _ st7 fun b hb o e => (I8.pin (b, o) (List.mem_append_right _ (List.mem_append_right _ (mem_pinsAt hb e)))).1, fun b hb => ?_, w8⟩
        obtain ⟨o, e, d⟩ := T.obj _ _ st7 b hb
        exact (I8.pin (b, o) (List.mem_append_right _ (List.mem_append_right _ (mem_pinsAt hb e)))).2.1
      refine thn (hg _ _ _ _ _ hEE _ s7 _ H7 x u _ I7' r7 (hgk x _ H7 _ (step x H7 y7))) fun _ s8 ⟨σ8, H8, I8, q8, hσ⟩ => ?_
      refine thn (hif _ _ _ _ _ hEE _ s8 σ8 H8 _ I8 q8) fun ok s9 ⟨H9, I9, q9⟩ => ?_
      cases ok with
      | false =>
        rw [if_neg Bool.false_ne_true] at q9 ⊢
        exact again I9 q9 hσ
      | true =>
        rw [if_pos rfl] at q9 ⊢
        refine thn (he _ _ _ _ _ hEE _ s9 σ8 H9 _ I9 q9) fun y s10 ⟨vy, H10, I10, r10, hD10, hm10⟩ => ?_
        exact thn (mt_append (X := X.comp scope s3.heap.objs.size s3 (upd H2 s2.heap.objs.size (.lst [])) fp N' E') _ s10 σ8 H10 (.ref s2.heap.objs.size) [vy] (.ref s2.heap.objs.size) [y] (fun _ H' => H' = upd H10 s2.heap.objs.size (.lst (ys ++ [vy]))) I10 rfl (.cons r10 .nil) ⟨_, _, _, rfl, rfl, hD10, hyl, rfl⟩) fun _ s11 ⟨_, H11, I11, _, e11⟩ => by
          subst e11
          exact again I11 hm10 hσ
  have e4 : ({ s2 with heap := h₁, toks := s2.toks + ([] : List (Str × Value)).length } : Shared) = s4 := by rw [hs4, hs3]
  show codeAny _ _ _ _ { s2 with heap := h₁, toks := s2.toks + ([] : List (Str × Value)).length }
  rw [e4]
  exact codeAny_compStart_list loop (T.self X.A 0 s4 _ _ st4' loop)
/-- a comprehension of one clause, nothing raised in it -/
theorem pe_comp {elt tg iter : Expr} {ifs : List Expr} {scope : Scope} {pos : Pos} {wi : TI} {g : TG} {ti : TT} {te : TE} (N' : List Str) (nt : Nat) (cap : List Nat)
    (hc : X.calm = true) (hi : PI X tg iter wi) (hgk : GKeeps nt g)
    (hg : ∀ C s₀ H₀ fp E', PG (X.comp scope C s₀ H₀ fp N' E') tg g)
    (hif : ∀ C s₀ H₀ fp E', PIf (X.comp scope C s₀ H₀ fp N' E') ifs ti)
    (he : ∀ C s₀ H₀ fp E', PE (X.comp scope C s₀ H₀ fp N' E') elt te)
    (hk : scope.kind = .function := by rfl) (hb : compOk scope X.env = true := by rfl) (hcap : capOk X scope N' nt cap = true := by rfl)
    (hs : ∀ x, foldedSetIterable iter X.env x = pure x := by intro _; rfl) : PE X (.ListComp elt [⟨tg, iter, ifs, 0⟩] scope pos) (tComp wi nt cap g ti te) :=
  comp_core (fun _ _ _ _ _ => True) (fun _ _ _ _ _ _ _ _ _ => trivial) hc hi (fun C s₀ H₀ fp E' _ => hg C s₀ H₀ fp E') (fun C s₀ H₀ fp E' _ => hif C s₀ H₀ fp E') (fun C s₀ H₀ fp E' _ => he C s₀ H₀ fp E') hk hb hcap hgk hs
end
/-! ### the forms one uses: what a comprehension makes, item by item -/
theorem comp_range {lo : Int} {n : Nat} {nt : Nat} {cap : List Nat} {g : TG} {te : TE} {σ : St} {H1 : Hp} {Q : VK} {D : Addr} (f : Nat → V) (hx : n ≤ sizeLine)
    (step : ∀ (i : Nat) H2 (R : VK), i < n → (∀ y, y = f i → R y H2) → g (.int (lo + i)) (List.replicate nt none ++ caps cap σ) H2 fun σ4 H4 => te σ4 H4 R)
    (fin : Q (.ref D) (upd H1 D (.lst ((List.range n).map f)))) :
    CompW (Itr lo n) D nt cap g tYes te σ H1 Q := by
  refine ⟨fun i m ys H2 => m = n - i ∧ i ≤ n ∧ ys = (List.range i).map f ∧ H2 = upd H1 D (.lst ys), ⟨_, rfl, Nat.zero_le _, rfl, rfl⟩, ?_⟩
  rintro i m ys H2 ⟨rfl, hi, rfl, rfl⟩
  refine ⟨upd_same, ?_⟩
  by_cases hlt : i < n
  · refine .inr ⟨hlt, by simp; omega, fun v H3 ⟨e, ev⟩ => ?_⟩
    subst e ev
    have hst := step i _ (fun y H6 => H6 D = some (.lst ((List.range i).map f)) ∧ ∃ m', m' < n - i ∧ (m' = n - (i + 1) ∧ i + 1 ≤ n ∧ (List.range i).map f ++ [y] = (List.range (i + 1)).map f ∧ upd H6 D (.lst ((List.range i).map f ++ [y])) = upd H1 D (.lst ((List.range i).map f ++ [y])))) hlt
      (fun y ey => ⟨upd_same, _, by omega, rfl, hlt, by rw [List.range_succ, List.map_append, ey]; rfl, upd_upd⟩)
    simp only [tYes, if_true]
    exact hst
  · have e : i = n := by omega
    subst e
    exact .inl ⟨Nat.le_refl _, fin⟩
end L2

namespace L2
open PySem PySem.Spec PyProof.Rows
section
variable {X : Cx}
/-! ### texts: a slice, join, upper -/
theorem strsAre_of : ∀ {ys : List Str} {us : List Value}, Vals (ys.map V.str) us → StrsAre us ys := by
  intro ys
  induction ys with
  | nil => intro us r; cases r; exact .nil
  | cons y ys ih =>
    intro us r
    cases r with
    | cons h t =>
      obtain ⟨k, rfl⟩ := h
      exact .cons y k (ih t)
noncomputable def rJoin (K : PySem.W.Frag) : V → List V → Hp → VK → Prop := fun x xs H Q => ∃ z p ys, x = .str z ∧ xs = [.ref p] ∧ SqL K H p (ys.map V.str) ∧ (ys.map (·.length)).sum + ys.length * z.length ≤ 16777216 ∧ Q (.str (Txt.join z ys)) H
theorem mt_join : MtR X "str.join" (rJoin X.K) := by
  intro pins s σ H x xs v us Q I rx rv h
  obtain ⟨z, p, ys, rfl, rfl, hq, hl, q⟩ := h
  obtain ⟨t, rfl⟩ := rx
  obtain ⟨u, rfl, ru⟩ := rv.one
  cases ru
  obtain ⟨its, r, pl, _⟩ := I.list hq
  exact join_list pl.isList (strsAre_of r) hl fun t' k => ⟨.str (Txt.join z ys), H, I.tok k, ⟨t', rfl⟩, q⟩
noncomputable def rUpper : V → List V → Hp → VK → Prop := fun x xs H Q => ∃ z, x = .str z ∧ xs = [] ∧ Builtin.Str.tooLong (Txt.upper z).length = false ∧ Q (.str (Txt.upper z)) H
theorem mt_upper : MtR X "str.upper" rUpper := by
  intro pins s σ H x xs v us Q I rx rv h
  obtain ⟨z, rfl, rfl, hl, q⟩ := h
  obtain ⟨t, rfl⟩ := rx
  cases rv.zero
  exact SC.upper hl ⟨.str (Txt.upper z), H, I.tok _, ⟨_, rfl⟩, q⟩
/-! ### all of a list of bools -/
/-! ### isinstance of plain values -/
end
end L2

namespace L2
open PySem PySem.Spec PyProof.Rows
/-! ### heaps without what leans on other things -/
noncomputable def okHO : HO → Prop
  | .dT _ => False
  | .frz _ (.lst _) => True
  | .frz _ _ => False
  | _ => True
noncomputable def Plain (H : Hp) : Prop := ∀ a o, H a = some o → okHO o
theorem Plain.upd {H : Hp} {l : Addr} {o : HO} (p : Plain H) (h : okHO o) : Plain (upd H l o) := fun a u e => by
  by_cases ha : a = l
  · subst ha; rw [upd_same] at e; cases e; exact h
  · rw [upd_ne ha] at e; exact p a u e
theorem Plain.lst {H : Hp} {l : Addr} {xs : List V} (p : Plain H) : Plain (L2.upd H l (.lst xs)) := p.upd trivial
theorem Plain.tup {H : Hp} {l : Addr} {xs : List V} (p : Plain H) : Plain (L2.upd H l (.tup xs)) := p.upd trivial
theorem Only.plain {H : Hp} (h : Only H) : Plain H := fun a o e => by
  rcases h a with z | ⟨o', xs, z⟩
  · rw [z] at e; cases e
  · rw [z] at e; cases e; exact trivial
/-- H'' is H' with some of the newer things forgotten -/
structure Cut (H H' H'' : Hp) : Prop where
  sub : ∀ b o, H'' b = some o → H' b = some o
  old : ∀ b o, H b = some o → H'' b = H' b
  ins : ∀ a C dx fs, H'' a = some (.ins C dx fs) → H'' dx = some (.own a)
  plain : Plain H''
theorem Cut.un {fs : List Addr} {H H' H'' : Hp} {h h' : Heap} (c : Cut H H' H'') (u : Un fs [] H H' h h') : Un fs [] H H'' h h' where
  keep := u.keep
  slot := u.slot
  free := fun b o e n hx => by
    have := u.free b o e n hx
    cases q : H'' b with
    | none => rfl
    | some z => rw [c.sub b z q] at this; cases this
  there := u.there
  tups := fun b xs e => by rw [c.old b _ e]; exact u.tups b xs e
  frzs := fun b o z e => by rw [c.old b _ e]; exact u.frzs b o z e
  tbls := fun b ps e => by rw [c.old b _ e]; exact u.tbls b ps e
theorem Cut.hok {P : Program} {w : World} {H H' H'' : Hp} {h : Heap} (c : Cut H H' H'') (k : HOk P w H' h) : HOk P w H'' h := fun a o e => by
  have q := k a o (c.sub a o e)
  cases o with
  | ins C dx fs =>
    obtain ⟨d, r⟩ := q
    exact ⟨c.ins a C dx fs e, r⟩
  | dT kvs => exact (c.plain a _ e).elim
  | frz ob u =>
    have z := c.plain a _ e
    cases u with
    | lst xs => exact q
    | _ => exact z.elim
  | lst xs => exact q
  | tup xs => exact q
  | dK kvs => exact q
  | set S n => exact q
  | own x => exact q
  | xd fs => exact q
  | met f x => exact q
  | rng lo hi => exact q
  | tbl ps => exact q
  | ext φ => exact q
section
variable {P : Program} {w : World} {K : PySem.W.Frag} {mg : Str → Option Value} {base : Heap} {CX : CXT} {k : Nat} {f : Addr} {fd : FuncData} {ps : List Str}
/-- a promise whose end may be cut -/
theorem FnOk.cut {sp : Sp} (F : FnOk P w K mg base CX k f fd ps sp) :
    FnOk P w K mg base CX k f fd ps (fun vs H Q E => sp vs H (fun v H' => ∃ H'', ((∀ a C dx fs, H a = some (.ins C dx fs) → H dx = some (.own a)) → Cut H H' H'') ∧ Q v H'') E) :=
  ⟨fun vs H Q E h => F.len vs H _ E h, fun A outer s H args us vs Q E hr he hb hv h => by
    refine codeAny_mono (F.run A outer s H args us vs _ E hr he hb hv h) fun r s' q => ?_
    cases r with
    | error e => exact q
    | ok fl =>
      cases fl with
      | ret u =>
        obtain ⟨v, H', os, bare, un, hok, rv, H'', hc, q⟩ := q
        have c := hc fun a C dx fs e => (he.hok a _ e).1
        exact ⟨v, H'', os, bare, c.un un, c.hok hok, rv, q⟩
      | _ => exact q⟩
/-- a promise that speaks of values alone -/
noncomputable def pureSp {α : Type} (Pre : α → List V → Prop) (Post : α → V → Prop) : Sp := fun vs H Q _ => Plain H ∧ ∃ a, Pre a vs ∧ ∀ v, Post a v → Q v H
noncomputable def rawSp {α : Type} (Pre : α → List V → Prop) (Post : α → V → Prop) : Sp := fun vs H Q _ => Plain H ∧ ∃ a, Pre a vs ∧ ∀ v H', Post a v → Same H H' → Q v H'
theorem FnOk.pure {α : Type} {Pre : α → List V → Prop} {Post : α → V → Prop} (F : FnOk P w K mg base CX k f fd ps (rawSp Pre Post)) : FnOk P w K mg base CX k f fd ps (pureSp Pre Post) :=
  F.cut.imp fun vs H Q E ⟨hp, a, ha, q⟩ => ⟨hp, a, ha, fun v H' hv hs => ⟨H, fun hi => ⟨hs, fun b o e => by rw [e, hs b o e], hi, hp⟩, q v hv⟩⟩
/-- a promise that hands back one new list or tuple of values -/
noncomputable def newSp {α : Type} (Pre : α → List V → Prop) (Post : α → HO → Prop) : Sp := fun vs H Q _ => Plain H ∧ ∃ a, Pre a vs ∧ ∀ l o, H l = none → Post a o → Q (.ref l) (upd H l o)
noncomputable def newRaw {α : Type} (Pre : α → List V → Prop) (Post : α → HO → Prop) : Sp := fun vs H Q _ => Plain H ∧ ∃ a, Pre a vs ∧ ∀ l o H', H l = none → H' l = some o → Post a o → Same H H' → Q (.ref l) H'
theorem FnOk.new {α : Type} {Pre : α → List V → Prop} {Post : α → HO → Prop} (hP : ∀ a o, Post a o → (∃ xs, o = .lst xs) ∨ ∃ xs, o = .tup xs) (F : FnOk P w K mg base CX k f fd ps (newRaw Pre Post)) : FnOk P w K mg base CX k f fd ps (newSp Pre Post) :=
  F.cut.imp fun vs H Q E ⟨hp, a, ha, q⟩ => ⟨hp, a, ha, fun l o H' hl hl' ho hs => ⟨upd H l o, fun hi => by
    have ne : ∀ b z, H b = some z → b ≠ l := fun b z e => ne_of_none e hl
    refine ⟨fun b z e => ?_, fun b z e => by rw [upd_ne (ne b z e), e, hs b z e], fun b C dx fs e => ?_, hp.upd ?_⟩
    · by_cases hb : b = l
      · subst hb; rw [upd_same] at e; rw [← e]; exact hl'
      · rw [upd_ne hb] at e; exact hs b z e
    · by_cases hb : b = l
      · subst hb; rw [upd_same] at e
        have e := Option.some.inj e
        rcases hP a o ho with ⟨xs, z⟩ | ⟨xs, z⟩ <;> (rw [z] at e; cases e)
      · rw [upd_ne hb] at e
        have d := hi b C dx fs e
        rw [upd_ne (ne dx _ d)]; exact d
    · rcases hP a o ho with ⟨xs, z⟩ | ⟨xs, z⟩ <;> (rw [z]; exact trivial), q l o hl ho⟩⟩
end
theorem Same.upd {H H' : Hp} {l : Addr} {o : HO} (s : Same H H') (hl : H l = none) : Same H (L2.upd H' l o) := fun b z e => by
  rw [upd_ne (ne_of_none e hl)]; exact s b z e
theorem same_upd {H : Hp} {l : Addr} {o : HO} (hl : H l = none) : Same H (upd H l o) := (Same.refl H).upd hl
theorem ite2d {p : Prop} [Decidable p] {A B : Prop} (h1 : p → A) (h2 : ¬ p → B) : if decide p = true then A else B := by
  by_cases h : p
  · rw [if_pos (decide_eq_true h)]; exact h1 h
  · rw [if_neg (by simpa using h)]; exact h2 h
theorem atI_in {xs : List Nat} {i : Int} (h0 : 0 ≤ i) (h1 : i < xs.length) : atI xs i = some (xs.getD i.toNat 0) := by
  obtain ⟨j, rfl⟩ : ∃ j : Nat, i = j := ⟨i.toNat, by omega⟩
  have hj : j < xs.length := by omega
  exact atI_nat (by simp [List.getElem?_eq_getElem hj])
theorem len_join0 (ys : List Str) : (Txt.join (⟨#[]⟩ : Str) ys).length ≤ (ys.map (·.length)).sum := by
  have e : Txt.join (⟨#[]⟩ : Str) ys = Str.join ⟨#[]⟩ ys := by simpa using join_plain_closes (⟨#[]⟩ : Str) ys
  rw [e]
  have := StrLaws.join_length_le (⟨#[]⟩ : Str) ys
  simpa [Str.length] using this
theorem sum_ones {n : Nat} {f : Nat → Str} (h : ∀ i, (f i).length = 1) : (((List.range n).map f).map (·.length)).sum = n := by
  induction n with
  | zero => rfl
  | succ n ih => rw [List.range_succ, List.map_append, List.map_append, List.sum_append, ih]; simp [h]
theorem cut_int {ns : List Int} {lo hi : Option Int} {i : Nat} {x : V} (h : (cutV (ns.map V.int) lo hi)[i]? = some x) : ∃ n, x = V.int n := by
  have hm := List.mem_of_getElem? h
  unfold cutV at hm
  have hm := List.mem_of_mem_drop (List.mem_of_mem_take hm)
  obtain ⟨n, _, e⟩ := List.mem_map.mp hm
  exact ⟨n, e.symm⟩
noncomputable def Dig (d : Int) : Prop := 0 ≤ d ∧ d < 10000
theorem dig_mod (x : Int) : Dig (x % 10000) := ⟨Int.emod_nonneg _ (by decide), Int.emod_lt_of_pos _ (by decide)⟩
end L2

namespace L2
open PySem PySem.Spec PyProof.Rows
/-! ### an exception of an own class, in flight -/
/-- new: what the exception's own records may be -/
structure Fly (new : Addr → Prop) (H : Hp) (x C : Addr) (h : Heap) : Prop where
  ob : ∃ oe vs, h.get? x = some oe ∧ oe.cls = .ref C ∧ oe.dict = none ∧ oe.data = .fields vs ∧ 1 < vs.size ∧
    (vs[1]? = some .none ∨ ∃ T oT ts, vs[1]? = some (.ref T) ∧ T ≠ x ∧ h.get? T = some oT ∧ oT.data = .fields ts ∧ 3 < ts.size ∧ new T ∧ H T = none)
  new : new x
  free : H x = none
theorem Fly.imp {n n' : Addr → Prop} {H : Hp} {x C : Addr} {h : Heap} (f : Fly n H x C h) (k : ∀ b, n b → n' b) : Fly n' H x C h := by
  obtain ⟨⟨oe, vs, a, b, c, d, e, g⟩, hn, hf⟩ := f
  refine ⟨⟨oe, vs, a, b, c, d, e, g.imp id ?_⟩, k _ hn, hf⟩
  rintro ⟨T, oT, ts, a, b, c, d, e, f, g⟩
  exact ⟨T, oT, ts, a, b, c, d, e, k _ f, g⟩
theorem mapF_dict (o : Obj) (f : Array Value → Array Value) : (o.mapFields f).dict = o.dict := by
  obtain ⟨c, d, dt, sl⟩ := o
  cases dt <;> rfl
section
variable {M : Model} {A : Around} {E : Value → Shared → Prop} {s : Shared}
theorem frameOf_same {env env' : Env} (h : env.frame = env'.frame) : PySem.frameOf env = PySem.frameOf env' := by
  unfold PySem.frameOf
  rw [h]
theorem noteFrame_same {env env' : Env} {e : Value} (h : env.frame = env'.frame) : noteFrame e env = noteFrame e env' := by
  unfold noteFrame
  rw [frameOf_same h, h]
/-- what noting a frame, or setting the flight, leaves of the heap -/
structure Kept (x T : Addr) (frames : List Addr) (h h' : Heap) : Prop where
  keep : ∀ b o, b ≠ x → b ≠ T → b ∉ frames → h.get? b = some o → h'.get? b = some o
  slot : ∀ b o, b ≠ x → b ≠ T → h.get? b = some o → ∃ sl, h'.get? b = some { o with slots := sl }
/-- the entry of the frame at hand, made and hung on -/
theorem entry_fly {base : Heap} {env : Env} {outer : List Env} {L x : Addr} {oe : Obj} {vs : Array Value} {head : Value} {hadNext : Bool} {Q : Unit → Shared → Prop}
    (hfr : A.frames = some (env :: outer)) (hl : s.heap.FunFrames base (env :: outer)) (hf : env.frame = some L)
    (he : s.heap.get? x = some oe) (hd : oe.data = .fields vs) (hz : 1 < vs.size)
    (h : ∀ h' T, (∃ oe' vs', h'.get? x = some oe' ∧ oe'.cls = oe.cls ∧ oe'.dict = oe.dict ∧ oe'.data = .fields vs' ∧ 1 < vs'.size ∧ vs'[1]? = some (.ref T)) → (∃ oT ts, h'.get? T = some oT ∧ oT.data = .fields ts ∧ 3 < ts.size) → s.heap.objs.size ≤ T →
      Kept x x (frs (env :: outer)) s.heap h' → Q () { s with heap := h' }) :
    wpAny M A (do let a ← PySem.frameOf env; let pl ← entryPlaceOf L hadNext; let b ← EntryCells.newEntry head a .none (rawInt L) .none pl; setField (.ref x) 1 b) Q E s := by
  have xnf : x ∉ (env :: outer).filterMap (·.frame) := fun hm => by
    obtain ⟨_, o, ho, hnf⟩ := hl.mem hm
    rw [he] at ho
    cases ho
    exact hnf vs hd
  refine wpAny_bind (wpAny_frameOf_fun hfr hl hf fun h1 g1 => ?_)
  refine wpAny_bind (wpAny_entryPlaceOf fun pl hpl => ?_)
  unfold EntryCells.newEntry newFields
  refine wpAny_bind (wpAny_newObj_type ?_ (hpl.sizeOk5 _ _ _ _ _))
  have e1 : h1.get? x = some oe := (g1.2.1 x xnf).trans he
  have lt1 : x < h1.objs.size := Heap.lt_size e1
  have e2 := Heap.get?_push_of_some (h := h1) { cls := .type "traceback", dict := none, data := .fields ([head, .ref L, .none, rawInt L, .none] ++ (if pl.isEmpty then List.replicate 6 Value.none else pl)).toArray } e1
  have dm := Obj.data_mapFields hd (·.setIfInBounds 1 (Value.ref h1.objs.size))
  refine wpAny_setField e2 hd hz (h _ h1.objs.size ⟨_, _, Heap.get?_update_self _ e2 (Obj.isFreed_of_fields dm), Obj.cls_mapFields _ _, mapF_dict _ _, dm, by simpa using hz, by simp [hz]⟩
    ⟨_, _, (Heap.get?_update_other _ _ (Nat.ne_of_lt lt1)).trans (Heap.get?_push_size _ rfl), rfl, by simp only [List.size_toArray, List.length_append, List.length_cons]; omega⟩ (by rw [g1.1]; exact Nat.le_refl _) ⟨fun b o bx _ bf eb => ?_, fun b o bx _ eb => ?_⟩)
  · rw [Heap.get?_update_other _ _ (Ne.symm bx)]
    exact Heap.get?_push_of_some _ ((g1.2.1 b bf).trans eb)
  · obtain ⟨sl, q⟩ := g1.2.2 b o eb
    exact ⟨sl, by rw [Heap.get?_update_other _ _ (Ne.symm bx)]; exact Heap.get?_push_of_some _ q⟩
end
section
variable {X : Cx} {σ : St} {H : Hp} {s : Shared} {x C : Addr}
/-- what is new to a context -/
noncomputable def Cx.new (X : Cx) (b : Addr) : Prop := (∀ o, X.s₀.heap.get? b = some o → b ∈ X.ex) ∧ ∀ p ∈ X.pn, p.1 ≠ b
theorem Inv.stepN {h' : Heap} {t' : Nat} {ch : List Addr} (I : Inv X [] σ H s) (hch : ∀ b ∈ ch, X.new b ∧ H b = none ∧ b ≠ X.env.locals ∧ ∀ y c, X.env.cells.lookup y = some c → c ≠ b)
    (keep : ∀ b o, b ∉ ch → b ∉ frs X.stack → s.heap.get? b = some o → h'.get? b = some o) (slot : ∀ b o, b ∉ ch → s.heap.get? b = some o → ∃ sl, h'.get? b = some { o with slots := sl }) :
    Inv X [] σ H { s with heap := h', toks := t' } := by
  have old : ∀ b o, X.s₀.heap.get? b = some o → b ∉ X.ex → b ∉ ch := fun b o e hx hb => hx ((hch b hb).1.1 o e)
  have neL : ∀ b o, X.s₀.heap.get? b = some o → b ≠ X.env.locals := fun b o e => Nat.ne_of_lt (Nat.lt_of_lt_of_le (Heap.lt_size e) I.ok.above)
  have trk : ∀ b u, H b = some u → b ∉ ch := fun b u e hb => by have := (hch b hb).2.1; rw [e] at this; cases this
  have trs : ∀ b u, H b = some u → b ∉ frs X.stack := fun b u e hb => by have := I.stkFree b hb; rw [e] at this; cases this
  have nfs : ∀ b, b ≠ X.env.locals → b ∉ X.fs → b ∉ frs X.stack := fun b h1 h2 z => (List.mem_cons.mp (I.stkSub b z)).elim h1 h2
  have cellK : ∀ y c, X.env.cells.lookup y = some c → ∀ v, s.heap.IsCell c v → h'.IsCell c v := fun y c e v ⟨o, ho, hd⟩ => by
    obtain ⟨sl, q⟩ := slot c o (fun z => (hch c z).2.2.2 y c e rfl) ho
    exact ⟨_, q, hd⟩
  refine ⟨I.ok, I.os, I.bare, ⟨fun b o e n hb hx => ?_, fun b o e n hb hx => ?_, I.base.free, fun b o e hx => ?_, I.base.tups, I.base.frzs, I.base.tbls⟩, ?_, fun y c e => ?_, I.free, I.freeC, fun p hp => ?_, fun b u e => ?_, I.len⟩
  · exact keep b o (old b o e hx) (nfs b (neL b o e) hb) (I.base.keep b o e n hb hx)
  · obtain ⟨sl, q⟩ := I.base.slot b o e n hb hx
    obtain ⟨sl', q'⟩ := slot b _ (old b o e hx) q
    exact ⟨sl', q'⟩
  · obtain ⟨o', q⟩ := I.base.there b o e hx
    obtain ⟨sl, q'⟩ := slot b o' (old b o e hx) q
    exact ⟨_, q'⟩
  · obtain ⟨m, ⟨o, es, ep, ho, r⟩, hl⟩ := I.loc
    obtain ⟨sl, q⟩ := slot _ o (fun z => (hch _ z).2.2.1 rfl) ho
    refine ⟨m, ⟨_, es, ep, q, r⟩, fun i y v e1 e2 e3 => ?_⟩
    obtain ⟨u, ru, lk⟩ := hl i y v e1 e2 e3
    exact ⟨u, ru, lk.imp id fun ⟨k, c, e, z⟩ => ⟨k, c, e, cellK y c e _ z⟩⟩
  · obtain ⟨v, z⟩ := I.cell y c e
    exact ⟨v, cellK y c e v z⟩
  · obtain ⟨e, n, ne, nf, d⟩ := I.pin p hp
    have hp' : p ∈ X.pn := by simpa using hp
    exact ⟨keep p.1 p.2 (fun z => (hch p.1 z).1.2 p hp' rfl) (nfs p.1 ne nf) e, n, ne, nf, d⟩
  · refine (I.hok b u e).stay (fun c v hc q => ?_) (fun _ q => q) fun _ _ q => q
    rcases hc with rfl | hc
    · exact keep c v (trk c u e) (trs c u e) q
    · exact keep c v (trk c _ hc) (trs c _ hc) q
/-- records (fields) are no frame, no cell, not the frame's own -/
theorem Inv.fieldsNe (I : Inv X [] σ H s) {b : Addr} {o : Obj} {vs : Array Value} (e : s.heap.get? b = some o) (d : o.data = .fields vs) : b ≠ X.env.locals ∧ (∀ y c, X.env.cells.lookup y = some c → c ≠ b) ∧ b ∉ frs X.stack := by
  refine ⟨fun z => ?_, fun y c ec z => ?_, fun z => ?_⟩
  · obtain ⟨m, ⟨o', es, ep, ho, r, _⟩, _⟩ := I.loc
    rw [← z, e] at ho
    cases ho
    rw [d] at r
    cases r
  · obtain ⟨v, o', ho, hd⟩ := I.cell y c ec
    rw [z, e] at ho
    cases ho
    rw [d] at hd
    cases hd
  · obtain ⟨_, o', ho, hnf⟩ := I.stack.mem z
    rw [e] at ho
    cases ho
    exact hnf vs d
theorem Inv.kept2 {h' : Heap} {T : Addr} (I : Inv X [] σ H s) (F : Fly X.new H x C s.heap) (hT : T = x ∨ ∃ oe vs oT ts, s.heap.get? x = some oe ∧ oe.data = .fields vs ∧ vs[1]? = some (.ref T) ∧ s.heap.get? T = some oT ∧ oT.data = .fields ts)
    (k : Kept x T (frs X.stack) s.heap h') : Inv X [] σ H { s with heap := h' } := by
  obtain ⟨oe, vs, e, _, _, d, _, tb⟩ := F.ob
  have one : X.new x ∧ H x = none ∧ x ≠ X.env.locals ∧ ∀ y c, X.env.cells.lookup y = some c → c ≠ x := ⟨F.new, F.free, (I.fieldsNe e d).1, (I.fieldsNe e d).2.1⟩
  have two : X.new T ∧ H T = none ∧ T ≠ X.env.locals ∧ ∀ y c, X.env.cells.lookup y = some c → c ≠ T := by
    rcases hT with rfl | ⟨oe', vs', oT, ts, e', d', v', eT, dT⟩
    · exact one
    · rw [e] at e'
      cases e'
      rw [d] at d'
      cases d'
      rcases tb with z | ⟨T', oT', ts', v, _, _, _, _, hn, hf⟩
      · rw [z] at v'; cases v'
      · rw [v] at v'
        cases v'
        exact ⟨hn, hf, (I.fieldsNe eT dT).1, (I.fieldsNe eT dT).2.1⟩
  refine I.stepN (ch := [x, T]) (fun b hb => ?_) (fun b o hb hs q => k.keep b o (fun z => hb (by simp [z])) (fun z => hb (by simp [z])) hs q) fun b o hb q => k.slot b o (fun z => hb (by simp [z])) (fun z => hb (by simp [z])) q
  have : b = x ∨ b = T := by simpa using hb
  rcases this with rfl | rfl
  · exact one
  · exact two
/-- the context's own frame heads the frames -/
structure Cx.Top (X : Cx) : Prop where
  top : ∃ env outer L, X.stack = env :: outer ∧ env.frame = some L ∧ X.env.frame = some L
theorem Cx.newAt {X : Cx} {σ : St} {H : Hp} {s : Shared} (I : Inv X [] σ H s) {T : Addr} (h : s.heap.objs.size ≤ T) : X.new T := by
  refine ⟨fun o q => ?_, fun p hp z => ?_⟩
  · exact absurd (Nat.lt_of_lt_of_le (Heap.lt_size q) (Nat.le_trans I.sz h)) (Nat.lt_irrefl _)
  · have := Heap.lt_size (I.pin p (List.mem_append_left _ hp)).1
    rw [z] at this
    exact absurd (Nat.lt_of_lt_of_le this h) (Nat.lt_irrefl _)
/-- noteFrame: the exception stays in flight -/
theorem note_fly {E : Value → Shared → Prop} {Q : Unit → Shared → Prop} (I : Inv X [] σ H s) (tp : X.Top) (F : Fly X.new H x C s.heap)
    (h : ∀ h', Inv X [] σ H { s with heap := h' } → Fly X.new H x C h' → (∃ oe vs T, h'.get? x = some oe ∧ oe.data = .fields vs ∧ vs[1]? = some (.ref T)) → Q () { s with heap := h' }) :
    wpAny (model X.prog X.w) X.A (noteFrame (.ref x) X.env) Q E s := by
  obtain ⟨env, outer, L, hst, hf, hfe⟩ := tp.top
  have hfr : X.A.frames = some (env :: outer) := by rw [I.ok.frames, hst]
  have hl : s.heap.FunFrames X.base (env :: outer) := by rw [← hst]; exact I.stack
  obtain ⟨oe, vs, e, ec, ed, d, z, tb⟩ := id F.ob
  rw [noteFrame_same (show X.env.frame = env.frame by rw [hfe, hf])]
  unfold noteFrame
  simp only [hf]
  rcases tb with v | ⟨T, oT, ts, v, nx, eT, dT, zT, hn, hfT⟩
  · refine wpAny_bind (wpAny_field e d v ?_)
    rw [if_neg (by decide)]
    refine entry_fly hfr hl hf e d z fun h' T ⟨oe', vs', a1, a2, a3, a4, a5, a6⟩ ⟨oT, ts, b1, b2, b3⟩ hz k => ?_
    rw [← hst] at k
    refine h h' (I.kept2 F (.inl rfl) k) ⟨⟨oe', vs', a1, a2.trans ec, a3.trans ed, a4, a5, .inr ⟨T, oT, ts, a6, ?_, b1, b2, b3, Cx.newAt I hz, I.hok.fresh hz⟩⟩, F.new, F.free⟩ ⟨_, _, _, a1, a4, a6⟩
    exact Nat.ne_of_gt (Nat.lt_of_lt_of_le (Heap.lt_size e) hz)
  · refine wpAny_bind (wpAny_field e d v ?_)
    rw [if_pos (show (Value.ref T != Value.none) = true from by simp)]
    have v3 : ts[3]? = some ts[3] := by simp [zT]
    refine wpAny_bind (wpAny_field eT dT v3 ?_)
    by_cases hq : (ts[3] == rawInt L) = true
    · rw [if_pos hq]
      exact wpAny_pure (h s.heap I F ⟨_, _, _, e, d, v⟩)
    · rw [if_neg hq]
      refine wpAny_bind (wpAny_setField eT dT zT ?_)
      have oth : ∀ b, b ≠ T → (s.heap.update T (Obj.mapFields (·.setIfInBounds 3 Value.none))).get? b = s.heap.get? b := fun b hb => Heap.get?_update_other _ _ (Ne.symm hb)
      have e2 : (s.heap.update T (Obj.mapFields (·.setIfInBounds 3 Value.none))).get? x = some oe := (oth x (Ne.symm nx)).trans e
      have hl2 : (s.heap.update T (Obj.mapFields (·.setIfInBounds 3 Value.none))).FunFrames X.base (env :: outer) := hl.of_keeps fun b o ho hnf => ⟨o, (oth b fun q => by rw [q, eT] at ho; cases ho; exact hnf ts dT).trans ho, rfl⟩
      refine entry_fly (s := { s with heap := s.heap.update T (Obj.mapFields (·.setIfInBounds 3 Value.none)) }) hfr hl2 hf e2 d z fun h' T' ⟨oe', vs', a1, a2, a3, a4, a5, a6⟩ ⟨oT', ts', b1, b2, b3⟩ hz k => ?_
      rw [← hst] at k
      have hz' : s.heap.objs.size ≤ T' := by
        have e3 : (s.heap.update T (Obj.mapFields (·.setIfInBounds 3 Value.none))).objs.size = s.heap.objs.size := Heap.size_after_update ..
        have hz2 : (s.heap.update T (Obj.mapFields (·.setIfInBounds 3 Value.none))).objs.size ≤ T' := hz
        omega
      have k' : Kept x T (frs X.stack) s.heap h' := ⟨fun b o b1 b2 b3 q => k.keep b o b1 b1 b3 ((oth b b2).trans q), fun b o b1 b2 q => k.slot b o b1 b1 ((oth b b2).trans q)⟩
      refine h h' (I.kept2 F (.inr ⟨_, _, _, _, e, d, v, eT, dT⟩) k') ⟨⟨oe', vs', a1, a2.trans ec, a3.trans ed, a4, a5, .inr ⟨T', oT', ts', a6, ?_, b1, b2, b3, Cx.newAt I hz', I.hok.fresh hz'⟩⟩, F.new, F.free⟩ ⟨_, _, _, a1, a4, a6⟩
      exact Nat.ne_of_gt (Nat.lt_of_lt_of_le (Heap.lt_size e) hz')
/-- setFlight, where there is a traceback -/
theorem flight_fly {A : Around} {E : Value → Shared → Prop} {Q : Unit → Shared → Prop} {f : Option Addr} (I : Inv X [] σ H s) (F : Fly X.new H x C s.heap) (ht : ∃ oe vs T, s.heap.get? x = some oe ∧ oe.data = .fields vs ∧ vs[1]? = some (.ref T))
    (h : ∀ h', Inv X [] σ H { s with heap := h' } → Fly X.new H x C h' → (∃ oe vs T, h'.get? x = some oe ∧ oe.data = .fields vs ∧ vs[1]? = some (.ref T)) → Q () { s with heap := h' }) :
    wpAny (model X.prog X.w) A (setFlight (.ref x) f) Q E s := by
  obtain ⟨oe, vs, e, ec, ed, d, z, tb⟩ := id F.ob
  obtain ⟨oe', vs', T, e', d', v⟩ := ht
  rw [e] at e'
  cases e'
  rw [d] at d'
  cases d'
  rcases tb with v' | ⟨T', oT, ts, v', nx, eT, dT, zT, hn, hfT⟩
  · rw [v'] at v; cases v
  rw [v'] at v
  cases v
  unfold setFlight
  refine wpAny_bind (wpAny_field e d v' ?_)
  rw [if_pos (show (Value.ref T != Value.none) = true from by simp)]
  refine wpAny_setField eT dT zT ?_
  have oth : ∀ b, b ≠ T → (s.heap.update T (Obj.mapFields (·.setIfInBounds 3 (f.elim Value.none fun f => rawInt f)))).get? b = s.heap.get? b := fun b hb => Heap.get?_update_other _ _ (Ne.symm hb)
  have dm := Obj.data_mapFields dT (·.setIfInBounds 3 (f.elim Value.none fun f => rawInt f))
  have e2 := (oth x (Ne.symm nx)).trans e
  refine h _ (I.kept2 F (.inr ⟨_, _, _, _, e, d, v', eT, dT⟩) ⟨fun b o _ b2 _ q => (oth b b2).trans q, fun b o _ b2 q => ⟨o.slots, (oth b b2).trans q⟩⟩)
    ⟨⟨oe, vs, e2, ec, ed, d, z, .inr ⟨T, _, _, v', nx, Heap.get?_update_self _ eT (Obj.isFreed_of_fields dm), dm, by simpa using zT, hn, hfT⟩⟩, F.new, F.free⟩ ⟨_, _, _, e2, d, v'⟩
end
end L2

namespace L2
open PySem PySem.Spec PyProof.Rows
/-! ### how an exception lies behind a call -/
noncomputable def CX1 (P : Program) (w : World) (base : Heap) : CXT := fun outer H s E e s' => ∃ (x C : Addr) (H' : Hp), e = .ref x ∧ s'.os = s.os ∧ AllBare s'.gens ∧ Un (frs outer) [] H H' s.heap s'.heap ∧ HOk P w H' s'.heap ∧
  Fly (fun b => s.heap.get? b = none) H' x C s'.heap ∧ E (.ref C) none H'
/-- the context takes an exception that is as E says -/
noncomputable def Wants (X : Cx) (E : XK) : Prop := ∀ (σ : St) (H' : Hp) (s' : Shared) (x C : Addr), Inv X [] σ H' s' → Fly X.new H' x C s'.heap → E (.ref C) none H' → X.xe (.ref x) s'
theorem newOf {X : Cx} {pins : List (Addr × Obj)} {σ : St} {H : Hp} {s : Shared} (I : Inv X pins σ H s) {b : Addr} (h : s.heap.get? b = none) : X.new b := by
  refine ⟨fun o e => ?_, fun p hp z => ?_⟩
  · by_cases hx : b ∈ X.ex
    · exact hx
    · obtain ⟨o', q⟩ := I.base.there b o e hx
      rw [h] at q
      cases q
  · have := (I.pin p (List.mem_append_left _ hp)).1
    rw [z, h] at this
    cases this
theorem Inv.nopins {X : Cx} {pins : List (Addr × Obj)} {σ : St} {H : Hp} {s : Shared} (I : Inv X pins σ H s) : Inv X [] σ H s := I.pins_of fun p hp => absurd hp (by simp)
theorem Wants.passes {X : Cx} {E : XK} (W : Wants X E) : Passes (CX1 X.prog X.w X.base) X E := fun pins σ H s e s' I ⟨x, C, H', ee, os, bare, un, hok, F, q⟩ => by
  subst ee
  have J : Inv X pins σ H' s' := I.call' (ch := []) os un hok bare fun b z => absurd z (by simp)
  exact W σ H' s' x C J.nopins (F.imp fun b hb => newOf I hb) q
theorem pass1 {P : Program} {w : World} {base : Heap} {X : Cx} : Passes (CX1 P w base) X E0 := fun _ _ _ _ _ _ _ ⟨_, _, _, _, _, _, _, _, _, q⟩ => q.elim
theorem wants_fn {P : Program} {w : World} {K : PySem.W.Frag} {mg : Str → Option Value} {base : Heap} {N : List Str} {qual : Str} {scope : Scope} {f : Addr} {cd : Value} {A : Around} {outer : List Env} {s : Shared} {H : Hp} {E : XK} :
    Wants (cxOf (CX1 P w base) P w K mg base N qual scope f cd A outer s H E) E := fun σ H' s' x C I F q => by
  refine wpAny_bind (note_fly I ⟨⟨_, _, _, rfl, rfl, rfl⟩⟩ F fun h1 I1 F1 t1 => ?_)
  refine flight_fly I1 F1 t1 fun h2 I2 F2 _ => ?_
  refine ⟨x, C, H', rfl, I2.os, I2.bare, I2.base, I2.hok, F2.imp fun b hb => ?_, q⟩
  cases e : s.heap.get? b with
  | none => rfl
  | some o => exact absurd (hb.1 o e) (by simp [cxOf])
section
variable {P : Program} {w : World} {K : PySem.W.Frag} {mg : Str → Option Value} {base : Heap}
theorem Fun.okX {x qual : Str} {st : Stmt} {f : Addr} {fd : FuncData} {N ps : List Str} {k : Nat} {sp : Sp} (F : Fun K x qual st f fd) (S : FnScope N ps (defScope st)) (len : ∀ vs H Q E, sp vs H Q E → vs.length = ps.length)
    (hbody : ∀ (cdv : Value) (A : Around) (outer : List Env) (s : Shared) (H : Hp) (vs : List V) (Q : VK) (E : XK), Room k (A.deeper (envOfC qual (defScope st) s.heap.objs.size f cdv)) → sp vs H Q E →
      ∃ t, PSs (cxOf (CX1 P w base) P w K mg base N qual (defScope st) f cdv A outer s H E) (defBody st) t ∧ t { nx := fun _ H' => Q .non H', rt := Q } (start N vs) H) : FnOk P w K mg base (CX1 P w base) (k + 1) f fd ps sp := by
  obtain ⟨oc, od, kV, doc, pm, an, cdv, ct, osl, rfl, lk, hcd⟩ := F.ex
  exact fn_of lk hcd S len fun A outer s H vs Q E hr hsp => hbody cdv A outer s H vs Q E hr hsp
/-- a def that raises nothing -/
theorem Fun.okN {x qual : Str} {st : Stmt} {f : Addr} {fd : FuncData} {N ps : List Str} {k : Nat} {sp : Sp} (F : Fun K x qual st f fd) (S : FnScope N ps (defScope st)) (len : ∀ vs H Q E, sp vs H Q E → vs.length = ps.length)
    (hbody : ∀ (cdv : Value) (A : Around) (outer : List Env) (s : Shared) (H : Hp) (vs : List V) (Q : VK) (E : XK), Room k (A.deeper (envOfC qual (defScope st) s.heap.objs.size f cdv)) → sp vs H Q E →
      ∃ t, PSs (cxOf (CX1 P w base) P w K mg base N qual (defScope st) f cdv A outer s H E).nox (defBody st) t ∧ t { nx := fun _ H' => Q .non H', rt := Q } (start N vs) H) : FnOk P w K mg base (CX1 P w base) (k + 1) f fd ps sp :=
  F.okX S len fun cdv A outer s H vs Q E hr hsp => let ⟨t, h, q⟩ := hbody cdv A outer s H vs Q E hr hsp; ⟨t, h.nox, q⟩
end
/-! ### classes of exceptions, as the top has made them -/
abbrev bmV : List Value := [.type "ValueError", .type "Exception", .type "BaseException", .type "object"]
structure XCls (K : PySem.W.Frag) (C : Addr) : Prop where
  ex : PySem.W.excIn K C bmV "ValueError.__new__" = true
  ga : PySem.W.findIn K (.ref C) "__getattribute__" = some (some (.builtin "BaseException.__getattribute__"))
  gn : PySem.W.findIn K (.ref C) "__getattr__" = some none
  be : PySem.W.subIn K (.ref C) (.type "BaseException") = some true
  hd : PySem.W.hasDictIn K C = true
  ca : PySem.W.findIn K (.ref C) "__class__" = some (some (.builtin "object.__class__"))
  mo : PySem.W.mroIn K C (.type "object") = some true
  gs : PySem.W.specialIn K (.builtin "object.__class__") "__get__" = some (some (.builtin "getset_descriptor.__get__"))
  tk : PySem.W.takesIn K (.builtin "object.__class__") = some true
theorem XCls.obj {K : PySem.W.Frag} {C : Addr} {h : Heap} (c : XCls K C) (X : K.In h) : ∃ bm N nm q bs hdct sn sub ab col dd k0 k1 k2 k3 k5 mN,
    h.get? C = some (excClassObj nm q C N bs bm hdct sn sub ab col dd k0 k1 k2 k3 k5 "ValueError.__new__") ∧ h.Ns N mN ∧ mN "__init__" = none ∧ OwnTail h bmV bm ∧
    ∀ b r, PySem.W.mroIn K C b = some r → (Value.ref C :: bm).contains b = r := by
  have q := c.ex
  unfold PySem.W.excIn at q
  split at q
  · rename_i dd cd sl ho
    split at q
    · rename_i C' bm k0 k1 k2 k3 n k5 hm hs
      simp only [Bool.and_eq_true, beq_iff_eq, Bool.not_eq_true'] at q
      obtain ⟨⟨⟨⟨⟨rfl, rfl⟩, hdel⟩, ht⟩, hok⟩, hni⟩ := q
      have hmro : ∀ b r, PySem.W.mroIn K C' b = some r → (Value.ref C' :: bm).contains b = r := fun b r e => by
        unfold PySem.W.mroIn PySem.W.clsIn at e
        rw [ho] at e
        simp only [Option.bind_some, hm] at e
        simpa using e
      obtain ⟨nm, bs, mro, ns, qn, hd, sn, sub, ab, col, del⟩ := cd
      dsimp only at hm hdel hok hni
      subst hm hdel
      have hsl : sl = #[k0, k1, k2, k3, some (.builtin "ValueError.__new__"), k5] := by
        obtain ⟨l⟩ := sl
        simp only at hs
        rw [hs]
      subst hsl
      exact ⟨bm, ns, nm, qn, bs, hd, sn, sub, ab, col, dd, k0, k1, k2, k3, k5, _, X _ _ ho, .of_isNs (PySem.W.isNs_of_in X hok), PySem.W.nsMap_none_of_in X hok hni, PySem.W.tail_of_in X ht, hmro⟩
    · cases q
  · cases q
/-! ### raise -/
section
variable {X : Cx}
noncomputable def tRaise (C : Addr) (E : XK) (ta : TA) : TS := fun _ σ H => ta σ H fun vs H1 => vs.length ≤ sizeLine ∧ E (.ref C) none H1
theorem ps_raise {C : Addr} {E : XK} {n : Str} {e : Expr} {es : List Expr} {ta : TA} {np cpos pos : Pos} (xc : XCls X.K C) (W : Wants X E) (hc : X.calm = true) (hg : Gl X n) (hm : X.mg n = some (.ref C)) (ha : PA X (e :: es) ta)
    (hs : starEach (e :: es) X.env = (false, eval e X.env) :: starEach es X.env := by rfl) (hp : (backTo cpos (starEach es X.env)).any (·.1) = false := by rfl) (hdb : (n == ("__debug__" : Str)) = false := by decide) :
    PS X (.Raise (some (.Call (.Name n np) (e :: es) [] cpos)) none pos) (tRaise C E ta) := .mk <| by
  intro pins s σ H D I h
  obtain ⟨bm, N, nm, q, bs, hdct, sn, sub, ab, col, dd, k0, k1, k2, k3, k5, mN, hC, hN, hni, T, _⟩ := xc.obj I.mod.kin
  refine wpAny_Raise_call_subT (C := C) (nm := nm) (q := q) (N := N) (bs := bs) (bm := bm) (hdct := hdct) (sn := sn) (sub := sub) (ab := ab) (col := col) (dd := dd) (k0 := k0) (k1 := k1) (k2 := k2) (k3 := k3) (k5 := k5)
    PySem.F.excBase_ValueError (mN := mN) (T.hasType (by decide)) (I.ok.hd hc) (by rw [hs]; show (false || (backTo cpos (starEach es X.env)).any (·.1)) = false; rw [hp]; rfl) hni (ld_glob I hg hm ⟨rfl, ?_⟩ hdb)
  have hA := ha cpos pins s σ H _ I h
  rw [hs] at hA ⊢
  refine Calls.evalArgs_plain (thn hA fun us s1 ⟨vs, H1, I1, r1, hl, hE⟩ => ⟨rfl, by rw [← r1.length]; exact hl, I1.bk _ _ hC, hN.keeps I1.bk, T.keeps I1.bk, fun h' x mk => ?_⟩)
  obtain ⟨t, e1, _, _⟩ := mk.there
  have J : Inv X [] σ H1 { s1 with heap := h' } := (I1.kept (t' := s1.toks) mk.keeps).nopins
  refine W σ H1 _ x C J ⟨⟨_, _, e1, rfl, rfl, rfl, by simp, .inl rfl⟩, newOf I1 mk.new, ?_⟩ hE
  cases z : H1 x with
  | none => rfl
  | some o =>
    have := (I1.hok x o z)
    have lt : ∃ ob, s1.heap.get? x = some ob := by
      cases o with
      | lst xs => obtain ⟨_, _, _, _, e⟩ := this; exact ⟨_, e⟩
      | tup xs => obtain ⟨_, _, _, p⟩ := this; obtain ⟨ob, e, _⟩ := p; exact ⟨_, e⟩
      | dK kvs => obtain ⟨_, _, _, _, o, _, _, e, _⟩ := this; exact ⟨_, e⟩
      | dT kvs => obtain ⟨_, _, _, _, o, _, _, e, _⟩ := this; exact ⟨_, e⟩
      | set S n => obtain ⟨o, _, _, _, e, _⟩ := this; exact ⟨_, e⟩
      | ins C dx fs => obtain ⟨_, _, _, e, _⟩ := this; exact ⟨_, e⟩
      | own y => exact this
      | xd fs => obtain ⟨_, ⟨_, _, _, e, _⟩, _⟩ := this; exact ⟨_, e⟩
      | rng lo hi => obtain ⟨_, _, _, e⟩ := this; exact ⟨_, e⟩
      | frz ob u => obtain ⟨e, _⟩ := this; exact ⟨_, e⟩
      | tbl ps => exact ⟨_, (show s1.heap.get? x = some _ from this)⟩
      | met f y => exact ⟨_, (show s1.heap.get? x = some _ from this)⟩
      | ext φ => obtain ⟨_, e, _⟩ := this; exact e
    obtain ⟨ob, e⟩ := lt
    rw [mk.new] at e
    cases e
end
end L2

namespace L2
open PySem PySem.Spec PyProof.Rows
section
variable {X : Cx} {pins : List (Addr × Obj)} {σ : St} {H : Hp} {s : Shared} {x C D : Addr}
/-! ### a call whose exception is caught here: the frame's slots are as they were -/
/-! ### try: y = e, except D as n: .. -/
end
end L2

namespace L2
open PySem PySem.Spec PyProof.Rows
/-! ### isinstance of an exception that is held -/
section
variable {X : Cx}
end
/-! ### a comprehension in which a call may raise -/
section
variable {X : Cx}
theorem comp_wants {pins : List (Addr × Obj)} {σ : St} {s3 : Shared} {H3 : Hp} {fp : List Addr} {scope : Scope} {N' : List Str} {E : XK} {Q : VK} {D : Addr} (I3 : Inv X pins σ H3 s3) (hf : ∀ b ∈ fp, FpOk X pins H3 b) (tp : X.Top) (W : Wants X E) :
    Wants (X.comp scope s3.heap.objs.size s3 H3 fp N' (notedBy (model X.prog X.w) X.A (compEnvC scope (clOf scope X.env) s3.heap.objs.size X.env) fun e s' => compPost (model X.prog X.w) X.A X.xe none (EP X pins σ Q) (.ref D) s3.heap.objs.size (.error e) s')) E := by
  intro σ' H' s' x C I F q
  obtain ⟨E', hE⟩ : ∃ E', E' = (notedBy (model X.prog X.w) X.A (compEnvC scope (clOf scope X.env) s3.heap.objs.size X.env) fun e s' => compPost (model X.prog X.w) X.A X.xe none (EP X pins σ Q) (.ref D) s3.heap.objs.size (.error e) s') := ⟨_, rfl⟩
  rw [← hE] at I F
  have tp' : (X.comp scope s3.heap.objs.size s3 H3 fp N' E').Top := by
    obtain ⟨env, outer, L, a, b, c⟩ := tp.top
    exact ⟨env, outer, L, a, b, c⟩
  show (notedBy (model X.prog X.w) X.A (compEnvC scope (clOf scope X.env) s3.heap.objs.size X.env) fun e s' => compPost (model X.prog X.w) X.A X.xe none (EP X pins σ Q) (.ref D) s3.heap.objs.size (.error e) s') (.ref x) s'
  refine note_fly (X := X.comp scope s3.heap.objs.size s3 H3 fp N' E') I tp' F fun h1 I1 F1 t1 => ?_
  obtain ⟨m, hn, _⟩ := I1.loc
  refine ⟨m, hn, fun h2 hs cenv hc => ?_⟩
  have new : ∀ b, (X.comp scope s3.heap.objs.size s3 H3 fp N' E').new b → X.new b := fun b hb => by
    refine ⟨fun o e => ?_, fun p hp z => ?_⟩
    · by_cases hx : b ∈ X.ex
      · exact hx
      · obtain ⟨o', q'⟩ := I3.base.there b o e hx
        rcases (hf b (hb.1 o' q')).2.2.2.1 with z | z
        · exact z
        · exact absurd (Nat.lt_of_lt_of_le (Heap.lt_size e) z) (Nat.lt_irrefl _)
    · have e := (I3.pin p (List.mem_append_left _ hp)).1
      rw [z] at e
      exact (hf b (hb.1 _ e)).2.2.2.2.2 p (List.mem_append_left _ hp) z
  have J1 : Inv X pins σ H' { s' with heap := h1 } := comp_back I3 hf I1
  have xC : ∀ (b : Addr) (o : Obj) (vs : Array Value), h1.get? b = some o → o.data = .fields vs → b ≠ s3.heap.objs.size := fun b o vs e d => (I1.fieldsNe (show ({ s' with heap := h1 } : Shared).heap.get? b = some o from e) d).1
  have J2 : Inv X [] σ H' { s' with heap := h2 } := by
    refine (J1.turnedL (ch := [s3.heap.objs.size]) (t' := s'.toks) (fun b hb' => ?_) fun b u hb' e => (hs.2 b fun z => hb' (by simp [z])).trans e).nopins
    have eb : b = s3.heap.objs.size := by simpa using hb'
    subst eb
    exact I3.fpOk (Nat.le_refl _) I1.free
  have F2 : Fly X.new H' x C h2 := by
    obtain ⟨⟨oe, vs, a1, a2, a3, a4, a5, a6⟩, b, c⟩ := F1.imp new
    refine ⟨⟨oe, vs, (hs.2 x (xC x oe vs a1 a4)).trans a1, a2, a3, a4, a5, a6.imp id ?_⟩, b, c⟩
    rintro ⟨T, oT, ts, t1, t2, t3, t4, t5⟩
    exact ⟨T, oT, ts, t1, t2, (hs.2 T (xC T oT ts t3 t4)).trans t3, t4, t5⟩
  obtain ⟨oe, vs, T, e1, d1, v1⟩ := t1
  have e2 : h2.get? x = some oe := (hs.2 x (xC x oe vs e1 d1)).trans e1
  unfold PySem.passOn
  refine wpAny_bind (wpAny_field e2 d1 v1 ?_)
  rw [if_neg (by simp)]
  refine wpAny_bind (flight_fly (X := X) (s := { s' with heap := h2 }) J2 F2 ⟨_, _, _, e2, d1, v1⟩ fun h3 J3 F3 _ => ?_)
  exact wpAny_throw (W σ H' _ x C J3 F3 q)
theorem pe_compX {elt tg iter : Expr} {ifs : List Expr} {scope : Scope} {pos : Pos} {wi : TI} {g : TG} {ti : TT} {te : TE} (E : XK) (N' : List Str) (nt : Nat) (cap : List Nat) (W : Wants X E) (tp : X.Top)
    (hc : X.calm = true) (hi : PI X tg iter wi) (hgk : GKeeps nt g)
    (hg : ∀ C s₀ H₀ fp E', PG (X.comp scope C s₀ H₀ fp N' E') tg g)
    (hif : ∀ C s₀ H₀ fp E', PIf (X.comp scope C s₀ H₀ fp N' E') ifs ti)
    (he : ∀ C s₀ H₀ fp E', Wants (X.comp scope C s₀ H₀ fp N' E') E → PE (X.comp scope C s₀ H₀ fp N' E') elt te)
    (hk : scope.kind = .function := by rfl) (hb : compOk scope X.env = true := by rfl) (hcap : capOk X scope N' nt cap = true := by rfl)
    (hs : ∀ x, foldedSetIterable iter X.env x = pure x := by intro _; rfl) : PE X (.ListComp elt [⟨tg, iter, ifs, 0⟩] scope pos) (tComp wi nt cap g ti te) :=
  comp_core (fun C s₀ H₀ fp E' => Wants (X.comp scope C s₀ H₀ fp N' E') E) (fun pins σ s3 H3 fp Q D I hf => comp_wants I hf tp W) hc hi (fun C s₀ H₀ fp E' _ => hg C s₀ H₀ fp E') (fun C s₀ H₀ fp E' _ => hif C s₀ H₀ fp E') (fun C s₀ H₀ fp E' w => he C s₀ H₀ fp E' w) hk hb hcap hgk hs
end
/-! ### the law's own head, where exceptions are caught within -/
theorem walk_ofX {l : PySem.W.OpenLaw} {n k : Nat} {q : Program} {loose : List Str} {XP : (Str → Option Value) → Heap → Prop} {YP : World → Heap → Prop} {d : DefRec} {K : Params → PySem.W.Frag} {sp : World → Sp} {x : Str}
    (hn : l.most = some n) (hn2 : n ≤ sizeLine) (hdf : d.params.defaults = []) (hr : Room k callerA) (hY : ∀ (w : World) (h : Heap), YP w h → (K w.params).In h)
    (F : ∀ (w : World) (mg : Str → Option Value) (fa : Addr) (h : Heap), (K w.params).In h → h.Ns mainGlobals mg → mg d.name = some (.ref fa) →
      ∃ fd : FuncData, (∀ (s : Shared) (u : Value), BindsTo s fd ⟨[u], []⟩ [(x, u)]) ∧ ∀ base : Heap, (K w.params).In base → base.Ns mainGlobals mg → FnOk l.prog w (K w.params) mg base (CX1 l.prog w base) k fa fd [x] (sp w))
    (hsp : ∀ (w : World) (H : Hp) (a : Addr) (ns : List Int), ns.length ≤ n → Only H → SqL (K w.params) H a (ns.map V.int) → sp w [.ref a] H (fun v _ => v = .bl true) fun _ _ _ => False) :
    PySem.W.WalkO q loose XP YP l.row.toRowW d [] (fun f vs => PySem.call f vs) := by
  refine walk_of (x := x) (K := K) (CX := fun _ _ _ _ _ _ _ => False) (sp := fun w vs H Q E => sp w vs H Q fun _ _ _ => False) hn hn2 hdf hr hY (fun w mg fa h a b c => ?_) (fun w H a ns h1 h2 h3 => hsp w H a ns h1 h2 h3) fun _ _ _ _ _ z => z
  obtain ⟨fd, hb, hF⟩ := F w mg fa h a b c
  refine ⟨fd, hb, fun base h1 h2 => ?_⟩
  have G := hF base h1 h2
  refine ⟨fun vs H Q E h => G.len vs H Q _ h, fun A outer s H args us vs Q E hr he hbi hv h => codeAny_mono (G.run A outer s H args us vs Q _ hr he hbi hv h) fun r s' z => ?_⟩
  cases r with
  | error e => obtain ⟨_, _, _, _, _, _, _, _, _, z⟩ := z; exact z
  | ok fl => cases fl <;> exact z
end L2

namespace L2
open PySem PySem.Spec PyProof.Rows PySem.NumText
/-! ### promises whose premise speaks of the heap -/
section
variable {P : Program} {w : World} {K : PySem.W.Frag} {mg : Str → Option Value} {base : Heap} {CX : CXT} {k : Nat} {f : Addr} {fd : FuncData} {ps : List Str}
end
/-! ### texts by their codes -/
/-! ### figures -/
section
variable {X : Cx}
end
end L2

namespace L2
open PySem PySem.Spec PyProof.Rows PySem.NumText
/-! ### a text cut at a sign -/
section
variable {X : Cx}
/-! ### the greatest of a tuple of ints -/
end

/-! ### comprehensions over a list, a tuple -/
theorem Same.seqT {K : PySem.W.Frag} {H H' : Hp} {a : Addr} {xs : List V} (e : Same H H') (h : SqT K H a xs) : SqT K H' a xs := by
  rcases h with h | h
  · rcases h with h | ⟨o, h⟩
    · exact .inl (.inl (e _ _ h))
    · exact .inl (.inr ⟨o, e _ _ h⟩)
  · exact .inr h
/-- a comprehension whose items may lay new things: R holds of each item made, and goes on holding -/
theorem comp_gen {J : It} {n : Nat} {nt : Nat} {cap : List Nat} {g : TG} {te : TE} {σ : St} {H1 : Hp} {Q : VK} {D : Addr} (val : Nat → V) (R : Nat → V → Hp → Prop) (hD : H1 D = none) (hP : Plain H1) (hx : n ≤ sizeLine)
    (hJ : ∀ i H2, Same H1 H2 → (i < n → J.go i H2) ∧ (J.stop n H2) ∧ ∀ x H3, i < n → J.yld i H2 x H3 → H3 = H2 ∧ x = val i)
    (mono : ∀ i y H H', R i y H → (∀ b o, b ≠ D → H b = some o → H' b = some o) → (∃ zs, H D = some (.lst zs)) → R i y H')
    (step : ∀ (i : Nat) H2 (T : VK), i < n → Plain H2 → Same H1 H2 → (∀ y H6, R i y H6 → Same H2 H6 → Plain H6 → T y H6) → g (val i) (List.replicate nt none ++ caps cap σ) H2 fun σ4 H4 => te σ4 H4 T)
    (fin : ∀ ys H2, ys.length = n → (∀ (i : Nat) y, ys[i]? = some y → R i y H2) → H2 D = some (.lst ys) → Same H1 H2 → Plain H2 → Q (.ref D) H2) :
    CompW J D nt cap g tYes te σ H1 Q := by
  refine ⟨fun i m ys H2 => m = n - i ∧ i ≤ n ∧ ys.length = i ∧ H2 D = some (.lst ys) ∧ Same H1 H2 ∧ Plain H2 ∧ ∀ (j : Nat) y, ys[j]? = some y → R j y H2, ⟨_, rfl, Nat.zero_le _, rfl, upd_same, same_upd hD, hP.lst, fun j y e => by simp at e⟩, ?_⟩
  rintro i m ys H2 ⟨rfl, hi, hl, hd, hs, hp, hr⟩
  refine ⟨hd, ?_⟩
  obtain ⟨j1, j2, j3⟩ := hJ i H2 hs
  by_cases hlt : i < n
  · refine .inr ⟨j1 hlt, by omega, fun v H3 hy => ?_⟩
    obtain ⟨rfl, rfl⟩ := j3 v H3 hlt hy
    simp only [tYes, if_true]
    refine step i _ _ hlt hp hs fun y H6 hR hs6 hp6 => ⟨hs6 _ _ hd, _, by omega, rfl, hlt, by simp [hl], upd_same, ?_, hp6.lst, ?_⟩
    · exact (hs.trans hs6).upd hD
    · intro j z e
      have up : ∀ b o, b ≠ D → H6 b = some o → (upd H6 D (.lst (ys ++ [y]))) b = some o := fun b o hb e => by rw [upd_ne hb]; exact e
      rcases Nat.lt_or_ge j ys.length with hj | hj
      · rw [List.getElem?_append_left hj] at e
        refine mono j z H6 _ (mono j z _ H6 (hr j z e) (fun b o _ e => hs6 b o e) ⟨_, hd⟩) up ⟨_, hs6 _ _ hd⟩
      · rw [List.getElem?_append_right hj] at e
        have hj0 : j - ys.length = 0 := by
          rcases Nat.eq_zero_or_pos (j - ys.length) with h0 | h0
          · exact h0
          · rw [List.getElem?_eq_none (by simp; omega)] at e; cases e
        rw [hj0] at e
        simp at e
        subst e
        have : j = i := by omega
        subst this
        exact mono j y H6 _ hR up ⟨_, hs6 _ _ hd⟩
  · have e : i = n := by omega
    subst e
    exact .inl ⟨j2, fin ys H2 hl hr hd hs hp⟩
theorem itl_ok {K : PySem.W.Frag} {a : Addr} {xs : List V} {H1 : Hp} (h : SqL K H1 a xs) : ∀ i H2, Same H1 H2 → (i < xs.length → (Itl K a).go i H2) ∧ ((Itl K a).stop xs.length H2) ∧ ∀ x H3, i < xs.length → (Itl K a).yld i H2 x H3 → H3 = H2 ∧ x = xs.getD i .non := fun i H2 e => by
  refine ⟨fun hi => ⟨xs, xs[i], e.seq h, by simp [hi]⟩, ⟨xs, e.seq h, Nat.le_refl _⟩, fun x H3 hi y => ⟨y.1, ?_⟩⟩
  have := y.2 xs (e.seq h)
  rw [List.getD_eq_getElem?_getD, this]; rfl
/-! ### == of plain data, however deep -/
mutual
noncomputable def DV (K : PySem.W.Frag) (H : Hp) : PyData → V → Prop
  | .none, v => v = .non
  | .bool b, v => v = .bl b
  | .int i, v => v = .int i
  | .str x, v => v = .str x
  | .list xs, v => ∃ a vs, v = .ref a ∧ SqL K H a vs ∧ DVs K H xs vs
  | .tuple xs, v => ∃ a vs, v = .ref a ∧ SqT K H a vs ∧ DVs K H xs vs
  | .dict _, _ => False
noncomputable def DVs (K : PySem.W.Frag) (H : Hp) : List PyData → List V → Prop
  | [], vs => vs = []
  | d :: ds, vs => ∃ v r, vs = v :: r ∧ DV K H d v ∧ DVs K H ds r
end
mutual
theorem DV.same {K : PySem.W.Frag} {H H' : Hp} (e : Same H H') : ∀ (d : PyData) (v : V), DV K H d v → DV K H' d v
  | .none, v, h => h
  | .bool b, v, h => h
  | .int i, v, h => h
  | .str x, v, h => h
  | .list xs, v, ⟨a, vs, h1, h2, h3⟩ => ⟨a, vs, h1, e.seq h2, DVs.same e xs vs h3⟩
  | .tuple xs, v, ⟨a, vs, h1, h2, h3⟩ => ⟨a, vs, h1, e.seqT h2, DVs.same e xs vs h3⟩
  | .dict _, v, h => h.elim
theorem DVs.same {K : PySem.W.Frag} {H H' : Hp} (e : Same H H') : ∀ (ds : List PyData) (vs : List V), DVs K H ds vs → DVs K H' ds vs
  | [], vs, h => h
  | d :: ds, vs, ⟨v, r, h1, h2, h3⟩ => ⟨v, r, h1, DV.same e d v h2, DVs.same e ds r h3⟩
end
section
variable {X : Cx} {pins : List (Addr × Obj)} {σ : St} {H : Hp} {s : Shared}
mutual
theorem DV.reads (I : Inv X pins σ H s) : ∀ (d : PyData) (v : V) (u : Value), DV X.K H d v → RelV v u → ∃ as, Reads s.heap u d as
  | .none, v, u, h, r => by cases (show v = V.non from h); cases r; exact ⟨_, .none⟩
  | .bool b, v, u, h, r => by cases (show v = V.bl b from h); cases r; exact ⟨_, .bool b⟩
  | .int i, v, u, h, r => by cases (show v = V.int i from h); obtain ⟨t, rfl⟩ := r; exact ⟨_, .int i t⟩
  | .str x, v, u, h, r => by cases (show v = V.str x from h); obtain ⟨t, rfl⟩ := r; exact ⟨_, .str x t⟩
  | .list xs, v, u, h, r => by
    obtain ⟨a, vs, rfl, h2, h3⟩ := h
    cases r
    obtain ⟨its, rv, pl, _⟩ := I.list h2
    obtain ⟨o, ho, hc, n, hd⟩ := pl.isList
    obtain ⟨as, ra⟩ := DVs.reads I xs vs its h3 rv
    exact ⟨_, .list ho hc hd (by simpa using ra)⟩
  | .tuple xs, v, u, h, r => by
    obtain ⟨a, vs, rfl, h2, h3⟩ := h
    cases r
    obtain ⟨its, rv, pl, _⟩ := I.tuple h2
    obtain ⟨o, ho, hc, n, hd⟩ := pl
    obtain ⟨as, ra⟩ := DVs.reads I xs vs its h3 rv
    exact ⟨_, .tuple ho hc hd (by simpa using ra)⟩
  | .dict _, v, u, h, r => h.elim
theorem DVs.reads (I : Inv X pins σ H s) : ∀ (ds : List PyData) (vs : List V) (us : List Value), DVs X.K H ds vs → Vals vs us → ∃ as, ReadsAll s.heap us ds as
  | [], vs, us, h, r => by cases (show vs = [] from h); cases r; exact ⟨_, .nil⟩
  | d :: ds, vs, us, h, r => by
    obtain ⟨v, rest, rfl, h2, h3⟩ := h
    cases r with
    | cons r rr =>
      obtain ⟨as, ra⟩ := DV.reads I d _ _ h2 r
      obtain ⟨bs, rb⟩ := DVs.reads I ds _ _ h3 rr
      exact ⟨_, .cons ra rb⟩
end
end
section
variable {X : Cx}
noncomputable def rEqD (K : PySem.W.Frag) : R2 := fun x y H Q => ∃ d e, DV K H d x ∧ DV K H e y ∧ SeqAt.shaped d = true ∧ SeqAt.shaped e = true ∧ Q (.bl (PyData.eqv d e)) H
noncomputable def rNeD (K : PySem.W.Frag) : R2 := fun x y H Q => ∃ d e, DV K H d x ∧ DV K H e y ∧ SeqAt.shaped d = true ∧ SeqAt.shaped e = true ∧ Q (.bl (!PyData.eqv d e)) H
theorem op_eqD (hu : X.A.units + 64 < cLine) : OpR X (compareOp .Eq) (rEqD X.K) := by
  intro pins s σ H x y v u Q I rx ry h
  obtain ⟨d, e, hd, he, sd, se, q⟩ := h
  obtain ⟨as, ra⟩ := DV.reads I d x v hd rx
  obtain ⟨bs, rb⟩ := DV.reads I e y u he ry
  exact SeqAt.compareEq_shaped ra rb sd se hu ⟨.bl _, H, I, rfl, q⟩
theorem op_neD (hu : X.A.units + 64 < cLine) : OpR X (compareOp .NotEq) (rNeD X.K) := by
  intro pins s σ H x y v u Q I rx ry h
  obtain ⟨d, e, hd, he, sd, se, q⟩ := h
  obtain ⟨as, ra⟩ := DV.reads I d x v hd rx
  obtain ⟨bs, rb⟩ := DV.reads I e y u he ry
  exact SeqAt.compareNe_shaped ra rb sd se hu ⟨.bl _, H, I, rfl, q⟩
end
/-! ### a promise of any kind -/
noncomputable def genSp {α : Type} (Pre : α → List V → Hp → Prop) (Post : α → V → Hp → Prop) (Exc : α → Addr → Prop) : Sp := fun vs H Q E => Plain H ∧ ∃ a, Pre a vs H ∧ (∀ v H', Post a v H' → Same H H' → Plain H' → Q v H') ∧ (∀ C H', Exc a C → Same H H' → Plain H' → E (.ref C) none H')

end L2

namespace L2
open PySem PySem.Spec PyProof.Rows PySem.NumText
/-! ### a comprehension that is given to a name: the name is stored ahead of the variables' end -/
section
variable {X : Cx}
theorem comp_coreU {use : Option (Value → Sem Unit)} {QQ : Value → Shared → Prop} {p0 : Pos} {pins : List (Addr × Obj)} {s : Shared} {σ : St} {H : Hp} {Q : VK} {elt tg iter : Expr} {ifs : List Expr} {scope : Scope} {pos : Pos} {N' : List Str} {nt : Nat} {cap : List Nat} {wi : TI} {g : TG} {ti : TT} {te : TE}
    (EK : Addr → Shared → Hp → List Addr → (Value → Shared → Prop) → Prop)
    (hE : ∀ (pins : List (Addr × Obj)) (σ : St) (s3 : Shared) (H3 : Hp) (fp : List Addr) (Q : VK) (D : Addr), Inv X pins σ H3 s3 → (∀ b ∈ fp, FpOk X pins H3 b) →
      EK s3.heap.objs.size s3 H3 fp (notedBy (model X.prog X.w) X.A (compEnvC scope (clOf scope X.env) s3.heap.objs.size X.env) fun e s' => compPost (model X.prog X.w) X.A X.xe none (EP X pins σ Q) (.ref D) s3.heap.objs.size (.error e) s'))
    (hc : X.calm = true) (hi : PI X tg iter wi)
    (hg : ∀ C s₀ H₀ fp E', EK C s₀ H₀ fp E' → PG (X.comp scope C s₀ H₀ fp N' E') tg g)
    (hif : ∀ C s₀ H₀ fp E', EK C s₀ H₀ fp E' → PIf (X.comp scope C s₀ H₀ fp N' E') ifs ti)
    (he : ∀ C s₀ H₀ fp E', EK C s₀ H₀ fp E' → PE (X.comp scope C s₀ H₀ fp N' E') elt te)
    (hk : scope.kind = .function) (hb : compOk scope X.env = true) (hcap : capOk X scope N' nt cap = true)
    (hgk : GKeeps nt g) (hs : ∀ x, foldedSetIterable iter X.env x = pure x) (I : Inv X pins σ H s) (h : tComp wi nt cap g ti te σ H Q)
    (fin : ∀ (D C : Addr) (m : Str → Option Value) (H5 : Hp) (s6 : Shared), Inv X pins σ H5 s6 → Q (.ref D) H5 → s6.heap.Ns C m → C ≠ X.env.locals → (∀ x c, X.env.cells.lookup x = some c → c ≠ C) → (∀ H', H' C = none → FpOk X pins H' C) → H5 C = none →
      compPost (model X.prog X.w) X.A X.xe use QQ (.ref D) C (.ok .next) s6) :
    wpAny (model X.prog X.w) X.A (comprehension (.ListComp elt [⟨tg, iter, ifs, 0⟩] scope pos) scope X.env p0 (newList []) false (eval iter X.env) use) QQ X.xe s := by
  have hclos : closureFor scope X.env = pure (clOf scope X.env) := closure_is fun p hp e => I.ok.has p.1 (compOk_free hb p hp e)
  refine wpAny_comprehension_free (use := use) rfl hs hclos hk (compOk_local hb) (thn (hi pins s σ H _ I h) fun v s1 h1 => thn h1 fun itv s2 h2 => ?_)
  obtain ⟨it, fp, tn, J, H2, e, I2, T, st2, f2, q2⟩ := h2
  subst e
  refine wpAny_newObj_type (wpAny_newFunctionEnv (compOk_cell hb) (by intro y hy; simp at hy) (fun h₁ hns₁ hsb₁ => ?_) hk)
  have I3 := I2.lnew (ys := []) (its := []) (t' := s2.toks) .nil (Nat.zero_le _)
  have hfl : ∀ b ∈ fp, b < s2.heap.objs.size := fun b hb' => let ⟨o, e, _⟩ := T.obj 0 _ st2 b hb'; Heap.lt_size e
  obtain ⟨W, ⟨m0, w0⟩, turn⟩ := q2 s2.heap.objs.size (I2.hok.fresh (Nat.le_refl _))
  have nD : ∀ b ∈ fp, b ≠ s2.heap.objs.size := fun b hb' => Nat.ne_of_lt (hfl b hb')
  have f3 : ∀ b ∈ fp, FpOk X pins (upd H2 s2.heap.objs.size (.lst [])) b := fun b hb' => ⟨by rw [upd_ne (nD b hb')]; exact (f2 b hb').1, (f2 b hb').2⟩
  obtain ⟨s3, hs3⟩ : ∃ s3 : Shared, s3 = { s2 with heap := s2.heap.push { cls := .type "list", data := .seq ([] : List Value).toArray }, toks := s2.toks } := ⟨_, rfl⟩
  have hs3' : s3.heap = s2.heap.push { cls := .type "list", data := .seq ([] : List Value).toArray } := by rw [hs3]
  rw [← hs3] at I3
  have hsz : s3.heap.objs.size = s2.heap.objs.size + 1 := by rw [hs3', Heap.size_push]
  have hfl3 : ∀ b ∈ fp, b < s3.heap.objs.size := fun b hb' => by rw [hsz]; exact Nat.lt_succ_of_lt (hfl b hb')
  have hC : (s2.heap.push { cls := Value.type "list", dict := none, data := Data.seq ([] : List Value).toArray }).objs.size = s3.heap.objs.size := by rw [hs3']
  dsimp only at hns₁ hsb₁ ⊢
  rw [hC] at hns₁ hsb₁ ⊢
  rw [← hs3'] at hsb₁
  have kp : ∀ b o, s3.heap.get? b = some o → h₁.get? b = some o := fun b o e => hsb₁.extBut b o (Nat.ne_of_lt (Heap.lt_size e)) (Heap.get?_push_of_some _ e)
  have hEE := hE pins σ s3 _ fp Q s2.heap.objs.size I3 f3
  generalize hE' : (notedBy (model X.prog X.w) X.A (compEnvC scope (clOf scope X.env) s3.heap.objs.size X.env) fun e s' => compPost (model X.prog X.w) X.A X.xe none (EP X pins σ Q) (.ref s2.heap.objs.size) s3.heap.objs.size (.error e) s') = E' at hEE
  have hE2 : (notedBy (model X.prog X.w) X.A (compEnvC scope (clOf scope X.env) s3.heap.objs.size X.env) fun e s' => compPost (model X.prog X.w) X.A X.xe use QQ (.ref s2.heap.objs.size) s3.heap.objs.size (.error e) s') = E' := hE'
  have I4 := comp_start (t4 := s2.toks + ([] : List (Str × Value)).length) (E' := E') I3 hk hb hcap f3 hfl3 hns₁ kp
  have st4 : tn 0 h₁ := T.keep 0 _ _ st2 fun b hb' o e => kp b o (by rw [hs3']; exact Heap.get?_push_of_some _ e)
  obtain ⟨s4, hs4⟩ : ∃ s4 : Shared, s4 = { s3 with heap := h₁, toks := s2.toks + ([] : List (Str × Value)).length } := ⟨_, rfl⟩
  rw [← hs4] at I4
  have st4' : tn 0 s4.heap := by rw [hs4]; exact st4
  have cin : ∀ x c, (clOf scope X.env).lookup x = some c → X.env.cells.lookup x = some c := fun x c e => cl_in scope.names [] (fun y d q => by simp at q) e
  have stat : ∀ {H' : Hp}, (∀ b ∈ fp, H' b = none) → ∀ b ∈ fp, FpOk (X.comp scope s3.heap.objs.size s3 (upd H2 s2.heap.objs.size (.lst [])) fp N' E') [] H' b := fun hn b hb' => by
    refine ⟨hn b hb', Nat.ne_of_lt (hfl3 b hb'), fun z => ?_, .inl hb', fun x c e => (f3 b hb').2.2.2.2.1 x c (cin x c e), fun p hp => absurd hp (by simp [Cx.comp])⟩
    rcases List.mem_cons.mp (I3.stkSub b z) with z | z
    · exact (f3 b hb').2.1 z
    · exact (f3 b hb').2.2.1 z
  have loop : codeAny (model X.prog X.w) X.A (.compLoop (.ListComp elt [⟨tg, iter, ifs, 0⟩] scope pos) 0 (.ref it) (.ref s2.heap.objs.size) (compEnvC scope (clOf scope X.env) s3.heap.objs.size X.env))
      (compPost (model X.prog X.w) X.A X.xe use QQ (.ref s2.heap.objs.size) s3.heap.objs.size) s4 := by
    refine compLoop_gen (fun n s' => ∃ i ys H', Inv (X.comp scope s3.heap.objs.size s3 (upd H2 s2.heap.objs.size (.lst [])) fp N' E') [] (List.replicate nt none ++ caps cap σ) H' s' ∧ tn i s'.heap ∧ (∀ b ∈ fp, H' b = none) ∧ W i n ys H') ?_ m0
      ⟨0, [], _, I4, st4', fun b hb' => (f3 b hb').1, w0⟩
    rintro n s5 ⟨i, ys, H5, I5, st5, fr5, w5⟩
    rw [hE2]
    obtain ⟨hD5, alt⟩ := turn i n ys H5 w5
    rcases alt with ⟨stop, qn⟩ | ⟨go, hyl, step⟩
    · refine thn (T.done (X.comp scope s3.heap.objs.size s3 (upd H2 s2.heap.objs.size (.lst [])) fp N' E') rfl rfl rfl hc i [] s5 _ H5 E' I5 (stat fr5) st5 stop) fun r s6 ⟨hr, I6⟩ => ?_
      subst hr
      obtain ⟨m6, hn6, _⟩ := I6.loc
      have I7 := comp_back I3 f3 I6
      refine fin _ _ m6 H5 s6 I7 qn hn6 ?_ ?_ (fun H' hn => I3.fpOk (Nat.le_refl _) hn) I6.free
      · intro z
        exact absurd (Nat.lt_of_lt_of_le I3.lt (Nat.le_of_eq z)) (Nat.lt_irrefl _)
      · intro x c e z
        obtain ⟨v, q⟩ := I3.cell x c e
        exact absurd (Nat.lt_of_lt_of_le q.lt (by rw [z]; exact Nat.le_refl _)) (Nat.lt_irrefl _)
    · refine thn (T.item (X.comp scope s3.heap.objs.size s3 (upd H2 s2.heap.objs.size (.lst [])) fp N' E') rfl rfl rfl hc i [] s5 _ H5 E' I5 (stat fr5) st5 go) fun r s6 ⟨u, hr, h6⟩ => ?_
      subst hr
      refine thn h6 fun _ s7 ⟨x, H7, I7, r7, y7, st7, fr7⟩ => ?_
      have I7' := I7.pinned (stat fr7) (T.obj _ _ st7)
      have again : ∀ {σ8 : St} {H8 : Hp} {ys' : List V} {s8 : Shared}, Inv (X.comp scope s3.heap.objs.size s3 (upd H2 s2.heap.objs.size (.lst [])) fp N' E') ([] ++ pinsAt fp s7.heap) σ8 H8 s8 → (∃ m', m' < n ∧ W (i + 1) m' ys' H8) → (∀ (j : Nat) v, (List.replicate nt none ++ caps cap σ)[j]? = some (some v) → σ8[j]? = some (some v)) →
          ∃ m, m < n ∧ ∃ i ys H', Inv (X.comp scope s3.heap.objs.size s3 (upd H2 s2.heap.objs.size (.lst [])) fp N' E') [] (List.replicate nt none ++ caps cap σ) H' s8 ∧ tn i s8.heap ∧ (∀ b ∈ fp, H' b = none) ∧ W i m ys H' := fun {σ8 H8 ys' s8} I8 ⟨m', hm, w8⟩ hσ => by
        refine ⟨m', hm, i + 1, ys', H8, I8.unpinned.weak (by rw [I8.len, I5.len]) hσ, T.keep _ _ _ st7 fun b hb o e => (I8.pin (b, o) (List.mem_append_right _ (List.mem_append_right _ (mem_pinsAt hb e)))).1, fun b hb => ?_, w8⟩
        obtain ⟨o, e, d⟩ := T.obj _ _ st7 b hb
        exact (I8.pin (b, o) (List.mem_append_right _ (List.mem_append_right _ (mem_pinsAt hb e)))).2.1
      refine thn (hg _ _ _ _ _ hEE _ s7 _ H7 x u _ I7' r7 (hgk x _ H7 _ (step x H7 y7))) fun _ s8 ⟨σ8, H8, I8, q8, hσ⟩ => ?_
      refine thn (hif _ _ _ _ _ hEE _ s8 σ8 H8 _ I8 q8) fun ok s9 ⟨H9, I9, q9⟩ => ?_
      cases ok with
      | false =>
        rw [if_neg Bool.false_ne_true] at q9 ⊢
        exact again I9 q9 hσ
      | true =>
        rw [if_pos rfl] at q9 ⊢
        refine thn (he _ _ _ _ _ hEE _ s9 σ8 H9 _ I9 q9) fun y s10 ⟨vy, H10, I10, r10, hD10, hm10⟩ => ?_
        exact thn (mt_append (X := X.comp scope s3.heap.objs.size s3 (upd H2 s2.heap.objs.size (.lst [])) fp N' E') _ s10 σ8 H10 (.ref s2.heap.objs.size) [vy] (.ref s2.heap.objs.size) [y] (fun _ H' => H' = upd H10 s2.heap.objs.size (.lst (ys ++ [vy]))) I10 rfl (.cons r10 .nil) ⟨_, _, _, rfl, rfl, hD10, hyl, rfl⟩) fun _ s11 ⟨_, H11, I11, _, e11⟩ => by
          subst e11
          exact again I11 hm10 hσ
  have e4 : ({ s2 with heap := h₁, toks := s2.toks + ([] : List (Str × Value)).length } : Shared) = s4 := by rw [hs4, hs3]
  show codeAny _ _ _ _ { s2 with heap := h₁, toks := s2.toks + ([] : List (Str × Value)).length }
  rw [e4]
  exact codeAny_compStart_list loop (T.self X.A 0 s4 _ _ st4' loop)

theorem set_core {elt tg iter : Expr} {ifs : List Expr} {scope : Scope} {cpos pos pos' : Pos} {N' : List Str} {nt : Nat} {cap : List Nat} {wi : TI} {g : TG} {ti : TT} {te : TE} {i : Nat} {x : Str}
    (EK : Addr → Shared → Hp → List Addr → (Value → Shared → Prop) → Prop)
    (hE : ∀ (pins : List (Addr × Obj)) (σ : St) (s3 : Shared) (H3 : Hp) (fp : List Addr) (Q : VK) (D : Addr), Inv X pins σ H3 s3 → (∀ b ∈ fp, FpOk X pins H3 b) →
      EK s3.heap.objs.size s3 H3 fp (notedBy (model X.prog X.w) X.A (compEnvC scope (clOf scope X.env) s3.heap.objs.size X.env) fun e s' => compPost (model X.prog X.w) X.A X.xe none (EP X pins σ Q) (.ref D) s3.heap.objs.size (.error e) s'))
    (hc : X.calm = true) (hi : PI X tg iter wi)
    (hg : ∀ C s₀ H₀ fp E', EK C s₀ H₀ fp E' → PG (X.comp scope C s₀ H₀ fp N' E') tg g)
    (hif : ∀ C s₀ H₀ fp E', EK C s₀ H₀ fp E' → PIf (X.comp scope C s₀ H₀ fp N' E') ifs ti)
    (he : ∀ C s₀ H₀ fp E', EK C s₀ H₀ fp E' → PE (X.comp scope C s₀ H₀ fp N' E') elt te)
    (hk : scope.kind = .function) (hb : compOk scope X.env = true) (hcap : capOk X scope N' nt cap = true)
    (hgk : GKeeps nt g) (hs : ∀ x, foldedSetIterable iter X.env x = pure x)
    (hN : X.N.Nodup) (hix : X.N[i]? = some x) (hx : Loc X.env.scope x) (hf : X.fn x = true ∨ X.env.scope.names.lookup x = some .local)
    (hsw : swapsWith (.ListComp elt [⟨tg, iter, ifs, 0⟩] scope cpos) (some (.Name x pos')) pos.line X.env = pure true) :
    PS X (.Assign [.Name x pos'] (.ListComp elt [⟨tg, iter, ifs, 0⟩] scope cpos) pos) (tAsg (tComp wi nt cap g ti te) (gName i)) := .mk <| by
  intro pins s σ H D I h
  rw [exec_Assign_Name_used _ _ _ _ hsw]
  refine wpAny_bind (wpAny_standAt (wpAny_bind ?_))
  show wpAny _ X.A (do let _ ← comprehension (.ListComp elt [⟨tg, iter, ifs, 0⟩] scope cpos) scope X.env _ (newList []) false (eval iter X.env) (some (assign (.Name x pos') X.env))) _ _ s
  refine wpAny_bind (thn (comp_coreU (use := some (assign (.Name x pos') X.env)) (QQ := fun _ s' => SP X pins D .next s') EK hE hc hi hg hif he hk hb hcap hgk hs I h ?_) fun _ s' hq => wpAny_pure (wpAny_pure hq))
  intro Da C m H5 s6 I6 q6 hn hC hcell hfp h5
  show wpAny _ _ (assign (.Name x pos') X.env (.ref Da)) _ _ s6
  refine wpAny_assign_Name (store_ok2 I6 hN hix hx (v := .ref Da) rfl (fun s7 I7 ⟨a, hsb, ha⟩ => ?_) hf)
  have hCa : C ≠ a := by
    rcases ha with rfl | ha
    · exact hC
    · exact fun z => hcell x a ha z.symm
  refine ⟨m, hn.sameBut hsb hCa, fun h' hsb' => ⟨_, H5, ?_, q6⟩⟩
  refine I7.turnedL (ch := [C]) (t' := s7.toks) (fun b hb' => ?_) fun b u hb' e => (hsb'.2 b fun z => hb' (by simp [z])).trans e
  have eb : b = C := by simpa using hb'
  subst eb
  exact hfp _ h5
theorem ps_setC {elt tg iter : Expr} {ifs : List Expr} {scope : Scope} {cpos pos pos' : Pos} {wi : TI} {g : TG} {ti : TT} {te : TE} {i : Nat} {x : Str} (N' : List Str) (nt : Nat) (cap : List Nat)
    (hN : X.N.Nodup) (hix : X.N[i]? = some x) (hx : Loc X.env.scope x)
    (hc : X.calm = true) (hi : PI X tg iter wi) (hgk : GKeeps nt g)
    (hg : ∀ C s₀ H₀ fp E', PG (X.comp scope C s₀ H₀ fp N' E') tg g)
    (hif : ∀ C s₀ H₀ fp E', PIf (X.comp scope C s₀ H₀ fp N' E') ifs ti)
    (he : ∀ C s₀ H₀ fp E', PE (X.comp scope C s₀ H₀ fp N' E') elt te)
    (hk : scope.kind = .function := by rfl) (hb : compOk scope X.env = true := by rfl) (hcap : capOk X scope N' nt cap = true := by rfl)
    (hs : ∀ x, foldedSetIterable iter X.env x = pure x := by intro _; rfl) (hf : X.fn x = true ∨ X.env.scope.names.lookup x = some .local := by first | exact .inl rfl | exact .inr rfl | assumption)
    (hsw : swapsWith (.ListComp elt [⟨tg, iter, ifs, 0⟩] scope cpos) (some (.Name x pos')) pos.line X.env = pure true := by rfl) :
    PS X (.Assign [.Name x pos'] (.ListComp elt [⟨tg, iter, ifs, 0⟩] scope cpos) pos) (tAsg (tComp wi nt cap g ti te) (gName i)) :=
  set_core (fun _ _ _ _ _ => True) (fun _ _ _ _ _ _ _ _ _ => trivial) hc hi (fun C s₀ H₀ fp E' _ => hg C s₀ H₀ fp E') (fun C s₀ H₀ fp E' _ => hif C s₀ H₀ fp E') (fun C s₀ H₀ fp E' _ => he C s₀ H₀ fp E') hk hb hcap hgk hs hN hix hx hf hsw
end
end L2

namespace HT
open PySem PySem.Spec PyProof.Rows
section
variable {prog : Program} {w : World} {A : Around} {E : Value → Shared → Prop} {s : Shared}
end
end HT
namespace L2
open PySem PySem.Spec PyProof.Rows PySem.NumText
section
variable {X : Cx}
end
/-! ### data without lists: what becomes of a list elsewhere is nothing to it -/
mutual
noncomputable def noL : PyData → Bool
  | .list _ => false
  | .tuple xs => noLs xs
  | _ => true
noncomputable def noLs : List PyData → Bool
  | [] => true
  | d :: ds => noL d && noLs ds
end
theorem SqT.mono {K : PySem.W.Frag} {H H' : Hp} {a D : Addr} {xs : List V} (k : ∀ b o, b ≠ D → H b = some o → H' b = some o) (hd : ∃ zs, H D = some (.lst zs)) (h : SqT K H a xs) : SqT K H' a xs := by
  obtain ⟨zs, hd⟩ := hd
  rcases h with h | h
  · rcases h with h | ⟨o, h⟩
    · exact .inl (.inl (k _ _ (ne_of h hd (fun e => nomatch e)) h))
    · exact .inl (.inr ⟨o, k _ _ (ne_of h hd (fun e => nomatch e)) h⟩)
  · exact .inr h
mutual
theorem DV.mono {K : PySem.W.Frag} {H H' : Hp} {D : Addr} (k : ∀ b o, b ≠ D → H b = some o → H' b = some o) (hd : ∃ zs, H D = some (.lst zs)) : ∀ (d : PyData) (v : V), noL d = true → DV K H d v → DV K H' d v
  | .none, v, _, h => h
  | .bool b, v, _, h => h
  | .int i, v, _, h => h
  | .str x, v, _, h => h
  | .list xs, v, n, _ => by cases n
  | .tuple xs, v, n, ⟨a, vs, h1, h2, h3⟩ => ⟨a, vs, h1, h2.mono k hd, DVs.mono k hd xs vs n h3⟩
  | .dict _, v, _, h => h.elim
theorem DVs.mono {K : PySem.W.Frag} {H H' : Hp} {D : Addr} (k : ∀ b o, b ≠ D → H b = some o → H' b = some o) (hd : ∃ zs, H D = some (.lst zs)) : ∀ (ds : List PyData) (vs : List V), noLs ds = true → DVs K H ds vs → DVs K H' ds vs
  | [], vs, _, h => h
  | d :: ds, vs, n, ⟨v, r, h1, h2, h3⟩ => by
    have n : noL d = true ∧ noLs ds = true := by rw [noLs, Bool.and_eq_true] at n; exact n
    exact ⟨v, r, h1, DV.mono k hd d v n.1 h2, DVs.mono k hd ds r n.2 h3⟩
end
theorem DVs.length {K : PySem.W.Frag} {H : Hp} : ∀ {ds : List PyData} {vs : List V}, DVs K H ds vs → vs.length = ds.length
  | [], vs, h => by cases (show vs = [] from h); rfl
  | d :: ds, vs, ⟨v, r, h1, h2, h3⟩ => by subst h1; simp [DVs.length h3]
theorem DVs.get {K : PySem.W.Frag} {H : Hp} : ∀ {ds : List PyData} {vs : List V} {i : Nat} {d : PyData}, DVs K H ds vs → ds[i]? = some d → ∃ v, vs[i]? = some v ∧ DV K H d v
  | [], vs, i, d, h, e => by simp at e
  | d :: ds, vs, 0, e', ⟨v, r, h1, h2, h3⟩, e => by subst h1; simp at e; subst e; exact ⟨v, rfl, h2⟩
  | d :: ds, vs, i + 1, e', ⟨v, r, h1, h2, h3⟩, e => by subst h1; simp at e; obtain ⟨u, hu, q⟩ := DVs.get h3 e; exact ⟨u, by simpa using hu, q⟩
theorem DVs.append {K : PySem.W.Frag} {H : Hp} : ∀ {ds es : List PyData} {vs us : List V}, DVs K H ds vs → DVs K H es us → DVs K H (ds ++ es) (vs ++ us)
  | [], es, vs, us, h, h' => by cases (show vs = [] from h); exact h'
  | d :: ds, es, vs, us, ⟨v, r, h1, h2, h3⟩, h' => by subst h1; exact ⟨v, r ++ us, rfl, h2, DVs.append h3 h'⟩
/-- the items of a comprehension are data -/
theorem DVs.of {α : Type} {K : PySem.W.Frag} {H : Hp} {f : α → PyData} : ∀ {xs : List α} {vs : List V}, vs.length = xs.length → (∀ (i : Nat) v x, vs[i]? = some v → xs[i]? = some x → DV K H (f x) v) → DVs K H (xs.map f) vs
  | [], vs, hl, h => by cases vs with | nil => rfl | cons _ _ => simp at hl
  | x :: xs, vs, hl, h => by
    cases vs with
    | nil => simp at hl
    | cons v vs => exact ⟨v, vs, rfl, h 0 v x rfl rfl, DVs.of (by simpa using hl) fun i u y e1 e2 => h (i + 1) u y (by simpa using e1) (by simpa using e2)⟩
theorem gk3 {K : PySem.W.Frag} : GKeeps 3 (gTup K 3 (gCons (gName 0) (gCons (gName 1) (gCons (gName 2) gNil)))) := fun x c H Q h => by
  obtain ⟨a, xs, e1, hq, hl, v, r, e2, v', r', e3, v2, r2, e4, e5, h⟩ := h
  refine ⟨a, xs, e1, hq, hl, v, r, e2, v', r', e3, v2, r2, e4, e5, h, fun j v e => ?_⟩
  match j, e with
  | 0, e => simp [List.replicate] at e
  | 1, e => simp [List.replicate] at e
  | 2, e => simp [List.replicate] at e
  | j + 3, e => simpa [List.replicate, List.set] using e
/-! ### the same rules, the module's objects named -/
section
variable {X : Cx} {K : PySem.W.Frag}
theorem ix_tupK (h : X.K = K) : IxR X (rIxT K) := h ▸ ix_tup
end
end L2

namespace L2
open PySem PySem.Spec PyProof.Rows PySem.NumText
/-! ### steps and places, as data -/
noncomputable abbrev Stp := Int × Int × Int
noncomputable def stp (s : Stp) : PyData := .tuple [.int s.1, .int s.2.1, .int s.2.2]
noncomputable def plc (ss : List Stp) : PyData := .tuple (ss.map stp)
noncomputable abbrev sV (s : Stp) : List V := [.int s.1, .int s.2.1, .int s.2.2]
theorem stp_mk {K : PySem.W.Frag} {H : Hp} {s : Stp} {t : Addr} (h : SqT K H t (sV s)) : DV K H (stp s) (.ref t) := ⟨t, _, rfl, h, _, _, rfl, rfl, _, _, rfl, rfl, _, _, rfl, rfl, rfl⟩
theorem noL_stp (s : Stp) : noL (stp s) = true := rfl
theorem noLs_stp : ∀ ss : List Stp, noLs (ss.map stp) = true
  | [] => rfl
  | s :: ss => by rw [List.map_cons, noLs, noL_stp, noLs_stp ss]; rfl
theorem noL_plc (ss : List Stp) : noL (plc ss) = true := noLs_stp ss
theorem canLay_stps : ∀ ss : List Stp, PyData.canLayAll0 (ss.map stp) = true
  | [] => rfl
  | s :: ss => by
    rw [List.map_cons, PyData.canLayAll0, canLay_stps ss]
    rfl
theorem depth_stps : ∀ ss : List Stp, PyData.depthAll (ss.map stp) ≤ 1
  | [] => Nat.zero_le _
  | s :: ss => by
    rw [List.map_cons, PyData.depthAll]
    have h1 : PyData.depth (stp s) = 1 := rfl
    have h2 := depth_stps ss
    rw [h1]
    omega
theorem plc_lay (ss : List Stp) : PyData.canLay0 (plc ss) = true := canLay_stps ss
theorem plc_shaped (ss : List Stp) : SeqAt.shaped (plc ss) = true := by
  unfold SeqAt.shaped
  rw [plc_lay, Bool.true_and]
  have h : PyData.depth (plc ss) = PyData.depthAll (ss.map stp) + 1 := rfl
  have := depth_stps ss
  exact decide_eq_true (by omega)
theorem stp_eqv (a b : Stp) : PyData.eqv (stp a) (stp b) = decide (a = b) := by
  obtain ⟨a1, a2, a3⟩ := a
  obtain ⟨b1, b2, b3⟩ := b
  have e : PyData.eqv (stp (a1, a2, a3)) (stp (b1, b2, b3)) = (a1 == b1 && (a2 == b2 && (a3 == b3 && true))) := rfl
  rw [e, Bool.eq_iff_iff]
  simp
theorem stps_eqv : ∀ a b : List Stp, PyData.eqvAll (a.map stp) (b.map stp) = decide (a = b)
  | [], [] => rfl
  | [], _ :: _ => rfl
  | _ :: _, [] => rfl
  | x :: a, y :: b => by
    rw [List.map_cons, List.map_cons, PyData.eqvAll, stp_eqv, stps_eqv a b, Bool.eq_iff_iff]
    simp
theorem plc_eqv (a b : List Stp) : PyData.eqv (plc a) (plc b) = decide (a = b) := stps_eqv a b
/-! ### readings in short -/
end L2

namespace L2
open PySem PySem.Spec PyProof.Rows PySem.NumText
/-! ### tuples compared: the first two items that are not alike tell it -/
noncomputable def lexD (e r : Nat → Bool) (d : Bool) : List Nat → Bool
  | [] => d
  | j :: js => if e j = true then lexD e r d js else r j
noncomputable def CmpAt (op : CmpOp) (A : Around) (s : Shared) (y x : Value) (b : Bool) : Prop :=
  ∀ (prog : Program) (w : World) (E : Value → Shared → Prop) (Q : Value → Shared → Prop), Q (.bool b) s → wpAny (model prog w) A (richCompare op y x) Q E s
section
open PySem.SeqAt
open PySem.AutoSeq1 (wpAny_loadPart')
open PySem.MeetsSeq PySem.MeetsSeq2 PySem.MeetsSeq3

end

/-- the order of lists, item by item -/
noncomputable def lexG {α : Type} [DecidableEq α] (lt : α → α → Bool) : List α → List α → Bool
  | [], [] => false
  | [], _ :: _ => true
  | _ :: _, [] => false
  | x :: xs, y :: ys => if x = y then lexG lt xs ys else lt x y
theorem lexD_map (e r : Nat → Bool) (d : Bool) : ∀ js : List Nat, lexD e r d (js.map Nat.succ) = lexD (fun j => e (j + 1)) (fun j => r (j + 1)) d js
  | [] => rfl
  | j :: js => by
    rw [List.map_cons, lexD, lexD, lexD_map e r d js]
noncomputable abbrev iLt (a b : Int) : Bool := decide (a < b)
noncomputable def sI (s : Stp) : List Int := [s.1, s.2.1, s.2.2]
theorem sI_inj {a b : Stp} : sI a = sI b ↔ a = b := by
  obtain ⟨a1, a2, a3⟩ := a
  obtain ⟨b1, b2, b3⟩ := b
  simp [sI]
noncomputable abbrev sLt (a b : Stp) : Bool := lexG iLt (sI a) (sI b)
noncomputable abbrev pLt (a b : List Stp) : Bool := lexG sLt a b
section
variable {X : Cx} {pins : List (Addr × Obj)} {σ : St} {H : Hp} {s : Shared} {A : Around}
end
section
variable {X : Cx} {K : PySem.W.Frag}
end
theorem Room.u100 {k : Nat} {A : Around} (r : Room k A) : A.units + 100 < cLine := by have := r.un; omega
end L2

namespace L2
open PySem PySem.Spec PyProof.Rows PySem.NumText
section
open PySem.SeqAt
open PySem.AutoSeq1 (wpAny_loadPart')
open PySem.MeetsSeq PySem.MeetsSeq2 PySem.MeetsSeq3
theorem tuple_ltAt1 (l b : Addr) (items items2 : Array Value) (n n2 : Nat) (dd dd2 : Option Addr) (sl sl2 : Array (Option Value)) (e r : Nat → Bool) :
    Meets (Builtin.«tuple.__lt__» ⟨[.ref l, .ref b], []⟩)
      (fun A R s => s.heap.get? l = some { cls := .type "tuple", dict := dd, data := .seq items n, slots := sl } ∧ s.heap.get? b = some { cls := .type "tuple", dict := dd2, data := .seq items2 n2, slots := sl2 } ∧
        (∀ j (h1 : j < items.size) (h2 : j < items2.size), EqAt A.in1 s items[j] items2[j] (e j)) ∧
        (∀ j (h1 : j < items.size) (h2 : j < items2.size), (∀ i, i < j → e i = true) → e j = false → CmpAt .Lt A.in1 s items[j] items2[j] (r j)) ∧
        R (.ok (.ret (.bool (lexD e r (decide (items.size < items2.size)) (List.range (min items.size items2.size)))))) s) :=
  .of_wp fun prog w A R s h => by
    obtain ⟨hp, g, d, tk, os⟩ := s; obtain ⟨hl, hb, he, hc, h⟩ := h
    have f2 := AutoSeq1.sub_tuple_tuple
    have hZ : (items.toList.zip items2.toList).length = min items.size items2.size := by simp
    wp_walk using wpAny_loadPart' hl, wpAny_loadPart' hb, wpAny_forIn_list _ (fun rest b s' => b.1 = none ∧ s' = ⟨hp, g, d, tk, os⟩ ∧ ∃ i, rest = (items.toList.zip items2.toList).drop i ∧ (∀ k, k < i → e k = true) ∧
      R (.ok (.ret (.bool (lexD e r (decide (items.size < items2.size)) ((List.range (min items.size items2.size)).drop i))))) ⟨hp, g, d, tk, os⟩) _
    case turn =>
      rintro ⟨y, x⟩ rest b s' ⟨hb', rfl, i, hz, hall, hR⟩
      have hlt : i < (items.toList.zip items2.toList).length := by
        rcases Nat.lt_or_ge i (items.toList.zip items2.toList).length with h' | h'
        · exact h'
        · rw [List.drop_of_length_le h'] at hz; cases hz
      have hm : i < min items.size items2.size := hZ ▸ hlt
      have h1 : i < items.size := Nat.lt_of_lt_of_le hm (Nat.min_le_left _ _)
      have h2 : i < items2.size := Nat.lt_of_lt_of_le hm (Nat.min_le_right _ _)
      rw [List.drop_eq_getElem_cons hlt] at hz
      injection hz with hyx hrest
      have hy : y = items[i] := by have := congrArg Prod.fst hyx; simpa using this
      have hx : x = items2[i] := by have := congrArg Prod.snd hyx; simpa using this
      subst hy hx
      have hd : (List.range (min items.size items2.size)).drop i = i :: (List.range (min items.size items2.size)).drop (i + 1) := by simp [List.drop_eq_getElem_cons, hm]
      rw [hd, lexD] at hR
      refine wpAny_bind (he i h1 h2 prog w _ _ ?_)
      cases hy : e i with
      | true =>
        rw [hy, if_pos rfl] at hR
        wp_walk
        exact ⟨rfl, rfl, i + 1, hrest, fun k hk => by
          rcases Nat.lt_or_ge k i with h' | h'
          · exact hall k h'
          · have : k = i := by omega
            rw [this]; exact hy, hR⟩
      | false =>
        rw [hy, if_neg Bool.false_ne_true] at hR
        have hri := hc i h1 h2 hall hy prog w
        wp_walk using hri
        exact ⟨_, rfl, by simpa using hR⟩
    case fin =>
      rintro ⟨b1, b2⟩ s' ⟨hb', rfl, i, hz, hall, hR⟩
      simp only at hb'
      subst hb'
      have hge : min items.size items2.size ≤ i := by
        rw [← hZ]
        rcases Nat.lt_or_ge i (items.toList.zip items2.toList).length with h' | h'
        · rw [List.drop_eq_getElem_cons h'] at hz; cases hz
        · exact h'
      rw [List.drop_of_length_le (by simpa using hge), lexD] at hR
      wp_walk
      exact ⟨_, rfl, by simpa [Builtin.Tuple.tupleCompareSizes] using hR⟩
    case h =>
      exact ⟨rfl, rfl, 0, rfl, fun k hk => absurd hk (Nat.not_lt_zero _), h⟩
theorem lt_tupAt1 {prog : Program} {w : World} {A : Around} {E : Value → Shared → Prop} {s : Shared} {l b : Addr} {items items2 : Array Value} {e r : Nat → Bool} {Q : Value → Shared → Prop} (hl : IsTup s.heap l items) (hb : IsTup s.heap b items2)
    (he : ∀ j (h1 : j < items.size) (h2 : j < items2.size), EqAt A.in1 s items[j] items2[j] (e j)) (hc : ∀ j (h1 : j < items.size) (h2 : j < items2.size), (∀ i, i < j → e i = true) → e j = false → CmpAt .Lt A.in1 s items[j] items2[j] (r j))
    (hu : A.units < cLine) (h : Q (.bool (lexD e r (decide (items.size < items2.size)) (List.range (min items.size items2.size)))) s) : wpAny (model prog w) A (compareOp .Lt (.ref l) (.ref b)) Q E s := by
  obtain ⟨⟨cls, dd, data, sl⟩, ho, hc1, n, hd⟩ := id hl
  obtain ⟨⟨cls2, dd2, data2, sl2⟩, ho2, hc2, n2, hd2⟩ := id hb
  simp only at hc1 hd hc2 hd2
  subst hc1 hd hc2 hd2
  refine richCompare_meets_room (op := .Lt) ⟨_, ho, rfl⟩ ⟨_, ho2, rfl⟩ PySem.F.slot_tuple_lt PySem.F.entry_tuple_lt (PySem.F.args_tuple_lt_2 _ _) (tuple_ltAt1 l b items items2 n n2 dd dd2 sl sl2 e r) ⟨ho, ho2, he, hc, ?_⟩ hu
  exact (show Value.bool _ ≠ Value.notImplemented ∧ Q (.bool _) s from ⟨(fun x => nomatch x), h⟩)

theorem tuple_geAt1 (l b : Addr) (items items2 : Array Value) (n n2 : Nat) (dd dd2 : Option Addr) (sl sl2 : Array (Option Value)) (e r : Nat → Bool) :
    Meets (Builtin.«tuple.__ge__» ⟨[.ref l, .ref b], []⟩)
      (fun A R s => s.heap.get? l = some { cls := .type "tuple", dict := dd, data := .seq items n, slots := sl } ∧ s.heap.get? b = some { cls := .type "tuple", dict := dd2, data := .seq items2 n2, slots := sl2 } ∧
        (∀ j (h1 : j < items.size) (h2 : j < items2.size), EqAt A.in1 s items[j] items2[j] (e j)) ∧
        (∀ j (h1 : j < items.size) (h2 : j < items2.size), (∀ i, i < j → e i = true) → e j = false → CmpAt .GtE A.in1 s items[j] items2[j] (r j)) ∧
        R (.ok (.ret (.bool (lexD e r (decide (items2.size ≤ items.size)) (List.range (min items.size items2.size)))))) s) :=
  .of_wp fun prog w A R s h => by
    obtain ⟨hp, g, d, tk, os⟩ := s; obtain ⟨hl, hb, he, hc, h⟩ := h
    have f2 := AutoSeq1.sub_tuple_tuple
    have hZ : (items.toList.zip items2.toList).length = min items.size items2.size := by simp
    wp_walk using wpAny_loadPart' hl, wpAny_loadPart' hb, wpAny_forIn_list _ (fun rest b s' => b.1 = none ∧ s' = ⟨hp, g, d, tk, os⟩ ∧ ∃ i, rest = (items.toList.zip items2.toList).drop i ∧ (∀ k, k < i → e k = true) ∧
      R (.ok (.ret (.bool (lexD e r (decide (items2.size ≤ items.size)) ((List.range (min items.size items2.size)).drop i))))) ⟨hp, g, d, tk, os⟩) _
    case turn =>
      rintro ⟨y, x⟩ rest b s' ⟨hb', rfl, i, hz, hall, hR⟩
      have hlt : i < (items.toList.zip items2.toList).length := by
        rcases Nat.lt_or_ge i (items.toList.zip items2.toList).length with h' | h'
        · exact h'
        · rw [List.drop_of_length_le h'] at hz; cases hz
      have hm : i < min items.size items2.size := hZ ▸ hlt
      have h1 : i < items.size := Nat.lt_of_lt_of_le hm (Nat.min_le_left _ _)
      have h2 : i < items2.size := Nat.lt_of_lt_of_le hm (Nat.min_le_right _ _)
      rw [List.drop_eq_getElem_cons hlt] at hz
      injection hz with hyx hrest
      have hy : y = items[i] := by have := congrArg Prod.fst hyx; simpa using this
      have hx : x = items2[i] := by have := congrArg Prod.snd hyx; simpa using this
      subst hy hx
      have hd : (List.range (min items.size items2.size)).drop i = i :: (List.range (min items.size items2.size)).drop (i + 1) := by simp [List.drop_eq_getElem_cons, hm]
      rw [hd, lexD] at hR
      refine wpAny_bind (he i h1 h2 prog w _ _ ?_)
      cases hy : e i with
      | true =>
        rw [hy, if_pos rfl] at hR
        wp_walk
        exact ⟨rfl, rfl, i + 1, hrest, fun k hk => by
          rcases Nat.lt_or_ge k i with h' | h'
          · exact hall k h'
          · have : k = i := by omega
            rw [this]; exact hy, hR⟩
      | false =>
        rw [hy, if_neg Bool.false_ne_true] at hR
        have hri := hc i h1 h2 hall hy prog w
        wp_walk using hri
        exact ⟨_, rfl, by simpa using hR⟩
    case fin =>
      rintro ⟨b1, b2⟩ s' ⟨hb', rfl, i, hz, hall, hR⟩
      simp only at hb'
      subst hb'
      have hge : min items.size items2.size ≤ i := by
        rw [← hZ]
        rcases Nat.lt_or_ge i (items.toList.zip items2.toList).length with h' | h'
        · rw [List.drop_eq_getElem_cons h'] at hz; cases hz
        · exact h'
      rw [List.drop_of_length_le (by simpa using hge), lexD] at hR
      wp_walk
      exact ⟨_, rfl, by simpa [Builtin.Tuple.tupleCompareSizes] using hR⟩
    case h =>
      exact ⟨rfl, rfl, 0, rfl, fun k hk => absurd hk (Nat.not_lt_zero _), h⟩
theorem ge_tupAt1 {prog : Program} {w : World} {A : Around} {E : Value → Shared → Prop} {s : Shared} {l b : Addr} {items items2 : Array Value} {e r : Nat → Bool} {Q : Value → Shared → Prop} (hl : IsTup s.heap l items) (hb : IsTup s.heap b items2)
    (he : ∀ j (h1 : j < items.size) (h2 : j < items2.size), EqAt A.in1 s items[j] items2[j] (e j)) (hc : ∀ j (h1 : j < items.size) (h2 : j < items2.size), (∀ i, i < j → e i = true) → e j = false → CmpAt .GtE A.in1 s items[j] items2[j] (r j))
    (hu : A.units < cLine) (h : Q (.bool (lexD e r (decide (items2.size ≤ items.size)) (List.range (min items.size items2.size)))) s) : wpAny (model prog w) A (compareOp .GtE (.ref l) (.ref b)) Q E s := by
  obtain ⟨⟨cls, dd, data, sl⟩, ho, hc1, n, hd⟩ := id hl
  obtain ⟨⟨cls2, dd2, data2, sl2⟩, ho2, hc2, n2, hd2⟩ := id hb
  simp only at hc1 hd hc2 hd2
  subst hc1 hd hc2 hd2
  refine richCompare_meets_room (op := .GtE) ⟨_, ho, rfl⟩ ⟨_, ho2, rfl⟩ PySem.F.slot_tuple_ge PySem.F.entry_tuple_ge (PySem.F.args_tuple_ge_2 _ _) (tuple_geAt1 l b items items2 n n2 dd dd2 sl sl2 e r) ⟨ho, ho2, he, hc, ?_⟩ hu
  exact (show Value.bool _ ≠ Value.notImplemented ∧ Q (.bool _) s from ⟨(fun x => nomatch x), h⟩)

end
/-! ### < of plain data: ints, texts, tuples of these, however deep -/
mutual
noncomputable def ltD : PyData → PyData → Option Bool
  | .int a, .int b => some (decide (a < b))
  | .str a, .str b => some (decide (a.cps.toList < b.cps.toList))
  | .tuple xs, .tuple ys => ltDs xs ys
  | _, _ => none
noncomputable def ltDs : List PyData → List PyData → Option Bool
  | [], [] => some false
  | [], _ :: _ => some true
  | _ :: _, [] => some false
  | x :: xs, y :: ys => if PyData.eqv x y = true then ltDs xs ys else ltD x y
end
/-- the first two that are not alike -/
theorem lexD_ltDs {e r : Nat → Bool} : ∀ {xs ys : List PyData} {b : Bool}, ltDs xs ys = some b → (∀ (j : Nat) x y, xs[j]? = some x → ys[j]? = some y → e j = PyData.eqv x y) →
    (∀ (j : Nat) x y c, xs[j]? = some x → ys[j]? = some y → (∀ i, i < j → e i = true) → e j = false → ltD x y = some c → r j = c) →
    lexD e r (decide (xs.length < ys.length)) (List.range (min xs.length ys.length)) = b := by
  intro xs
  induction xs generalizing e r with
  | nil =>
    intro ys b h _ _
    cases ys with
    | nil => cases h; rfl
    | cons y ys => cases h; rw [List.length_nil, Nat.zero_min]; exact decide_eq_true (Nat.succ_pos _)
  | cons x xs ih =>
    intro ys b h he hr
    cases ys with
    | nil => cases h; rw [List.length_nil, Nat.min_zero]; exact decide_eq_false (Nat.not_lt_zero _)
    | cons y ys =>
      have h0 := he 0 x y rfl rfl
      rw [List.length_cons, List.length_cons, Nat.succ_min_succ, List.range_succ_eq_map, lexD]
      rw [ltDs] at h
      by_cases hxy : PyData.eqv x y = true
      · rw [if_pos hxy] at h
        rw [if_pos (h0.trans hxy), lexD_map]
        have := ih (ys := ys) (e := fun j => e (j + 1)) (r := fun j => r (j + 1)) h (fun j a b h1 h2 => he (j + 1) a b (by simpa using h1) (by simpa using h2))
          (fun j a b c h1 h2 h3 h4 h5 => hr (j + 1) a b c (by simpa using h1) (by simpa using h2) (fun i hi => by
            cases i with
            | zero => exact h0.trans hxy
            | succ i => exact h3 i (by omega)) h4 h5)
        rw [← this]
        congr 1
        exact decide_eq_decide.mpr (by omega)
      · rw [if_neg hxy] at h
        have hf : e 0 = false := by rw [h0]; simpa using hxy
        rw [if_neg (by rw [hf]; exact Bool.false_ne_true)]
        exact hr 0 x y b rfl rfl (fun i hi => absurd hi (Nat.not_lt_zero _)) hf h
theorem lexD_not {e r : Nat → Bool} {d : Bool} : ∀ js : List Nat, lexD e (fun j => !r j) (!d) js = !lexD e r d js
  | [] => rfl
  | j :: js => by
    rw [lexD, lexD, lexD_not js]
    split <;> rfl
theorem readsAll_at {h : Heap} : ∀ {xs : List PyData} {vs : List Value} {as : List Addr} {j : Nat} {v : Value}, ReadsAll h vs xs as → vs[j]? = some v → ∃ d bs, xs[j]? = some d ∧ Reads h v d bs ∧ d ∈ xs
  | _, _, _, 0, v, .cons (v := u) (d := d) r rr, e => by
    have : u = v := by simpa using e
    subst this
    exact ⟨_, _, rfl, r, List.mem_cons_self⟩
  | _, _, _, j + 1, v, .cons r rr, e => by
    obtain ⟨d, bs, h1, h2, h3⟩ := readsAll_at rr (j := j) (by simpa using e)
    exact ⟨d, bs, by simpa using h1, h2, List.mem_cons_of_mem _ h3⟩
theorem canLay_mem : ∀ {xs : List PyData} {d : PyData}, d ∈ xs → PyData.canLayAll0 xs = true → PyData.canLay0 d = true
  | x :: xs, d, h, c => by
    rw [PyData.canLayAll0, Bool.and_eq_true] at c
    rcases List.mem_cons.mp h with rfl | h
    · exact c.1
    · exact canLay_mem h c.2
theorem depth_mem : ∀ {xs : List PyData} {d : PyData}, d ∈ xs → PyData.depth d ≤ PyData.depthAll xs
  | x :: xs, d, h => by
    rw [PyData.depthAll]
    rcases List.mem_cons.mp h with rfl | h
    · omega
    · have := depth_mem h
      omega
theorem cmpAt_data : ∀ (n : Nat) (da db : PyData) (c : Bool) (A : Around) (s : Shared) (a b : Value) (as bs : List Addr), PyData.depth da ≤ n → Reads s.heap a da as → Reads s.heap b db bs → da.canLay0 = true → db.canLay0 = true → ltD da db = some c →
    A.units + n + 2 < cLine → CmpAt .Lt A s a b c ∧ CmpAt .GtE A s a b (!c) := by
  intro n
  induction n with
  | zero =>
    intro da db c A s a b as bs hd ra rb _ _ hc hu
    cases ra with
    | int i t =>
      cases rb with
      | int j u =>
        have hc : decide (i < j) = c := by simpa [ltD] using hc
        subst hc
        refine ⟨fun prog w E Q hq => (PyProof.Rows.lt_int hq : wpAny (model prog w) A (compareOp .Lt (.int i t) (.int j u)) Q E s), fun prog w E Q hq => ?_⟩
        have e : (!decide (i < j)) = decide (j ≤ i) := by rw [← decide_not]; exact decide_eq_decide.mpr (by omega)
        rw [e] at hq
        exact (PyProof.Rows.ge_int hq : wpAny (model prog w) A (compareOp .GtE (.int i t) (.int j u)) Q E s)
      | _ => simp [ltD] at hc
    | str x t =>
      cases rb with
      | str y u =>
        have hc : decide (x.cps.toList < y.cps.toList) = c := by simpa [ltD] using hc
        subst hc
        exact ⟨fun prog w E Q hq => (PyProof.Rows.lt_str hq : wpAny (model prog w) A (compareOp .Lt (.str x t) (.str y u)) Q E s), fun prog w E Q hq => (PySem.P.ge_str hq : wpAny (model prog w) A (compareOp .GtE (.str x t) (.str y u)) Q E s)⟩
      | _ => simp [ltD] at hc
    | tuple h1 h2 h3 h4 => simp [PyData.depth] at hd
    | _ => simp [ltD] at hc
  | succ n ih =>
    intro da db c A s a b as bs hd ra rb la lb hc hu
    cases ra with
    | int i t =>
      cases rb with
      | int j u =>
        have hc : decide (i < j) = c := by simpa [ltD] using hc
        subst hc
        refine ⟨fun prog w E Q hq => (PyProof.Rows.lt_int hq : wpAny (model prog w) A (compareOp .Lt (.int i t) (.int j u)) Q E s), fun prog w E Q hq => ?_⟩
        have e : (!decide (i < j)) = decide (j ≤ i) := by rw [← decide_not]; exact decide_eq_decide.mpr (by omega)
        rw [e] at hq
        exact (PyProof.Rows.ge_int hq : wpAny (model prog w) A (compareOp .GtE (.int i t) (.int j u)) Q E s)
      | _ => simp [ltD] at hc
    | str x t =>
      cases rb with
      | str y u =>
        have hc : decide (x.cps.toList < y.cps.toList) = c := by simpa [ltD] using hc
        subst hc
        exact ⟨fun prog w E Q hq => (PyProof.Rows.lt_str hq : wpAny (model prog w) A (compareOp .Lt (.str x t) (.str y u)) Q E s), fun prog w E Q hq => (PySem.P.ge_str hq : wpAny (model prog w) A (compareOp .GtE (.str x t) (.str y u)) Q E s)⟩
      | _ => simp [ltD] at hc
    | @tuple l o vs m xs as h1 h2 h3 h4 =>
      cases rb with
      | @tuple l2 o2 vs2 m2 ys bs g1 g2 g3 g4 =>
        have hc : ltDs xs ys = some c := by simpa [ltD] using hc
        have z1 : vs.size = xs.length := by have := SeqAt.ReadsAll.length _ _ _ h4; simpa using this
        have z2 : vs2.size = ys.length := by have := SeqAt.ReadsAll.length _ _ _ g4; simpa using this
        have la' : PyData.canLayAll0 xs = true := la
        have lb' : PyData.canLayAll0 ys = true := lb
        have hd' : PyData.depthAll xs ≤ n := by have : PyData.depth (.tuple xs) = PyData.depthAll xs + 1 := rfl; omega
        have at1 : ∀ j (h : j < vs.size), ∃ d bs, xs[j]? = some d ∧ Reads s.heap vs[j] d bs ∧ d ∈ xs := fun j h => readsAll_at h4 (by simp [h])
        have at2 : ∀ j (h : j < vs2.size), ∃ d bs, ys[j]? = some d ∧ Reads s.heap vs2[j] d bs ∧ d ∈ ys := fun j h => readsAll_at g4 (by simp [h])
        have he : ∀ j (k1 : j < vs.size) (k2 : j < vs2.size), SeqAt.EqAt A.in1 s vs[j] vs2[j] (PyData.eqv ((xs[j]?).getD .none) ((ys[j]?).getD .none)) := fun j k1 k2 => by
          obtain ⟨d, b1, e1, r1, m1⟩ := at1 j k1
          obtain ⟨d2, b2, e2, r2, m2⟩ := at2 j k2
          rw [e1, e2]
          refine SeqAt.eqAt_reads d d2 A.in1 s _ _ b1 b2 r1 r2 (canLay_mem m1 la') (canLay_mem m2 lb') ?_
          have := depth_mem m1
          have : min d.depth d2.depth ≤ d.depth := Nat.min_le_left _ _
          show A.units + 1 + min d.depth d2.depth < cLine
          omega
        have hl : IsTup s.heap l vs := ⟨o, h1, h2, m, h3⟩
        have hr : IsTup s.heap l2 vs2 := ⟨o2, g1, g2, m2, g3⟩
        have e0 : ∀ (j : Nat) x y, xs[j]? = some x → ys[j]? = some y → PyData.eqv ((xs[j]?).getD .none) ((ys[j]?).getD .none) = PyData.eqv x y := fun j x y e1 e2 => by rw [e1, e2]; rfl
        have lexlt := lexD_ltDs (e := fun j => PyData.eqv ((xs[j]?).getD .none) ((ys[j]?).getD .none)) (r := fun j => (ltD ((xs[j]?).getD .none) ((ys[j]?).getD .none)).getD false) hc e0 (fun j x y c' e1 e2 _ _ e3 => by rw [e1, e2]; simp only [Option.getD_some]; rw [e3]; rfl)
        -- at the first two that are not alike < has an answer
        have ans : ∀ (xs ys : List PyData) (c : Bool), ltDs xs ys = some c → ∀ (j : Nat) x y, xs[j]? = some x → ys[j]? = some y → (∀ i x y, i < j → xs[i]? = some x → ys[i]? = some y → PyData.eqv x y = true) → PyData.eqv x y = false → ∃ c', ltD x y = some c' := by
          intro xs
          induction xs with
          | nil => intro ys c _ j x y e1; simp at e1
          | cons x0 xs ih2 =>
            intro ys c h j x y e1 e2 hall hne
            cases ys with
            | nil => simp at e2
            | cons y0 ys =>
              rw [ltDs] at h
              cases j with
              | zero =>
                simp at e1 e2
                subst e1 e2
                rw [if_neg (by rw [hne]; exact Bool.false_ne_true)] at h
                exact ⟨c, h⟩
              | succ j =>
                rw [if_pos (hall 0 x0 y0 (Nat.succ_pos _) rfl rfl)] at h
                exact ih2 ys c h j x y (by simpa using e1) (by simpa using e2) (fun i a b hi h1 h2 => hall (i + 1) a b (by omega) (by simpa using h1) (by simpa using h2)) hne
        have hu1 : A.in1.units + n + 2 < cLine := by show A.units + 1 + n + 2 < cLine; omega
        have cmp : ∀ j (k1 : j < vs.size) (k2 : j < vs2.size), (∀ i, i < j → PyData.eqv ((xs[i]?).getD .none) ((ys[i]?).getD .none) = true) → PyData.eqv ((xs[j]?).getD .none) ((ys[j]?).getD .none) = false →
            CmpAt .Lt A.in1 s vs[j] vs2[j] ((ltD ((xs[j]?).getD .none) ((ys[j]?).getD .none)).getD false) ∧ CmpAt .GtE A.in1 s vs[j] vs2[j] (!(ltD ((xs[j]?).getD .none) ((ys[j]?).getD .none)).getD false) := fun j k1 k2 hall hne => by
          obtain ⟨d, b1, e1, r1, m1⟩ := at1 j k1
          obtain ⟨d2, b2, e2, r2, m2⟩ := at2 j k2
          rw [e1, e2] at hne ⊢
          obtain ⟨c', hc'⟩ := ans xs ys c hc j d d2 e1 e2 (fun i x y hi h1 h2 => by have := hall i hi; rw [h1, h2] at this; exact this) hne
          simp only [Option.getD_some]
          rw [hc']
          exact ih d d2 c' A.in1 s _ _ b1 b2 (Nat.le_trans (depth_mem m1) hd') r1 r2 (canLay_mem m1 la') (canLay_mem m2 lb') hc' hu1
        refine ⟨fun prog w E Q hq => ?_, fun prog w E Q hq => ?_⟩
        · refine (lt_tupAt1 hl hr he (fun j k1 k2 h3 h4 => (cmp j k1 k2 h3 h4).1) (by omega) ?_ : wpAny (model prog w) A (compareOp .Lt (.ref l) (.ref l2)) Q E s)
          rw [z1, z2, lexlt]
          exact hq
        · refine (ge_tupAt1 hl hr he (fun j k1 k2 h3 h4 => (cmp j k1 k2 h3 h4).2) (by omega) ?_ : wpAny (model prog w) A (compareOp .GtE (.ref l) (.ref l2)) Q E s)
          have e : decide (vs2.size ≤ vs.size) = !decide (vs.size < vs2.size) := by rw [← decide_not]; exact decide_eq_decide.mpr (by omega)
          rw [e, lexD_not, z1, z2, lexlt]
          exact hq
      | _ => simp [ltD] at hc
    | _ => simp [ltD] at hc
section
variable {X : Cx}
end
end L2

namespace L2
open PySem
/-! ### the search of a set's table: an empty slot is always met -/
noncomputable abbrev ST := SetTable
/-! ### the leaps -/
/-! ### the path of a search -/
end L2

namespace L2
open PySem
/-! ### a set's table laid anew -/
end L2

namespace L2
open PySem PySem.Spec PyProof.Rows PySem.NumText
section
variable {prog : Program} {w : World}
end
end L2

namespace L2
open PySem PySem.Spec PyProof.Rows PySem.NumText
section
variable {prog : Program} {w : World}
end
end L2

namespace L2
open PySem PySem.Spec PyProof.Rows PySem.NumText
section
variable {prog : Program} {w : World} {A : Around} {E : Value → Shared → Prop} {s : Shared}
end
end L2

namespace L2
open PySem PySem.Spec PyProof.Rows PySem.NumText
section
variable {prog : Program} {w : World} {A : Around} {E : Value → Shared → Prop} {s : Shared}
end
end L2

namespace L2
open PySem PySem.Spec PyProof.Rows PySem.NumText
section
variable {prog : Program} {w : World} {A : Around} {R : Result → Shared → Prop} {I : Addr} {fp wr : List Addr} {G : Array GenState → Array GenState → Prop} {n : Nat} {P : Nat → Value → Prop} {St : Nat → Shared → Prop}
end
section
variable {prog : Program} {w : World} {A : Around} {E : Value → Shared → Prop} {s : Shared}
end
end L2

namespace L2
open PySem PySem.Spec PyProof.Rows PySem.NumText
section
variable {X : Cx}
end
end L2

namespace L2
open PySem PySem.Spec PyProof.Rows PySem.NumText
/-! ### hashes of data of ints -/
section
variable {prog : Program} {w : World}
end
/-! ### where a table's places lie -/
/-! ### each one is met on its own path -/
/-! ### a table laid anew -/
end L2

namespace L2
open PySem PySem.Spec PyProof.Rows PySem.NumText
/-! ### > of plain data -/
section
variable {X : Cx}
end
/-! ### the best of some values: comparisons that read the heap -/
noncomputable abbrev Ext (h h' : Heap) : Prop := ∀ b o, h.get? b = some o → h'.get? b = some o
section
variable {prog : Program} {w : World} {A : Around} {R : Result → Shared → Prop} {I : Addr} {fp wr : List Addr} {n : Nat} {P : Nat → Value → Prop} {St : Nat → Heap → Prop} {h0 : Heap} {kw : List (Str × Value)}

end
section
variable {X : Cx}
mutual
theorem reads_ext {h h' : Heap} (e : Ext h h') : ∀ {v : Value} {d : PyData} {as : List Addr}, Reads h v d as → Reads h' v d as
  | _, _, _, .none => .none
  | _, _, _, .bool b => .bool b
  | _, _, _, .int i t => .int i t
  | _, _, _, .str x t => .str x t
  | _, _, _, .list a b c d => .list (e _ _ a) b c (readsAll_ext e d)
  | _, _, _, .tuple a b c d => .tuple (e _ _ a) b c (readsAll_ext e d)
  | _, _, _, .dict a b c d f => .dict (e _ _ a) b c (readsAll_ext e d) (readsAll_ext e f)
theorem readsAll_ext {h h' : Heap} (e : Ext h h') : ∀ {vs : List Value} {ds : List PyData} {as : List Addr}, ReadsAll h vs ds as → ReadsAll h' vs ds as
  | _, _, _, .nil => .nil
  | _, _, _, .cons a b => .cons (reads_ext e a) (readsAll_ext e b)
end
end
end L2

namespace L2
open PySem PySem.Spec PyProof.Rows
/-! ### calls whose exception is caught here, the frame's slots as they were: methods, makers -/
section
variable {X : Cx} {CX : CXT} {k : Nat} {f C D : Addr} {fd : FuncData} {ps : List Str} {sp : Sp} {dvs : List V} {ds : List Value} {EX : XK} {x m : Str} {p pos apos : Pos} {e o : Expr} {es : List Expr} {ta : TE} {t : TA} {σ₀ : St}
/-! ### try: any suite -/
end
end L2

namespace L2
open PySem PySem.Spec PyProof.Rows PySem.NumText
/-! ### a text cut at the first of a sign; how that meets split -/
section
variable {X : Cx}
/-! ### str.partition -/
/-! ### f-texts -/
/-! ### if a == n: return o.replace(y, z), y and z texts as written: their tokens are new and differ -/
end
end L2

namespace L2
open PySem PySem.Spec PyProof.Rows PySem.NumText
/-! ### texts whose signs are signs -/
theorem ok_iff {z : Str} : PyData.strOk z = true ↔ ∀ n ∈ z.cps.toList, n < 0x110000 := by
  unfold PyData.strOk
  rw [← Array.all_toList, List.all_eq_true]
  constructor
  · intro h n hn; exact of_decide_eq_true (h n hn)
  · intro h n hn; exact decide_eq_true (h n hn)
theorem ok_lit (s : String) : PyData.strOk (Str.ofString s) = true := by
  rw [ok_iff]
  intro n hn
  rw [signs_ofString] at hn
  obtain ⟨c, _, rfl⟩ := List.mem_map.mp hn
  have := c.valid
  unfold UInt32.isValidChar Nat.isValidChar at this
  show c.val.toNat < 1114112
  omega
end L2

namespace L2
open PySem PySem.Spec PyProof.Rows PySem.NumText
/-! ### strict orders in which any two are told apart -/
structure STO {α : Type} (lt : α → α → Bool) : Prop where
  irr : ∀ a, lt a a = false
  tr : ∀ a b c, lt a b = true → lt b c = true → lt a c = true
  tri : ∀ a b, a ≠ b → lt a b = false → lt b a = true
theorem STO.asym {α : Type} {lt : α → α → Bool} (h : STO lt) {a b : α} (x : lt a b = true) : lt b a = false := by
  cases e : lt b a with
  | false => rfl
  | true => have := h.tr a b a x e; rw [h.irr] at this; cases this
theorem iLt_sto : STO iLt where
  irr := fun a => decide_eq_false (by omega)
  tr := fun a b c h1 h2 => decide_eq_true (by have := of_decide_eq_true h1; have := of_decide_eq_true h2; omega)
  tri := fun a b h1 h2 => decide_eq_true (by have := of_decide_eq_false h2; omega)
theorem lexG_sto {α : Type} [DecidableEq α] {lt : α → α → Bool} (h : STO lt) : STO (lexG lt) where
  irr := fun a => by
    induction a with
    | nil => rfl
    | cons x xs ih => rw [lexG, if_pos rfl]; exact ih
  tr := fun a => by
    induction a with
    | nil =>
      intro b c h1 h2
      cases c with
      | nil => cases b <;> cases h2
      | cons z zs => rfl
    | cons x xs ih =>
      intro b c h1 h2
      cases b with
      | nil => cases h1
      | cons y ys =>
        cases c with
        | nil => cases h2
        | cons z zs =>
          rw [lexG] at h1 h2 ⊢
          by_cases e1 : x = y
          · rw [if_pos e1] at h1
            by_cases e2 : y = z
            · rw [if_pos e2] at h2
              rw [if_pos (e1.trans e2)]
              exact ih ys zs h1 h2
            · rw [if_neg e2] at h2
              rw [e1, if_neg e2]
              exact h2
          · rw [if_neg e1] at h1
            by_cases e2 : y = z
            · rw [if_pos e2] at h2
              subst e2
              rw [if_neg e1]
              exact h1
            · rw [if_neg e2] at h2
              have h3 := h.tr x y z h1 h2
              have e3 : x ≠ z := fun e => by rw [e, h.irr] at h3; cases h3
              rw [if_neg e3]
              exact h3
  tri := fun a => by
    induction a with
    | nil =>
      intro b h1 h2
      cases b with
      | nil => exact absurd rfl h1
      | cons y ys => cases h2
    | cons x xs ih =>
      intro b h1 h2
      cases b with
      | nil => rfl
      | cons y ys =>
        rw [lexG] at h2 ⊢
        by_cases e : x = y
        · rw [if_pos e] at h2
          rw [if_pos e.symm]
          exact ih ys (fun z => h1 (by rw [e, z])) h2
        · rw [if_neg e] at h2
          rw [if_neg (fun z => e z.symm)]
          exact h.tri x y e h2
theorem STO.map {α β : Type} {lt : β → β → Bool} (h : STO lt) {f : α → β} (inj : ∀ a b, f a = f b → a = b) : STO (fun a b => lt (f a) (f b)) where
  irr := fun a => h.irr _
  tr := fun a b c => h.tr _ _ _
  tri := fun a b hn => h.tri _ _ fun e => hn (inj a b e)
theorem sLt_sto : STO sLt := (lexG_sto iLt_sto).map (f := sI) fun a b e => sI_inj.mp e
theorem pLt_sto : STO pLt := lexG_sto sLt_sto
noncomputable def prodLt {α β : Type} [DecidableEq α] (l1 : α → α → Bool) (l2 : β → β → Bool) (a b : α × β) : Bool := if a.1 = b.1 then l2 a.2 b.2 else l1 a.1 b.1
theorem prod_sto {α β : Type} [DecidableEq α] {l1 : α → α → Bool} {l2 : β → β → Bool} (h1 : STO l1) (h2 : STO l2) : STO (prodLt l1 l2) where
  irr := fun a => by unfold prodLt; rw [if_pos rfl]; exact h2.irr _
  tr := fun a b c x y => by
    unfold prodLt at *
    by_cases e1 : a.1 = b.1
    · rw [if_pos e1] at x
      by_cases e2 : b.1 = c.1
      · rw [if_pos e2] at y
        rw [if_pos (e1.trans e2)]
        exact h2.tr _ _ _ x y
      · rw [if_neg e2] at y
        rw [e1, if_neg e2]
        exact y
    · rw [if_neg e1] at x
      by_cases e2 : b.1 = c.1
      · rw [if_pos e2] at y
        rw [← e2, if_neg e1]
        exact x
      · rw [if_neg e2] at y
        have z := h1.tr _ _ _ x y
        have e3 : a.1 ≠ c.1 := fun e => by rw [e, h1.irr] at z; cases z
        rw [if_neg e3]
        exact z
  tri := fun a b hn x => by
    unfold prodLt at *
    by_cases e : a.1 = b.1
    · rw [if_pos e] at x
      rw [if_pos e.symm]
      exact h2.tri _ _ (fun z => hn (Prod.ext e z)) x
    · rw [if_neg e] at x
      rw [if_neg (fun z => e z.symm)]
      exact h1.tri _ _ e x
/-! ### versions -/
noncomputable abbrev Ver := Int × List Stp × Str
noncomputable def ver (v : Ver) : PyData := .tuple [.int v.1, plc v.2.1, .str v.2.2]
noncomputable def vdat : Option Ver → PyData
  | none => .none
  | some v => ver v
noncomputable def okV (v : Ver) : Prop := PySem.PyData.strOk v.2.2 = true
noncomputable def okO (o : Option Ver) : Prop := ∀ v, o = some v → okV v
theorem ver_of {K : PySem.W.Frag} {H : Hp} {v : Ver} {x : V} (h : DV K H (ver v) x) : ∃ t pv, x = .ref t ∧ SqT K H t [.int v.1, pv, .str v.2.2] ∧ DV K H (plc v.2.1) pv := by
  obtain ⟨t, vs, rfl, hq, a, r, rfl, ha, b, r2, rfl, hb, c, r3, rfl, hc, h4⟩ := h
  cases (show a = V.int v.1 from ha)
  cases (show c = V.str v.2.2 from hc)
  cases (show r3 = [] from h4)
  exact ⟨t, b, rfl, hq, hb⟩
theorem ver_mk {K : PySem.W.Frag} {H : Hp} {v : Ver} {t : Addr} {pv : V} (h : SqT K H t [.int v.1, pv, .str v.2.2]) (hp : DV K H (plc v.2.1) pv) : DV K H (ver v) (.ref t) := ⟨t, _, rfl, h, _, _, rfl, rfl, _, _, rfl, hp, _, _, rfl, rfl, rfl⟩
theorem noL_vdat (o : Option Ver) : noL (vdat o) = true := by
  cases o with
  | none => rfl
  | some v =>
    show (noL (.int v.1) && (noL (plc v.2.1) && (noL (.str v.2.2) && true))) = true
    rw [noL_plc]
    rfl
theorem ver_eqv (a b : Ver) : PyData.eqv (ver a) (ver b) = decide (a = b) := by
  obtain ⟨a1, a2, a3⟩ := a
  obtain ⟨b1, b2, b3⟩ := b
  have e : PyData.eqv (ver (a1, a2, a3)) (ver (b1, b2, b3)) = (a1 == b1 && (PyData.eqv (plc a2) (plc b2) && (a3 == b3 && true))) := rfl
  rw [e, plc_eqv, Bool.eq_iff_iff]
  simp
theorem vdat_eqv (a b : Option Ver) : PyData.eqv (vdat a) (vdat b) = decide (a = b) := by
  cases a with
  | none => cases b <;> rfl
  | some x =>
    cases b with
    | none => rfl
    | some y =>
      show PyData.eqv (ver x) (ver y) = _
      rw [ver_eqv]
      exact decide_eq_decide.mpr (by simp)
theorem ver_shaped {v : Ver} (h : okV v) : SeqAt.shaped (ver v) = true := by
  unfold SeqAt.shaped
  have h1 : PyData.canLay0 (ver v) = true := by
    show (true && (PyData.canLay0 (plc v.2.1) && (PySem.PyData.strOk v.2.2 && true))) = true
    rw [plc_lay, h]
    rfl
  rw [h1, Bool.true_and]
  have h2 : PyData.depth (ver v) = max 0 (max (PyData.depthAll (v.2.1.map stp) + 1) (max 0 0)) + 1 := rfl
  have := depth_stps v.2.1
  exact decide_eq_true (by omega)
theorem vdat_shaped {o : Option Ver} (h : okO o) : SeqAt.shaped (vdat o) = true := by
  cases o with
  | none => rfl
  | some v => exact ver_shaped (h v rfl)
theorem ltD_stp (a b : Stp) : ltD (stp a) (stp b) = some (sLt a b) := by
  obtain ⟨a1, a2, a3⟩ := a
  obtain ⟨b1, b2, b3⟩ := b
  show ltDs [.int a1, .int a2, .int a3] [.int b1, .int b2, .int b3] = some (lexG iLt [a1, a2, a3] [b1, b2, b3])
  have ie : ∀ x y : Int, PyData.eqv (.int x) (.int y) = decide (x = y) := fun x y => by rw [show PyData.eqv (.int x) (.int y) = (x == y) from rfl, Bool.eq_iff_iff]; simp
  rw [ltDs, ltDs, ltDs, ltDs, lexG, lexG, lexG, lexG, ie, ie, ie]
  by_cases e1 : a1 = b1
  · rw [if_pos (decide_eq_true e1), if_pos e1]
    by_cases e2 : a2 = b2
    · rw [if_pos (decide_eq_true e2), if_pos e2]
      by_cases e3 : a3 = b3
      · rw [if_pos (decide_eq_true e3), if_pos e3]
      · rw [if_neg (by simpa using e3), if_neg e3]; rfl
    · rw [if_neg (by simpa using e2), if_neg e2]; rfl
  · rw [if_neg (by simpa using e1), if_neg e1]; rfl
theorem ltD_stps : ∀ a b : List Stp, ltDs (a.map stp) (b.map stp) = some (pLt a b)
  | [], [] => rfl
  | [], _ :: _ => rfl
  | _ :: _, [] => rfl
  | x :: a, y :: b => by
    rw [List.map_cons, List.map_cons, ltDs, stp_eqv, ltD_stps a b, ltD_stp]
    show _ = some (if x = y then lexG sLt a b else sLt x y)
    by_cases e : x = y
    · rw [if_pos (decide_eq_true e), if_pos e]
    · rw [if_neg (by simpa using e), if_neg e]
theorem ltD_plc (a b : List Stp) : ltD (plc a) (plc b) = some (pLt a b) := ltD_stps a b
/-! ### the later of two -/
end L2

namespace L2
open PySem PySem.Spec PyProof.Rows PySem.NumText PySem.W
/-! ### sorting fewer than 64 that are unlike: what the asking tree comes to -/
section
variable {n : Nat} {s : Shared} {cmp : Nat → Nat → (Bool → Shared → Prop) → Shared → Prop} {lt : Nat → Nat → Bool}
/-- the asks are answered by lt -/
noncomputable def Asks (n : Nat) (s : Shared) (cmp : Nat → Nat → (Bool → Shared → Prop) → Shared → Prop) (lt : Nat → Nat → Bool) : Prop := ∀ i j C, i < n → j < n → C (lt i j) s → cmp i j C s
structure Ord (n : Nat) (lt : Nat → Nat → Bool) : Prop where
  tr : ∀ a b c, a < n → b < n → c < n → lt a b = true → lt b c = true → lt a c = true
  tri : ∀ a b, a < n → b < n → a ≠ b → lt a b = false → lt b a = true
  asy : ∀ a b, a < n → b < n → lt a b = true → lt b a = false
structure Pm (n : Nat) (p : Array Nat) : Prop where
  pm : p.toList.Perm (List.range n)
noncomputable abbrev at_ (p : Array Nat) (k : Nat) : Nat := p.getD k 0
theorem Pm.size {p : Array Nat} (h : Pm n p) : p.size = n := by have := h.pm.length_eq; simpa using this
theorem at_eq {p : Array Nat} {k : Nat} (h : k < p.size) : at_ p k = p[k] := by simp [at_, Array.getD, h]
theorem Pm.inb {p : Array Nat} (h : Pm n p) {k : Nat} (hk : k < n) : at_ p k < n := by
  have hs := h.size
  rw [at_eq (by omega)]
  have : p[k]'(by omega) ∈ p.toList := by simp
  have := h.pm.mem_iff.mp this
  simpa using this
theorem Pm.inj {p : Array Nat} (h : Pm n p) {i j : Nat} (hi : i < n) (hj : j < n) (e : at_ p i = at_ p j) : i = j := by
  have hs := h.size
  rw [at_eq (by omega), at_eq (by omega)] at e
  have nd : p.toList.Nodup := h.pm.nodup_iff.mpr List.nodup_range
  have pw := List.pairwise_iff_getElem.mp nd
  rcases Nat.lt_trichotomy i j with z | z | z
  · exact absurd e (pw i j (by simp; omega) (by simp; omega) z)
  · exact z
  · exact absurd e.symm (pw j i (by simp; omega) (by simp; omega) z)
noncomputable def Up (lt : Nat → Nat → Bool) (p : Array Nat) (m : Nat) : Prop := ∀ i j, i < j → j < m → lt (at_ p i) (at_ p j) = true
theorem up_chain {p : Array Nat} {m : Nat} (O : Ord n lt) (h : Pm n p) (hm : m ≤ n) (c : ∀ k, 1 ≤ k → k < m → lt (at_ p (k - 1)) (at_ p k) = true) : Up lt p m := by
  intro i j hij hj
  induction j with
  | zero => omega
  | succ j ih =>
    have h1 := c (j + 1) (by omega) hj
    rw [Nat.add_sub_cancel] at h1
    by_cases e : i = j
    · rw [e]; exact h1
    · exact O.tr _ _ _ (h.inb (by omega)) (h.inb (by omega)) (h.inb (by omega)) (ih (by omega) (by omega)) h1
theorem asc_wp (hc : Asks n s cmp lt) {p : Array Nat} (h : Pm n p) : ∀ (f m : Nat) {Q : Nat → Shared → Prop}, 1 ≤ m → m + f ≤ n →
    (∀ r, m ≤ r → r ≤ m + f → (∀ k, m ≤ k → k < r → lt (at_ p k) (at_ p (k - 1)) = false) → (r < m + f → lt (at_ p r) (at_ p (r - 1)) = true) → Q r s) → (kas_asc p f m).kasWp cmp Q s
  | 0, m, Q, h1, hm, q => q m (Nat.le_refl _) (Nat.le_refl _) (fun k a b => by omega) (fun a => by omega)
  | f + 1, m, Q, h1, hm, q => by
    refine hc _ _ _ (h.inb (by omega)) (h.inb (by omega)) ?_
    cases e : lt (at_ p m) (at_ p (m - 1)) with
    | true => exact q m (Nat.le_refl _) (by omega) (fun k a b => by omega) (fun _ => e)
    | false =>
      refine asc_wp hc h f (m + 1) (by omega) (by omega) fun r a b c d => q r (by omega) (by omega) (fun k k1 k2 => ?_) (fun z => d (by omega))
      by_cases ek : k = m
      · rw [ek]; exact e
      · exact c k (by omega) k2
theorem desc_wp (O : Ord n lt) (hc : Asks n s cmp lt) {p : Array Nat} (h : Pm n p) : ∀ (f m : Nat) {Q : Array Nat × Nat × Nat → Shared → Prop}, 1 ≤ m → m + f ≤ n →
    (∀ r, m ≤ r → r ≤ m + f → (∀ k, m ≤ k → k < r → lt (at_ p k) (at_ p (k - 1)) = true) → Q (p, r, 0) s) → (kas_desc f p m 0).kasWp cmp Q s
  | 0, m, Q, h1, hm, q => q m (Nat.le_refl _) (Nat.le_refl _) (fun k a b => by omega)
  | f + 1, m, Q, h1, hm, q => by
    refine hc _ _ _ (h.inb (by omega)) (h.inb (by omega)) ?_
    cases e : lt (at_ p m) (at_ p (m - 1)) with
    | true =>
      show (kas_desc f p (m + 1) 0).kasWp cmp Q s
      refine desc_wp O hc h f (m + 1) (by omega) (by omega) fun r a b c => q r (by omega) (by omega) (fun k k1 k2 => ?_)
      by_cases ek : k = m
      · rw [ek]; exact e
      · exact c k (by omega) k2
    | false =>
      refine hc _ _ _ (h.inb (by omega)) (h.inb (by omega)) ?_
      have := O.tri _ _ (h.inb (k := m) (by omega)) (h.inb (k := m - 1) (by omega)) (fun z => by have := h.inj (by omega) (by omega) z; omega) e
      rw [show lt (p.getD (m - 1) 0) (p.getD m 0) = true from this]
      exact q m (Nat.le_refl _) (by omega) (fun k a b => by omega)
theorem pm_of_perm {p q : Array Nat} (h : Pm n p) (e : q.Perm p) : Pm n q := ⟨(Array.perm_iff_toList_perm.mp e).trans h.pm⟩
theorem rev_at {p : Array Nat} (h : Pm n p) {m : Nat} (hm : m ≤ n) {k : Nat} (hk : k < n) : at_ (kas_rev p 0 m) k = if k < m then at_ p (m - 1 - k) else at_ p k := by
  have hs := h.size
  have := getElem?_mirror_all (xs := p) (i := 0) (j := m) (by omega) k
  unfold at_
  rw [Array.getD_eq_getD_getElem?, kas_rev, this]
  by_cases hkm : k < m
  · rw [if_pos hkm, if_pos ⟨by omega, hkm⟩, Array.getD_eq_getD_getElem?, show 0 + m - 1 - k = m - 1 - k by omega]
  · rw [if_neg hkm, if_neg (by omega), Array.getD_eq_getD_getElem?]
theorem tail3_wp (O : Ord n lt) (hc : Asks n s cmp lt) {p : Array Nat} (h : Pm n p) {m : Nat} {Q : Nat × Array Nat → Shared → Prop} (h1 : 1 ≤ m) (hm : m ≤ n) (hd : ∀ k, 1 ≤ k → k < m → lt (at_ p k) (at_ p (k - 1)) = true)
    (q : ∀ r p', 1 ≤ r → r ≤ n → Pm n p' → Up lt p' r → Q (r, p') s) : (kas_tail3 m n p).kasWp cmp Q s := by
  have hp' : Pm n (kas_rev p 0 m) := pm_of_perm h (mirror_perm _ _ _ _)
  unfold kas_tail3
  rw [KasT.kasWp_bind]
  refine asc_wp hc hp' (n - m) m h1 (by omega) fun r a b c _ => q r _ (by omega) (by omega) hp' (up_chain O hp' (by omega) fun k k1 k2 => ?_)
  by_cases hk : k < m
  · rw [rev_at h hm (by omega), rev_at h hm (by omega), if_pos (by omega), if_pos hk]
    have := hd (m - 1 - (k - 1)) (by omega) (by omega)
    rw [show m - 1 - (k - 1) - 1 = m - 1 - k by omega] at this
    exact this
  · exact O.tri _ _ (hp'.inb (by omega)) (hp'.inb (by omega)) (fun z => by have := hp'.inj (by omega) (by omega) z; omega) (c k (by omega) k2)
theorem descPart_wp (O : Ord n lt) (hc : Asks n s cmp lt) {p : Array Nat} (h : Pm n p) {Q : Nat × Array Nat → Shared → Prop} (h2 : 2 ≤ n) (hd : lt (at_ p 1) (at_ p 0) = true)
    (q : ∀ r p', 1 ≤ r → r ≤ n → Pm n p' → Up lt p' r → Q (r, p') s) : (kas_descPart 1 n p).kasWp cmp Q s := by
  unfold kas_descPart
  rw [KasT.kasWp_bind]
  refine desc_wp O hc h (n - 2) 2 (by omega) (by omega) fun r a b c => ?_
  show (kas_tail3 r n p).kasWp cmp Q s
  refine tail3_wp O hc h (by omega) (by omega) (fun k k1 k2 => ?_) q
  by_cases e : k = 1
  · rw [e]; exact hd
  · exact c k (by omega) k2
theorem count_wp (O : Ord n lt) (hc : Asks n s cmp lt) {p : Array Nat} (h : Pm n p) {Q : Nat × Array Nat → Shared → Prop} (h2 : 2 ≤ n)
    (q : ∀ r p', 1 ≤ r → r ≤ n → Pm n p' → Up lt p' r → Q (r, p') s) : (kas_count n p).kasWp cmp Q s := by
  unfold kas_count
  rw [KasT.kasWp_bind]
  refine asc_wp hc h (n - 1) 1 (by omega) (by omega) fun r a b c d => ?_
  have up : Up lt p r := up_chain O h (by omega) fun k k1 k2 => O.tri _ _ (h.inb (by omega)) (h.inb (by omega)) (fun z => by have := h.inj (by omega) (by omega) z; omega) (c k k1 k2)
  by_cases e : r = n
  · rw [if_pos (by simp [e])]
    exact q r p (by omega) (by omega) h up
  · rw [if_neg (by simp [e])]
    by_cases e1 : r > 1
    · rw [if_pos e1]
      refine hc _ _ _ (h.inb (by omega)) (h.inb (by omega)) ?_
      have := up 0 (r - 1) (by omega) (by omega)
      rw [show lt (p.getD 0 0) (p.getD (r - 1) 0) = true from this]
      exact q r p (by omega) (by omega) h up
    · rw [if_neg e1]
      obtain rfl : r = 1 := by omega
      exact descPart_wp O hc h h2 (d (by omega)) q
theorem place_wp (O : Ord n lt) (hc : Asks n s cmp lt) {p : Array Nat} (h : Pm n p) {k : Nat} (hk : k < n) (up : Up lt p k) : ∀ (f l r : Nat) {Q : Nat → Shared → Prop}, l ≤ r → r ≤ k → r - l ≤ f →
    (∀ i, i < l → lt (at_ p k) (at_ p i) = false) → (∀ i, r ≤ i → i < k → lt (at_ p k) (at_ p i) = true) →
    (∀ l', l' ≤ k → (∀ i, i < l' → lt (at_ p k) (at_ p i) = false) → (∀ i, l' ≤ i → i < k → lt (at_ p k) (at_ p i) = true) → Q l' s) → (kas_place p k f l r).kasWp cmp Q s
  | 0, l, r, Q, h1, h2, h3, a, b, q => q l (by omega) a fun i i1 i2 => b i (by omega) i2
  | f + 1, l, r, Q, h1, h2, h3, a, b, q => by
    unfold kas_place
    by_cases e : l ≥ r
    · rw [if_pos e]
      exact q l (by omega) a fun i i1 i2 => b i (by omega) i2
    · rw [if_neg e]
      refine hc _ _ _ (h.inb hk) (h.inb (by omega)) ?_
      cases e2 : lt (p.getD k 0) (p.getD ((l + r) / 2) 0) with
      | true =>
        refine place_wp O hc h hk up f l ((l + r) / 2) (by omega) (by omega) (by omega) a (fun i i1 i2 => ?_) q
        by_cases ei : i = (l + r) / 2
        · rw [ei]; exact e2
        · exact O.tr _ _ _ (h.inb hk) (h.inb (by omega)) (h.inb (by omega)) e2 (up _ _ (by omega) i2)
      | false =>
        refine place_wp O hc h hk up f ((l + r) / 2 + 1) r (by omega) h2 (by omega) (fun i i1 => ?_) b q
        have hm := O.tri _ _ (h.inb hk) (h.inb (k := (l + r) / 2) (by omega)) (fun z => by have := h.inj hk (by omega) z; omega) e2
        by_cases ei : i = (l + r) / 2
        · rw [ei]; exact e2
        · exact O.asy _ _ (h.inb (by omega)) (h.inb hk) (O.tr _ _ _ (h.inb (by omega)) (h.inb (k := (l + r) / 2) (by omega)) (h.inb hk) (up i _ (by omega) (by omega)) hm)
theorem bub_at {p : Array Nat} (h : Pm n p) {k l : Nat} (hk : k < n) (hl : l ≤ k) {i : Nat} (hi : i < n) : at_ (bubble p k (k - l)) i = if i < l then at_ p i else if i = l then at_ p k else if i ≤ k then at_ p (i - 1) else at_ p i := by
  have hs := h.size
  have := getElem?_bubble (xs := p) (src := k) (by omega) (k - l) (by omega) i
  unfold at_
  simp only [Array.getD_eq_getD_getElem?]
  rw [this]
  rw [show k - (k - l) = l by omega]
  by_cases e1 : i < l
  · rw [if_pos e1, if_neg (by omega), if_neg (by omega)]
  · rw [if_neg e1]
    by_cases e2 : i = l
    · rw [if_pos e2, if_pos e2]
    · rw [if_neg e2, if_neg e2]
      by_cases e3 : i ≤ k
      · rw [if_pos e3, if_pos ⟨by omega, e3⟩]
      · rw [if_neg e3, if_neg (by omega)]
theorem bin_wp (O : Ord n lt) (hc : Asks n s cmp lt) : ∀ (f : Nat) (p : Array Nat) (k : Nat) {Q : Array Nat → Shared → Prop}, Pm n p → k + f = n → Up lt p k → (∀ p', Pm n p' → Up lt p' n → Q p' s) → (kas_bin f p k).kasWp cmp Q s
  | 0, p, k, Q, h, hk, up, q => by
    obtain rfl : k = n := by omega
    exact q p h up
  | f + 1, p, k, Q, h, hk, up, q => by
    unfold kas_bin
    rw [KasT.kasWp_bind]
    have hkn : k < n := by omega
    refine place_wp O hc h hkn up k 0 k (by omega) (Nat.le_refl _) (by omega) (fun i z => by omega) (fun i z z2 => by omega) fun l hl a b => ?_
    have hp' : Pm n (bubble p k (k - l)) := pm_of_perm h (bubble_perm _ _ _)
    refine bin_wp O hc f _ (k + 1) hp' (by omega) (fun i j hij hj => ?_) q
    rw [bub_at h hkn hl (by omega), bub_at h hkn hl (by omega)]
    have lo : ∀ i, i < l → lt (at_ p i) (at_ p k) = true := fun i hi => O.tri _ _ (h.inb hkn) (h.inb (by omega)) (fun z => by have := h.inj hkn (by omega) z; omega) (a i hi)
    by_cases i1 : i < l
    · rw [if_pos i1]
      by_cases j1 : j < l
      · rw [if_pos j1]; exact up i j hij (by omega)
      · rw [if_neg j1]
        by_cases j2 : j = l
        · rw [if_pos j2]; exact lo i i1
        · rw [if_neg j2, if_pos (by omega)]; exact up i (j - 1) (by omega) (by omega)
    · rw [if_neg i1, if_neg (show ¬ j < l by omega), if_neg (show ¬ j = l by omega), if_pos (show j ≤ k by omega)]
      by_cases i2 : i = l
      · rw [if_pos i2]; exact b (j - 1) (by omega) (by omega)
      · rw [if_neg i2, if_pos (by omega)]; exact up (i - 1) (j - 1) (by omega) (by omega)
theorem range_pm : Pm n (List.range n).toArray := ⟨by simp⟩
theorem sort_wp (O : Ord n lt) (hc : Asks n s cmp lt) (h2 : 2 ≤ n) {Q : Array Nat → Shared → Prop} (q : ∀ p', Pm n p' → Up lt p' n → Q p' s) : (kas_sort n).kasWp cmp Q s := by
  unfold kas_sort
  rw [KasT.kasWp_bind]
  refine count_wp O hc range_pm h2 fun r p' a b hp up => ?_
  by_cases e : r < n
  · show (if r < n then kas_bin (n - max r 1) p' (max r 1) else .ret p' : KasT _).kasWp cmp Q s
    rw [if_pos e, show max r 1 = r by omega]
    exact bin_wp O hc _ p' r hp (by omega) up q
  · show (if r < n then kas_bin (n - max r 1) p' (max r 1) else .ret p' : KasT _).kasWp cmp Q s
    rw [if_neg e]
    obtain rfl : r = n := by omega
    exact q p' hp up
end
end L2

namespace L2
open PySem PySem.Spec PyProof.Rows PySem.NumText PySem.W
section
variable {prog : Program} {w : World} {A : Around} {E : Value → Shared → Prop} {s : Shared} {a : Addr} {vs : List Value} {lt : Nat → Nat → Bool}
noncomputable abbrev outOf (vs : List Value) (p : Array Nat) : List Value := p.toList.map fun i => vs.getD i .none
theorem out_range (vs : List Value) : outOf vs (List.range vs.length).toArray = vs := by
  unfold outOf
  refine List.ext_getElem (by simp) fun i h1 h2 => ?_
  simp only [List.getElem_map, List.getElem_range]
  simp [h2]
/-- list.sort of fewer than 64 that are unlike, whatever they are: what comes of it -/
theorem sort_shell {c : Nat} {P : PySem.Fin → Shared → Prop} (ho : s.heap.get? a = some (seqObj "list" vs.toArray c)) (few : vs.length < 64) (O : Ord vs.length lt)
    (hk : 2 ≤ vs.length → ∀ h', (∀ b o, b ≠ a → s.heap.get? b = some o → h'.get? b = some o) → ∃ κ, (∀ (R : SortKind → Shared → Prop) (E' : Value → Shared → Prop), R κ { s with heap := h' } → wpAny (model prog w) A (keyKind' vs.toArray) R E' { s with heap := h' }) ∧ Asks vs.length { s with heap := h' } (kas_ask prog w A κ vs) lt)
    (h : ∀ (p : Array Nat) (h' : Heap) (c' : Nat), Pm vs.length p → Up lt p vs.length → h'.get? a = some (seqObj "list" (outOf vs p).toArray c') → (∀ b o, b ≠ a → s.heap.get? b = some o → h'.get? b = some o) → P (.done (.ret .none)) { s with heap := h' }) :
    wpAny (model prog w) A (Builtin.«list.sort» ⟨[.ref a], []⟩) P E s := by
  have la : a < s.heap.objs.size := Heap.lt_size ho
  have line : vs.length ≤ sizeLine := by rw [sizeLine_eq]; omega
  obtain ⟨e1, ho1⟩ : ∃ e1, (s.heap.update a (Obj.mapSeq fun _ => (#[] : Array Value))).get? a = some (seqObj "list" #[] e1) := ⟨_, get?_update_seq ho fun _ => #[]⟩
  generalize hh : ((s.heap.update a (Obj.mapSeq fun _ => (#[] : Array Value))).push (seqObj "tuple" vs.toArray 0)).push (seqObj "list" #[] 0) = h3
  have keep3 : ∀ b o, b ≠ a → s.heap.get? b = some o → h3.get? b = some o := fun b o nb q => by
    rw [← hh]
    refine Heap.get?_push_of_some _ (Heap.get?_push_of_some _ ?_)
    rw [Heap.get?_update_other _ _ (Ne.symm nb)]
    exact q
  have at3 : h3.get? a = some (seqObj "list" #[] e1) := by rw [← hh]; exact Heap.get?_push_of_some _ (Heap.get?_push_of_some _ ho1)
  -- the list is filled at the end
  have fin : ∀ (p : Array Nat), Pm vs.length p → Up lt p vs.length → P (.done (.ret .none)) { s with heap := h3.update a (Obj.mapSeq fun _ => (outOf vs p).toArray) } := fun p hp up => by
    obtain ⟨c2, hc2⟩ : ∃ c2, (h3.update a (Obj.mapSeq fun _ => (outOf vs p).toArray)).get? a = some (seqObj "list" (outOf vs p).toArray c2) := ⟨_, get?_update_seq at3 fun _ => (outOf vs p).toArray⟩
    refine h p _ c2 hp up hc2 fun b o nb q => ?_
    rw [Heap.get?_update_other _ _ (Ne.symm nb)]
    exact keep3 b o nb q
  rw [list_sort_plain]
  refine wpAny_bind (listItems_at ho rfl (wpAny_bind (listUpdate_at ho rfl ?_ (by rw [List.size_toArray]; exact line) (Nat.zero_le _))))
  refine wpAny_bind (seqEpoch_at ho1 rfl (wpAny_bind (wpAny_newTuple (wpAny_bind (wpAny_newList (wpAny_holding ?_) (Nat.zero_le _))) line)))
  show wpAny (model prog w) A _ P E { s with heap := ((s.heap.update a (Obj.mapSeq fun _ => (#[] : Array Value))).push (seqObj "tuple" vs.toArray 0)).push (seqObj "list" #[] 0) }
  rw [hh]
  dsimp only
  by_cases few2 : vs.toArray.size < 2
  · rw [if_pos few2, if_pos few2]
    refine wpAny_bind (wpAny_pure ?_)
    rw [StateT.run_pure]
    refine wpAny_bind (wpAny_pure ?_)
    dsimp only
    have hsz : vs.length < 2 := by simpa using few2
    have e : (arrOf (SortSt.mk' general' (vs.toArray.zip vs.toArray) #[] 7 none)).map (·.2) = (outOf vs (List.range vs.length).toArray).toArray := by
      rw [out_range]
      show (vs.toArray.zip vs.toArray).map (·.2) = vs.toArray
      refine Array.ext (by simp) fun i h1 h2 => ?_
      simp
    refine wpAny_bind (seqEpoch_at at3 rfl (wpAny_bind (listUpdate_at at3 rfl ?_ (Nat.zero_le _) ?_)))
    · simp only [bne_self_eq_false, Bool.false_eq_true, if_false]
      refine wpAny_pure ?_
      rw [e]
      exact fin _ range_pm fun i j hij hj => by omega
    · rw [e]
      simp only [outOf, List.size_toArray, List.length_map, List.length_range]
      omega
  · rw [if_neg few2, if_neg few2]
    have two : 2 ≤ vs.length := by
      have : ¬ vs.length < 2 := by simpa using few2
      omega
    obtain ⟨κ, kind, asks⟩ := hk two h3 keep3
    refine wpAny_bind (kind _ _ ?_)
    refine wpAny_bind (wpAny_mono (kat_run (Q := fun st' s' => s' = { s with heap := h3 } ∧ ∃ p : Array Nat, Pm vs.length p ∧ Up lt p vs.length ∧ arrOf st' = p.map (kas_item (vs.toArray.zip vs.toArray)) ∧ failedOf st' = none)
      (G := fun p s' => s' = { s with heap := h3 } ∧ Pm vs.length p ∧ Up lt p vs.length) rfl two few (fun p' st' s' _ a2 a3 a4 => ⟨a4.1, p', a4.2.1, a4.2.2, a2, a3⟩) (sort_wp O asks two fun p' hp up => ⟨rfl, hp, up⟩)) ?_ fun _ _ e => e)
    rintro ⟨⟨⟩, st'⟩ s' ⟨rfl, p, hp, up, har, hf⟩
    have e := kat_snds rfl har
    dsimp only
    rw [e]
    refine wpAny_bind (seqEpoch_at at3 rfl (wpAny_bind (listUpdate_at at3 rfl ?_ (Nat.zero_le _) ?_)))
    · rw [hf]
      simp only [bne_self_eq_false, Bool.false_eq_true, if_false]
      exact wpAny_pure (fin p hp up)
    · rw [List.size_toArray, List.length_map, Array.length_toList, hp.size]
      omega
/-- sorted, behind what it collects -/
noncomputable def SortGo (prog : Program) (w : World) (A : Around) (vs : List Value) (s : Shared) (Q : Value → Shared → Prop) : Prop := ∃ lt, vs.length < 64 ∧ Ord vs.length lt ∧
  (2 ≤ vs.length → ∀ h', (∀ b o, s.heap.get? b = some o → h'.get? b = some o) → ∃ κ, (∀ (R : SortKind → Shared → Prop) (E' : Value → Shared → Prop), R κ { s with heap := h' } → wpAny (model prog w) A.in1.in1 (keyKind' vs.toArray) R E' { s with heap := h' }) ∧ Asks vs.length { s with heap := h' } (kas_ask prog w A.in1.in1 κ vs) lt) ∧
  ∀ (p : Array Nat) (h' : Heap) (l c : Nat), Pm vs.length p → Up lt p vs.length → s.heap.objs.size ≤ l → h'.get? l = some (seqObj "list" (outOf vs p).toArray c) → (∀ b o, s.heap.get? b = some o → h'.get? b = some o) → Q (.ref l) { s with heap := h' }
theorem sorted_shell {x : Value} {Q : Value → Shared → Prop} (hc : wpAny (model prog w) A.in1 (collect x) (fun us s1 => SortGo prog w A us s1 Q) E s) :
    wpAny (model prog w) A (call (.builtin "sorted") [x]) Q E s := by
  refine Calls.call_function_entry kind_sorted plain_sorted entry_sorted (args_sorted1 _) ?_
  unfold Builtin.«sorted»
  refine wpAny_bind (m := checkCount "sorted" 1 1 _) (wpAny_pure (wpAny_bind (wpAny_mono hc (fun us s1 hg => ?_) fun _ _ e => e)))
  obtain ⟨lt, few, O, hk, h⟩ := hg
  have line : us.length ≤ sizeLine := by rw [sizeLine_eq]; omega
  refine wpAny_bind (wpAny_newList ?_ line)
  have at2 : (s1.heap.push (seqObj "list" us.toArray 0)).get? s1.heap.objs.size = some (seqObj "list" us.toArray 0) := Heap.get?_push_size _ rfl
  have old : ∀ b o, s1.heap.get? b = some o → b ≠ s1.heap.objs.size := fun b o q => Nat.ne_of_lt (Heap.lt_size q)
  refine wpAny_bind (wpAny_holding (wpAny_call_entry slot_list_sort ⟨_, at2, rfl⟩ entry_list_sort (sort_shell at2 few O (fun two h' kp => hk two h' fun b o q => kp b o (old b o q) (Heap.get?_push_of_some _ q)) fun p h' c hp up hl kp => ⟨_, rfl, ?_⟩) (args_list_sort _)))
  exact wpAny_pure ⟨_, rfl, h p h' _ c hp up (Nat.le_refl _) hl fun b o q => kp b o (old b o q) (Heap.get?_push_of_some _ q)⟩
end
end L2

namespace L2
open PySem PySem.Spec PyProof.Rows PySem.NumText PySem.W
section
variable {prog : Program} {w : World} {A : Around} {E : Value → Shared → Prop} {s : Shared}
/-- two tuples in the sort's own order: that of the data -/
theorem katLex_data (hu : A.units + 70 < cLine) {b fin : Bool} {Q : Bool → Shared → Prop} : ∀ (ds es : List PyData) (us ws : List Value) (as bs : List Addr) (i : Nat) (c : Bool), ReadsAll s.heap us ds as → ReadsAll s.heap ws es bs →
    PyData.canLayAll0 ds = true → PyData.canLayAll0 es = true → PyData.depthAll ds ≤ 64 → (b = true → i = 0 → ∀ d e r t, ds = d :: r → es = e :: t → ∃ m n, d = .int m ∧ e = .int n) →
    fin = decide (us.length < ws.length) → ltDs ds es = some c → Q c s → KatLex prog w A b fin Q (us.zip ws) i s
  | [], [], _, _, _, _, i, c, .nil, .nil, _, _, _, _, hf, hc, hq => by
    cases hc
    subst hf
    exact kat_nil hq
  | [], e :: es, _, _, _, _, i, c, .nil, .cons r rr, _, _, _, _, hf, hc, hq => by
    cases hc
    subst hf
    refine kat_nil ?_
    simpa using hq
  | d :: ds, [], _, _, _, _, i, c, .cons r rr, .nil, _, _, _, _, hf, hc, hq => by
    cases hc
    subst hf
    rw [List.zip_nil_right]
    refine kat_nil ?_
    simpa using hq
  | d :: ds, e :: es, _, _, _, _, i, c, .cons (v := u) (vs := us) r rr, .cons (v := x) (vs := ws) q qq, la, lb, hd, hi, hf, hc, hq => by
    rw [PyData.canLayAll0, Bool.and_eq_true] at la lb
    rw [PyData.depthAll] at hd
    rw [ltDs] at hc
    have d1 : PyData.depth d ≤ 64 := by omega
    have d2 : PyData.depthAll ds ≤ 64 := by omega
    have hmin : min d.depth e.depth ≤ d.depth := Nat.min_le_left _ _
    refine kat_cons (SeqAt.eqAt_reads d e A s _ _ _ _ r q la.1 lb.1 (by omega) prog w _ _ ?_)
    cases he : PyData.eqv d e with
    | true =>
      rw [he, if_pos rfl] at hc
      refine kat_yes (katLex_data hu ds es us ws _ _ (i + 1) c rr qq la.2 lb.2 d2 (fun _ z => by omega) ?_ hc hq)
      rw [hf]
      exact decide_eq_decide.mpr (by simp)
    | false =>
      rw [he, if_neg Bool.false_ne_true] at hc
      refine kat_no ?_
      cases hb : (b && i == 0) with
      | false => exact kat_one _ _ ((cmpAt_data 64 d e c A s _ _ _ _ d1 r q la.1 lb.1 hc (by omega)).1 prog w _ _ (show PySem.W.BoolBack Q (.bool c) s from hq))
      | true =>
        rw [Bool.and_eq_true] at hb
        obtain ⟨m, n, rfl, rfl⟩ := hi hb.1 (by simpa using hb.2) d e ds es rfl rfl
        cases r
        cases q
        have hc : decide (m < n) = c := by simpa [ltD] using hc
        subst hc
        exact oneLt_int hq
/-- what the first items are -/
inductive FirstTy | int | tup
noncomputable def FirstTy.ty : FirstTy → Value
  | .int => .type "int"
  | .tup => .type "tuple"
noncomputable def FirstTy.of : FirstTy → PyData → Prop
  | .int, d => ∃ n, d = .int n
  | .tup, d => ∃ l, d = .tuple l
theorem reads_typeOf {h : Heap} {v : Value} {d : PyData} {as : List Addr} (r : Reads h v d as) {f : FirstTy} (hf : f.of d) : Looks (model prog w) h (typeOf v) f.ty := by
  cases f with
  | int =>
    obtain ⟨n, rfl⟩ := hf
    cases r
    exact fun A Q E s _ q => wpAny_pure q
  | tup =>
    obtain ⟨l, rfl⟩ := hf
    cases r with
    | tuple h1 h2 h3 h4 =>
      have := (show Looks (model prog w) h (typeOf (.ref _)) _ from (Looks.ld h1).andThen .now)
      rw [h2] at this
      exact this
theorem tups_of {prog : Program} {w : World} {h : Heap} {f : FirstTy} : ∀ {vs : List Value} {ds : List PyData} {as : List Addr}, ReadsAll h vs ds as → (∀ d ∈ ds, ∃ x r, d = .tuple (x :: r) ∧ f.of x) → ∃ fs, KatTups h vs fs ∧ fs.length = vs.length ∧ ∀ v ∈ fs, Looks (model prog w) h (typeOf v) f.ty
  | _, _, _, .nil, _ => ⟨[], trivial, rfl, fun _ z => nomatch z⟩
  | _, _, _, .cons r rr, hd => by
    obtain ⟨fs, k, l, t⟩ := tups_of (prog := prog) (w := w) rr fun d hm => hd d (List.mem_cons_of_mem _ hm)
    obtain ⟨x, rest, rfl, hx⟩ := hd _ List.mem_cons_self
    cases r with
    | @tuple a o vs n xs as h1 h2 h3 h4 =>
      have h4' := h4
      generalize hvs : vs.toList = vl at h4
      cases h4 with
      | @cons y ys _ _ _ _ ry rys =>
        refine ⟨y :: fs, ⟨⟨_, _, _, _, rfl, h1, h2, h3, ?_⟩, k⟩, by simp [l], fun v hv => ?_⟩
        · rw [← Array.getElem?_toList, hvs]; rfl
        · rcases List.mem_cons.mp hv with rfl | hv
          · exact reads_typeOf ry hx
          · exact t v hv
end
theorem readsAll_ix {h : Heap} : ∀ {vs : List Value} {ds : List PyData} {as : List Addr}, ReadsAll h vs ds as → ∀ {i : Nat} {d : PyData}, ds[i]? = some d → ∃ v bs, vs[i]? = some v ∧ Reads h v d bs
  | _, _, _, .nil, i, d, e => by simp at e
  | _, _, _, .cons r rr, 0, d, e => by
    have e := Option.some.inj e
    subst e
    exact ⟨_, _, rfl, r⟩
  | _, _, _, .cons r rr, i + 1, d, e => by
    obtain ⟨v, bs, h1, h2⟩ := readsAll_ix rr (i := i) (d := d) (by simpa using e)
    exact ⟨v, bs, by simpa using h1, h2⟩
theorem readsAll_len {h : Heap} : ∀ {vs : List Value} {ds : List PyData} {as : List Addr}, ReadsAll h vs ds as → vs.length = ds.length
  | _, _, _, .nil => rfl
  | _, _, _, .cons r rr => by rw [List.length_cons, List.length_cons, readsAll_len rr]
/-- what is sorted: things as told by tuples, in an order that tells any two apart -/
structure Srt {α : Type} (as : List α) (enc : α → List PyData) (lt : α → α → Bool) (f : FirstTy) : Prop where
  sto : STO lt
  few : as.length < 64
  nd : as.Nodup
  lts : ∀ a ∈ as, ∀ b ∈ as, ltDs (enc a) (enc b) = some (lt a b)
  fst : ∀ a ∈ as, ∃ x r, enc a = x :: r ∧ f.of x
  shp : ∀ a ∈ as, SeqAt.shaped (.tuple (enc a)) = true
section
variable {α : Type} {as : List α} {enc : α → List PyData} {lt : α → α → Bool} {f : FirstTy}
theorem Srt.ord (S : Srt as enc lt f) (d : α) : Ord as.length (fun i j => lt (as.getD i d) (as.getD j d)) where
  tr := fun a b c _ _ _ h1 h2 => S.sto.tr _ _ _ h1 h2
  tri := fun a b ha hb hn h => S.sto.tri _ _ (fun e => hn (by
    rw [List.getD_eq_getElem?_getD, List.getD_eq_getElem?_getD, List.getElem?_eq_getElem ha, List.getElem?_eq_getElem hb] at e
    have e : as[a] = as[b] := e
    have pw := List.pairwise_iff_getElem.mp S.nd
    rcases Nat.lt_trichotomy a b with z | z | z
    · exact absurd e (pw a b ha hb z)
    · exact z
    · exact absurd e.symm (pw b a hb ha z))) h
  asy := fun a b _ _ h => S.sto.asym h
/-- the sort goes, behind what is collected -/
theorem Srt.go (S : Srt as enc lt f) (d : α) {prog : Program} {w : World} {A : Around} {s : Shared} {us : List Value} {bs : List Addr} {Q : Value → Shared → Prop} (hu : A.units + 80 < cLine) (r : ReadsAll s.heap us (as.map fun a => .tuple (enc a)) bs)
    (q : ∀ (p : Array Nat) (h' : Heap) (l c : Nat), Pm as.length p → (p.toList.map fun i => as.getD i d).Pairwise (fun a b => lt a b = true) → (p.toList.map fun i => as.getD i d).Perm as → s.heap.objs.size ≤ l → h'.get? l = some (seqObj "list" (outOf us p).toArray c) → (∀ b o, s.heap.get? b = some o → h'.get? b = some o) → Q (.ref l) { s with heap := h' }) :
    SortGo prog w A us s Q := by
  have hl : us.length = as.length := by rw [readsAll_len r, List.length_map]
  refine ⟨fun i j => lt (as.getD i d) (as.getD j d), by rw [hl]; exact S.few, by rw [hl]; exact S.ord d, fun two h' kp => ?_, fun p h' l c hp up hlt hat kp => ?_⟩
  · have r' := readsAll_ext kp r
    obtain ⟨fs, k, lf, tf⟩ := tups_of (prog := prog) (w := w) (f := f) r' (fun x hx => by
      obtain ⟨a, ha, rfl⟩ := List.mem_map.mp hx
      obtain ⟨y, t, e, hy⟩ := S.fst a ha
      exact ⟨y, t, by rw [e], hy⟩)
    refine ⟨tuples' (f.ty != .type "tuple"), fun R E' hR => kat_kind (s := { s with heap := h' }) k (by omega) tf (by cases f <;> decide) hR, fun i j C hi hj hC => ?_⟩
    rw [hl] at hi hj
    have gi : as[i]? = some as[i] := List.getElem?_eq_getElem hi
    have gj : as[j]? = some as[j] := List.getElem?_eq_getElem hj
    have mi := List.getElem_mem hi
    have mj := List.getElem_mem hj
    have ei : as.getD i d = as[i] := by rw [List.getD_eq_getElem?_getD, gi]; rfl
    have ej : as.getD j d = as[j] := by rw [List.getD_eq_getElem?_getD, gj]; rfl
    dsimp only at hC
    rw [ei, ej] at hC
    obtain ⟨v, b1, hv, rv⟩ := readsAll_ix r' (i := i) (d := .tuple (enc as[i])) (by rw [List.getElem?_map, gi]; rfl)
    obtain ⟨x, b2, hx, rx⟩ := readsAll_ix r' (i := j) (d := .tuple (enc as[j])) (by rw [List.getElem?_map, gj]; rfl)
    have evi : us.getD i .none = v := by rw [List.getD_eq_getElem?_getD, hv]; rfl
    have evj : us.getD j .none = x := by rw [List.getD_eq_getElem?_getD, hx]; rfl
    unfold kas_ask
    rw [evi, evj]
    generalize as[i] = a at *
    generalize as[j] = b at *
    have sa := S.shp a mi
    have sb := S.shp b mj
    have la : PyData.canLayAll0 (enc a) = true := SeqAt.canLay_of_shaped sa
    have lb : PyData.canLayAll0 (enc b) = true := SeqAt.canLay_of_shaped sb
    have da : PyData.depth (.tuple (enc a)) ≤ 64 := SeqAt.depth_of_shaped sa
    have da : PyData.depthAll (enc a) + 1 ≤ 64 := da
    have first : ∀ d e r t, enc a = d :: r → enc b = e :: t → f = .int → ∃ m n, d = .int m ∧ e = .int n := fun d e r t e1 e2 hf => by
      subst hf
      obtain ⟨y, t1, e3, m, hm⟩ := S.fst a mi
      obtain ⟨z, t2, e4, n, hn⟩ := S.fst b mj
      rw [e1] at e3
      rw [e2] at e4
      cases e3
      cases e4
      exact ⟨m, n, hm, hn⟩
    cases rv with
    | @tuple l1 o1 x1 n1 _ _ h1 h2 h3 h4 =>
      cases rx with
      | @tuple l2 o2 x2 n2 _ _ g1 g2 g3 g4 =>
        refine kat_lt h1 h3 g1 g3 (katLex_data (by show A.units + 1 + 1 + 70 < cLine; omega) _ _ _ _ _ _ 0 (lt a b) h4 g4 la lb (by omega) (fun hb _ d e r t e1 e2 => first d e r t e1 e2 ?_) (by simp) (S.lts a mi b mj) hC)
        cases f with
        | int => rfl
        | tup => exact absurd hb (by decide)
  · rw [hl] at hp up
    refine q p h' l c hp ?_ ?_ hlt hat kp
    · rw [List.pairwise_iff_getElem]
      intro i j hi hj hij
      simp only [List.length_map, Array.length_toList] at hi hj
      have hs := hp.size
      have := up i j hij (by omega)
      rw [List.getElem_map, List.getElem_map]
      rw [at_eq (by omega), at_eq (by omega)] at this
      simpa using this
    · have h1 := hp.pm.map (fun i => as.getD i d)
      refine h1.trans ?_
      have : (List.range as.length).map (fun i => as.getD i d) = as := by
        refine List.ext_getElem (by simp) fun i h1 h2 => ?_
        simp [h2]
      rw [this]
end
end L2

namespace L2
open PySem PySem.Spec PyProof.Rows PySem.NumText PySem.W
section
variable {X : Cx}
theorem dvs_pick {K : PySem.W.Frag} {H : Hp} {α : Type} {as : List α} {en : α → PyData} {vs : List V} (h : DVs K H (as.map en) vs) (d : α) : ∀ (is : List Nat), (∀ i ∈ is, i < as.length) → DVs K H ((is.map fun i => as.getD i d).map en) (is.map fun i => vs.getD i .non)
  | [], _ => rfl
  | i :: is, hi => by
    have h1 := hi i List.mem_cons_self
    obtain ⟨v, hv, hd⟩ := h.get (i := i) (d := en as[i]) (by rw [List.getElem?_map, List.getElem?_eq_getElem h1]; rfl)
    have e1 : as.getD i d = as[i] := by rw [List.getD_eq_getElem?_getD, List.getElem?_eq_getElem h1]; rfl
    have e2 : vs.getD i .non = v := by rw [List.getD_eq_getElem?_getD, hv]; rfl
    refine ⟨v, _, ?_, ?_, dvs_pick h d is fun j hj => hi j (List.mem_cons_of_mem _ hj)⟩
    · rw [List.map_cons, e2]
    · show DV K H (en (as.getD i d)) v
      rw [e1]
      exact hd
theorem vals_pick {vs : List V} {us : List Value} (r : Vals vs us) : ∀ (is : List Nat), (∀ i ∈ is, i < vs.length) → Vals (is.map fun i => vs.getD i .non) (is.map fun i => us.getD i .none)
  | [], _ => .nil
  | i :: is, hi => by
    have h1 := hi i List.mem_cons_self
    obtain ⟨u, hu, ru⟩ := r.get (i := i) (x := vs[i]) (List.getElem?_eq_getElem h1)
    have e1 : vs.getD i .non = vs[i] := by rw [List.getD_eq_getElem?_getD, List.getElem?_eq_getElem h1]; rfl
    have e2 : us.getD i .none = u := by rw [List.getD_eq_getElem?_getD, hu]; rfl
    rw [List.map_cons, List.map_cons, e1, e2]
    exact .cons ru (vals_pick r is fun j hj => hi j (List.mem_cons_of_mem _ hj))
/-- the list that comes out, and how it goes on -/
noncomputable def SortQ (K : PySem.W.Frag) (H : Hp) {α : Type} (as : List α) (enc : α → List PyData) (lt : α → α → Bool) (Q : VK) : Prop :=
  ∀ (l : Addr) (bs : List α) (ws : List V), H l = none → bs.Perm as → bs.Pairwise (fun a b => lt a b = true) → DVs K H (bs.map fun a => .tuple (enc a)) ws → Q (.ref l) (upd H l (.lst ws))
theorem sort_go {pins : List (Addr × Obj)} {s s1 : Shared} {σ : St} {H : Hp} {Q : VK} {α : Type} {as : List α} {enc : α → List PyData} {lt : α → α → Bool} {f : FirstTy} {vs : List V} {us : List Value} (hu : X.A.units + 100 < cLine) (S : Srt as enc lt f)
    (I : Inv X pins σ H s1) (r : Vals vs us) (hd : DVs X.K H (as.map fun a => .tuple (enc a)) vs) (q : SortQ X.K H as enc lt Q) : SortGo X.prog X.w X.A us s1 (EP X pins σ Q) := by
  obtain ⟨bs, ra⟩ := DVs.reads I _ _ _ hd r
  have hl : vs.length = as.length := by rw [hd.length, List.length_map]
  have lay : ∀ (p : Array Nat) (d : α) (h' : Heap) (l c : Nat), Pm as.length p → (p.toList.map fun i => as.getD i d).Pairwise (fun a b => lt a b = true) → (p.toList.map fun i => as.getD i d).Perm as → s1.heap.objs.size ≤ l →
      h'.get? l = some (seqObj "list" (outOf us p).toArray c) → (∀ b o, s1.heap.get? b = some o → h'.get? b = some o) → EP X pins σ Q (.ref l) { s1 with heap := h' } := fun p d h' l c hp pw pm hle hat kp => by
    have hin : ∀ i ∈ p.toList, i < as.length := fun i hi => by simpa using hp.pm.mem_iff.mp hi
    have hn := I.hok.fresh hle
    refine ⟨.ref l, _, I.laid (t' := s1.toks) (o := .lst (p.toList.map fun i => vs.getD i .non)) kp hle ⟨?_, _, c, vals_pick r p.toList (fun i hi => by rw [hl]; exact hin i hi), hat⟩, rfl, q l _ _ hn pm pw (dvs_pick hd d p.toList hin)⟩
    rw [List.length_map, Array.length_toList, hp.size, sizeLine_eq]
    have := S.few
    omega
  cases has : as with
  | nil =>
    have hus : us.length = 0 := by rw [← r.length, hl, has]; rfl
    refine ⟨fun _ _ => false, by omega, ⟨fun a b c ha => by omega, fun a b ha => by omega, fun a b ha => by omega⟩, fun two => by omega, fun p h' l c hp up hle hat kp => ?_⟩
    have hp0 : p.toList = [] := by
      have := hp.pm
      rw [hus] at this
      exact List.perm_nil.mp this
    have hn := I.hok.fresh hle
    refine ⟨.ref l, _, I.laid (t' := s1.toks) (o := .lst []) kp hle ⟨Nat.zero_le _, _, c, .nil, ?_⟩, rfl, q l [] [] hn (by rw [has]) .nil rfl⟩
    rw [hat, outOf, hp0]
    rfl
  | cons d rest =>
    exact S.go d (by omega) ra fun p h' l c hp pw pm hle hat kp => lay p d h' l c hp pw pm hle hat kp
noncomputable def rSortL (K : PySem.W.Frag) : List V → Hp → VK → Prop := fun xs H Q => ∃ (α : Type) (as : List α) (enc : α → List PyData) (lt : α → α → Bool) (f : FirstTy) (p : Addr) (vs : List V), xs = [.ref p] ∧ SqL K H p vs ∧ DVs K H (as.map fun a => .tuple (enc a)) vs ∧ Srt as enc lt f ∧ SortQ K H as enc lt Q
theorem call_sortedL (hu : X.A.units + 100 < cLine) : CallR X (.builtin "sorted") (rSortL X.K) := by
  intro pins s σ H xs us Q I r h
  obtain ⟨α, as, enc, lt, f, p, vs, rfl, hq, hd, S, q⟩ := h
  obtain ⟨u, rfl, rx⟩ := vals1 r
  cases rx
  obtain ⟨its, rv, pl, hz⟩ := I.list hq
  refine sorted_shell (collect_list pl.isList ?_ (by rw [← rv.length]; exact hz))
  have kp : ∀ b o, s.heap.get? b = some o → ((s.heap.push (seqObj "list" #[] 0)).update s.heap.objs.size (Obj.mapSeq (· ++ its.toArray))).get? b = some o := fun b o e => by
    rw [Heap.get?_update_other _ _ (Nat.ne_of_gt (Heap.lt_size e))]
    exact Heap.get?_push_of_some _ e
  exact sort_go (s := s) hu S (I.kept (t' := s.toks) kp) rv hd q
end
end L2

namespace L2
open PySem PySem.Spec PyProof.Rows PySem.NumText
/-! ### dicts whose keys are marks: tuples of two ints. The dict stands for itself; its keys are known beside it -/
noncomputable abbrev Mark := Int × Int
noncomputable abbrev Ent := Mark × Addr × V
noncomputable def mkK (m : Mark) : List Key := [.inl m.1, .inl m.2]
noncomputable def mkV (m : Mark) : List V := [.int m.1, .int m.2]
theorem mkK_inj {a b : Mark} (h : mkK a = mkK b) : a = b := by
  unfold mkK at h
  have h1 := (List.cons.inj h).1
  have h2 := (List.cons.inj (List.cons.inj h).2).1
  exact Prod.ext (Sum.inl.inj h1) (Sum.inl.inj h2)
noncomputable def EntR (e : Ent) (x : List Key × Addr × Value) : Prop := x.1 = mkK e.1 ∧ x.2.1 = e.2.1 ∧ RelV e.2.2 x.2.2
noncomputable abbrev dK (P : Program) (w : World) := tupleKind (mixKind P w)
noncomputable def dOk (P : Program) (w : World) (a : Addr) (es : List Ent) (o : Obj) (h : Heap) : Prop := es.length ≤ sizeLine ∧ (a == sysModules) = false ∧ h.get? a = some o ∧ ∃ xs, Paired EntR es xs ∧
  ∃ ds ep, o.ExactDict ∧ o.data = .dict ds ep ∧ ds.toList = xs.map (entryOfKey (dK P w)) ∧ (xs.map (·.1)).Nodup
/-- a dict that is just the object o -/
noncomputable def dO (P : Program) (w : World) (a : Addr) (es : List Ent) (o : Obj) : HO := .ext (dOk P w a es o)
structure DM (P : Program) (w : World) (K : PySem.W.Frag) (H : Hp) (a : Addr) (es : List Ent) : Prop where
  ob : ∃ o, H a = some (dO P w a es o)
  ky : ∀ e ∈ es, SqT K H e.2.1 (mkV e.1)
theorem DM.same {P : Program} {w : World} {K : PySem.W.Frag} {H H' : Hp} {a : Addr} {es : List Ent} (D : DM P w K H a es) (s : Same H H') : DM P w K H' a es := ⟨let ⟨o, h⟩ := D.ob; ⟨o, s _ _ h⟩, fun e he => s.seqT (D.ky e he)⟩
theorem ent_keys {P : Program} {w : World} {h : Heap} : ∀ {es : List Ent} {xs : List (List Key × Addr × Value)}, Paired EntR es xs → (∀ e ∈ es, (dK P w).is h (mkK e.1) e.2.1) → ∀ x ∈ xs, (dK P w).is h x.1 x.2.1
  | _, _, .nil, _, x, hx => nomatch hx
  | _, _, .cons r rr, hk, x, hx => by
    rcases List.mem_cons.mp hx with rfl | hx
    · rw [r.1, r.2.1]; exact hk _ List.mem_cons_self
    · exact ent_keys rr (fun e he => hk e (List.mem_cons_of_mem _ he)) x hx
noncomputable def findM : List Ent → Mark → Option V
  | [], _ => none
  | e :: es, m => if e.1 = m then some e.2.2 else findM es m
theorem find_rel : ∀ {es : List Ent} {xs : List (List Key × Addr × Value)}, Paired EntR es xs → ∀ m, RelO (findM es m) ((atKey xs (mkK m)).map (·.2))
  | _, _, .nil, m => trivial
  | e :: es, x :: xs, .cons r rr, m => by
    unfold findM atKey
    rw [List.find?_cons]
    by_cases h : e.1 = m
    · rw [if_pos h, show decide (x.1 = mkK m) = true from decide_eq_true (by rw [r.1, h])]
      exact r.2.2
    · rw [if_neg h, show decide (x.1 = mkK m) = false from decide_eq_false (by rw [r.1]; exact fun z => h (mkK_inj z))]
      exact find_rel rr m
theorem relO_some {v : V} {o : Option Value} (h : RelO (some v) o) : ∃ u, o = some u ∧ RelV v u := by
  cases o with
  | none => exact h.elim
  | some u => exact ⟨u, rfl, h⟩
theorem relO_is {a : Option V} {b : Option Value} (h : RelO a b) : a.isSome = b.isSome := by
  cases a <;> cases b <;> first | rfl | exact h.elim
theorem relO_getD {a : Option V} {b : Option Value} {d : V} {e : Value} (h : RelO a b) (hd : RelV d e) : RelV (a.getD d) (b.getD e) := by
  cases a <;> cases b <;> first | exact hd | exact h | exact h.elim
/-- d[m] = v -/
noncomputable def putM (es : List Ent) (m : Mark) (q : Addr) (v : V) : List Ent := if (findM es m).isSome then es.map (fun e => if e.1 = m then (e.1, e.2.1, v) else e) else es ++ [(m, q, v)]
theorem put_rel {es : List Ent} {xs : List (List Key × Addr × Value)} (r : Paired EntR es xs) (m : Mark) {q : Addr} {v : V} {u : Value} (rv : RelV v u) : Paired EntR (putM es m q v) (storedH xs (mkK m) q u) := by
  have hi : (findM es m).isSome = (atKey xs (mkK m)).isSome := by rw [relO_is (find_rel r m), Option.isSome_map]
  unfold putM storedH
  rw [hi]
  by_cases h : (atKey xs (mkK m)).isSome = true
  · rw [if_pos h, if_pos h]
    clear hi h
    induction r with
    | nil => exact .nil
    | @cons e x es xs a b ih =>
      rw [List.map_cons, List.map_cons]
      refine .cons ?_ ih
      unfold putAt
      by_cases he : e.1 = m
      · rw [if_pos he, if_pos (by rw [a.1, he])]
        exact ⟨a.1, a.2.1, rv⟩
      · rw [if_neg he, if_neg (by rw [a.1]; exact fun z => he (mkK_inj z))]
        exact a
  · rw [if_neg h, if_neg h]
    exact Paired.snoc r ⟨rfl, rfl, rv⟩
theorem putM_len (es : List Ent) (m : Mark) (q : Addr) (v : V) : (putM es m q v).length ≤ es.length + 1 := by
  unfold putM
  split
  · rw [List.length_map]; omega
  · rw [List.length_append]; exact Nat.le_refl _
section
variable {X : Cx} {pins : List (Addr × Obj)} {σ : St} {H : Hp} {s : Shared} {a : Addr} {es : List Ent}
theorem mk_items {P : Program} {w : World} {m : Mark} {us : List Value} (r : Vals (mkV m) us) : ItemsAre (mixKind P w) (mkK m) us := by
  unfold mkV at r
  cases r with
  | cons r1 r2 =>
    cases r2 with
    | cons r3 r4 =>
      cases r4
      obtain ⟨t, rfl⟩ := r1
      obtain ⟨u, rfl⟩ := r3
      exact .cons (mixKind_int P w m.1 t) (.cons (mixKind_int P w m.2 u) .nil)
theorem Inv.mark (I : Inv X pins σ H s) {q : Addr} {m : Mark} (h : SqT X.K H q (mkV m)) : (dK X.prog X.w).is s.heap (mkK m) q := by
  obtain ⟨its, r, ⟨o, h1, h2, n, h3⟩, hz⟩ := I.tuple h
  exact ⟨o, its.toArray, n, h1, h2, h3, by simpa using mk_items r⟩
theorem Inv.dict (I : Inv X pins σ H s) (D : DM X.prog X.w X.K H a es) : es.length ≤ sizeLine ∧ (a == sysModules) = false ∧ ∃ xs, Paired EntR es xs ∧ s.heap.DictOfH (dK X.prog X.w) a xs := by
  obtain ⟨o, ob⟩ := D.ob
  obtain ⟨⟨z, y, h1, xs, r, ds, ep, h2, h3, h4, h5⟩, _, _⟩ := (show ObjOk X.prog X.w H s.heap a (dO X.prog X.w a es o) from I.hok a _ ob)
  exact ⟨z, y, xs, r, o, ds, ep, h1, h2, h3, h4, ent_keys r fun e he => I.mark (D.ky e he), h5⟩
theorem dO_ok {P : Program} {w : World} {H : Hp} {h : Heap} {a : Addr} {es : List Ent} {xs : List (List Key × Addr × Value)} (z : es.length ≤ sizeLine) (y : (a == sysModules) = false) (r : Paired EntR es xs) (d : h.DictOfH (dK P w) a xs) : ∃ o, ObjOk P w (upd H a (dO P w a es o)) h a (dO P w a es o) := by
  obtain ⟨o, ds, ep, h1, h2, h3, h4, _, h5⟩ := d
  exact ⟨o, ⟨z, y, h1, xs, r, ds, ep, h2, h3, h4, h5⟩, ⟨o, h1⟩, fun h1' h2' ⟨z, y, g1, g2⟩ k => ⟨z, y, k o g1, g2⟩⟩
theorem Inv.bigM (I : Inv X pins σ H s) : sysModules < s.heap.objs.size := Nat.lt_trans (by decide) (I.mod.glob.keeps I.bk).lt
/-! rules -/
variable {o i e value : Expr} {pos pos' : Pos} {td ty tv : TE}
noncomputable def tMNew (P : Program) (w : World) : TE := fun _ H Q => ∀ p o, H p = none → Q (.ref p) (upd H p (dO P w p [] o))
theorem pe_mnew : PE X (.Dict [] [] pos) (tMNew X.prog X.w) := .mk <| fun pins s σ H Q I h => by
  obtain ⟨ob, hob⟩ := dO_ok (P := X.prog) (w := X.w) (H := H) (es := []) (Nat.zero_le _) (beq_eq_false_iff_ne.mpr (Ne.symm (Nat.ne_of_lt I.bigM))) .nil (Heap.DictOfH.new s.heap)
  exact wpAny_Dict_empty ⟨.ref s.heap.objs.size, _, I.laid (t' := s.toks) (fun _ _ q => Heap.get?_push_of_some _ q) (Nat.le_refl _) hob, rfl, h _ ob (I.hok.fresh (Nat.le_refl _))⟩
/-- m in d -/
noncomputable def rInM (P : Program) (w : World) (K : PySem.W.Frag) : R2 := fun x y H Q => ∃ q m a es, x = .ref q ∧ SqT K H q (mkV m) ∧ y = .ref a ∧ DM P w K H a es ∧ Q (.bl (findM es m).isSome) H
theorem op_inM (hu : X.A.units + 1 < cLine) : OpR X (compareOp .In) (rInM X.prog X.w X.K) := by
  intro pins s σ H x y v u Q I rx ry h
  obtain ⟨q, m, a, es, rfl, hm, rfl, D, k⟩ := h
  cases rx
  cases ry
  obtain ⟨_, hd, xs, r, dd⟩ := I.dict D
  refine wpAny_in_heap (tupleKind_room_in1 hu) (I.mark hm) hd dd ?_
  rw [← Option.isSome_map (f := (·.2)), ← relO_is (find_rel r m)]
  exact ⟨.bl _, H, I.tok _, rfl, k⟩
/-- d[m] -/
noncomputable def rIxM (P : Program) (w : World) (K : PySem.W.Frag) : R2 := fun x y H Q => ∃ a es q m v, x = .ref a ∧ DM P w K H a es ∧ y = .ref q ∧ SqT K H q (mkV m) ∧ findM es m = some v ∧ Q v H
theorem ix_M (hu : X.A.units + 1 < cLine) : IxR X (rIxM X.prog X.w X.K) := by
  intro value slice pins s σ H x y v u Q I rx ry h hs
  obtain ⟨a, es, q, m, z, rfl, D, rfl, hm, hf, k⟩ := h
  cases rx
  cases ry
  obtain ⟨_, hd, xs, r, dd⟩ := I.dict D
  have fr := find_rel r m
  rw [hf] at fr
  obtain ⟨uz, e1, r1⟩ := relO_some fr
  obtain ⟨p, hp, hp2⟩ := Option.map_eq_some_iff.mp e1
  have hT : s.TypeIs (.ref a) "dict" := dd.typeIs
  have fin : wpAny (model X.prog X.w) X.A (subscripted slice false (.ref a) (.ref q)) (fun r s3 => wpAny (model X.prog X.w) X.A (letTemporaryGo value (.ref a) r >>= fun _ => pure r) (EP X pins σ Q) X.xe s3) X.xe s := by
    rw [hs]
    refine wpAny_operating (wpAny_getItem_heap (tupleKind_room_in1 hu) (I.mark hm) dd hp ?_)
    rw [hp2]
    exact wpAny_bind (wpAny_letTemporaryGo (wpAny_pure ⟨z, H, I.tok _, r1, k⟩))
  unfold subscriptTail
  refine wpAny_bind ?_
  rw [getitemInPython_of_ne hT.not_modules]
  refine wpAny_bind (wpAny_specialOf hT PySem.F.slot_dict_getitem.lookup ?_)
  first
    | exact wpAny_pure (wpAny_bind fin)
    | exact wpAny_bind (wpAny_pure (wpAny_bind fin))
    | exact wpAny_bind fin
/-- d[m] = v -/
noncomputable def sMPut (P : Program) (w : World) (K : PySem.W.Frag) (td ty tv : TE) : TS := fun D σ H => tv σ H fun v H1 => td σ H1 fun x H2 => ty σ H2 fun y H3 => ∃ a es q m, x = .ref a ∧ DM P w K H3 a es ∧ y = .ref q ∧ SqT K H3 q (mkV m) ∧ es.length < sizeLine ∧ ∀ o, D.nx σ (upd H3 a (dO P w a (putM es m q v) o))
theorem ps_mput (hu : X.A.units + 1 < cLine) (ho : PE X o td) (hi : PE X i ty) (hv : PE X value tv) (hs : swapsWith value (some (.Subscript o i pos')) pos.line X.env = pure false) :
    PS X (.Assign [.Subscript o i pos'] value pos) (sMPut X.prog X.w X.K td ty tv) := .mk <| by
  intro pins s σ H D I h
  refine wpAny_Assign_Subscript (thn (hv pins s σ H _ I h) fun r s1 ⟨v, H1, I1, rv, q1⟩ => thn (ho pins s1 σ H1 _ I1 q1) fun u s2 ⟨x, H2, I2, rx, q2⟩ => thn (hi pins s2 σ H2 _ I2 q2) fun iv s3 ⟨y, H3, I3, ry, a, es, q, m, ex, DD, ey, hm, hl, k⟩ => ?_) hs
  subst ex ey
  cases rx
  cases ry
  obtain ⟨z, hd, xs, rr, dd⟩ := I3.dict DD
  refine wpAny_setItem_heap (hsz := by rw [← Paired.length rr]; exact z) (tupleKind_room_in1 hu) (I3.mark hm) dd fun h' dd' sb => ?_
  have he : ∃ ob, h'.get? a = some ob := let ⟨ob, _, _, hq, _⟩ := dd'; ⟨ob, hq⟩
  obtain ⟨o1, o2⟩ := DD.ob
  obtain ⟨ob, hob⟩ := dO_ok (P := X.prog) (w := X.w) (H := H3) (es := putM es m q v) (by have := putM_len es m q v; omega) hd (put_rel rr m rv) dd'
  exact ⟨σ, _, I3.write (t' := _) (x := a) (e := a) (by rw [o2]; exact True.intro) (.inl rfl) (fun b ob hb z => (sb.2 b hb).trans z) he hob, k ob⟩
/-- d.get(m) -/
noncomputable def tMGet (P : Program) (w : World) (K : PySem.W.Frag) (td ty : TE) : TE := fun σ H Q => td σ H fun x H1 => ∃ a es, x = .ref a ∧ DM P w K H1 a es ∧ ty σ H1 fun y H2 => ∃ q m, y = .ref q ∧ DM P w K H2 a es ∧ SqT K H2 q (mkV m) ∧ Q ((findM es m).getD .non) H2
theorem pe_mget {apos cpos : Pos} (hu : X.A.units + 1 < cLine) (ho : PE X o td) (he : PE X e ty) (hbase : attributeBase o "get" X.env (eval o X.env) = eval o X.env := by rfl)
    (hfew : ((backTo cpos (starEach [e] X.env)).all (fun x => !x.1) && (backToKw cpos (keywordEach [] X.env)).all (fun x => x.1.isSome)
      && decide (([e] : List Expr).length + ([] : List Keyword).length + (if ([] : List Keyword).isEmpty then 0 else 1) < 30)) = true := by rfl)
    (hline : (apos.endLine == cpos.line) = true := by rfl) (htr : backTo cpos (starEach [e] X.env) = [(false, eval e X.env)] := by rfl) : PE X (.Call (.Attribute o "get" apos) [e] [] cpos) (tMGet X.prog X.w X.K td ty) := .mk <| by
  intro pins s σ H Q I h
  refine wpAny_Call_method hbase hfew hline PySem.F.plainAttrs_dict PySem.F.slot_dict_get PySem.F.type_dict_get (thn (ho pins s σ H _ I h) fun u s1 ⟨x, H1, I1, rx, a, es, ex, D, q1⟩ => ?_)
  subst ex
  cases rx
  obtain ⟨_, _, xs, _, dd⟩ := I1.dict D
  refine ⟨dd.typeIs, fun b q => ?_, ?_⟩
  · cases q
    obtain ⟨ob, _, _, h1, h2, _⟩ := dd
    exact ⟨ob, h1, h2.2.1⟩
  rw [htr]
  refine Calls.callWith_builtin rfl (Calls.evalArgs_plain (Calls.spliced_cons (thn (he pins s1 σ H1 _ I1 q1) fun iv s2 ⟨y, H2, I2, ry, q, m, ey, D2, hm, k⟩ => Calls.spliced_nil ?_)))
  subst ey
  cases ry
  obtain ⟨_, hd, xs, r, dd⟩ := I2.dict D2
  exact call_meetsIn PySem.F.slot_dict_get dd.typeIs PySem.F.entry_dict_get (PySem.F.args_dict_get_2 _ _) (meetsH_dict_get (dK X.prog X.w) a q hd) ⟨tupleKind_room_in1 hu, mkK m, xs, I2.mark hm, dd, ⟨_, H2, I2.tok _, relO_getD (d := .non) (find_rel r m) (show RelV .non Value.none from rfl), k⟩⟩
end
end L2

namespace L2
open PySem PySem.Spec PyProof.Rows PySem.NumText
/-! ### a dict's pairs walked, whatever its keys -/
noncomputable def RawD (h : Heap) (d : Addr) (ds : Array DictEntry) (ep : Nat) : Prop := ∃ o, h.get? d = some o ∧ o.cls = .type "dict" ∧ o.data = .dict ds ep
noncomputable def riObj (d : Addr) (i n ep : Nat) (first : Value) (f : Bool) (ok ov : Value) : Obj := { cls := .type "dict_itemiterator", data := .fields #[first, .bool f, .ref d, .int i 0, .int n 0, .int ep 0, ok, ov] }
section
variable {prog : Program} {w : World} {A : Around} {E : Value → Shared → Prop} {s : Shared} {d it v : Addr} {ds : Array DictEntry} {ep i : Nat} {ok ov : Value}
theorem owns_ii : Builtin.Dict_items.ownsTuple "dict_itemiterator" = true := by decide
theorem iter_items {Q : Value → Shared → Prop} (hv : s.heap.IsItemsView v d) (hd : RawD s.heap d ds ep)
    (k : Q (.ref s.heap.objs.size) { s with heap := s.heap.push (riObj d 0 ds.size ep .none false .none .none) }) :
    wpAny (model prog w) A (pyIter (.ref v)) Q E s := by
  obtain ⟨vo, v1, v2, v3⟩ := id hv
  obtain ⟨o, d1, d2, d3⟩ := hd
  refine wpAny_pyIter_slot hv.typeIs F.slot_dict_items_iter (wpAny_call_entry F.slot_dict_items_iter hv.typeIs F.entry_dict_items_iter ?_ (F.args_dict_items_iter_1 _))
  unfold Builtin.«dict_items.__iter__» Builtin.Dict_items.dictOf Builtin.Dict_items.newIterator
  refine wpAny_bind (wpAny_pure (wpAny_bind (wpAny_bind (wpAny_field v1 v3 (x := .ref d) rfl (wpAny_pure (wpAny_bind (wpAny_bind (wpAny_dictEntries d1 d3 (wpAny_bind (wpAny_dictEpoch d1 d3 ?_))))))))))
  simp only [owns_ii, if_true]
  refine wpAny_newObj_type (wpAny_pure ⟨_, rfl, "dict_itemiterator", _, ⟨_, Heap.get?_push_size _ rfl, rfl⟩, F.slot_dict_itemiterator_next.lookup, ?_⟩) ?_
  · simpa [rawInt, Builtin.Dict_items.ownedTupleFields, riObj] using k
  · simp only [sizeOk, Builtin.Dict_items.ownedTupleFields, List.size_toArray, List.length_append, List.length_cons, List.length_nil, sizeLine_eq]
    omega
theorem next_free {Q : Option Value → Shared → Prop} {e : DictEntry} (hi : s.heap.get? it = some (riObj d i ds.size ep .none false ok ov)) (hd : RawD s.heap d ds ep) (he : ds[i]? = some e)
    (k : ∀ h', h'.get? it = some (riObj d (i + 1) ds.size ep (rawInt s.heap.objs.size) false e.key e.val) → h'.get? s.heap.objs.size = some { cls := .type "tuple", data := .seq #[e.key, e.val] } → h'.objs.size = s.heap.objs.size + 1 →
      (∀ b o, b ≠ it → s.heap.get? b = some o → h'.get? b = some o) → Q (some (.ref s.heap.objs.size)) { s with heap := h' }) : wpAny (model prog w) A (pyNext (.ref it)) Q E s := by
  obtain ⟨o, d1, d2, d3⟩ := hd
  have ty : s.TypeIs (.ref it) "dict_itemiterator" := ⟨_, hi, rfl⟩
  unfold pyNext
  refine wpAny_bind (wpAny_attempt (wpAny_callSpecial?_slot ty F.slot_dict_itemiterator_next (wpAny_call_entry F.slot_dict_itemiterator_next ty F.entry_dict_itemiterator_next ?_ (F.args_dict_itemiterator_next_1 _))))
  unfold Builtin.«dict_itemiterator.__next__»
  refine wpAny_bind (wpAny_pure (wpAny_bind (wpAny_bind (wpAny_bind (wpAny_typeNameOfWhole_itemiter ty (wpAny_pure (wpAny_bind (wpAny_fieldsOf hi rfl ?_))))))))
  simp only [owns_ii, if_true]
  have e1 : (Value.ref d == Value.none) = false := rfl
  dsimp only [List.drop, List.take]
  rw [if_neg (by rw [e1]; exact Bool.false_ne_true)]
  refine wpAny_bind (wpAny_pure (wpAny_bind (wpAny_dictEntries d1 d3 ?_)))
  rw [if_neg (by simp)]
  refine wpAny_bind (wpAny_pure (wpAny_bind (wpAny_dictEpoch d1 d3 ?_)))
  rw [if_neg (by simp)]
  refine wpAny_pure ?_
  dsimp only
  rw [if_neg (by omega), Int.toNat_natCast, he]
  dsimp only
  refine wpAny_bind (wpAny_bind (wpAny_typeNameOfWhole_itemiter ty (wpAny_pure ?_)))
  refine wpAny_bind (wpAny_isOneOf_itemiter ty ?_)
  simp only [owns_ii, if_true]
  rw [if_neg (by decide)]
  refine wpAny_bind (wpAny_setField_rec (k := 3) hi (by show 3 < 8; decide) fun h1 g1 sb1 => ?_)
  have g1 : h1.get? it = some (riObj d (i + 1) ds.size ep .none false ok ov) := g1
  have ty1 : ({ s with heap := h1 } : Shared).TypeIs (.ref it) "dict_itemiterator" := ⟨_, g1, rfl⟩
  refine wpAny_bind (wpAny_holding (wpAny_bind (wpAny_isOneOf_itemiter ty1 ?_)))
  rw [if_neg (by decide)]
  refine wpAny_bind (wpAny_isOneOf_itemiter ty1 ?_)
  rw [if_neg (by decide)]
  unfold Builtin.Dict_items.pairFromOwner
  refine wpAny_bind (wpAny_newTuple ?_)
  have hz : h1.objs.size = s.heap.objs.size := sb1.1
  obtain ⟨h2, hh2⟩ : ∃ h2, h2 = h1.push { cls := .type "tuple", data := .seq [e.key, e.val].toArray } := ⟨_, rfl⟩
  dsimp only
  rw [← hh2]
  have g2 : h2.get? it = some (riObj d (i + 1) ds.size ep .none false ok ov) := by rw [hh2]; exact Heap.get?_push_of_some _ g1
  have t2 : h2.get? h1.objs.size = some { cls := .type "tuple", data := .seq [e.key, e.val].toArray } := by rw [hh2]; exact Heap.get?_push_size _ rfl
  have z2 : h2.objs.size = s.heap.objs.size + 1 := by rw [hh2, Heap.size_push, hz]
  have nit : h1.objs.size ≠ it := Nat.ne_of_gt (Heap.lt_size g1)
  unfold Builtin.Dict_items.ownedTupleIsFree
  refine wpAny_bind (wpAny_bind (wpAny_field g2 rfl (x := .none) rfl (wpAny_pure ?_)))
  rw [if_pos rfl]
  refine wpAny_bind (wpAny_field g2 rfl (x := ok) rfl (wpAny_bind (wpAny_field g2 rfl (x := ov) rfl ?_)))
  refine wpAny_bind (wpAny_setField_rec (k := 6) g2 (by show 6 < 8; decide) fun h3 g3 sb3 => ?_)
  refine wpAny_bind (wpAny_setField_rec (k := 7) g3 (by show 7 < 8; decide) fun h4 g4 sb4 => ?_)
  refine wpAny_bind (wpAny_setField_rec (k := 0) g4 (by show 0 < 8; decide) fun h5 g5 sb5 => ?_)
  refine wpAny_bind (wpAny_setField_rec (k := 1) g5 (by show 1 < 8; decide) fun h6 g6 sb6 => ?_)
  refine wpAny_bind (wpAny_letGo (wpAny_pure (wpAny_pure ⟨_, rfl, wpAny_pure ?_⟩)))
  have kp : ∀ b o, b ≠ it → h2.get? b = some o → h6.get? b = some o := fun b o hb q => (sb6.2 b hb).trans ((sb5.2 b hb).trans ((sb4.2 b hb).trans ((sb3.2 b hb).trans q)))
  rw [hz]
  refine k h6 ?_ ?_ ?_ fun b o hb q => kp b o hb ?_
  · rw [← hz]; exact g6
  · rw [← hz]; exact kp _ _ nit t2
  · rw [sb6.1, sb5.1, sb4.1, sb3.1]; exact z2
  · rw [hh2]; exact Heap.get?_push_of_some _ ((sb1.2 b hb).trans q)
theorem next_over {Q : Option Value → Shared → Prop} {first : Value} {f : Bool} (hh : A.handled = none) (hi : s.heap.get? it = some (riObj d i ds.size ep first f ok ov)) (hd : RawD s.heap d ds ep) (he : ds[i]? = none)
    (k : ∀ h', (∀ b o, b ≠ it → s.heap.get? b = some o → h'.get? b = some o) → Q none { s with heap := h' }) : wpAny (model prog w) A (pyNext (.ref it)) Q E s := by
  obtain ⟨o, d1, d2, d3⟩ := hd
  have ty : s.TypeIs (.ref it) "dict_itemiterator" := ⟨_, hi, rfl⟩
  unfold pyNext
  refine wpAny_bind (wpAny_attempt (wpAny_callSpecial?_slot ty F.slot_dict_itemiterator_next (wpAny_call_entry F.slot_dict_itemiterator_next ty F.entry_dict_itemiterator_next ?_ (F.args_dict_itemiterator_next_1 _))))
  unfold Builtin.«dict_itemiterator.__next__»
  refine wpAny_bind (wpAny_pure (wpAny_bind (wpAny_bind (wpAny_bind (wpAny_typeNameOfWhole_itemiter ty (wpAny_pure (wpAny_bind (wpAny_fieldsOf hi rfl ?_))))))))
  simp only [owns_ii, if_true]
  have e1 : (Value.ref d == Value.none) = false := rfl
  dsimp only [List.drop, List.take]
  rw [if_neg (by rw [e1]; exact Bool.false_ne_true)]
  refine wpAny_bind (wpAny_pure (wpAny_bind (wpAny_dictEntries d1 d3 ?_)))
  rw [if_neg (by simp)]
  refine wpAny_bind (wpAny_pure (wpAny_bind (wpAny_dictEpoch d1 d3 ?_)))
  rw [if_neg (by simp)]
  refine wpAny_pure ?_
  dsimp only
  rw [if_neg (by omega), Int.toNat_natCast, he]
  dsimp only
  refine wpAny_bind (wpAny_bind (wpAny_typeNameOfWhole_itemiter ty (wpAny_pure ?_)))
  simp only [owns_ii, if_true]
  refine wpAny_bind (wpAny_setField_rec (k := 2) hi (by show 2 < 8; decide) fun h1 g1 sb => ?_)
  unfold newExc raiseNew
  refine wpAny_bind (wpAny_bind (wpAny_newObj_type ?_))
  have fa : firstArgMember (.type "StopIteration") [] = pure Value.none := by
    rw [firstArgMember.eq_1]
    generalize (Manifest.find? "StopIteration").elim false (fun t => t.mro.contains "StopIteration" || t.mro.contains "SystemExit") = b
    cases b <;> rfl
  refine wpAny_bind (wpAny_of_eq fa (wpAny_newObj_type ?_ (sizeOk_excFields _ _ _ _ _ _ _ _)))
  refine wpAny_bind (wpAny_handled ?_)
  rw [show A.in1.handled = none from hh]
  refine wpAny_throw ?_
  refine wpAny_bind (wpAny_isInstance ⟨_, Heap.get?_push_size _ rfl, rfl⟩ isSubtype_stop ?_)
  rw [if_pos rfl]
  refine wpAny_pure (k _ fun b o hb e => ?_)
  exact Heap.get?_push_of_some _ (Heap.get?_push_of_some _ ((sb.2 b hb).trans e))
end
end L2

namespace L2
open PySem PySem.Spec PyProof.Rows PySem.NumText
/-! ### a dict's pairs collected -/
section
variable {prog : Program} {w : World} {A : Around} {E : Value → Shared → Prop} {s : Shared} {d it S r : Addr} {ds : Array DictEntry} {ep : Nat}
end
/-! ### many tuples laid at once -/
section
variable {X : Cx} {pins : List (Addr × Obj)} {σ : St} {H : Hp} {s : Shared} {h' : Heap}
end
end L2

namespace L2
open PySem PySem.Spec PyProof.Rows PySem.NumText
/-! ### dict of a list of pairs -/
section
variable {prog : Program} {w : World} {A : Around} {E : Value → Shared → Prop} {s : Shared} {l : Addr} {xs : Array Value} {c : Nat} {sl : Array (Option Value)}
theorem list_noKeys {Q : Option Value → Shared → Prop} (hh : A.handled = none) (ho : s.heap.get? l = some { cls := .type "list", data := .seq xs c, slots := sl })
    (k : ∀ h' tk, (∀ b o, s.heap.get? b = some o → h'.get? b = some o) → Q none { s with heap := h', toks := tk }) : wpAny (model prog w) A (getAttr? (.ref l) (Str.ofString "keys")) Q E s := by
  unfold getAttr? mkText
  refine wpAny_bind (wpAny_bind (wpAny_fresh' (wpAny_pure ?_)))
  unfold getAttrBy?
  have ty : ∀ tk, ({ s with toks := tk } : Shared).TypeIs (.ref l) "list" := fun tk => ⟨_, ho, rfl⟩
  refine wpAny_bind (wpAny_attempt ?_)
  unfold getAttrBy
  refine wpAny_holding (wpAny_bind (wpAny_typeOf (ty _) (wpAny_bind (wpAny_of_eq F.slot_list_getattribute.lookup ?_))))
  dsimp only
  rw [if_neg (by decide)]
  unfold getAttrByItsOwn hookBefore
  refine wpAny_bind (wpAny_of_eq (a := none) (if_neg (by decide)) (wpAny_bind (wpAny_attempt (wpAny_holding ?_))))
  unfold callGetattribute
  rw [if_neg (by decide)]
  unfold boundAndCalled
  refine wpAny_bind (wpAny_of_eq (F.slot_list_getattribute.bind (.ref l)) ?_)
  have hmiss : typeLookup (.type "list") (Str.ofString "keys") = pure none := am_miss_of_fast (by decide +kernel)
  refine call_meets F.slot_list_getattribute (ty _) am_entry_list_getattribute (F.args_list_getattribute_2 _ _) (meets_getattribute_miss_list l xs c sl _ _ hmiss (by decide +kernel) (by rw [sizeLine_eq]; decide +kernel)) ⟨ho, hh, fun h' tk e ne => ?_⟩
  show wpAny _ _ (getattributeRaised _ _ _ _ _ _ _) _ _ _
  obtain ⟨t, u, he⟩ := ne.there
  unfold getattributeRaised
  refine wpAny_bind (wpAny_isInstance ⟨_, he, rfl⟩ sub_AttributeError ?_)
  rw [if_pos rfl]
  unfold hookBehind
  rw [if_neg (by decide)]
  refine wpAny_bind (wpAny_of_eq am_list_getattr_none ?_)
  unfold hookOrError attributeErrorLeaves
  dsimp only
  rw [if_pos (by decide)]
  refine wpAny_bind (wpAny_throw ?_)
  refine wpAny_bind (wpAny_isInstance ⟨_, he, rfl⟩ sub_AttributeError ?_)
  rw [if_pos rfl]
  exact wpAny_pure (k h' tk ne.keeps)
end
/-! the pairs laid into the dict, one by one -/
theorem entry_upd_loop : entryFor table "dict.update.loop" = some Builtin.«dict.update.loop» := entryFor_of_tree (by rfl)
theorem plain_upd_loop : plainId "dict.update.loop" = true := by decide +kernel
noncomputable abbrev Row := List Key × Addr × Value
noncomputable def storeAll (xs : List Row) (ps : List Row) : List Row := ps.foldl (fun xs p => storedH xs p.1 p.2.1 p.2.2) xs
section
variable {prog : Program} {w : World} {A : Around} {E : Value → Shared → Prop} {s : Shared} {l d it : Addr}
theorem stored_len (xs : List Row) (k : List Key) (a : Addr) (v : Value) : (storedH xs k a v).length ≤ xs.length + 1 := by
  unfold storedH
  split
  · rw [List.length_map]; omega
  · rw [List.length_append]; exact Nat.le_refl _
theorem stored_mem {xs : List Row} {k : List Key} {a : Addr} {v : Value} {x : Row} (h : x ∈ storedH xs k a v) : x.2.1 = a ∨ ∃ y ∈ xs, y.2.1 = x.2.1 := by
  unfold storedH at h
  split at h
  · obtain ⟨y, hy, rfl⟩ := List.mem_map.mp h
    refine .inr ⟨y, hy, ?_⟩
    unfold putAt
    split <;> rfl
  · rcases List.mem_append.mp h with z | z
    · exact .inr ⟨x, z, rfl⟩
    · rw [List.mem_singleton.mp z]; exact .inl rfl
theorem is_keep {h h' : Heap} {k : List Key} {a : Addr} (hi : (dK prog w).is h k a) (q : ∀ o, h.get? a = some o → h'.get? a = some o) : (dK prog w).is h' k a := by
  obtain ⟨o, its, n, h1, r⟩ := hi
  exact ⟨o, its, n, q o h1, r⟩
theorem dictH_keep {h h' : Heap} {xs : List Row} (hd : h.DictOfH (dK prog w) d xs) (q : ∀ b o, b ≠ it → h.get? b = some o → h'.get? b = some o) (ndi : d ≠ it) (hn : ∀ x ∈ xs, x.2.1 ≠ it) : h'.DictOfH (dK prog w) d xs := by
  obtain ⟨o, ds, ep, a1, a2, a3, a4, a5, a6⟩ := hd
  exact ⟨o, ds, ep, q _ _ ndi a1, a2, a3, a4, fun x hx => is_keep (a5 x hx) fun o e => q _ _ (hn x hx) e, a6⟩
theorem storeAll_snoc (ps : List Row) (p : Row) : storeAll [] (ps ++ [p]) = storedH (storeAll [] ps) p.1 p.2.1 p.2.2 := by
  unfold storeAll
  rw [List.foldl_append]
  rfl
theorem storeAll_len : ∀ (ps : List Row) (xs : List Row), (storeAll xs ps).length ≤ xs.length + ps.length
  | [], xs => Nat.le_refl _
  | p :: ps, xs => by
    have h1 := storeAll_len ps (storedH xs p.1 p.2.1 p.2.2)
    have h2 := stored_len xs p.1 p.2.1 p.2.2
    show (storeAll (storedH xs p.1 p.2.1 p.2.2) ps).length ≤ xs.length + (ps.length + 1)
    omega
theorem loop_update {R : Result → Shared → Prop} {items : Array Value} {ps : List Row} (hh : A.handled = none) (room : (dK prog w).room A.in1) (ndl : d ≠ l) (ndi : d ≠ it) (nli : l ≠ it) {h1 : Heap} (res : Value) (hlen : items.size = ps.length) (hsz : ps.length ≤ 1000)
    (hps : ∀ (i : Nat) p, ps[i]? = some p → ∃ t, items[i]? = some (.ref t) ∧ t ≠ d ∧ t ≠ it ∧ p.2.1 ≠ d ∧ p.2.1 ≠ it ∧ IsTup h1 t #[.ref p.2.1, p.2.2] ∧ (dK prog w).is h1 p.1 p.2.1)
    (k : ∀ h' tk, (∀ b o, b ≠ d → b ≠ it → h1.get? b = some o → h'.get? b = some o) → h'.DictOfH (dK prog w) d (storeAll [] ps) → R (.ok (.ret res)) { s with heap := h', toks := tk }) :
    ∀ (n i : Nat) (h : Heap) (tk : Nat) (cnt : Int) (ct : Tok), ps.length - i = n → i ≤ ps.length → h.IsListIter it l i → h.IsList l items → (∀ b o, b ≠ d → b ≠ it → h1.get? b = some o → h.get? b = some o) → h.DictOfH (dK prog w) d (storeAll [] (ps.take i)) → (∀ x ∈ storeAll [] (ps.take i), x.2.1 ≠ it ∧ x.2.1 ≠ d) →
      codeAny (model prog w) A (.builtin "dict.update.loop" ⟨[.ref d, .ref it, .int cnt ct, res], []⟩) R { s with heap := h, toks := tk } := by
  intro n
  induction n with
  | zero =>
    intro i h tk cnt ct hni hi hit hl kp hd hx
    refine codeAny_builtin entry_upd_loop ?_
    rw [Around.under_plainId plain_upd_loop]
    refine wpAny_bind (wpAny_pyNext_list_end (s := { s with heap := h, toks := tk }) hh hit hl (by rw [Array.getElem?_eq_none]; omega) fun h' ex => ?_)
    refine wpAny_bind (wpAny_bind (wpAny_pure (wpAny_pure (wpAny_pure ?_))))
    refine k h' tk (fun b o h1' h2' e => ex b o h2' (kp b o h1' h2' e)) ?_
    have e : ps.take i = ps := List.take_of_length_le (by omega)
    rw [e] at hd hx
    exact dictH_keep hd ex ndi fun x q => (hx x q).1
  | succ n ih =>
    intro i h tk cnt ct hni hi hit hl kp hd hx
    obtain ⟨p, hp⟩ : ∃ p, ps[i]? = some p := ⟨_, List.getElem?_eq_getElem (by omega)⟩
    obtain ⟨t, ht, n1, n2, n3, n4, ht1, his⟩ := hps i p hp
    refine codeAny_builtin entry_upd_loop ?_
    rw [Around.under_plainId plain_upd_loop]
    refine wpAny_bind (wpAny_pyNext_list_item (s := { s with heap := h, toks := tk }) hit hl ht fun h2 hit2 sb => ?_)
    obtain ⟨to, tc1, tc2, tn, tc3⟩ := ht1
    have ht2 : h2.get? t = some to := (sb.2 t n2).trans (kp t _ n1 n2 tc1)
    have hd2 : h2.DictOfH (dK prog w) d (storeAll [] (ps.take i)) := dictH_keep hd (fun b o hb e => (sb.2 b hb).trans e) ndi fun x q => (hx x q).1
    have his2 : (dK prog w).is h2 p.1 p.2.1 := is_keep his fun o e => (sb.2 _ n4).trans (kp _ _ n3 n4 e)
    have hlt : (storeAll [] (ps.take i)).length ≤ sizeLine := by
      have := storeAll_len (ps.take i) []
      rw [List.length_take, List.length_nil] at this
      rw [sizeLine_eq]
      omega
    refine wpAny_bind (wpAny_holding (wpAny_bind ?_))
    rw [← Sem.tryCatch_eq]
    refine wpAny_tryCatch ?_
    unfold Builtin.Dict.pairItems
    refine wpAny_bind (wpAny_typeOf (T := "tuple") ⟨_, ht2, tc2⟩ ?_)
    rw [if_pos (by decide)]
    refine wpAny_bind (wpAny_seqItems ht2 tc3 (wpAny_pure ?_))
    show wpAny _ _ (holding [.ref p.2.1, p.2.2] (dictSet d (.ref p.2.1) p.2.2)) _ _ _
    refine wpAny_holding (wpAny_dictSet_heap (hsz := hlt) room his2 hd2 fun h3 hd3 sb3 => ?_)
    refine wpAny_pure ⟨plainId_quiet plain_upd_loop _, ?_⟩
    have e1 : ps.take (i + 1) = ps.take i ++ [p] := by
      obtain ⟨hlt', rfl⟩ := List.getElem?_eq_some_iff.mp hp
      exact List.take_succ_eq_append_getElem hlt'
    have keep3 : ∀ b o, b ≠ d → b ≠ it → h.get? b = some o → h3.get? b = some o := fun b o hb1 hb2 e => (sb3.2 b hb1).trans ((sb.2 b hb2).trans e)
    refine ih (i + 1) h3 _ (cnt + 1) 0 (by omega) (by omega) ?_ ?_ (fun b o hb1 hb2 e => keep3 b o hb1 hb2 (kp b o hb1 hb2 e)) ?_ ?_
    · obtain ⟨o, a1, a2⟩ := hit2
      exact ⟨o, (sb3.2 it ndi.symm).trans a1, a2⟩
    · obtain ⟨o, a1, a2⟩ := hl
      exact ⟨o, keep3 _ _ ndl.symm nli a1, a2⟩
    · rw [e1, storeAll_snoc]; exact hd3
    · rw [e1, storeAll_snoc]
      intro x hxm
      rcases stored_mem hxm with z | ⟨y, hy, z⟩
      · rw [z]; exact ⟨n4, n3⟩
      · rw [← z]; exact hx y hy
theorem call_dict_list {Q : Value → Shared → Prop} {items : Array Value} {ps : List Row} {sl : Array (Option Value)} {c : Nat} (hh : A.handled = none) (room : (dK prog w).room A.in1.in1) (ho : s.heap.get? l = some { cls := .type "list", data := .seq items c, slots := sl }) (hlen : items.size = ps.length) (hsz : ps.length ≤ 1000)
    (hps : ∀ (i : Nat) p, ps[i]? = some p → ∃ t, items[i]? = some (.ref t) ∧ IsTup s.heap t #[.ref p.2.1, p.2.2] ∧ (dK prog w).is s.heap p.1 p.2.1)
    (k : ∀ h' tk, (∀ b o, s.heap.get? b = some o → h'.get? b = some o) → h'.DictOfH (dK prog w) s.heap.objs.size (storeAll [] ps) → Q (.ref s.heap.objs.size) { s with heap := h', toks := tk }) : wpAny (model prog w) A (call (.type "dict") [.ref l]) Q E s := by
  obtain ⟨h1, hh1⟩ : ∃ h1, h1 = s.heap.push { cls := .type "dict", data := .dict (#[] : Array DictEntry) } := ⟨_, rfl⟩
  have kp1 : ∀ b o, s.heap.get? b = some o → h1.get? b = some o := fun b o e => by rw [hh1]; exact Heap.get?_push_of_some _ e
  have hd1 : h1.get? s.heap.objs.size = some { cls := .type "dict", data := .dict #[] } := by rw [hh1]; exact Heap.get?_push_size _ rfl
  refine callType_codes (Q₁ := fun obj s1 => obj = .ref s.heap.objs.size ∧ s1 = { s with heap := h1 }) F.kt_called_dict (F.kt_typeCall_dict_1 _) F.entry_dict_init (kt_code_dict_new _ ⟨rfl, by rw [hh1]⟩) fun obj s1 ⟨e1, e2⟩ => ?_
  subst e1 e2
  have td : ({ s with heap := h1 } : Shared).TypeIs (.ref s.heap.objs.size) "dict" := ⟨_, hd1, rfl⟩
  refine ⟨td, F.args_dict_init_2 _ _, ?_⟩
  unfold Builtin.«dict.__init__» Builtin.Dict.selfAndRest
  refine wpAny_bind (wpAny_bind (wpAny_notOrdered_dict td ?_))
  refine wpAny_bind (wpAny_pure (wpAny_pure ?_))
  show wpAny _ _ (Builtin.Dict.updateFrom "dict.__init__" s.heap.objs.size (.ref l) [] .none) _ _ _
  unfold Builtin.Dict.updateFrom
  have ho1 := kp1 _ _ ho
  refine wpAny_bind (wpAny_typeOf (T := "list") ⟨_, ho1, rfl⟩ ?_)
  rw [if_pos (by decide)]
  refine wpAny_bind (list_noKeys (s := { s with heap := h1 }) hh ho1 fun h2 tk kp2 => ?_)
  rw [if_pos (by decide)]
  refine wpAny_bind (wpAny_rule ?_)
  have hl2 : h2.IsList l items := ⟨_, kp2 _ _ ho1, rfl, c, rfl⟩
  refine wpAny_bind (wpAny_pyIter_list (s := { s with heap := h2, toks := tk }) hl2 ?_)
  refine wpAny_pure ⟨plainId_quiet plain_upd_loop _, ?_⟩
  obtain ⟨h3, hh3⟩ : ∃ h3, h3 = h2.push { cls := .type "list_iterator", data := .fields #[.ref l, .int 0 0] } := ⟨_, rfl⟩
  have kp3 : ∀ b o, h2.get? b = some o → h3.get? b = some o := fun b o e => by rw [hh3]; exact Heap.get?_push_of_some _ e
  have it3 : h3.IsListIter h2.objs.size l 0 := by rw [hh3]; exact ⟨_, Heap.get?_push_size _ rfl, rfl, rfl⟩
  show codeAny _ _ (.builtin "dict.update.loop" ⟨[.ref s.heap.objs.size, .ref h2.objs.size, .int 0 0, .none], []⟩) _ { s with heap := h2.push { cls := .type "list_iterator", data := .fields #[.ref l, .int 0 0] }, toks := tk }
  rw [← hh3]
  have old : ∀ b o, s.heap.get? b = some o → h3.get? b = some o ∧ b ≠ s.heap.objs.size ∧ b ≠ h2.objs.size := fun b o e => ⟨kp3 _ _ (kp2 _ _ (kp1 _ _ e)), Nat.ne_of_lt (Heap.lt_size e), Nat.ne_of_lt (Heap.lt_size (kp2 _ _ (kp1 _ _ e)))⟩
  have ndi : s.heap.objs.size ≠ h2.objs.size := Nat.ne_of_lt (Heap.lt_size (kp2 _ _ hd1))
  refine loop_update (A := A.in1) (h1 := h3) (items := items) (ps := ps) (l := l) (show A.in1.handled = none from hh) room (old _ _ ho).2.1.symm ndi (old _ _ ho).2.2 .none hlen hsz ?_ ?_ (ps.length - 0) 0 h3 tk 0 0 rfl (Nat.zero_le _) it3 ⟨_, (old _ _ ho).1, rfl, c, rfl⟩ (fun _ _ _ _ e => e) ?_ (fun x hx => by cases hx)
  · intro i p hp
    obtain ⟨t, q1, ⟨to, q2, q3⟩, q4⟩ := hps i p hp
    have ht := old _ _ q2
    have q4' := q4
    obtain ⟨po, _, _, r1, _⟩ := q4'
    have hq := old _ _ r1
    exact ⟨t, q1, ht.2.1, ht.2.2, hq.2.1, hq.2.2, ⟨to, ht.1, q3⟩, is_keep q4 fun o e => (old _ _ e).1⟩
  · intro h' tk' kp' hd'
    refine ⟨rfl, k h' tk' (fun b o e => ?_) hd'⟩
    obtain ⟨q1, q2, q3⟩ := old b o e
    exact kp' b o q2 q3 q1
  · exact ⟨_, #[], 0, kp3 _ _ (kp2 _ _ hd1), ⟨rfl, rfl, rfl⟩, rfl, rfl, (fun x hx => by cases hx), List.nodup_nil⟩
end
noncomputable def putAll (es : List Ent) (ps : List Ent) : List Ent := ps.foldl (fun es p => putM es p.1 p.2.1 p.2.2) es
theorem putAll_rel : ∀ {ps : List Ent} {rs : List Row}, Paired EntR ps rs → ∀ {es : List Ent} {xs : List Row}, Paired EntR es xs → Paired EntR (putAll es ps) (storeAll xs rs)
  | _, _, .nil, _, _, h => h
  | p :: ps, r :: rs, .cons a b, es, xs, h => by
    show Paired EntR (putAll (putM es p.1 p.2.1 p.2.2) ps) (storeAll (storedH xs r.1 r.2.1 r.2.2) rs)
    refine putAll_rel b ?_
    rw [a.1, a.2.1]
    exact put_rel h p.1 a.2.2
theorem putAll_len : ∀ (ps : List Ent) (es : List Ent), (putAll es ps).length ≤ es.length + ps.length
  | [], es => Nat.le_refl _
  | p :: ps, es => by
    have h1 := putAll_len ps (putM es p.1 p.2.1 p.2.2)
    have h2 := putM_len es p.1 p.2.1 p.2.2
    show (putAll (putM es p.1 p.2.1 p.2.2) ps).length ≤ es.length + (ps.length + 1)
    omega
section
variable {X : Cx}
/-- pairs in a list: each a tuple (mark, value) -/
noncomputable def PairsL (K : PySem.W.Frag) (H : Hp) (ps : List Ent) (vs : List V) : Prop := Paired (fun (p : Ent) (v : V) => ∃ t, v = .ref t ∧ SqT K H t [.ref p.2.1, p.2.2] ∧ SqT K H p.2.1 (mkV p.1)) ps vs
noncomputable def rDictL (P : Program) (w : World) (K : PySem.W.Frag) : List V → Hp → VK → Prop := fun xs H Q => ∃ (p : Addr) (vs : List V) (ps : List Ent), xs = [.ref p] ∧ SqL K H p vs ∧ PairsL K H ps vs ∧ ps.length ≤ 1000 ∧ ∀ q o, H q = none → Q (.ref q) (upd H q (dO P w q (putAll [] ps) o))
theorem pairs_rows {pins : List (Addr × Obj)} {σ : St} {H : Hp} {s : Shared} (I : Inv X pins σ H s) : ∀ {ps : List Ent} {vs : List V} {us : List Value}, PairsL X.K H ps vs → Vals vs us → ∃ rs : List Row, Paired EntR ps rs ∧ us.length = rs.length ∧ ∀ (i : Nat) r, rs[i]? = some r → ∃ t, us[i]? = some (.ref t) ∧ IsTup s.heap t #[.ref r.2.1, r.2.2] ∧ (dK X.prog X.w).is s.heap r.1 r.2.1
  | _, _, _, .nil, .nil => ⟨[], .nil, rfl, fun i r e => by simp at e⟩
  | p :: ps, v :: vs, u :: us, .cons a b, .cons ra rb => by
    obtain ⟨rs, h1, h2, h3⟩ := pairs_rows I b rb
    obtain ⟨t, rfl, ht, hm⟩ := a
    cases ra
    obtain ⟨its, rv, tp, _⟩ := I.tuple ht
    cases rv with
    | cons r1 r2 =>
      cases r2 with
      | cons r3 r4 =>
        cases r4
        cases r1
        rename_i uv
        refine ⟨(mkK p.1, p.2.1, uv) :: rs, .cons ⟨rfl, rfl, r3⟩ h1, by rw [List.length_cons, List.length_cons, h2], fun i r e => ?_⟩
        cases i with
        | zero =>
          cases (Option.some.inj e)
          exact ⟨t, rfl, tp, I.mark hm⟩
        | succ i => exact h3 i r (by simpa using e)
theorem call_dictL (hc : X.calm = true) (hu : X.A.units + 100 < cLine) : CallR X (.type "dict") (rDictL X.prog X.w X.K) := by
  intro pins s σ H xs us Q I r h
  obtain ⟨p, vs, ps, rfl, hq, hp, hz, q⟩ := h
  obtain ⟨u, rfl, ru⟩ := vals1 r
  cases ru
  obtain ⟨its, rv, pl, hsz⟩ := I.list hq
  obtain ⟨rs, h1, h2, h3⟩ := pairs_rows I hp rv
  have hpl : ps.length = rs.length := Paired.length h1
  obtain ⟨o, n, ho, oc, od, odt⟩ := id pl
  obtain ⟨cls, dct, dat, sl⟩ := o
  cases oc
  cases od
  cases odt
  refine call_dict_list (ps := rs) (I.ok.hd hc) (tupleKind_room_in1 (A := X.A.in1) (by show X.A.units + 1 + 1 < cLine; omega)) ho (by rw [List.size_toArray]; exact h2) (by omega) (fun i r' e => by rw [List.getElem?_toArray]; exact h3 i r' e) fun h' tk kp dd => ?_
  have hb : (s.heap.objs.size == sysModules) = false := beq_eq_false_iff_ne.mpr (Ne.symm (Nat.ne_of_lt I.bigM))
  have hl := putAll_len ps []
  obtain ⟨ob, hob⟩ := dO_ok (P := X.prog) (w := X.w) (H := H) (es := putAll [] ps) (Nat.le_of_lt (small1000 (by rw [List.length_nil] at hl; omega))) hb (putAll_rel h1 .nil) dd
  exact ⟨.ref s.heap.objs.size, _, I.laid (t' := tk) kp (Nat.le_refl _) hob, rfl, q _ ob (I.hok.fresh (Nat.le_refl _))⟩
end
end L2

namespace L2
open PySem PySem.Spec PyProof.Rows PySem.NumText
/-! ### d.items(), walked -/
theorem entry_ii_iter : entryFor table "dict_itemiterator.__iter__" = some Builtin.«dict_keyiterator.__iter__» := entryFor_alias (id' := "dict_keyiterator.__iter__") (by rfl) (by rfl) (by decide +kernel) (by rfl)
noncomputable def viewO (v d : Addr) : HO := .ext fun h => h.IsItemsView v d
structure Raw (P : Program) (w : World) (es : List Ent) (o : Obj) (ds : Array DictEntry) (ep : Nat) (rs : List Row) : Prop where
  rel : Paired EntR es rs
  cl : o.cls = .type "dict"
  dat : o.data = .dict ds ep
  lst : ds.toList = rs.map (entryOfKey (dK P w))
theorem Raw.size {P : Program} {w : World} {es : List Ent} {o : Obj} {ds : Array DictEntry} {ep : Nat} {rs : List Row} (R : Raw P w es o ds ep rs) : ds.size = es.length := by
  rw [← Array.length_toList, R.lst, List.length_map, ← Paired.length R.rel]
theorem ent_at : ∀ {es : List Ent} {rs : List Row}, Paired EntR es rs → ∀ {i : Nat} {e : Ent}, es[i]? = some e → ∃ r, rs[i]? = some r ∧ EntR e r
  | _, _, .nil, i, e, h => by simp at h
  | _, _, .cons a b, 0, e, h => by cases (Option.some.inj h); exact ⟨_, rfl, a⟩
  | _, _, .cons a b, i + 1, e, h => by
    obtain ⟨r, h1, h2⟩ := ent_at b (i := i) (by simpa using h)
    exact ⟨r, by simpa using h1, h2⟩
theorem Raw.at_ {P : Program} {w : World} {es : List Ent} {o : Obj} {ds : Array DictEntry} {ep : Nat} {rs : List Row} (R : Raw P w es o ds ep rs) {i : Nat} {e : Ent} (h : es[i]? = some e) : ∃ u q, ds[i]? = some u ∧ u.key = .ref e.2.1 ∧ u.val = q ∧ RelV e.2.2 q := by
  obtain ⟨r, h1, h2⟩ := ent_at R.rel h
  refine ⟨entryOfKey (dK P w) r, r.2.2, ?_, ?_, rfl, h2.2.2⟩
  · rw [← Array.getElem?_toList, R.lst, List.getElem?_map, h1]; rfl
  · show Value.ref r.2.1 = _
    rw [h2.2.1]
section
variable {X : Cx} {pins : List (Addr × Obj)} {σ : St} {H : Hp} {s : Shared} {a : Addr} {es : List Ent} {o : Obj}
theorem Inv.raw (I : Inv X pins σ H s) (ob : H a = some (dO X.prog X.w a es o)) : s.heap.get? a = some o ∧ (a == sysModules) = false ∧ es.length ≤ sizeLine ∧ ∃ ds ep rs, Raw X.prog X.w es o ds ep rs := by
  obtain ⟨⟨z, y, h1, xs, r, ds, ep, h2, h3, h4, h5⟩, _, _⟩ := (show ObjOk X.prog X.w H s.heap a (dO X.prog X.w a es o) from I.hok a _ ob)
  exact ⟨h1, y, z, ds, ep, xs, r, h2.1, h3, h4⟩
end
noncomputable def Itm (P : Program) (w : World) (a : Addr) (es : List Ent) (o : Obj) : It :=
  ⟨fun i H => H a = some (dO P w a es o) ∧ i < es.length, fun i H v H' => ∃ T e, v = .ref T ∧ H T = none ∧ H' = upd H T (.tup [.ref e.2.1, e.2.2]) ∧ es[i]? = some e, fun i H => H a = some (dO P w a es o) ∧ es.length ≤ i⟩
theorem turn_items {P : Program} {w : World} {K : PySem.W.Frag} {elts : List Expr} {kk : Nat} {tp : Pos} (a it : Addr) (es : List Ent) (o : Obj) (ds : Array DictEntry) (ep : Nat) (hod : o.data = .dict ds ep) :
    Turn P w K (.Tuple elts kk tp) (Itm P w a es o) [it] it (fun i h => ∃ ok ov, h.get? it = some (riObj a i es.length ep .none false ok ov)) where
  mem := by simp
  obj := fun i h st b hb => by
    obtain ⟨ok, ov, he⟩ := st
    have : b = it := by simpa using hb
    subst this
    exact ⟨_, he, fun v z => nomatch z⟩
  keep := fun i h h' st k => let ⟨ok, ov, he⟩ := st; ⟨ok, ov, k it (by simp) _ he⟩
  item := by
    intro X hP hw hK hc i pins s σ H E I hf st hg
    subst hP hw hK
    obtain ⟨ok, ov, he⟩ := st
    obtain ⟨hob, hi⟩ := hg
    obtain ⟨h1, _, _, ds', ep', rs, R⟩ := I.raw hob
    have e0 := R.dat
    rw [hod] at e0
    cases e0
    obtain ⟨e, hei⟩ : ∃ e, es[i]? = some e := ⟨_, List.getElem?_eq_getElem hi⟩
    obtain ⟨u, q, hu, hk, hv, rq⟩ := R.at_ hei
    have helt : it < s.heap.objs.size := Heap.lt_size he
    rw [← R.size] at he
    refine next_free he ⟨o, h1, R.cl, R.dat⟩ hu fun h' g1 g2 g3 g4 => ?_
    refine ⟨_, rfl, wpAny_letOwnedTupleGo_items g1 fun h2 he2 hs2 => ?_⟩
    rw [hk, hv] at g2
    have hT2 : h2.get? s.heap.objs.size = some { cls := .type "tuple", data := .seq #[.ref e.2.1, q] } := (hs2.2 _ (Nat.ne_of_gt helt)).trans g2
    have I2 : Inv X pins σ (upd H s.heap.objs.size (.tup [.ref e.2.1, e.2.2])) { s with heap := h2, toks := s.toks } := by
      refine I.turnLay (ch := [it]) hf (fun b ob hb z => ?_) (Nat.le_refl _) ?_
      · have n1 : b ≠ it := fun z => hb (by simp [z])
        exact (hs2.2 b n1).trans (g4 b ob n1 z)
      · exact ⟨by show 2 ≤ sizeLine; decide, [.ref e.2.1, q], .cons rfl (.cons rq .nil), ⟨_, hT2, rfl, _, rfl⟩⟩
    have hn : H s.heap.objs.size = none := I.hok.fresh (Nat.le_refl _)
    refine ⟨.ref s.heap.objs.size, _, I2, rfl, ⟨_, e, rfl, hn, rfl, hei⟩, ⟨_, _, by rw [← R.size]; exact he2⟩, fun b hb => ?_⟩
    have hb' : b = it := by simpa using hb
    subst hb'
    rw [upd_ne (Nat.ne_of_lt helt)]
    exact (hf b hb).1
  done := by
    intro X hP hw hK hc i pins s σ H E I hf st hg
    subst hP hw hK
    obtain ⟨ok, ov, he⟩ := st
    obtain ⟨hob, hi⟩ := hg
    obtain ⟨h1, _, _, ds', ep', rs, R⟩ := I.raw hob
    have e0 := R.dat
    rw [hod] at e0
    cases e0
    rw [← R.size] at he
    exact next_over (I.ok.hd hc) he ⟨o, h1, R.cl, R.dat⟩ (by rw [Array.getElem?_eq_none]; rw [R.size]; exact hi) fun h' kp => ⟨rfl, I.turnedL (t' := s.toks) hf fun b ob hb q => kp b ob (fun z => hb (by simp [z])) q⟩
  self := fun A i s Q E st h => by
    obtain ⟨ok, ov, he⟩ := st
    have hT : s.TypeIs (.ref it) "dict_itemiterator" := ⟨_, he, rfl⟩
    exact wpAny_pyIter_slot hT F.slot_dict_itemiterator_iter (wpAny_call_entry F.slot_dict_itemiterator_iter hT entry_ii_iter (wpAny_pure ⟨_, rfl, "dict_itemiterator", _, hT, F.slot_dict_itemiterator_next.lookup, h⟩) (F.args_dict_itemiterator_iter_1 _))
section
variable {X : Cx} {o : Expr} {td : TE} {apos cpos : Pos}
theorem call_items {prog : Program} {w : World} {A : Around} {E : Value → Shared → Prop} {s : Shared} {d : Addr} {Q : Value → Shared → Prop} (hT : s.TypeIs (.ref d) "dict") (hd : (d == sysModules) = false) (h : Q (.ref s.heap.objs.size) { s with heap := s.heap.push { cls := .type "dict_items", data := .fields #[.ref d] } }) :
    wpAny (model prog w) A (call (.builtin "dict.items") [.ref d]) Q E s := by
  refine wpAny_call_entry F.slot_dict_items hT F.entry_dict_items ?_ (F.args_dict_items_1 _)
  unfold Builtin.«dict.items» Builtin.Dict.noArgs Builtin.Dict.showsAll Builtin.Dict.nameIsSure
  refine wpAny_bind (wpAny_bind (wpAny_notOrdered_dict hT (wpAny_bind (wpAny_of_eq (a := ()) (if_neg (by show ¬ (false || false) = true; decide)) (wpAny_bind (wpAny_pure (wpAny_pure ?_)))))))
  rw [hd]
  refine wpAny_bind (wpAny_of_eq (a := ()) (if_neg Bool.false_ne_true) (wpAny_bind (wpAny_newObj_type (wpAny_pure ⟨_, rfl, h⟩) ?_)))
  simp only [sizeOk, List.size_toArray, List.length_cons, List.length_nil, sizeLine_eq]
  omega
theorem Inv.isDict {pins : List (Addr × Obj)} {σ : St} {H : Hp} {s : Shared} {a : Addr} {es : List Ent} {ob : Obj} (I : Inv X pins σ H s) (h : H a = some (dO X.prog X.w a es ob)) : s.TypeIs (.ref a) "dict" ∧ ob.dict = none := by
  obtain ⟨⟨z, y, h1, xs, r, ds, ep, h2, h3, h4, h5⟩, _, _⟩ := (show ObjOk X.prog X.w H s.heap a (dO X.prog X.w a es ob) from I.hok a _ h)
  exact ⟨⟨_, h1, h2.1⟩, h2.2.1⟩
noncomputable def iItems (P : Program) (w : World) (td : TE) : TI := fun σ H R => td σ H fun x H1 => ∃ a es o, x = .ref a ∧ H1 a = some (dO P w a es o) ∧ ∀ v, H1 v = none → R (Itm P w a es o) (upd H1 v (viewO v a))
theorem pi_items {elts : List Expr} {kk : Nat} {tp : Pos} (ho : PE X o td) (hbase : attributeBase o "items" X.env (eval o X.env) = eval o X.env := by rfl) (hline : (apos.endLine == cpos.line) = true := by rfl) :
    PI X (.Tuple elts kk tp) (.Call (.Attribute o "items" apos) [] [] cpos) (iItems X.prog X.w td) := .mk <| by
  intro pins s σ H R I h
  refine wpAny_Call_method0_late hbase hline (thn (ho pins s σ H _ I h) fun v s1 ⟨x, H1, I1, r1, a, es, ob, ex, hob, q1⟩ => ?_)
  subst ex
  cases r1
  obtain ⟨hT, hdn⟩ := I1.isDict hob
  obtain ⟨h1, hb, _⟩ := I1.raw hob
  refine ⟨"dict", "dict.items", PySem.F.plainAttrs_dict, PySem.F.slot_dict_items, PySem.F.type_dict_items, hT, fun b e => ?_, Calls.callWith_builtin rfl (PySem.evalArgs_none (call_items hT hb ?_))⟩
  · cases e
    exact ⟨ob, h1, hdn⟩
  · obtain ⟨h2, hh2⟩ : ∃ h2, h2 = s1.heap.push { cls := .type "dict_items", data := .fields #[.ref a] } := ⟨_, rfl⟩
    have kp2 : ∀ b u, s1.heap.get? b = some u → h2.get? b = some u := fun b u e => by rw [hh2]; exact Heap.get?_push_of_some _ e
    have hat : h2.get? s1.heap.objs.size = some { cls := .type "dict_items", data := .fields #[.ref a] } := by rw [hh2]; exact Heap.get?_push_size _ rfl
    have I2 : Inv X pins σ (upd H1 s1.heap.objs.size (viewO s1.heap.objs.size a)) { s1 with heap := h2, toks := s1.toks } := by
      refine I1.laid kp2 (Nat.le_refl _) (o := viewO s1.heap.objs.size a) ⟨⟨_, hat, rfl, rfl⟩, ⟨_, hat⟩, ?_⟩
      rintro g1 g2 ⟨vo, v1, v2⟩ k
      exact ⟨vo, k _ v1, v2⟩
    have hn := I1.hok.fresh (Nat.le_refl s1.heap.objs.size)
    have hob2 : (upd H1 s1.heap.objs.size (viewO s1.heap.objs.size a)) a = some (dO X.prog X.w a es ob) := same_upd hn _ _ hob
    obtain ⟨d1, _, _, ds, ep, rs, RR⟩ := I2.raw hob2
    show wpAny _ _ (pyIter _) _ _ { s1 with heap := s1.heap.push { cls := .type "dict_items", data := .fields #[.ref a] } }
    rw [← hh2]
    refine iter_items (s := { s1 with heap := h2 }) (d := a) ⟨_, hat, rfl, rfl⟩ ⟨ob, d1, RR.cl, RR.dat⟩ ?_
    have hit := Heap.get?_push_size h2 (o := riObj a 0 ds.size ep .none false .none .none) rfl
    have I3 : Inv X pins σ (upd H1 s1.heap.objs.size (viewO s1.heap.objs.size a)) { s1 with heap := h2.push (riObj a 0 ds.size ep .none false .none .none), toks := s1.toks } := I2.kept (t' := s1.toks) fun b u e => Heap.get?_push_of_some _ e
    refine ⟨h2.objs.size, [h2.objs.size], _, _, _, rfl, I3, turn_items a h2.objs.size es ob ds ep RR.dat, ⟨_, _, by rw [← RR.size]; exact hit⟩, fun c hc => ?_, q1 _ hn⟩
    have hc' : c = h2.objs.size := by simpa using hc
    subst hc'
    exact I2.fpOk (Nat.le_refl _) (I2.hok.fresh (Nat.le_refl _))
end
end L2

namespace L2
open PySem PySem.Spec PyProof.Rows PySem.NumText
/-! ### marks in order; sorted(d.items()); len(d) -/
noncomputable def mLt (a b : Mark) : Bool := decide (a.1 < b.1 ∨ (a.1 = b.1 ∧ a.2 < b.2))
theorem mLt_sto : STO mLt where
  irr := fun a => decide_eq_false (by omega)
  tr := fun a b c h1 h2 => by
    have h1 := of_decide_eq_true h1
    have h2 := of_decide_eq_true h2
    exact decide_eq_true (by omega)
  tri := fun a b hn h => by
    have h := of_decide_eq_false h
    refine decide_eq_true ?_
    by_cases e1 : a.1 = b.1
    · have e2 : a.2 ≠ b.2 := fun e2 => hn (Prod.ext e1 e2)
      omega
    · omega
noncomputable def markD (m : Mark) : PyData := .tuple [.int m.1, .int m.2]
theorem markD_eqv (a b : Mark) : PyData.eqv (markD a) (markD b) = decide (a = b) := by
  have e : PyData.eqv (markD a) (markD b) = (a.1 == b.1 && (a.2 == b.2 && true)) := rfl
  rw [e, Bool.eq_iff_iff]
  obtain ⟨a1, a2⟩ := a
  obtain ⟨b1, b2⟩ := b
  simp
theorem markD_lt (a b : Mark) : ltD (markD a) (markD b) = some (mLt a b) := by
  show ltDs [.int a.1, .int a.2] [.int b.1, .int b.2] = _
  have i1 : ∀ x y : Int, PyData.eqv (.int x) (.int y) = (x == y) := fun _ _ => rfl
  have i2 : ∀ x y : Int, ltD (.int x) (.int y) = some (decide (x < y)) := fun _ _ => rfl
  unfold ltDs
  rw [i1]
  by_cases e1 : a.1 = b.1
  · rw [if_pos (by simp [e1])]
    unfold ltDs
    rw [i1]
    by_cases e2 : a.2 = b.2
    · rw [if_pos (by simp [e2])]
      unfold ltDs mLt
      simp [e1, e2]
    · rw [if_neg (by simp [e2]), i2]
      unfold mLt
      simp [e1]
  · rw [if_neg (by simp [e1]), i2]
    unfold mLt
    simp [e1]
theorem mkV_dv {K : PySem.W.Frag} {H : Hp} {q : Addr} {m : Mark} (h : SqT K H q (mkV m)) : DV K H (markD m) (.ref q) := ⟨q, _, rfl, h, _, _, rfl, rfl, _, _, rfl, rfl, rfl⟩
theorem mark_of {K : PySem.W.Frag} {H : Hp} {m : Mark} {v : V} (h : DV K H (markD m) v) : ∃ q, v = .ref q ∧ SqT K H q (mkV m) := by
  obtain ⟨q, vs, rfl, h1, v1, r1, rfl, e1, v2, r2, rfl, e2, e3⟩ := h
  cases (show v1 = .int m.1 from e1)
  cases (show v2 = .int m.2 from e2)
  cases (show r2 = [] from e3)
  exact ⟨q, rfl, h1⟩
section
variable {X : Cx}
theorem call_lenM : CallR X (.builtin "len") (fun xs H Q => ∃ a es o, xs = [.ref a] ∧ H a = some (dO X.prog X.w a es o) ∧ Q (.int es.length) H) := by
  intro pins s σ H xs us Q I r h
  obtain ⟨a, es, o, rfl, ha, q⟩ := h
  obtain ⟨u, rfl, ru⟩ := vals1 r
  cases ru
  obtain ⟨hT, _⟩ := I.isDict ha
  obtain ⟨h1, hb, hz, ds, ep, rs, RR⟩ := I.raw ha
  have hz' : es.length ≤ 16777216 := by rw [← sizeLine_eq]; exact hz
  refine PyProof.Rows.call_len_slot (n := (es.length : Int)) hT F.slot_dict_len (fun Q' q' => ?_) (by omega) (by omega) ⟨.int es.length, H, I.tok _, ⟨_, rfl⟩, q⟩
  refine wpAny_call_entry F.slot_dict_len hT F.entry_dict_len ?_ (F.args_dict_len_1 _)
  unfold Builtin.«dict.__len__» Builtin.Dict.dictSlotNone
  unfold Builtin.Dict.pendingCount dictSize retInt
  refine wpAny_bind (wpAny_bind (wpAny_notOrdered_dict hT (wpAny_bind (wpAny_pure (wpAny_pure (wpAny_bind (wpAny_pure (wpAny_bind (wpAny_bind (wpAny_dictEntries h1 RR.dat (wpAny_pure ?_)))))))))))
  refine wpAny_bind (wpAny_of_eq (a := 0) (if_neg (by rw [hb]; exact Bool.false_ne_true)) (wpAny_bind (wpAny_mkInt (wpAny_pure ⟨_, rfl, ?_⟩))))
  rw [RR.size, show ((es.length : Nat) : Int) + ((0 : Nat) : Int) = (es.length : Int) by omega]
  exact q'
end
end L2

namespace L2
open PySem PySem.Spec PyProof.Rows PySem.NumText
/-! ### sheets -/
noncomputable abbrev Sh := List (Mark × Ver)
noncomputable def prD (m : Mark × Ver) : PyData := .tuple [markD m.1, ver m.2]
noncomputable def look : Sh → Mark → Option Ver
  | [], _ => none
  | m :: ms, k => if m.1 = k then some m.2 else look ms k
noncomputable def EnS (K : PySem.W.Frag) (H : Hp) : List Ent → Sh → Prop := Paired fun (e : Ent) (m : Mark × Ver) => e.1 = m.1 ∧ SqT K H e.2.1 (mkV m.1) ∧ DV K H (ver m.2) e.2.2
structure ShAt (P : Program) (w : World) (K : PySem.W.Frag) (C : Addr) (H : Hp) (p : Addr) (ms : Sh) : Prop where
  ex : ∃ dx d es o, H p = some (.ins C dx [("versions", .ref d)]) ∧ H d = some (dO P w d es o) ∧ EnS K H es ms
  nd : (ms.map (·.1)).Nodup
  ok : ∀ m ∈ ms, okV m.2
  few : ms.length < 64
theorem EnS.imp {K : PySem.W.Frag} {H H' : Hp} {es : List Ent} {ms : Sh} (h : EnS K H es ms) (f : ∀ (q : Addr) m, SqT K H q (mkV m) → SqT K H' q (mkV m)) (g : ∀ v x, DV K H (ver v) x → DV K H' (ver v) x) : EnS K H' es ms :=
  Paired.mapP h fun e m ⟨h1, h2, h3⟩ => ⟨h1, f _ _ h2, g _ _ h3⟩
theorem ShAt.same {P : Program} {w : World} {K : PySem.W.Frag} {C : Addr} {H H' : Hp} {p : Addr} {ms : Sh} (h : ShAt P w K C H p ms) (s : Same H H') : ShAt P w K C H' p ms := by
  obtain ⟨dx, d, es, o, h1, h2, h3⟩ := h.ex
  exact ⟨⟨dx, d, es, o, s _ _ h1, s _ _ h2, h3.imp (fun _ _ q => s.seqT q) fun _ _ q => DV.same s _ _ q⟩, h.nd, h.ok, h.few⟩
theorem seqT_mono {K : PySem.W.Frag} {H H' : Hp} {D a : Addr} {xs : List V} (k : ∀ b o, b ≠ D → H b = some o → H' b = some o) (hd : ∃ zs, H D = some (.lst zs)) (h : SqT K H a xs) : SqT K H' a xs := by
  obtain ⟨zs, hz⟩ := hd
  rcases h with h | h
  · rcases h with h | ⟨o, h⟩
    · exact .inl (.inl (k _ _ (ne_of h hz (by intro z; cases z)) h))
    · exact .inl (.inr ⟨o, k _ _ (ne_of h hz (by intro z; cases z)) h⟩)
  · exact .inr h
theorem noL_ver (v : Ver) : noL (ver v) = true := noL_vdat (some v)
/-- a list elsewhere is changed -/
theorem ShAt.mono {P : Program} {w : World} {K : PySem.W.Frag} {C : Addr} {H H' : Hp} {p D : Addr} {ms : Sh} (h : ShAt P w K C H p ms) (k : ∀ b o, b ≠ D → H b = some o → H' b = some o) (hd : ∃ zs, H D = some (.lst zs)) : ShAt P w K C H' p ms := by
  obtain ⟨dx, d, es, o, h1, h2, h3⟩ := h.ex
  obtain ⟨zs, hz⟩ := id hd
  exact ⟨⟨dx, d, es, o, k _ _ (ne_of h1 hz (by intro z; cases z)) h1, k _ _ (ne_of h2 hz (by intro z; cases z)) h2, h3.imp (fun _ _ q => seqT_mono k hd q) fun v x q => DV.mono k hd _ _ (noL_ver v) q⟩, h.nd, h.ok, h.few⟩
theorem look_find {K : PySem.W.Frag} {H : Hp} : ∀ {es : List Ent} {ms : Sh}, EnS K H es ms → ∀ m, DV K H (vdat (look ms m)) ((findM es m).getD .non)
  | _, _, .nil, m => rfl
  | e :: es, n :: ms, .cons a b, m => by
    unfold findM look
    by_cases h : e.1 = m
    · rw [if_pos h, if_pos (a.1 ▸ h)]
      exact a.2.2
    · rw [if_neg h, if_neg (a.1 ▸ h)]
      exact look_find b m
theorem look_in {ms : Sh} (nd : (ms.map (·.1)).Nodup) : ∀ {m : Mark × Ver}, m ∈ ms → look ms m.1 = some m.2 := by
  induction ms with
  | nil => intro m h; cases h
  | cons a ms ih =>
    intro m h
    have hn := List.nodup_cons.mp nd
    unfold look
    rcases List.mem_cons.mp h with rfl | h
    · rw [if_pos rfl]
    · rw [if_neg (fun z => hn.1 (by show a.1 ∈ _; rw [z]; exact List.mem_map_of_mem (f := (·.1)) h))]
      exact ih hn.2 h
/-- putting pairs of unlike marks lays them as they are -/
theorem find_none : ∀ {es : List Ent} {m : Mark}, m ∉ es.map (·.1) → findM es m = none
  | [], _, _ => rfl
  | e :: es, m, h => by
    unfold findM
    rw [if_neg (fun z => h (by rw [← z]; exact List.mem_cons_self))]
    exact find_none fun z => h (List.mem_cons_of_mem _ z)
theorem find_some : ∀ {es : List Ent} {m : Mark}, m ∈ es.map (·.1) → (findM es m).isSome = true
  | e :: es, m, h => by
    unfold findM
    by_cases z : e.1 = m
    · rw [if_pos z]; rfl
    · rw [if_neg z]
      rcases List.mem_cons.mp h with q | q
      · exact absurd q.symm z
      · exact find_some q
theorem putAll_new : ∀ (ps : List Ent) (es : List Ent), ((es ++ ps).map (·.1)).Nodup → putAll es ps = es ++ ps
  | [], es, _ => by rw [List.append_nil]; rfl
  | p :: ps, es, h => by
    have hm : p.1 ∉ es.map (·.1) := by
      rw [List.map_append, List.map_cons] at h
      intro z
      exact (List.nodup_append.mp h).2.2 _ z _ List.mem_cons_self rfl
    show putAll (putM es p.1 p.2.1 p.2.2) ps = es ++ p :: ps
    have e : putM es p.1 p.2.1 p.2.2 = es ++ [p] := by
      unfold putM
      rw [find_none hm]
      rfl
    rw [e, putAll_new ps (es ++ [p]) (by rw [List.append_assoc]; exact h), List.append_assoc]
    rfl
theorem putAll_less : ∀ (ps : List Ent) (es : List Ent), (es.map (·.1)).Nodup → ¬ ((es ++ ps).map (·.1)).Nodup → (putAll es ps).length < es.length + ps.length
  | [], es, h1, h2 => absurd (by rw [List.append_nil]; exact h1) h2
  | p :: ps, es, h1, h2 => by
    show (putAll (putM es p.1 p.2.1 p.2.2) ps).length < es.length + (ps.length + 1)
    by_cases hm : p.1 ∈ es.map (·.1)
    · have hl : (putM es p.1 p.2.1 p.2.2).length = es.length := by
        unfold putM
        rw [if_pos (find_some hm), List.length_map]
      have := putAll_len ps (putM es p.1 p.2.1 p.2.2)
      omega
    · have e : putM es p.1 p.2.1 p.2.2 = es ++ [p] := by
        unfold putM
        rw [find_none hm]
        rfl
      rw [e]
      have := putAll_less ps (es ++ [p]) (by
        rw [List.map_append]
        exact List.nodup_append.mpr ⟨h1, List.nodup_cons.mpr ⟨by simp, List.nodup_nil⟩, fun x hx y hy z => hm ((show x = p.1 from z.trans (List.mem_singleton.mp hy)) ▸ hx)⟩) (by rw [List.append_assoc]; exact h2)
      rw [List.length_append, List.length_cons, List.length_nil] at this
      omega
/-- the pairs of a list -/
theorem pairs_of {K : PySem.W.Frag} {H : Hp} : ∀ {ms : Sh} {vs : List V}, DVs K H (ms.map prD) vs → ∃ ps : List Ent, PairsL K H ps vs ∧ EnS K H ps ms
  | [], vs, h => by cases (show vs = [] from h); exact ⟨[], .nil, .nil⟩
  | m :: ms, vs, h => by
    obtain ⟨v, r, rfl, hv, hr⟩ := h
    obtain ⟨ps, h1, h2⟩ := pairs_of hr
    obtain ⟨t, xs, rfl, ht, x1, r1, rfl, e1, x2, r2, rfl, e2, e3⟩ := hv
    cases (show r2 = [] from e3)
    obtain ⟨q, rfl, hq⟩ := mark_of e1
    exact ⟨(m.1, q, x2) :: ps, .cons ⟨t, rfl, ht, hq⟩ h1, .cons ⟨rfl, hq, e2⟩ h2⟩
theorem ens_marks {K : PySem.W.Frag} {H : Hp} : ∀ {es : List Ent} {ms : Sh}, EnS K H es ms → es.map (·.1) = ms.map (·.1)
  | _, _, .nil => rfl
  | _, _, .cons a b => by rw [List.map_cons, List.map_cons, a.1, ens_marks b]
theorem ens_val {K : PySem.W.Frag} {H : Hp} : ∀ {es : List Ent} {ms : Sh}, EnS K H es ms → ∀ e ∈ es, SqT K H e.2.1 (mkV e.1) ∧ ∃ v, (e.1, v) ∈ ms ∧ DV K H (ver v) e.2.2
  | _, _, .nil, e, h => nomatch h
  | _, m :: _, .cons a b, e, h => by
    rcases List.mem_cons.mp h with rfl | h
    · exact ⟨by rw [a.1]; exact a.2.1, m.2, by rw [a.1]; exact List.mem_cons_self, a.2.2⟩
    · obtain ⟨h1, v, h2, h3⟩ := ens_val b e h
      exact ⟨h1, v, List.mem_cons_of_mem _ h2, h3⟩
noncomputable def toSh (ms : Sh) (bs : List Mark) : Sh := bs.map fun m => (m, (look ms m).getD (0, [], ""))
theorem toSh_self {ms : Sh} (nd : (ms.map (·.1)).Nodup) : toSh ms (ms.map (·.1)) = ms := by
  unfold toSh
  rw [List.map_map]
  have : ∀ m ∈ ms, ((fun m => (m, (look ms m).getD (0, [], ""))) ∘ (·.1)) m = m := fun m hm => by
    show (m.1, (look ms m.1).getD (0, [], "")) = m
    rw [look_in nd hm]
    rfl
  conv => rhs; rw [← List.map_id ms]
  exact List.map_congr_left this
theorem toSh_perm {ms : Sh} (nd : (ms.map (·.1)).Nodup) {bs : List Mark} (h : bs.Perm (ms.map (·.1))) : (toSh ms bs).Perm ms := by
  have := h.map (fun m => (m, (look ms m).getD (0, [], "")))
  rw [show (ms.map (·.1)).map (fun m => (m, (look ms m).getD (0, [], ""))) = ms from toSh_self nd] at this
  exact this
theorem toSh_pw {ms : Sh} {bs : List Mark} (h : bs.Pairwise fun a b => mLt a b = true) : (toSh ms bs).Pairwise fun a b => mLt a.1 b.1 = true := List.pairwise_map.mpr h
end L2

namespace L2
open PySem PySem.Spec PyProof.Rows PySem.NumText
/-! ### a comprehension over d.items() with a test -/
theorem comp_items {P : Program} {w : World} {a : Addr} {es : List Ent} {o : Obj} {nt : Nat} {cap : List Nat} {g : TG} {ti : TT} {te : TE} {σ : St} {H1 : Hp} {Q : VK} {D : Addr} (kb : Ent → Bool) (R : Ent → V → Hp → Prop) (hD : H1 D = none) (hP : Plain H1) (ha : H1 a = some (dO P w a es o)) (hx : es.length ≤ sizeLine)
    (mono : ∀ e y H H', R e y H → (∀ b o, b ≠ D → H b = some o → H' b = some o) → (∃ zs, H D = some (.lst zs)) → R e y H')
    (step : ∀ (i : Nat) e H2 T' (Tt : VK) (Tf : Hp → Prop), es[i]? = some e → Plain H2 → Same H1 H2 → H2 T' = none → (kb e = true → ∀ y H6, R e y H6 → Same H2 H6 → Plain H6 → Tt y H6) → (kb e = false → ∀ H6, Same H2 H6 → Plain H6 → Tf H6) →
      g (.ref T') (List.replicate nt none ++ caps cap σ) (upd H2 T' (.tup [.ref e.2.1, e.2.2])) fun σ4 H4 => ti σ4 H4 fun b H5 => if b = true then te σ4 H5 Tt else Tf H5)
    (fin : ∀ ys H2, Paired (fun e y => R e y H2) (es.filter kb) ys → H2 D = some (.lst ys) → Same H1 H2 → Plain H2 → Q (.ref D) H2) :
    CompW (Itm P w a es o) D nt cap g ti te σ H1 Q := by
  refine ⟨fun i m ys H2 => m = es.length - i ∧ i ≤ es.length ∧ ys.length ≤ i ∧ H2 D = some (.lst ys) ∧ Same H1 H2 ∧ Plain H2 ∧ Paired (fun e y => R e y H2) ((es.take i).filter kb) ys, ⟨_, rfl, Nat.zero_le _, Nat.le_refl _, upd_same, same_upd hD, hP.lst, .nil⟩, ?_⟩
  rintro i m ys H2 ⟨rfl, hi, hl, hd, hs, hp, hr⟩
  refine ⟨hd, ?_⟩
  by_cases hlt : i < es.length
  · refine .inr ⟨⟨hs _ _ ha, hlt⟩, by omega, fun v H3 hy => ?_⟩
    obtain ⟨T', e, rfl, hT, rfl, he⟩ := hy
    have e1 : es.take (i + 1) = es.take i ++ [e] := by
      obtain ⟨h', rfl⟩ := List.getElem?_eq_some_iff.mp he
      exact List.take_succ_eq_append_getElem h'
    refine step i e _ T' _ _ he hp hs hT (fun hk y H6 hR hs6 hp6 => ⟨hs6 _ _ hd, _, by omega, rfl, hlt, by simp; omega, upd_same, (hs.trans hs6).upd hD, hp6.lst, ?_⟩) (fun hk H6 hs6 hp6 => ⟨_, by omega, rfl, hlt, by omega, hs6 _ _ hd, hs.trans hs6, hp6, ?_⟩)
    · have up : ∀ b o, b ≠ D → H6 b = some o → (upd H6 D (.lst (ys ++ [y]))) b = some o := fun b o hb e => by rw [upd_ne hb]; exact e
      rw [e1, List.filter_append, show [e].filter kb = [e] by simp [hk]]
      refine Paired.snoc (Paired.mapP hr fun e' y' hr' => mono e' y' H6 _ (mono e' y' _ H6 hr' (fun b o _ q => hs6 b o q) ⟨_, hd⟩) up ⟨_, hs6 _ _ hd⟩) (mono e y H6 _ hR up ⟨_, hs6 _ _ hd⟩)
    · rw [e1, List.filter_append, show [e].filter kb = [] by simp [hk], List.append_nil]
      exact Paired.mapP hr fun e' y' hr' => mono e' y' _ H6 hr' (fun b o _ q => hs6 b o q) ⟨_, hd⟩
  · have e : i = es.length := by omega
    subst e
    rw [List.take_length] at hr
    exact .inl ⟨⟨hs _ _ ha, Nat.le_refl _⟩, fin ys H2 hr hd hs hp⟩
/-! ### lines -/
noncomputable def vOf (ms : Sh) (m : Mark) : Ver := (look ms m).getD (0, [], "")
noncomputable def lnLt (ms : Sh) (a b : Mark) : Bool := prodLt pLt mLt ((vOf ms a).2.1, a) ((vOf ms b).2.1, b)
theorem lnLt_sto (ms : Sh) : STO (lnLt ms) where
  irr := fun a => (prod_sto pLt_sto mLt_sto).irr _
  tr := fun a b c h1 h2 => (prod_sto pLt_sto mLt_sto).tr _ _ _ h1 h2
  tri := fun a b hn h => (prod_sto pLt_sto mLt_sto).tri _ _ (fun z => hn (congrArg Prod.snd z)) h
noncomputable def enL (ms : Sh) (m : Mark) : List PyData := [plc (vOf ms m).2.1, markD m, .str (vOf ms m).2.2]
noncomputable def lnD (ms : Sh) (m : Mark) : PyData := .tuple [markD m, .str (vOf ms m).2.2]
noncomputable def isInV (v : Ver) : Bool := !decide (v.2.1 = [])
noncomputable def insOf (ms : Sh) : List Mark := (ms.filter fun m => isInV m.2).map (·.1)
theorem enL_shaped {ms : Sh} {m : Mark} (h : okV (vOf ms m)) : SeqAt.shaped (.tuple (enL ms m)) = true := by
  unfold SeqAt.shaped
  have h1 : PyData.canLay0 (.tuple (enL ms m)) = true := by
    show (PyData.canLay0 (plc (vOf ms m).2.1) && ((true && (true && true)) && (PyData.strOk (vOf ms m).2.2 && true))) = true
    rw [plc_lay, show PyData.strOk (vOf ms m).2.2 = true from h]
    rfl
  rw [h1, Bool.true_and]
  refine decide_eq_true ?_
  have h2 : PyData.depth (.tuple (enL ms m)) = max (PyData.depthAll ((vOf ms m).2.1.map stp) + 1) (max 1 (max 0 0)) + 1 := rfl
  have := depth_stps (vOf ms m).2.1
  rw [h2]
  omega
theorem insOf_nd {ms : Sh} (nd : (ms.map (·.1)).Nodup) : (insOf ms).Nodup := by
  unfold insOf
  exact List.Nodup.sublist (List.Sublist.map _ (List.filter_sublist)) nd
theorem insOf_srt {ms : Sh} (nd : (ms.map (·.1)).Nodup) (ok : ∀ m ∈ ms, okV m.2) (few : ms.length < 64) : Srt (insOf ms) (enL ms) (lnLt ms) .tup where
  sto := lnLt_sto ms
  few := by
    unfold insOf
    rw [List.length_map]
    exact Nat.lt_of_le_of_lt (List.length_filter_le _ _) few
  nd := insOf_nd nd
  lts := by
    intro a ha b hb
    show (if PyData.eqv (plc (vOf ms a).2.1) (plc (vOf ms b).2.1) = true then ltDs [markD a, .str (vOf ms a).2.2] [markD b, .str (vOf ms b).2.2] else ltD (plc (vOf ms a).2.1) (plc (vOf ms b).2.1)) = some (lnLt ms a b)
    rw [plc_eqv]
    unfold lnLt prodLt
    dsimp only
    by_cases e : (vOf ms a).2.1 = (vOf ms b).2.1
    · rw [if_pos (decide_eq_true e), if_pos e]
      show (if PyData.eqv (markD a) (markD b) = true then ltDs [.str (vOf ms a).2.2] [.str (vOf ms b).2.2] else ltD (markD a) (markD b)) = some (mLt a b)
      rw [markD_eqv]
      by_cases e2 : a = b
      · subst e2
        rw [if_pos (decide_eq_true rfl), mLt_sto.irr]
        show (if PyData.eqv (.str (vOf ms a).2.2) (.str (vOf ms a).2.2) = true then ltDs [] [] else _) = _
        rw [if_pos (show PyData.eqv (.str (vOf ms a).2.2) (.str (vOf ms a).2.2) = true from beq_self_eq_true (vOf ms a).2.2)]
        unfold ltDs
        rfl
      · rw [if_neg (by rw [decide_eq_false e2]; exact Bool.false_ne_true)]
        exact markD_lt a b
    · rw [if_neg (by rw [decide_eq_false e]; exact Bool.false_ne_true), if_neg e]
      exact ltD_plc _ _
  fst := fun a _ => ⟨_, _, rfl, ⟨_, rfl⟩⟩
  shp := by
    intro a ha
    obtain ⟨m, hm, rfl⟩ := List.mem_map.mp ha
    have hm' := (List.mem_filter.mp hm).1
    refine enL_shaped ?_
    unfold vOf
    rw [look_in nd hm']
    exact ok m hm'
theorem paired_dvs {K : PySem.W.Frag} {H : Hp} {α : Type} {f : α → PyData} : ∀ {xs : List α} {ys : List V}, Paired (fun x y => DV K H (f x) y) xs ys → DVs K H (xs.map f) ys
  | _, _, .nil => rfl
  | _, _, .cons a b => ⟨_, _, rfl, a, paired_dvs b⟩
theorem vOf_in {ms : Sh} (nd : (ms.map (·.1)).Nodup) {m : Mark × Ver} (h : m ∈ ms) : vOf ms m.1 = m.2 := by
  unfold vOf
  rw [look_in nd h]
  rfl
theorem ins_of_es {K : PySem.W.Frag} {H : Hp} {es : List Ent} {ms : Sh} (he : EnS K H es ms) (nd : (ms.map (·.1)).Nodup) : (es.filter fun e => isInV (vOf ms e.1)).map (·.1) = insOf ms := by
  have h1 : (es.filter fun e => isInV (vOf ms e.1)).map (·.1) = (es.map (·.1)).filter fun m => isInV (vOf ms m) := by
    rw [List.filter_map]
    rfl
  have h2 : (ms.map (·.1)).filter (fun m => isInV (vOf ms m)) = (ms.filter fun m => isInV (vOf ms m.1)).map (·.1) := by
    rw [List.filter_map]
    rfl
  rw [h1, ens_marks he, h2]
  unfold insOf
  congr 1
  refine List.filter_congr fun m hm => ?_
  rw [vOf_in nd hm]
theorem noL_enL (ms : Sh) (m : Mark) : noL (.tuple (enL ms m)) = true := by
  show (noL (plc (vOf ms m).2.1) && (noL (markD m) && (noL (.str (vOf ms m).2.2) && true))) = true
  rw [noL_plc]
  rfl
theorem enL_of {K : PySem.W.Frag} {H : Hp} {ms : Sh} {m : Mark} {x : V} (h : DV K H (.tuple (enL ms m)) x) : ∃ t pv q, x = .ref t ∧ SqT K H t [pv, .ref q, .str (vOf ms m).2.2] ∧ SqT K H q (mkV m) := by
  obtain ⟨t, vs, rfl, hq, a, r, rfl, ha, b, r2, rfl, hb, c, r3, rfl, hc, h4⟩ := h
  cases (show c = V.str (vOf ms m).2.2 from hc)
  cases (show r3 = [] from h4)
  obtain ⟨q, rfl, hm⟩ := mark_of hb
  exact ⟨t, a, q, rfl, hq, hm⟩
theorem lnD_of {K : PySem.W.Frag} {H : Hp} {ms : Sh} {m : Mark} {x : V} (h : DV K H (lnD ms m) x) : ∃ t q, x = .ref t ∧ SqT K H t [.ref q, .str (vOf ms m).2.2] ∧ SqT K H q (mkV m) := by
  obtain ⟨t, vs, rfl, hq, b, r2, rfl, hb, c, r3, rfl, hc, h4⟩ := h
  cases (show c = V.str (vOf ms m).2.2 from hc)
  cases (show r3 = [] from h4)
  obtain ⟨q, rfl, hm⟩ := mark_of hb
  exact ⟨t, q, rfl, hq, hm⟩
end L2

namespace L2
open PySem PySem.Spec PyProof.Rows PySem.NumText
section
variable {X : Cx}
end
/-! ### what is no tuple may be changed -/
noncomputable def NoTup (o : HO) : Prop := (∀ xs, o ≠ .tup xs) ∧ ∀ ob u, o ≠ .frz ob u
theorem sqT_other {K : PySem.W.Frag} {H : Hp} {p : Addr} {o o' : HO} {a : Addr} {xs : List V} (hp : H p = some o) (n : NoTup o) (h : SqT K H a xs) : SqT K (upd H p o') a xs := by
  rcases h with (h | ⟨ob, h⟩) | h
  · exact .inl (.inl (by rw [upd_ne (ne_of h hp fun z => n.1 _ z.symm)]; exact h))
  · exact .inl (.inr ⟨ob, by rw [upd_ne (ne_of h hp fun z => n.2 _ _ z.symm)]; exact h⟩)
  · exact .inr h
mutual
theorem dv_other {K : PySem.W.Frag} {H : Hp} {p : Addr} {o o' : HO} (hp : H p = some o) (n : NoTup o) : ∀ (d : PyData) (v : V), noL d = true → DV K H d v → DV K (upd H p o') d v
  | .none, v, _, h => h
  | .bool b, v, _, h => h
  | .int i, v, _, h => h
  | .str x, v, _, h => h
  | .list xs, v, n', _ => by cases n'
  | .tuple xs, v, n', ⟨a, vs, h1, h2, h3⟩ => ⟨a, vs, h1, sqT_other hp n h2, dvs_other hp n xs vs n' h3⟩
  | .dict _, v, _, h => h.elim
theorem dvs_other {K : PySem.W.Frag} {H : Hp} {p : Addr} {o o' : HO} (hp : H p = some o) (n : NoTup o) : ∀ (ds : List PyData) (vs : List V), noLs ds = true → DVs K H ds vs → DVs K (upd H p o') ds vs
  | [], vs, _, h => h
  | d :: ds, vs, n', ⟨v, r, h1, h2, h3⟩ => by
    have n' : noL d = true ∧ noLs ds = true := by rw [noLs, Bool.and_eq_true] at n'; exact n'
    exact ⟨v, r, h1, dv_other hp n d v n'.1 h2, dvs_other hp n ds r n'.2 h3⟩
end
theorem noT_lst (xs : List V) : NoTup (.lst xs) := ⟨fun _ z => (by cases z), fun _ _ z => (by cases z)⟩
theorem noT_ext (φ : Heap → Prop) : NoTup (.ext φ) := ⟨fun _ z => (by cases z), fun _ _ z => (by cases z)⟩
theorem noLs_pr : ∀ ms : Sh, noLs (ms.map prD) = true
  | [] => rfl
  | m :: ms => by
    show (noL (prD m) && noLs (ms.map prD)) = true
    rw [noLs_pr ms, show noL (prD m) = true by show (noL (markD m.1) && (noL (ver m.2) && true)) = true; rw [noL_ver]; rfl]
    rfl
end L2

namespace L2
open PySem PySem.Spec PyProof.Rows PySem.NumText
/-! ### a table laid anew: each one is met on its own path -/
/-! ### searches -/
section
variable {prog : Program} {w : World} {A : Around} {E : Value → Shared → Prop} {s : Shared}
end
end L2

namespace L2
open PySem PySem.Spec PyProof.Rows PySem.NumText
section
variable {prog : Program} {w : World} {A : Around} {E : Value → Shared → Prop} {s : Shared}
end
end L2

namespace L2
open PySem PySem.Spec PyProof.Rows PySem.NumText
/-! ### a set of unlike data -/
section
variable {prog : Program} {w : World} {A : Around} {E : Value → Shared → Prop} {s : Shared}
end
end L2

namespace L2
open PySem PySem.Spec PyProof.Rows PySem.NumText
/-! ### set(a list), whatever stands twice in it -/
section
variable {prog : Program} {w : World} {A : Around} {E : Value → Shared → Prop} {s : Shared}
end
section
variable {prog : Program} {w : World} {A : Around} {R : Result → Shared → Prop} {I : Addr} {fp wr : List Addr} {G : Array GenState → Array GenState → Prop} {n : Nat} {P : Nat → Value → Prop} {St : Nat → Shared → Prop}
end
section
variable {prog : Program} {w : World} {A : Around} {E : Value → Shared → Prop} {s : Shared}
end
end L2

namespace L2
open PySem PySem.Spec PyProof.Rows PySem.NumText
/-! ### rules for sets of tuples of ints -/
section
variable {X : Cx} {pins : List (Addr × Obj)} {σ : St} {H : Hp} {s : Shared}
end
section
variable {X : Cx}
end
end L2

namespace L2
open PySem PySem.Spec PyProof.Rows PySem.NumText
/-! ### min(xs, default=None) -/
section
variable {prog : Program} {w : World} {A : Around} {E : Value → Shared → Prop} {s : Shared}
end
section
variable {X : Cx} {e : Expr} {ta : TA} {x : Str} {id : String} {r : List V → Hp → VK → Prop} {p pos kp kp1 : Pos} {j : Nat}
end
end L2

namespace L2
open PySem PySem.Spec PyProof.Rows PySem.NumText
/-! ### a tuple in a list of tuples -/
section
variable {X : Cx}
end
end L2

namespace L2
open PySem PySem.Spec PyProof.Rows PySem.NumText
/-! ### a dict's keys walked -/
noncomputable def kiObj (d : Addr) (i n ep : Nat) : Obj := { cls := .type "dict_keyiterator", data := .fields #[.ref d, .int i 0, .int n 0, .int ep 0] }
section
variable {prog : Program} {w : World} {A : Around} {E : Value → Shared → Prop} {s : Shared} {d it : Addr} {ds : Array DictEntry} {ep i : Nat}
theorem owns_ki : Builtin.Dict_items.ownsTuple "dict_keyiterator" = false := by decide
theorem iter_keys {Q : Value → Shared → Prop} (hT : s.TypeIs (.ref d) "dict") (hd : RawD s.heap d ds ep) (hs : (d == sysModules) = false)
    (k : Q (.ref s.heap.objs.size) { s with heap := s.heap.push (kiObj d 0 ds.size ep) }) : wpAny (model prog w) A (pyIter (.ref d)) Q E s := by
  obtain ⟨o, d1, d2, d3⟩ := hd
  refine wpAny_pyIter_slot hT F.slot_dict_iter (wpAny_call_entry F.slot_dict_iter hT F.entry_dict_iter ?_ (F.args_dict_iter_1 _))
  unfold Builtin.«dict.__iter__» Builtin.Dict.dictSlotNone
  refine wpAny_bind (wpAny_bind (wpAny_notOrdered_dict hT (wpAny_bind (wpAny_of_eq (a := (Value.ref d, [])) rfl (wpAny_pure ?_)))))
  refine wpAny_bind (wpAny_pure ?_)
  unfold Builtin.Dict.showsAll
  rw [hs]
  refine wpAny_bind (wpAny_of_eq (a := ()) (if_neg Bool.false_ne_true) ?_)
  refine wpAny_bind (wpAny_dictEntries d1 d3 (wpAny_bind (wpAny_dictEpoch d1 d3 ?_)))
  refine wpAny_bind (wpAny_newObj_type (wpAny_pure ⟨_, rfl, "dict_keyiterator", _, ⟨_, Heap.get?_push_size _ rfl, rfl⟩, F.slot_dict_keyiterator_next.lookup, ?_⟩) ?_)
  · simpa [rawInt, kiObj] using k
  · simp only [sizeOk, List.size_toArray, List.length_cons, List.length_nil, sizeLine_eq]
    omega
theorem next_key {Q : Option Value → Shared → Prop} {e : DictEntry} (hi : s.heap.get? it = some (kiObj d i ds.size ep)) (hd : RawD s.heap d ds ep) (he : ds[i]? = some e)
    (k : ∀ h', h'.get? it = some (kiObj d (i + 1) ds.size ep) → h'.objs.size = s.heap.objs.size → (∀ b o, b ≠ it → s.heap.get? b = some o → h'.get? b = some o) → Q (some e.key) { s with heap := h' }) : wpAny (model prog w) A (pyNext (.ref it)) Q E s := by
  obtain ⟨o, d1, d2, d3⟩ := hd
  have ty : s.TypeIs (.ref it) "dict_keyiterator" := ⟨_, hi, rfl⟩
  unfold pyNext
  refine wpAny_bind (wpAny_attempt (wpAny_callSpecial?_slot ty F.slot_dict_keyiterator_next (wpAny_call_entry F.slot_dict_keyiterator_next ty F.entry_dict_keyiterator_next ?_ (F.args_dict_keyiterator_next_1 _))))
  unfold Builtin.«dict_keyiterator.__next__»
  refine wpAny_bind (wpAny_pure (wpAny_bind (wpAny_bind (wpAny_bind (wpAny_typeNameOfWhole_keyiter ty (wpAny_pure (wpAny_bind (wpAny_fieldsOf hi rfl ?_))))))))
  simp only [owns_ki, Bool.false_eq_true, if_false]
  have e1 : (Value.ref d == Value.none) = false := rfl
  dsimp only [List.drop, List.take]
  rw [if_neg (by rw [e1]; exact Bool.false_ne_true)]
  refine wpAny_bind (wpAny_pure (wpAny_bind (wpAny_dictEntries d1 d3 ?_)))
  rw [if_neg (by simp)]
  refine wpAny_bind (wpAny_pure (wpAny_bind (wpAny_dictEpoch d1 d3 ?_)))
  rw [if_neg (by simp)]
  refine wpAny_pure ?_
  dsimp only
  rw [if_neg (by omega), Int.toNat_natCast, he]
  dsimp only
  refine wpAny_bind (wpAny_bind (wpAny_typeNameOfWhole_keyiter ty (wpAny_pure ?_)))
  refine wpAny_bind (wpAny_isOneOf_keyiter ty ?_)
  simp only [owns_ki, Bool.false_eq_true, if_false]
  rw [if_neg (by decide)]
  refine wpAny_bind (wpAny_setField_rec (k := 1) hi (by show 1 < 4; decide) fun h1 g1 sb1 => ?_)
  have g1 : h1.get? it = some (kiObj d (i + 1) ds.size ep) := g1
  have ty1 : ({ s with heap := h1 } : Shared).TypeIs (.ref it) "dict_keyiterator" := ⟨_, g1, rfl⟩
  refine wpAny_bind (wpAny_holding (wpAny_bind (wpAny_isOneOf_keyiter ty1 ?_)))
  first | rw [if_neg (by decide)] | rw [if_pos (by decide)]
  exact wpAny_pure (wpAny_pure ⟨_, rfl, wpAny_pure (k h1 g1 sb1.1 fun b o hb q => (sb1.2 b hb).trans q)⟩)
theorem next_keyOver {Q : Option Value → Shared → Prop} (hh : A.handled = none) (hi : s.heap.get? it = some (kiObj d i ds.size ep)) (hd : RawD s.heap d ds ep) (he : ds[i]? = none)
    (k : ∀ h', (∀ b o, b ≠ it → s.heap.get? b = some o → h'.get? b = some o) → Q none { s with heap := h' }) : wpAny (model prog w) A (pyNext (.ref it)) Q E s := by
  obtain ⟨o, d1, d2, d3⟩ := hd
  have ty : s.TypeIs (.ref it) "dict_keyiterator" := ⟨_, hi, rfl⟩
  unfold pyNext
  refine wpAny_bind (wpAny_attempt (wpAny_callSpecial?_slot ty F.slot_dict_keyiterator_next (wpAny_call_entry F.slot_dict_keyiterator_next ty F.entry_dict_keyiterator_next ?_ (F.args_dict_keyiterator_next_1 _))))
  unfold Builtin.«dict_keyiterator.__next__»
  refine wpAny_bind (wpAny_pure (wpAny_bind (wpAny_bind (wpAny_bind (wpAny_typeNameOfWhole_keyiter ty (wpAny_pure (wpAny_bind (wpAny_fieldsOf hi rfl ?_))))))))
  simp only [owns_ki, Bool.false_eq_true, if_false]
  have e1 : (Value.ref d == Value.none) = false := rfl
  dsimp only [List.drop, List.take]
  rw [if_neg (by rw [e1]; exact Bool.false_ne_true)]
  refine wpAny_bind (wpAny_pure (wpAny_bind (wpAny_dictEntries d1 d3 ?_)))
  rw [if_neg (by simp)]
  refine wpAny_bind (wpAny_pure (wpAny_bind (wpAny_dictEpoch d1 d3 ?_)))
  rw [if_neg (by simp)]
  refine wpAny_pure ?_
  dsimp only
  rw [if_neg (by omega), Int.toNat_natCast, he]
  dsimp only
  refine wpAny_bind (wpAny_bind (wpAny_typeNameOfWhole_keyiter ty (wpAny_pure ?_)))
  simp only [owns_ki, Bool.false_eq_true, if_false]
  refine wpAny_bind (wpAny_setField_rec (k := 0) hi (by show 0 < 4; decide) fun h1 g1 sb => ?_)
  unfold newExc raiseNew
  refine wpAny_bind (wpAny_bind (wpAny_newObj_type ?_))
  have fa : firstArgMember (.type "StopIteration") [] = pure Value.none := by
    rw [firstArgMember.eq_1]
    generalize (Manifest.find? "StopIteration").elim false (fun t => t.mro.contains "StopIteration" || t.mro.contains "SystemExit") = b
    cases b <;> rfl
  refine wpAny_bind (wpAny_of_eq fa (wpAny_newObj_type ?_ (sizeOk_excFields _ _ _ _ _ _ _ _)))
  refine wpAny_bind (wpAny_handled ?_)
  rw [show A.in1.handled = none from hh]
  refine wpAny_throw ?_
  refine wpAny_bind (wpAny_isInstance ⟨_, Heap.get?_push_size _ rfl, rfl⟩ isSubtype_stop ?_)
  rw [if_pos rfl]
  refine wpAny_pure (k _ fun b o hb e => ?_)
  exact Heap.get?_push_of_some _ (Heap.get?_push_of_some _ ((sb.2 b hb).trans e))
end
end L2

namespace L2
open PySem PySem.Spec PyProof.Rows PySem.NumText
/-! ### for m in d -/
noncomputable def Itk (P : Program) (w : World) (a : Addr) (es : List Ent) (o : Obj) : It :=
  ⟨fun i H => H a = some (dO P w a es o) ∧ i < es.length, fun i H v H' => H' = H ∧ ∃ e, v = .ref e.2.1 ∧ es[i]? = some e, fun i H => H a = some (dO P w a es o) ∧ es.length ≤ i⟩
theorem turn_keys {P : Program} {w : World} {K : PySem.W.Frag} {tg : Expr} (a it : Addr) (es : List Ent) (o : Obj) (ds : Array DictEntry) (ep : Nat) (hod : o.data = .dict ds ep) :
    Turn P w K tg (Itk P w a es o) [it] it (fun i h => h.get? it = some (kiObj a i es.length ep)) where
  mem := by simp
  obj := fun i h st b hb => by
    have : b = it := by simpa using hb
    subst this
    exact ⟨_, st, fun v z => nomatch z⟩
  keep := fun i h h' st k => k it (by simp) _ st
  item := by
    intro X hP hw hK hc i pins s σ H E I hf he hg
    subst hP hw hK
    obtain ⟨hob, hi⟩ := hg
    obtain ⟨h1, _, _, ds', ep', rs, R⟩ := I.raw hob
    have e0 := R.dat
    rw [hod] at e0
    cases e0
    obtain ⟨e, hei⟩ : ∃ e, es[i]? = some e := ⟨_, List.getElem?_eq_getElem hi⟩
    obtain ⟨u, q, hu, hk, hv, rq⟩ := R.at_ hei
    rw [← R.size] at he
    obtain ⟨f0, f1, f2, f3, f4, f5⟩ := hf it (by simp)
    refine next_key he ⟨o, h1, R.cl, R.dat⟩ hu fun h' g1 g2 g3 => ?_
    have I1 : Inv X pins σ H { s with heap := h' } := I.turned (t' := s.toks) g3 f0 f1 f3 f4 f5
    refine ⟨u.key, rfl, go_of (s := { s with heap := h' }) g1 rfl rfl (by decide) ⟨.ref e.2.1, H, I1, hk, ⟨rfl, e, rfl, hei⟩, by rw [R.size] at g1; exact g1, fun b hb => (hf b hb).1⟩⟩
  done := by
    intro X hP hw hK hc i pins s σ H E I hf he hg
    subst hP hw hK
    obtain ⟨hob, hi⟩ := hg
    obtain ⟨h1, _, _, ds', ep', rs, R⟩ := I.raw hob
    have e0 := R.dat
    rw [hod] at e0
    cases e0
    rw [← R.size] at he
    obtain ⟨f0, f1, f2, f3, f4, f5⟩ := hf it (by simp)
    exact next_keyOver (I.ok.hd hc) he ⟨o, h1, R.cl, R.dat⟩ (by rw [Array.getElem?_eq_none]; rw [R.size]; exact hi) fun h' kp => ⟨rfl, I.turned (t' := s.toks) kp f0 f1 f3 f4 f5⟩
  self := fun A i s Q E st h => by
    have hT : s.TypeIs (.ref it) "dict_keyiterator" := ⟨_, st, rfl⟩
    exact wpAny_pyIter_slot hT F.slot_dict_keyiterator_iter (wpAny_call_entry F.slot_dict_keyiterator_iter hT F.entry_dict_keyiterator_iter (wpAny_pure ⟨_, rfl, "dict_keyiterator", _, hT, F.slot_dict_keyiterator_next.lookup, h⟩) (F.args_dict_keyiterator_iter_1 _))
section
variable {X : Cx} {o : Expr} {td : TE}
noncomputable def iKeys (P : Program) (w : World) (td : TE) : TI := fun σ H R => td σ H fun x H1 => ∃ a es o, x = .ref a ∧ H1 a = some (dO P w a es o) ∧ R (Itk P w a es o) H1
theorem pi_keys {tg : Expr} (ho : PE X o td) : PI X tg o (iKeys X.prog X.w td) := .mk <| by
  intro pins s σ H R I h
  refine thn (ho pins s σ H _ I h) fun v s1 ⟨x, H1, I1, r1, a, es, ob, ex, hob, q⟩ => ?_
  subst ex
  cases r1
  obtain ⟨hT, hdn⟩ := I1.isDict hob
  obtain ⟨d1, hb, _, ds, ep, rs, RR⟩ := I1.raw hob
  refine iter_keys hT ⟨ob, d1, RR.cl, RR.dat⟩ hb ?_
  have hit := Heap.get?_push_size s1.heap (o := kiObj a 0 ds.size ep) rfl
  refine ⟨s1.heap.objs.size, [s1.heap.objs.size], _, _, H1, rfl, I1.kept (t' := s1.toks) fun b o e => Heap.get?_push_of_some _ e, turn_keys a s1.heap.objs.size es ob ds ep RR.dat, by rw [← RR.size]; exact hit, fun b hb => ?_, q⟩
  have e : b = s1.heap.objs.size := by simpa using hb
  subst e
  exact I1.fpOk (Nat.le_refl _) (I1.hok.fresh (Nat.le_refl _))
end
/-! a comprehension over the keys, with a test -/
/-! ### the keys collected -/
section
variable {prog : Program} {w : World} {A : Around} {E : Value → Shared → Prop} {s : Shared} {d it S : Addr} {ds : Array DictEntry} {ep : Nat}
theorem loop_keys {R : Result → Shared → Prop} (hh : A.handled = none) (hn : ds.size ≤ sizeLine) (nSI : S ≠ it) (ndS : d ≠ S) (ndI : d ≠ it) (res : Value) {h1 : Heap}
    (k : ∀ h' tk acc c, (∀ b o, b ≠ S → b ≠ it → h1.get? b = some o → h'.get? b = some o) → h'.get? S = some { cls := .type "list", data := .seq acc c } → acc.toList = ds.toList.map (·.key) → R (.ok (.ret res)) { s with heap := h', toks := tk }) :
    ∀ (n i : Nat) (h : Heap) (tk c : Nat) (acc : Array Value), ds.size - i = n → i ≤ ds.size → h.get? it = some (kiObj d i ds.size ep) → RawD h d ds ep →
      (∀ b o, b ≠ S → b ≠ it → h1.get? b = some o → h.get? b = some o) → h.get? S = some { cls := .type "list", data := .seq acc c } → acc.toList = (ds.toList.take i).map (·.key) →
      codeAny (model prog w) A (.builtin "list.extend.loop" ⟨[.ref S, .ref it, res], []⟩) R { s with heap := h, toks := tk } := by
  intro n
  induction n with
  | zero =>
    intro i h tk c acc hni hi hit hd kp hS hacc
    refine codeAny_builtin F.entry_extend_loop ?_
    rw [Around.under_plainId F.plain_extend_loop]
    refine wpAny_bind (next_keyOver (s := { s with heap := h, toks := tk }) hh hit hd (by rw [Array.getElem?_eq_none]; omega) fun h' kp' => ?_)
    refine wpAny_pure (k h' tk acc c (fun b o h1' h2' e => kp' b o h2' (kp b o h1' h2' e)) (kp' _ _ nSI hS) ?_)
    rw [hacc, List.take_of_length_le (by rw [Array.length_toList]; omega)]
  | succ n ih =>
    intro i h tk c acc hni hi hit hd kp hS hacc
    obtain ⟨e, he⟩ : ∃ e, ds[i]? = some e := ⟨_, Array.getElem?_eq_getElem (by omega)⟩
    refine codeAny_builtin F.entry_extend_loop ?_
    rw [Around.under_plainId F.plain_extend_loop]
    refine wpAny_bind (next_key (s := { s with heap := h, toks := tk }) hit hd he fun h' hit' hz kp' => ?_)
    have hS' := kp' _ _ nSI hS
    have haz : acc.size = i := by rw [← Array.length_toList, hacc, List.length_map, List.length_take, Array.length_toList]; omega
    refine wpAny_bind (wpAny_updateSeq (a := S) (s := { s with heap := h', toks := tk }) hS' rfl ?_ (by omega) (by rw [Array.size_push]; omega))
    refine wpAny_pure ⟨plainId_quiet F.plain_extend_loop _, ?_⟩
    have oth : ∀ b, b ≠ S → (h'.update S (Obj.mapSeq fun x => x.push e.key)).get? b = h'.get? b := fun b hb => Heap.get?_update_other _ _ (Ne.symm hb)
    have self : (h'.update S (Obj.mapSeq fun x => x.push e.key)).get? S = some { cls := .type "list", data := .seq (acc.push e.key) (if (acc.push e.key).size == acc.size then c else c + 1) } := Heap.get?_update_self _ hS' rfl
    refine ih (i + 1) _ tk _ _ (by omega) (by omega) (by rw [oth _ nSI.symm]; exact hit') ?_ ?_ self ?_
    · obtain ⟨o, o1, o2⟩ := hd
      exact ⟨o, by rw [oth _ ndS]; exact kp' _ _ ndI o1, o2⟩
    · intro b o hb1 hb2 q
      rw [oth _ hb1]
      exact kp' _ _ hb2 (kp b o hb1 hb2 q)
    · have hil : i < ds.toList.length := by rw [Array.length_toList]; omega
      rw [Array.toList_push, hacc, List.take_succ_eq_append_getElem hil, List.map_append]
      have : ds.toList[i] = e := by
        have := (Array.getElem?_eq_some_iff.mp he).2
        rw [Array.getElem_toList]; exact this
      rw [this]
      rfl
theorem collect_keys {R : List Value → Shared → Prop} (hh : A.handled = none) (hT : s.TypeIs (.ref d) "dict") (hb : (d == sysModules) = false) (hd : RawD s.heap d ds ep) (hn : ds.size ≤ sizeLine)
    (k : ∀ h' tk, (∀ b o, s.heap.get? b = some o → h'.get? b = some o) → R (ds.toList.map (·.key)) { s with heap := h', toks := tk }) : wpAny (model prog w) A (collect (.ref d)) R E s := by
  unfold collect
  refine wpAny_bind (wpAny_runValue (codeAny_builtin entry_proto_collect' ?_))
  rw [Around.under_plainId F.plain_proto_collect]
  refine wpAny_bind (wpAny_newObj_type (wpAny_pure ⟨plainId_quiet F.plain_list_iadd _, codeAny_builtin entry_list_iadd' ?_⟩))
  rw [Around.under_plainId F.plain_list_iadd]
  obtain ⟨o, d1, d2, d3⟩ := id hd
  obtain ⟨h1, hh1⟩ : ∃ h1, h1 = s.heap.push { cls := .type "list", data := .seq (#[] : Array Value) } := ⟨_, rfl⟩
  have hS1 : h1.get? s.heap.objs.size = some { cls := .type "list", data := .seq #[] } := by rw [hh1]; exact Heap.get?_push_size _ rfl
  have kp1 : ∀ b ob, s.heap.get? b = some ob → h1.get? b = some ob := fun b ob e => by rw [hh1]; exact Heap.get?_push_of_some _ e
  have z1 : h1.objs.size = s.heap.objs.size + 1 := by rw [hh1, Heap.size_push]
  have hd1 : RawD h1 d ds ep := ⟨o, kp1 _ _ d1, d2, d3⟩
  have hT1 : ({ s with heap := h1 } : Shared).TypeIs (.ref d) "dict" := ⟨o, kp1 _ _ d1, d2⟩
  show wpAny _ _ (Builtin.«list.__iadd__» _) _ _ { s with heap := s.heap.push { cls := .type "list", data := .seq (#[] : Array Value) } }
  rw [← hh1]
  unfold Builtin.«list.__iadd__»
  refine wpAny_bind (wpAny_pure ?_)
  show wpAny _ _ (Builtin.List.listExtendWith (.ref s.heap.objs.size) (.ref d) (.ref s.heap.objs.size)) _ _ _
  unfold Builtin.List.listExtendWith
  refine wpAny_bind (wpAny_typeOf hT1 ?_)
  have ndS : d ≠ s.heap.objs.size := Nat.ne_of_lt (Heap.lt_size d1)
  rw [if_neg (by simp [Builtin.List.listSameRef, ndS.symm])]
  refine wpAny_bind (iter_keys (s := { s with heap := h1 }) hT1 hd1 hb ?_)
  obtain ⟨h2, hh2⟩ : ∃ h2, h2 = h1.push (kiObj d 0 ds.size ep) := ⟨_, rfl⟩
  have z2 : h2.objs.size = h1.objs.size + 1 := by rw [hh2, Heap.size_push]
  have kp2 : ∀ b ob, h1.get? b = some ob → h2.get? b = some ob := fun b ob e => by rw [hh2]; exact Heap.get?_push_of_some _ e
  have i2 : h2.get? h1.objs.size = some (kiObj d 0 ds.size ep) := by rw [hh2]; exact Heap.get?_push_size _ rfl
  show wpAny _ _ _ _ _ { s with heap := h1.push (kiObj d 0 ds.size ep) }
  rw [← hh2]
  have hT2 : ({ s with heap := h2 } : Shared).TypeIs (.ref d) "dict" := ⟨o, kp2 _ _ (kp1 _ _ d1), d2⟩
  refine wpAny_bind (wpAny_holding (PySem.W.kdl_hint_dict hT2 ?_))
  have nSI : s.heap.objs.size ≠ h1.objs.size := by rw [z1]; exact Nat.ne_of_lt (Nat.lt_succ_self _)
  have ndI : d ≠ h1.objs.size := Nat.ne_of_lt (Heap.lt_size (kp1 _ _ d1))
  have fin : ∀ h3 c, h3.objs.size = h2.objs.size → (∀ b, b ≠ s.heap.objs.size → h3.get? b = h2.get? b) → h3.get? s.heap.objs.size = some { cls := .type "list", data := .seq #[] c } →
      codeAny (model prog w) A (.builtin "list.extend.loop" ⟨[.ref s.heap.objs.size, .ref h1.objs.size, .ref s.heap.objs.size], []⟩) (fun r s' => ∃ h' tk acc c', r = .ok (.ret (.ref s.heap.objs.size)) ∧ s' = { s with heap := h', toks := tk } ∧ (∀ b ob, s.heap.get? b = some ob → h'.get? b = some ob) ∧ h'.get? s.heap.objs.size = some { cls := .type "list", data := .seq acc c' } ∧ acc.toList = ds.toList.map (·.key)) { s with heap := h3, toks := s.toks } := by
    intro h3 c z3 oth3 hS3
    refine loop_keys (ep := ep) (d := d) (h1 := h2) hh hn nSI ndS ndI (.ref s.heap.objs.size) ?_ (ds.size - 0) 0 h3 s.toks c #[] rfl (Nat.zero_le _) (by rw [oth3 _ nSI.symm]; exact i2) ⟨o, by rw [oth3 _ ndS]; exact kp2 _ _ (kp1 _ _ d1), d2, d3⟩ (fun b ob hb1 hb2 e => by rw [oth3 _ hb1]; exact e) hS3 rfl
    intro h' tk acc c' kp' hS' hacc
    exact ⟨h', tk, acc, c', rfl, rfl, fun b ob e => kp' b ob (Nat.ne_of_lt (Heap.lt_size e)) (Nat.ne_of_lt (Heap.lt_size (kp1 _ _ e))) (kp2 _ _ (kp1 _ _ e)), hS', hacc⟩
  refine wpAny_ite_split (fun _ => ?_) (fun _ => ?_)
  · refine wpAny_bind (wpAny_rule (wpAny_bind (wpAny_bind (wpAny_updateSeq (a := s.heap.objs.size) (s := { s with heap := h2 }) (kp2 _ _ hS1) rfl ?_ (Nat.zero_le _) (by show 1 ≤ _; rw [sizeLine_eq]; omega)))))
    have self : (h2.update s.heap.objs.size (Obj.mapSeq fun x => x.push .none)).get? s.heap.objs.size = some { cls := .type "list", data := .seq #[.none] 1 } := Heap.get?_update_self _ (kp2 _ _ hS1) rfl
    refine wpAny_updateSeq (a := s.heap.objs.size) self rfl ?_ (by show 1 ≤ _; rw [sizeLine_eq]; omega) (Nat.zero_le _)
    refine wpAny_pure ⟨plainId_quiet F.plain_extend_loop _, codeAny_mono (fin _ 2 ?_ ?_ ?_) fun r s' ⟨h', tk, acc, c', e1, e2, kp', hS', hacc⟩ => ?_⟩
    · rw [Heap.size_update, Heap.size_update]
    · intro b hb
      rw [Heap.get?_update_other _ _ (Ne.symm hb), Heap.get?_update_other _ _ (Ne.symm hb)]
    · exact Heap.get?_update_self _ self rfl
    · subst e1 e2
      refine wpAny_bind (wpAny_load hS' ?_)
      dsimp only
      rw [hacc]
      exact wpAny_pure (k h' tk kp')
  · refine wpAny_pure ⟨plainId_quiet F.plain_extend_loop _, codeAny_mono (fin h2 0 rfl (fun _ _ => rfl) (kp2 _ _ hS1)) fun r s' ⟨h', tk, acc, c', e1, e2, kp', hS', hacc⟩ => ?_⟩
    subst e1 e2
    refine wpAny_bind (wpAny_load hS' ?_)
    dsimp only
    rw [hacc]
    exact wpAny_pure (k h' tk kp')
end
/-! ### sorted(d) -/
theorem marks_srt {ks : List Mark} (nd : ks.Nodup) (few : ks.length < 64) : Srt ks (fun m => [.int m.1, .int m.2]) mLt .int where
  sto := mLt_sto
  few := few
  nd := nd
  lts := by
    intro a _ b _
    have h := markD_lt a b
    exact h
  fst := fun a _ => ⟨_, _, rfl, _, rfl⟩
  shp := fun a _ => rfl
section
variable {X : Cx}
noncomputable def rSortK (P : Program) (w : World) (K : PySem.W.Frag) : List V → Hp → VK → Prop := fun xs H Q => ∃ (a : Addr) (es : List Ent) (o : Obj), xs = [.ref a] ∧ H a = some (dO P w a es o) ∧ (∀ e ∈ es, SqT K H e.2.1 (mkV e.1)) ∧ (es.map (·.1)).Nodup ∧ es.length < 64 ∧ SortQ K H (es.map (·.1)) (fun m => [.int m.1, .int m.2]) mLt Q
theorem keys_vals {X : Cx} : ∀ {es : List Ent} {rs : List Row}, Paired EntR es rs → Vals (es.map fun e => V.ref e.2.1) ((rs.map (entryOfKey (dK X.prog X.w))).map (·.key))
  | _, _, .nil => .nil
  | _, _, .cons a b => .cons (show RelV (.ref _) (.ref _) from by rw [a.2.1]; rfl) (keys_vals b)
theorem call_sortedK (hc : X.calm = true) (hu : X.A.units + 100 < cLine) : CallR X (.builtin "sorted") (rSortK X.prog X.w X.K) := by
  intro pins s σ H xs us Q I r h
  obtain ⟨a, es, o, rfl, ha, hk, nd, few, q⟩ := h
  obtain ⟨u, rfl, ru⟩ := vals1 r
  cases ru
  obtain ⟨hT, _⟩ := I.isDict ha
  obtain ⟨h1, hb, _, ds, ep, rs, RR⟩ := I.raw ha
  refine sorted_shell (collect_keys (I.ok.hd hc) hT hb ⟨o, h1, RR.cl, RR.dat⟩ (by rw [RR.size, sizeLine_eq]; omega) fun h' tk kp => ?_)
  have I1 : Inv X pins σ H { s with heap := h', toks := tk } := I.kept (t' := tk) kp
  rw [RR.lst]
  refine sort_go (s := s) hu (marks_srt nd (by rw [List.length_map]; exact few)) I1 (keys_vals RR.rel) ?_ q
  have : ∀ (l : List Ent), (∀ e ∈ l, SqT X.K H e.2.1 (mkV e.1)) → DVs X.K H ((l.map (·.1)).map fun (m : Mark) => PyData.tuple [.int m.1, .int m.2]) (l.map fun e => V.ref e.2.1) := by
    intro l
    induction l with
    | nil => intro _; rfl
    | cons e l ih => intro hl; exact ⟨_, _, rfl, mkV_dv (hl e List.mem_cons_self), ih fun e' he' => hl e' (List.mem_cons_of_mem _ he')⟩
  exact this es hk
end
end L2

namespace L2
open PySem PySem.Spec PyProof.Rows PySem.NumText
/-! ### d != {} -/
theorem ne_empty (a b : Addr) : Meets (Builtin.«dict.__ne__» ⟨[.ref a, .ref b], []⟩) (fun A R s => (a == sysModules) = false ∧ (b == sysModules) = false ∧ ∃ oa ob es ea eb, s.heap.get? a = some oa ∧ oa.cls = .type "dict" ∧ oa.data = .dict es ea ∧ s.heap.get? b = some ob ∧ ob.cls = .type "dict" ∧ ob.data = .dict #[] eb ∧ R (.ok (.ret (.bool (!es.isEmpty)))) s) := by
  intro prog w A R s h
  obtain ⟨ha, hb, oa, ob, es, ea, eb, a1, a2, a3, b1, b2, b3, r⟩ := h
  have tA : s.TypeIs (.ref a) "dict" := ⟨oa, a1, a2⟩
  have tB : s.TypeIs (.ref b) "dict" := ⟨ob, b1, b2⟩
  unfold Builtin.«dict.__ne__»
  show wpAny _ _ (Builtin.Dict.dictSlotArgs "__ne__" ⟨[.ref a, .ref b], []⟩ >>= _) _ _ _
  refine wpAny_bind (wpAny_bind (wpAny_notOrdered_dict tA (wpAny_bind (wpAny_of_eq (a := (Value.ref a, [Value.ref b])) rfl (wpAny_pure ?_)))))
  dsimp only
  refine wpAny_bind (wpAny_isInstance tB PySem.F.sub_dict_dict ?_)
  simp only [Bool.not_true, Bool.false_eq_true, if_false]
  refine wpAny_bind (wpAny_pure (wpAny_bind (wpAny_pure ?_)))
  unfold Builtin.Dict.samePairs Builtin.Dict.showsAll
  rw [ha, hb]
  refine wpAny_bind (wpAny_bind (wpAny_of_eq (a := ()) (if_neg Bool.false_ne_true) (wpAny_bind (wpAny_of_eq (a := ()) (if_neg Bool.false_ne_true) ?_))))
  refine wpAny_bind (wpAny_dictEntries a1 a3 (wpAny_bind (wpAny_dictEntries b1 b3 ?_)))
  by_cases he : es.size = 0
  · have e0 : es = #[] := Array.eq_empty_of_size_eq_zero he
    subst e0
    rw [if_neg (by simp)]
    refine wpAny_bind (wpAny_dictEpoch a1 a3 (wpAny_bind (wpAny_of_eq (a := ((none : Option Bool), ())) (by simp) ?_)))
    exact wpAny_pure (wpAny_pure r)
  · rw [if_pos (by simpa using he)]
    refine wpAny_bind (wpAny_rule (wpAny_pure (wpAny_pure ?_)))
    have : es.isEmpty = false := by
      rw [Array.isEmpty]
      exact decide_eq_false he
    rw [this] at r
    exact r
section
variable {X : Cx}
noncomputable def rNeE (P : Program) (w : World) : R2 := fun x y H Q => ∃ a b es o ob, x = .ref a ∧ y = .ref b ∧ H a = some (dO P w a es o) ∧ H b = some (dO P w b [] ob) ∧ Q (.bl (!decide (es = []))) H
theorem op_neE (hu : X.A.units + 100 < cLine) : OpR X (compareOp .NotEq) (rNeE X.prog X.w) := by
  intro pins s σ H x y v u Q I rx ry h
  obtain ⟨a, b, es, o, ob, rfl, rfl, ha, hb, q⟩ := h
  cases rx
  cases ry
  obtain ⟨hTa, _⟩ := I.isDict ha
  obtain ⟨hTb, _⟩ := I.isDict hb
  obtain ⟨h1, sa, _, ds, ep, rs, RR⟩ := I.raw ha
  obtain ⟨g1, sb, _, ds2, ep2, rs2, RR2⟩ := I.raw hb
  have e2 : ds2 = #[] := Array.eq_empty_of_size_eq_zero (by rw [RR2.size]; rfl)
  subst e2
  show wpAny _ _ (richCompare .NotEq (.ref a) (.ref b)) _ _ _
  refine richCompare_meets_room (op := .NotEq) hTa hTb PySem.F.slot_dict_ne PySem.F.entry_dict_ne (PySem.F.args_dict_ne_2 _ _) (ne_empty a b) ⟨sa, sb, o, ob, ds, ep, ep2, h1, RR.cl, RR.dat, g1, RR2.cl, RR2.dat, ?_⟩ (by omega)
  refine ⟨(fun z => by cases z), V.bl (!decide (es = [])), H, I, ?_, q⟩
  have : ds.isEmpty = decide (es = []) := by
    rw [Array.isEmpty]
    have hz := RR.size
    by_cases e : es = []
    · rw [decide_eq_true e]
      rw [e] at hz
      exact decide_eq_true hz
    · rw [decide_eq_false e]
      refine decide_eq_false fun z => e ?_
      rw [z] at hz
      exact List.length_eq_zero_iff.mp hz.symm
  rw [this]
  rfl
end
/-! ### d.pop(m), d.pop(m, None) -/
section
variable {prog : Program} {w : World} {A : Around} {E : Value → Shared → Prop} {s : Shared} {d q : Addr}
end
end L2

namespace L2
open PySem PySem.Spec PyProof.Rows PySem.NumText
section
variable {prog : Program} {w : World} {A : Around} {E : Value → Shared → Prop} {s : Shared} {d q : Addr}
end
section
variable {X : Cx} {o e : Expr} {td ty : TE} {apos cpos : Pos}
end
end L2

namespace L2
open PySem PySem.Spec PyProof.Rows PySem.NumText
/-! ### an empty set, walked and sorted -/
section
variable {prog : Program} {w : World} {A : Around} {E : Value → Shared → Prop} {s : Shared} {a it : Addr}
end
end L2

namespace L2
open PySem PySem.Spec PyProof.Rows PySem.NumText
section
variable {prog : Program} {w : World} {A : Around} {E : Value → Shared → Prop} {s : Shared} {a it : Addr}
end
section
variable {X : Cx}
end
end L2

namespace L2
open PySem PySem.Spec PyProof.Rows PySem.NumText
/-! ### a set walked -/
section
variable {prog : Program} {w : World} {A : Around} {E : Value → Shared → Prop} {s : Shared} {a it : Addr} {es : Array (Int × Value)} {ep i : Nat} {t : ST}
end
end L2

namespace L2
open PySem PySem.Spec PyProof.Rows PySem.NumText
/-! ### a set's members collected, and sorted -/
section
variable {prog : Program} {w : World} {A : Around} {E : Value → Shared → Prop} {s : Shared} {a it S : Addr} {es : Array (Int × Value)} {ep : Nat} {t : ST}
end
section
variable {X : Cx}
/-! ### sorted(a set of marks) -/
end
end L2

namespace L2
open PySem PySem.Spec PyProof.Rows PySem.NumText
/-! ### a set comprehension whose first clause has nothing to walk -/
section
variable {prog : Program} {w : World} {A : Around} {R : Result → Shared → Prop} {s : Shared}
end
section
variable {X : Cx}
end
end L2

namespace L2
open PySem PySem.Spec PyProof.Rows PySem.NumText
/-! ### a set comprehension of one clause -/
section
variable {prog : Program} {w : World} {A : Around} {E : Value → Shared → Prop} {R : Result → Shared → Prop} {s : Shared}
end
section
variable {X : Cx}
end
end L2

namespace L2
open PySem PySem.Spec PyProof.Rows PySem.NumText
/-! ### plain data in a list of plain data -/
section
variable {X : Cx}
theorem ix_MK {P : Program} {w : World} {K : PySem.W.Frag} (hP : X.prog = P) (hw : X.w = w) (hK : X.K = K) (hu : X.A.units + 1 < cLine) : IxR X (rIxM P w K) := by
  subst hP hw hK
  exact ix_M hu
end
end L2

namespace L2
open PySem PySem.Spec PyProof.Rows PySem.NumText
/-! ### a comprehension with a test, over anything -/
/-! ### clashes -/
/-! ints -/
/-! the object -/
end L2

namespace L2
open PySem PySem.Spec PyProof.Rows PySem.NumText
/-! ### changes -/
noncomputable def mks (a : Sh) : List Mark := a.map (·.1)
theorem look_some : ∀ {a : Sh} {m : Mark} {v : Ver}, look a m = some v → (m, v) ∈ a
  | [], _, _, h => by cases h
  | x :: a, m, v, h => by
    unfold look at h
    by_cases e : x.1 = m
    · rw [if_pos e] at h
      cases h
      rw [← e]
      exact List.mem_cons_self
    · rw [if_neg e] at h
      exact List.mem_cons_of_mem _ (look_some h)
theorem look_no' {a : Sh} {m : Mark} (h : m ∉ mks a) : look a m = none := by
  cases e : look a m with
  | none => rfl
  | some v => exact absurd (List.mem_map_of_mem (f := (·.1)) (look_some e)) h
theorem mem_mks {a : Sh} {m : Mark} (h : m ∈ mks a) : ∃ v, (m, v) ∈ a := by
  obtain ⟨x, hx, rfl⟩ := List.mem_map.mp h
  exact ⟨x.2, hx⟩
theorem nodup_le {α : Type} [DecidableEq α] : ∀ {l U : List α}, l.Nodup → (∀ x ∈ l, x ∈ U) → l.length ≤ U.length
  | [], U, _, _ => Nat.zero_le _
  | x :: l, U, h, hs => by
    obtain ⟨h1, h2⟩ := List.nodup_cons.mp h
    have hx := hs x List.mem_cons_self
    have := nodup_le (l := l) (U := U.erase x) h2 fun y hy => (List.mem_erase_of_ne (fun (z : y = x) => h1 (by rw [← z]; exact hy))).mpr (hs y (List.mem_cons_of_mem _ hy))
    rw [List.length_erase_of_mem hx] at this
    have hp := List.length_pos_of_mem hx
    rw [List.length_cons]
    omega
theorem toE {X : Cx} {e : Expr} {t t' : TE} (h : PE X e t) (z : t = t') : PE X e t' := z ▸ h
theorem toS {X : Cx} {e : Stmt} {t t' : TS} (h : PS X e t) (z : t = t') : PS X e t' := z ▸ h
/-! a table of pairs that is put and taken from -/
end L2

namespace L2
open PySem PySem.Spec PyProof.Rows PySem.NumText
/-! ### dict(d): another dict of the same entries -/
section
variable {prog : Program} {w : World} {A : Around} {E : Value → Shared → Prop} {s : Shared} {d a : Addr} {ds : Array DictEntry} {ep : Nat} {o : Obj}
end
section
variable {X : Cx}
end
end L2

namespace L2
open PySem PySem.Spec PyProof.Rows PySem.NumText
/-! ### list(d.items()) -/
section
variable {prog : Program} {w : World} {A : Around} {E : Value → Shared → Prop} {s : Shared} {d r : Addr} {ds : Array DictEntry} {ep : Nat}
end
section
variable {X : Cx}
end
end L2

namespace L2
open PySem PySem.Spec PyProof.Rows PySem.NumText
/-! ### hashes of marks in a box are unlike -/
noncomputable def boxM (A B : Nat) : List Mark := (List.range A).flatMap fun (a : Nat) => (List.range B).map fun (b : Nat) => (Int.ofNat a, Int.ofNat b)
theorem mem_box {A B : Nat} {m : Mark} (h1 : 0 ≤ m.1) (h2 : m.1 < A) (h3 : 0 ≤ m.2) (h4 : m.2 < B) : m ∈ boxM A B := by
  obtain ⟨x, y⟩ := m
  refine List.mem_flatMap.mpr ⟨x.toNat, List.mem_range.mpr (by dsimp only at *; omega), List.mem_map.mpr ⟨y.toNat, List.mem_range.mpr (by dsimp only at *; omega), ?_⟩⟩
  dsimp only at h1 h3
  show (Int.ofNat x.toNat, Int.ofNat y.toNat) = (x, y)
  rw [show Int.ofNat x.toNat = x from Int.toNat_of_nonneg h1, show Int.ofNat y.toNat = y from Int.toNat_of_nonneg h3]
/-! ### what a table of pairs looks up, put and taken from -/
theorem look_app {ns : Sh} {m : Mark} {v : Ver} (hn : m ∉ mks ns) : ∀ k, look (ns ++ [(m, v)]) k = if m = k then some v else look ns k := by
  intro k
  induction ns with
  | nil => rfl
  | cons n ns ih =>
    have hn' : m ∉ mks ns := fun z => hn (List.mem_cons_of_mem _ z)
    have hm : n.1 ≠ m := fun z => hn (by rw [← z]; exact List.mem_cons_self)
    show (if n.1 = k then some n.2 else look (ns ++ [(m, v)]) k) = if m = k then some v else if n.1 = k then some n.2 else look ns k
    rw [ih hn']
    by_cases h1 : n.1 = k
    · rw [if_pos h1, if_neg (fun z => hm (h1.trans z.symm)), if_pos h1]
    · rw [if_neg h1, if_neg h1]
theorem look_rep {m : Mark} {v : Ver} : ∀ {ns : Sh}, m ∈ mks ns → ∀ k, look (ns.map fun n => if n.1 = m then (n.1, v) else n) k = if m = k then some v else look ns k
  | [], h, k => by cases h
  | n :: ns, h, k => by
    have step : look ((n :: ns).map fun n => if n.1 = m then (n.1, v) else n) k = if n.1 = k then some (if n.1 = m then v else n.2) else look (ns.map fun n => if n.1 = m then (n.1, v) else n) k := by
      show (if (if n.1 = m then (n.1, v) else n).1 = k then some (if n.1 = m then (n.1, v) else n).2 else _) = _
      by_cases h1 : n.1 = m
      · rw [if_pos h1, if_pos h1]
      · rw [if_neg h1, if_neg h1]
    rw [step]
    show _ = if m = k then some v else if n.1 = k then some n.2 else look ns k
    by_cases h2 : n.1 = k
    · rw [if_pos h2, if_pos h2]
      by_cases h1 : n.1 = m
      · rw [if_pos h1, if_pos (h1.symm.trans h2)]
      · rw [if_neg h1, if_neg (fun z => h1 (h2.trans z.symm))]
    · rw [if_neg h2, if_neg h2]
      by_cases h3 : m ∈ mks ns
      · rw [look_rep h3]
      · have hm : m = n.1 := (List.mem_cons.mp h).resolve_right h3
        rw [if_neg (fun z => h2 (hm ▸ z))]
        congr 1
        have : ∀ x ∈ ns, (if x.1 = m then (x.1, v) else x) = x := fun x hx => if_neg fun z => h3 (by rw [← z]; exact List.mem_map_of_mem (f := (·.1)) hx)
        exact (List.map_congr_left this).trans (List.map_id _)
noncomputable def putS (ns : Sh) (m : Mark) (v : Ver) : Sh := if m ∈ mks ns then ns.map (fun n => if n.1 = m then (n.1, v) else n) else ns ++ [(m, v)]
theorem putS_look (ns : Sh) (m : Mark) (v : Ver) (k : Mark) : look (putS ns m v) k = if m = k then some v else look ns k := by
  unfold putS
  by_cases h : m ∈ mks ns
  · rw [if_pos h]; exact look_rep h k
  · rw [if_neg h]; exact look_app h k
theorem putS_marks (ns : Sh) (m : Mark) (v : Ver) : mks (putS ns m v) = if m ∈ mks ns then mks ns else mks ns ++ [m] := by
  unfold putS
  by_cases h : m ∈ mks ns
  · rw [if_pos h, if_pos h]
    unfold mks
    rw [List.map_map]
    exact List.map_congr_left fun n _ => by
      show (if n.1 = m then (n.1, v) else n).1 = n.1
      split <;> rfl
  · rw [if_neg h, if_neg h]
    unfold mks
    rw [List.map_append]
    rfl
theorem putS_mem {ns : Sh} {m : Mark} {v : Ver} {k : Mark} (h : k ∈ mks (putS ns m v)) : k = m ∨ k ∈ mks ns := by
  rw [putS_marks] at h
  split at h
  · exact .inr h
  · rcases List.mem_append.mp h with z | z
    · exact .inr z
    · exact .inl (List.mem_singleton.mp z)
theorem putS_nd {ns : Sh} (nd : (mks ns).Nodup) (m : Mark) (v : Ver) : (mks (putS ns m v)).Nodup := by
  rw [putS_marks]
  by_cases h : m ∈ mks ns
  · rw [if_pos h]; exact nd
  · rw [if_neg h]
    refine List.nodup_append.mpr ⟨nd, List.nodup_cons.mpr ⟨by simp, List.nodup_nil⟩, fun a ha b hb z => ?_⟩
    exact h ((show a = m from z.trans (List.mem_singleton.mp hb)) ▸ ha)
theorem putS_len (ns : Sh) (m : Mark) (v : Ver) : (putS ns m v).length ≤ ns.length + 1 := by
  unfold putS
  split <;> simp
theorem putS_ok {ns : Sh} (ok : ∀ n ∈ ns, okV n.2) (m : Mark) {v : Ver} (okv : okV v) : ∀ n ∈ putS ns m v, okV n.2 := fun n hn => by
  unfold putS at hn
  split at hn
  · obtain ⟨y, hy, rfl⟩ := List.mem_map.mp hn
    split
    · exact okv
    · exact ok y hy
  · rcases List.mem_append.mp hn with z | z
    · exact ok n z
    · rw [List.mem_singleton.mp z]; exact okv
theorem ens_putS {K : PySem.W.Frag} {H : Hp} {es : List Ent} {ns : Sh} (he : EnS K H es ns) {m : Mark} {q : Addr} {v : Ver} {x : V} (hq : SqT K H q (mkV m)) (hx : DV K H (ver v) x) : EnS K H (putM es m q x) (putS ns m v) := by
  have em := ens_marks he
  unfold putM putS
  by_cases hm : m ∈ mks ns
  · have hf : (findM es m).isSome = true := find_some (by rw [em]; exact hm)
    rw [if_pos hf, if_pos hm]
    clear hm hf em
    induction he with
    | nil => exact .nil
    | cons a b ih =>
      rename_i e n _ _
      refine .cons ?_ ih
      obtain ⟨a1, a2, a3⟩ := a
      dsimp only
      by_cases z : e.1 = m
      · have z2 : n.1 = m := a1 ▸ z
        rw [if_pos z, if_pos z2]
        exact ⟨a1, a2, hx⟩
      · have z2 : ¬ n.1 = m := a1 ▸ z
        rw [if_neg z, if_neg z2]
        exact ⟨a1, a2, a3⟩
  · have hf : findM es m = none := find_none (by rw [em]; exact hm)
    rw [hf, if_neg hm]
    rw [if_neg (show ¬ (none : Option V).isSome = true from Bool.false_ne_true)]
    exact Paired.snoc he ⟨rfl, hq, hx⟩
/-! what is given on: changes of a table by pairs of a mark and a version, or none -/
noncomputable abbrev Giv := Mark × Option Ver
noncomputable def lookF (f : Mark → Option Ver) (gs : List Giv) : Mark → Option Ver := gs.foldl (fun f g k => if g.1 = k then g.2 else f k) f
theorem lookF_snoc (f : Mark → Option Ver) (gs : List Giv) (g : Giv) : lookF f (gs ++ [g]) = fun k => if g.1 = k then g.2 else lookF f gs k := by
  unfold lookF
  rw [List.foldl_append]
  rfl
end L2

namespace L2
open PySem PySem.Spec PyProof.Rows PySem.NumText
/-! ### tables whose values are versions or None -/
noncomputable def gmk (gs : List Giv) : List Mark := gs.map (·.1)
/-- what a table tells of a mark: None where it has none too -/
noncomputable def lookG (gs : List Giv) (k : Mark) : Option Ver := lookF (fun _ => none) gs k
theorem lookF_miss (gs : List Giv) {k : Mark} : ∀ {f : Mark → Option Ver}, k ∉ gmk gs → lookF f gs k = f k := by
  induction gs with
  | nil => intro f _; rfl
  | cons g gs ih =>
    intro f h
    have h1 : g.1 ≠ k := fun z => h (by rw [← z]; exact List.mem_cons_self)
    have h2 : k ∉ gmk gs := fun z => h (List.mem_cons_of_mem _ z)
    show lookF (fun k => if g.1 = k then g.2 else f k) gs k = f k
    rw [ih h2, if_neg h1]
theorem lookF_hit {gs : List Giv} (nd : (gmk gs).Nodup) {g : Giv} : ∀ {f : Mark → Option Ver}, g ∈ gs → lookF f gs g.1 = g.2 := by
  induction gs with
  | nil => intro f h; cases h
  | cons g0 gs ih =>
    intro f h
    obtain ⟨n1, n2⟩ := List.nodup_cons.mp (show (g0.1 :: gmk gs).Nodup from nd)
    show lookF (fun k => if g0.1 = k then g0.2 else f k) gs g.1 = g.2
    rcases List.mem_cons.mp h with rfl | h
    · rw [lookF_miss gs n1, if_pos rfl]
    · exact ih n2 h
noncomputable def allG (ms : Sh) : List Giv := ms.map fun m => (m.1, some m.2)
theorem allG_look {ms : Sh} (nd : (mks ms).Nodup) (k : Mark) : lookG (allG ms) k = look ms k := by
  have e1 : gmk (allG ms) = mks ms := by
    unfold gmk allG mks
    rw [List.map_map]
    rfl
  unfold lookG
  by_cases h : k ∈ mks ms
  · obtain ⟨m, hm, rfl⟩ := List.mem_map.mp h
    rw [show look ms m.1 = some m.2 from look_in nd hm]
    exact lookF_hit (g := (m.1, some m.2)) (by rw [e1]; exact nd) (List.mem_map_of_mem (f := fun m : Mark × Ver => ((m.1, some m.2) : Giv)) hm)
  · rw [lookF_miss _ (by rw [e1]; exact h), look_no' h]
end L2

namespace L2
open PySem PySem.Spec PyProof.Rows PySem.NumText
/-! ### range with a step of 3 -/
section
variable {X : Cx} {tg : Expr}
end
end L2

namespace L2
open PySem PySem.Spec PyProof.Rows PySem.NumText
/-! ### max(xs, default=None) of ints -/
section
variable {prog : Program} {w : World} {A : Around} {E : Value → Shared → Prop} {s : Shared}
end
section
variable {X : Cx}
end
end L2

namespace L2
open PySem PySem.Spec PyProof.Rows PySem.NumText
/-! ### nested targets -/
end L2

namespace L2
open PySem PySem.Spec PyProof.Rows PySem.NumText
/-! ### range with a step -/
/-- the steps that are asked for -/
noncomputable def StepZ (z : Int) : Prop := z = 2 ∨ z = 4 ∨ z = 5 ∨ z = -1
noncomputable def ItZ (z lo : Int) (n : Nat) : It := ⟨fun i _ => i < n, fun i H x H' => H' = H ∧ x = .int (lo + i * z), fun i _ => n ≤ i⟩
theorem turn_rangeZ {P : Program} {w : World} {K : PySem.W.Frag} {tg : Expr} (it : Addr) (z lo : Int) (n : Nat) : Turn P w K tg (ItZ z lo n) [it] it (fun i h => IsRangeIter h it (lo + (i : Nat) * z) ((n : Int) - (i : Nat)) z) where
  mem := by simp
  obj := fun i h st b hb => by
    have e : b = it := by simpa using hb
    subst e
    exact ⟨_, st, fun v y => by
      have y' : Data.fields _ = Data.cell v := y
      cases y'⟩
  keep := fun i h h' st k => k it (by simp) _ st
  item := by
    intro X hP hw hK hc i pins s σ H E I hf st hg
    subst hP hw hK
    obtain ⟨f0, f1, f2, f3, f4, f5⟩ := hf it (by simp)
    have W := Walks.range (prog := X.prog) (w := X.w) (I.ok.hd hc) it lo z n
    refine W.item i s _ _ hg st fun v h' tk hv st' kk => ?_
    obtain ⟨t, rfl⟩ := hv
    have I1 : Inv X pins σ H { s with heap := h', toks := tk } := I.turned (fun b o hb e => kk b o (by simpa using hb) e) f0 f1 f3 f4 f5
    exact ⟨_, rfl, go_of (s := { s with heap := h', toks := tk }) (n := "range_iterator") st' rfl rfl (by decide) ⟨.int (lo + i * z), H, I1, ⟨t, rfl⟩, ⟨rfl, rfl⟩, st', fun b hb => (hf b hb).1⟩⟩
  done := by
    intro X hP hw hK hc i pins s σ H E I hf st hg
    subst hP hw hK
    obtain ⟨f0, f1, f2, f3, f4, f5⟩ := hf it (by simp)
    exact wpAny_pyNext_range_end (I.ok.hd hc) st (by have : n ≤ i := hg; omega) fun h' eb => ⟨rfl, I.turned (t' := s.toks) (fun b o hb e => eb b o hb e) f0 f1 f3 f4 f5⟩
  self := fun _ _ _ _ _ st h => wpAny_pyIter_rangeiter st h
section
variable {X : Cx} {tg : Expr}
noncomputable def numZ (z lo hi : Int) : Nat := (Builtin.Range.rangeSize lo hi z).toNat
noncomputable def iRngZ (ta : TA) : TI := fun σ H R => ta σ H fun vs H1 => ∃ z i j : Int, vs = [.int i, .int j, .int z] ∧ StepZ z ∧ (-1000 < i ∧ i < 1000 ∧ -1000 < j ∧ j < 1000) ∧ R (ItZ z i (numZ z i j)) H1
theorem sizeZ {z i j : Int} (hz : StepZ z) (h1 : -1000 < i) (h2 : i < 1000) (h3 : -1000 < j) (h4 : j < 1000) : Builtin.Range.small i j z = true ∧ ((numZ z i j : Nat) : Int) = Builtin.Range.rangeSize i j z ∧ z ≠ 0 := by
  have e : 0 ≤ Builtin.Range.rangeSize i j z ∧ Builtin.Range.rangeSize i j z < 5000 := by
    unfold Builtin.Range.rangeSize
    rcases hz with rfl | rfl | rfl | rfl
    all_goals simp only [show (2 : Int) > 0 by decide, show (4 : Int) > 0 by decide, show (5 : Int) > 0 by decide, show ¬ (-1 : Int) > 0 by decide, if_true, if_false, show -(-1 : Int) = 1 by decide, Int.ediv_one]
    all_goals split <;> omega
  have e1 : -10 < z ∧ z < 10 ∧ z ≠ 0 := by rcases hz with rfl | rfl | rfl | rfl <;> decide
  refine ⟨?_, ?_, e1.2.2⟩
  · rcases hz with rfl | rfl | rfl | rfl
    all_goals
      unfold Builtin.Range.small
      simp only [Builtin.Range.rangeFitsLong, Bool.and_eq_true, Bool.or_eq_true, decide_eq_true_eq, beq_iff_eq, show (2 : Int) > 0 by decide, show (4 : Int) > 0 by decide, show (5 : Int) > 0 by decide, show ¬ (-1 : Int) > 0 by decide, if_true, if_false]
      (try split) <;> omega
  · unfold numZ
    omega
theorem pi_rangeZ {a b c : Expr} {ta : TA} {p pos : Pos} (hg : Gl X "range") (hm : X.mg "range" = none) (ha : PA X [a, b, c] ta) (hs : starEach [a, b, c] X.env = [(false, eval a X.env), (false, eval b X.env), (false, eval c X.env)] := by rfl) (hs2 : starEach [b, c] X.env = [(false, eval b X.env), (false, eval c X.env)] := by rfl) :
    PI X tg (.Call (.Name "range" p) [a, b, c] [] pos) (iRngZ ta) := .mk <| by
  intro pins s σ H R I h
  refine Call_ (ld_blt I hg hm boot_range (PyProof.Rows.callWith_type1 (thn (ha pos pins s σ H _ I h) fun us s1 ⟨vs, H1, I1, r1, q1⟩ => ?_) (by rw [hs, hs2]) (by rw [hs2]; rfl)))
  obtain ⟨z, i, j, e, hz, ⟨q1, q2, q3, q4⟩, q⟩ := q1
  subst e
  cases r1 with
  | cons r rr =>
    cases rr with
    | cons r' rr =>
      cases rr with
      | cons r'' rr =>
        cases rr
        obtain ⟨t, rfl⟩ := r
        obtain ⟨t', rfl⟩ := r'
        obtain ⟨t'', rfl⟩ := r''
        obtain ⟨sm, e1, z0⟩ := sizeZ hz q1 q2 q3 q4
        have zs : z.natAbs < 1073741824 := by rcases hz with rfl | rfl | rfl | rfl <;> decide
        refine call_range_3 z0 ?_ (.inl (PyProof.noPylong_small zs))
        refine wpAny_pyIter_range (IsRange.new ..) sm ?_
        have I2 : Inv X pins σ H1 { s1 with heap := s1.heap.push { cls := .type "range", data := .fields #[.int i t, .int j t', .int z t''] }, toks := s1.toks } := I1.kept fun b o e => Heap.get?_push_of_some _ e
        refine ⟨(s1.heap.push { cls := .type "range", data := .fields #[.int i t, .int j t', .int z t''] }).objs.size, [(s1.heap.push { cls := .type "range", data := .fields #[.int i t, .int j t', .int z t''] }).objs.size], _, _, H1, rfl,
          I2.kept (t' := s1.toks) fun b o e => Heap.get?_push_of_some _ e, turn_rangeZ _ z i (numZ z i j), ?_, fun b hb => ?_, q⟩
        · have e3 : i + ((0 : Nat) : Int) * z = i := by simp
          show IsRangeIter _ _ (i + ((0 : Nat) : Int) * z) (((numZ z i j : Nat) : Int) - ((0 : Nat) : Int)) z
          rw [e3, e1, show Builtin.Range.rangeSize i j z - ((0 : Nat) : Int) = Builtin.Range.rangeSize i j z by simp]
          exact Heap.get?_push_size _ rfl
        · have e : b = (s1.heap.push { cls := .type "range", data := .fields #[.int i t, .int j t', .int z t''] }).objs.size := by simpa using hb
          subst e
          exact I2.fpOk (Nat.le_refl _) (I2.hok.fresh (Nat.le_refl _))
end
theorem for_rangeZ {z lo : Int} {n : Nat} {g : TG} {tb : TS} {D : Ends} {σ : St} {H : Hp} (Pv : Nat → St → Hp → Prop) (h0 : Pv 0 σ H)
    (hs : ∀ i σ H, i < n → Pv i σ H → g (.int (lo + i * z)) σ H fun σ2 H2 => tb { D with nx := Pv (i + 1), ct := Pv (i + 1), bk := D.nx } σ2 H2) (hd : ∀ σ H, Pv n σ H → D.nx σ H) :
    ∃ W : Nat → Nat → St → Hp → Prop, (∃ m, W 0 m σ H) ∧ ∀ i m σ H, W i m σ H →
      ((ItZ z lo n).stop i H ∧ D.nx σ H) ∨ ((ItZ z lo n).go i H ∧ ∃ N : St → Hp → Prop, (∀ σ' H', N σ' H' → ∃ m', m' < m ∧ W (i + 1) m' σ' H') ∧ ∀ x H', (ItZ z lo n).yld i H x H' → g x σ H' fun σ2 H2 => tb { D with nx := N, ct := N, bk := D.nx } σ2 H2) := by
  refine ⟨fun i m σ H => m = n - i ∧ i ≤ n ∧ Pv i σ H, ⟨n, by simp, Nat.zero_le _, h0⟩, ?_⟩
  rintro i m σ H ⟨rfl, hi, p⟩
  by_cases hlt : i < n
  · refine .inr ⟨hlt, Pv (i + 1), fun σ' H' p' => ⟨n - (i + 1), by omega, rfl, hlt, p'⟩, fun x H' y => ?_⟩
    obtain ⟨e, y⟩ := y
    subst e y
    exact hs i σ _ hlt p
  · have e : i = n := by omega
    subst e
    exact .inl ⟨Nat.le_refl _, hd σ H p⟩
end L2

namespace L2
open PySem PySem.Spec PyProof.Rows PySem.NumText
end L2

namespace L2
open PySem PySem.Spec PyProof.Rows PySem.NumText
/-- for m in d -/
theorem for_keys {P : Program} {w : World} {a : Addr} {es : List Ent} {o : Obj} {g : TG} {tb : TS} {D : Ends} {σ : L2.St} {H : Hp} (Pv : Nat → L2.St → Hp → Prop) (h0 : Pv 0 σ H) (hl : ∀ i σ H, i ≤ es.length → Pv i σ H → H a = some (dO P w a es o))
    (hs : ∀ i e σ H, es[i]? = some e → Pv i σ H → g (.ref e.2.1) σ H fun σ2 H2 => tb { D with nx := Pv (i + 1), ct := Pv (i + 1), bk := D.nx } σ2 H2) (hd : ∀ σ H, Pv es.length σ H → D.nx σ H) :
    ∃ W : Nat → Nat → L2.St → Hp → Prop, (∃ m, W 0 m σ H) ∧ ∀ i m σ H, W i m σ H →
      ((Itk P w a es o).stop i H ∧ D.nx σ H) ∨ ((Itk P w a es o).go i H ∧ ∃ N : L2.St → Hp → Prop, (∀ σ' H', N σ' H' → ∃ m', m' < m ∧ W (i + 1) m' σ' H') ∧ ∀ x H', (Itk P w a es o).yld i H x H' → g x σ H' fun σ2 H2 => tb { D with nx := N, ct := N, bk := D.nx } σ2 H2) := by
  refine ⟨fun i m σ H => m = es.length - i ∧ i ≤ es.length ∧ Pv i σ H, ⟨es.length, by simp, Nat.zero_le _, h0⟩, ?_⟩
  rintro i m σ H ⟨rfl, hi, p⟩
  have q := hl i σ H hi p
  by_cases hlt : i < es.length
  · refine .inr ⟨⟨q, hlt⟩, Pv (i + 1), fun σ' H' p' => ⟨es.length - (i + 1), by omega, rfl, hlt, p'⟩, fun x H' y => ?_⟩
    obtain ⟨e, en, ex, hei⟩ := y
    subst e ex
    exact hs i en σ _ hei p
  · have e : i = es.length := by omega
    subst e
    exact .inl ⟨⟨q, Nat.le_refl _⟩, hd σ H p⟩
end L2

local macro_rules | `(tactic| walk_at "rd") => `(tactic| repeat (first
  | refine ⟨_, rfl, ?_⟩
  | refine ⟨_, _, rfl, rfl, ?_⟩
  | refine ⟨(by show (0 : Int) < _; decide), ?_⟩
  | refine ⟨⟨by decide, by decide⟩, ?_⟩
  | refine ⟨Or.inr ⟨by decide, by decide⟩, ?_⟩
  | refine ⟨⟨by decide, by decide, by decide⟩, ?_⟩
  | refine ⟨_, _, _, _, rfl, rfl, L2.SqL.of L2.upd_same, rfl, ?_⟩
  | refine ⟨_, _, _, _, rfl, rfl, L2.SqL.of (by assumption), rfl, ?_⟩))
namespace My
open PySem L2 PySem.Spec PyProof.Rows PySem.NumText

noncomputable def top (i : Nat) : Stmt := PySem.Challenge.pw_twotabs_k26_since_and_trails.main.body.getD i (.Pass ⟨0, 0, 0, 0⟩)
noncomputable abbrev s_is_in : Stmt := top 7
noncomputable abbrev s_Sheet____init__ : Stmt := inClass (top 9) 0
noncomputable abbrev s_Sheet__lines : Stmt := inClass (top 9) 2
noncomputable abbrev s_Sheet__version : Stmt := inClass (top 9) 4
noncomputable abbrev s_Book____init__ : Stmt := inClass (top 11) 0
noncomputable abbrev s_Book__newest : Stmt := inClass (top 11) 2
noncomputable abbrev s_Book__add : Stmt := inClass (top 11) 1
noncomputable abbrev s_Book__kept : Stmt := inClass (top 11) 3
noncomputable abbrev s_Book__sheet : Stmt := inClass (top 11) 4
noncomputable abbrev s_Book__lines : Stmt := inClass (top 11) 6
noncomputable abbrev s_Book__first_so : Stmt := inClass (top 11) 8
noncomputable abbrev s_Book__since : Stmt := inClass (top 11) 7
noncomputable abbrev s_Book__trail : Stmt := inClass (top 11) 9
noncomputable abbrev s__law_digits : Stmt := top 13
noncomputable abbrev s__law_signs : Stmt := top 14
noncomputable abbrev s__law_words : Stmt := top 15
noncomputable abbrev s__law_version : Stmt := top 16
noncomputable abbrev s__law_on : Stmt := top 18
noncomputable abbrev s__law_table : Stmt := top 19
noncomputable abbrev s__law_back : Stmt := top 20
noncomputable abbrev s__law_least : Stmt := top 21
noncomputable abbrev s__law_right : Stmt := top 22
noncomputable abbrev s__law_trail : Stmt := top 23
noncomputable abbrev s_law : Stmt := top 24
/-- the addresses -/
structure Adr where
  f_is_in : Addr
  d_is_in : FuncData
  f_Sheet____init__ : Addr
  d_Sheet____init__ : FuncData
  f_Sheet__lines : Addr
  d_Sheet__lines : FuncData
  f_Sheet__version : Addr
  d_Sheet__version : FuncData
  f_Book____init__ : Addr
  d_Book____init__ : FuncData
  f_Book__newest : Addr
  d_Book__newest : FuncData
  f_Book__add : Addr
  d_Book__add : FuncData
  f_Book__kept : Addr
  d_Book__kept : FuncData
  f_Book__sheet : Addr
  d_Book__sheet : FuncData
  f_Book__lines : Addr
  d_Book__lines : FuncData
  f_Book__first_so : Addr
  d_Book__first_so : FuncData
  f_Book__since : Addr
  d_Book__since : FuncData
  f_Book__trail : Addr
  d_Book__trail : FuncData
  f__law_digits : Addr
  d__law_digits : FuncData
  f__law_signs : Addr
  d__law_signs : FuncData
  f__law_words : Addr
  d__law_words : FuncData
  f__law_version : Addr
  d__law_version : FuncData
  f__law_on : Addr
  d__law_on : FuncData
  f__law_table : Addr
  d__law_table : FuncData
  f__law_back : Addr
  d__law_back : FuncData
  f__law_least : Addr
  d__law_least : FuncData
  f__law_right : Addr
  d__law_right : FuncData
  f__law_trail : Addr
  d__law_trail : FuncData
  f_law : Addr
  d_law : FuncData
  Book : Addr
  NoSave : Addr
  NoSheet : Addr
  Sheet : Addr

structure Txt (K : PySem.W.Frag) (mg : Str → Option Value) (A : Adr) : Prop where
  F_is_in : Fun K "is_in" "is_in" s_is_in A.f_is_in A.d_is_in
  g_is_in : mg "is_in" = some (.ref A.f_is_in)
  k_is_in : PySem.W.keepIn K (.ref A.f_is_in) = true
  b_is_in : Binds K A.d_is_in ["version"] []
  F_Sheet____init__ : Fun K "__init__" "Sheet.__init__" s_Sheet____init__ A.f_Sheet____init__ A.d_Sheet____init__
  b_Sheet____init__ : Binds K A.d_Sheet____init__ ["self", "pairs"] []
  mk_Sheet : Mk K A.Sheet A.f_Sheet____init__
  F_Sheet__lines : Fun K "lines" "Sheet.lines" s_Sheet__lines A.f_Sheet__lines A.d_Sheet__lines
  b_Sheet__lines : Binds K A.d_Sheet__lines ["self"] []
  m_Sheet__lines : Meth K A.Sheet "lines" A.f_Sheet__lines
  F_Sheet__version : Fun K "version" "Sheet.version" s_Sheet__version A.f_Sheet__version A.d_Sheet__version
  b_Sheet__version : Binds K A.d_Sheet__version ["self", "mark"] []
  m_Sheet__version : Meth K A.Sheet "version" A.f_Sheet__version
  F_Book____init__ : Fun K "__init__" "Book.__init__" s_Book____init__ A.f_Book____init__ A.d_Book____init__
  b_Book____init__ : Binds K A.d_Book____init__ ["self"] []
  mk_Book : Mk K A.Book A.f_Book____init__
  F_Book__newest : Fun K "newest" "Book.newest" s_Book__newest A.f_Book__newest A.d_Book__newest
  b_Book__newest : Binds K A.d_Book__newest ["self"] []
  m_Book__newest : Meth K A.Book "newest" A.f_Book__newest
  F_Book__add : Fun K "add" "Book.add" s_Book__add A.f_Book__add A.d_Book__add
  b_Book__add : Binds K A.d_Book__add ["self", "sheet", "window", "beat", "count"] []
  m_Book__add : Meth K A.Book "add" A.f_Book__add
  F_Book__kept : Fun K "kept" "Book.kept" s_Book__kept A.f_Book__kept A.d_Book__kept
  b_Book__kept : Binds K A.d_Book__kept ["self", "save"] []
  m_Book__kept : Meth K A.Book "kept" A.f_Book__kept
  F_Book__sheet : Fun K "sheet" "Book.sheet" s_Book__sheet A.f_Book__sheet A.d_Book__sheet
  b_Book__sheet : Binds K A.d_Book__sheet ["self", "save"] []
  m_Book__sheet : Meth K A.Book "sheet" A.f_Book__sheet
  F_Book__lines : Fun K "lines" "Book.lines" s_Book__lines A.f_Book__lines A.d_Book__lines
  b_Book__lines : Binds K A.d_Book__lines ["self", "save"] []
  m_Book__lines : Meth K A.Book "lines" A.f_Book__lines
  F_Book__first_so : Fun K "first_so" "Book.first_so" s_Book__first_so A.f_Book__first_so A.d_Book__first_so
  b_Book__first_so : Binds K A.d_Book__first_so ["self", "mark", "save"] []
  m_Book__first_so : Meth K A.Book "first_so" A.f_Book__first_so
  F_Book__since : Fun K "since" "Book.since" s_Book__since A.f_Book__since A.d_Book__since
  b_Book__since : Binds K A.d_Book__since ["self", "save"] []
  m_Book__since : Meth K A.Book "since" A.f_Book__since
  F_Book__trail : Fun K "trail" "Book.trail" s_Book__trail A.f_Book__trail A.d_Book__trail
  b_Book__trail : Binds K A.d_Book__trail ["self", "mark"] []
  m_Book__trail : Meth K A.Book "trail" A.f_Book__trail
  F__law_digits : Fun K "_law_digits" "_law_digits" s__law_digits A.f__law_digits A.d__law_digits
  g__law_digits : mg "_law_digits" = some (.ref A.f__law_digits)
  k__law_digits : PySem.W.keepIn K (.ref A.f__law_digits) = true
  b__law_digits : Binds K A.d__law_digits ["_law_cell", "_law_place"] []
  F__law_signs : Fun K "_law_signs" "_law_signs" s__law_signs A.f__law_signs A.d__law_signs
  g__law_signs : mg "_law_signs" = some (.ref A.f__law_signs)
  k__law_signs : PySem.W.keepIn K (.ref A.f__law_signs) = true
  b__law_signs : Binds K A.d__law_signs [] []
  F__law_words : Fun K "_law_words" "_law_words" s__law_words A.f__law_words A.d__law_words
  g__law_words : mg "_law_words" = some (.ref A.f__law_words)
  k__law_words : PySem.W.keepIn K (.ref A.f__law_words) = true
  b__law_words : Binds K A.d__law_words ["_law_one", "_law_other"] []
  F__law_version : Fun K "_law_version" "_law_version" s__law_version A.f__law_version A.d__law_version
  g__law_version : mg "_law_version" = some (.ref A.f__law_version)
  k__law_version : PySem.W.keepIn K (.ref A.f__law_version) = true
  b__law_version : Binds K A.d__law_version ["_law_some"] []
  F__law_on : Fun K "_law_on" "_law_on" s__law_on A.f__law_on A.d__law_on
  g__law_on : mg "_law_on" = some (.ref A.f__law_on)
  k__law_on : PySem.W.keepIn K (.ref A.f__law_on) = true
  b__law_on : Binds K A.d__law_on ["_law_pairs_here", "_law_cells", "_law_by"] []
  F__law_table : Fun K "_law_table" "_law_table" s__law_table A.f__law_table A.d__law_table
  g__law_table : mg "_law_table" = some (.ref A.f__law_table)
  k__law_table : PySem.W.keepIn K (.ref A.f__law_table) = true
  b__law_table : Binds K A.d__law_table ["_law_pairs_here"] []
  F__law_back : Fun K "_law_back" "_law_back" s__law_back A.f__law_back A.d__law_back
  g__law_back : mg "_law_back" = some (.ref A.f__law_back)
  k__law_back : PySem.W.keepIn K (.ref A.f__law_back) = true
  b__law_back : Binds K A.d__law_back ["_law_pairs_here", "_law_rows", "_law_some"] []
  F__law_least : Fun K "_law_least" "_law_least" s__law_least A.f__law_least A.d__law_least
  g__law_least : mg "_law_least" = some (.ref A.f__law_least)
  k__law_least : PySem.W.keepIn K (.ref A.f__law_least) = true
  b__law_least : Binds K A.d__law_least ["_law_tables", "_law_save", "_law_mark"] []
  F__law_right : Fun K "_law_right" "_law_right" s__law_right A.f__law_right A.d__law_right
  g__law_right : mg "_law_right" = some (.ref A.f__law_right)
  k__law_right : PySem.W.keepIn K (.ref A.f__law_right) = true
  b__law_right : Binds K A.d__law_right ["_law_book", "_law_tables", "_law_save"] []
  F__law_trail : Fun K "_law_trail" "_law_trail" s__law_trail A.f__law_trail A.d__law_trail
  g__law_trail : mg "_law_trail" = some (.ref A.f__law_trail)
  k__law_trail : PySem.W.keepIn K (.ref A.f__law_trail) = true
  b__law_trail : Binds K A.d__law_trail ["_law_tables", "_law_mark"] []
  F_law : Fun K "law" "law" s_law A.f_law A.d_law
  g_law : mg "law" = some (.ref A.f_law)
  k_law : PySem.W.keepIn K (.ref A.f_law) = true
  b_law : Binds K A.d_law ["_law_script"] []
  g_Book : mg "Book" = some (.ref A.Book)
  cl_Book : Cls K A.Book
  na_Book_saves : NoAttr K A.Book "saves"
  g_NoSave : mg "NoSave" = some (.ref A.NoSave)
  x_NoSave : XCls K A.NoSave
  g_NoSheet : mg "NoSheet" = some (.ref A.NoSheet)
  x_NoSheet : XCls K A.NoSheet
  g_Sheet : mg "Sheet" = some (.ref A.Sheet)
  cl_Sheet : Cls K A.Sheet
  na_Sheet_versions : NoAttr K A.Sheet "versions"
  n_dict : mg "dict" = none
  n_enumerate : mg "enumerate" = none
  n_len : mg "len" = none
  n_min : mg "min" = none
  n_range : mg "range" = none
  n_sorted : mg "sorted" = none
  n_tuple : mg "tuple" = none
noncomputable def sp_law (K : PySem.W.Frag) : Sp := fun vs H Q _ => ∃ (a : Addr) (ns : List Int), vs = [.ref a] ∧ SqL K H a (ns.map V.int) ∧ ns.length ≤ 63 ∧ (∀ H', Q (.bl true) H') ∧ Plain H

noncomputable def sp_digits : Sp := newSp (fun (a : Int × Int) vs => vs = [.int a.1, .int a.2]) (fun _ o => ∃ d0 d1 d2 d3 d4 d5 d6 d7 : Int, o = .lst [.int d0, .int d1, .int d2, .int d3, .int d4, .int d5, .int d6, .int d7] ∧ Dig d0 ∧ Dig d1 ∧ Dig d2 ∧ Dig d3 ∧ Dig d4 ∧ Dig d5 ∧ Dig d6 ∧ Dig d7)
theorem new_digits {P : Program} {w : World} {K : PySem.W.Frag} {mg : Str → Option Value} {base : Heap} {CX : CXT} {k : Nat} {f : Addr} {fd : FuncData} {ps : List Str}
    (F : FnOk P w K mg base CX k f fd ps (newRaw (fun (a : Int × Int) vs => vs = [.int a.1, .int a.2]) (fun _ o => ∃ d0 d1 d2 d3 d4 d5 d6 d7 : Int, o = .lst [.int d0, .int d1, .int d2, .int d3, .int d4, .int d5, .int d6, .int d7] ∧ Dig d0 ∧ Dig d1 ∧ Dig d2 ∧ Dig d3 ∧ Dig d4 ∧ Dig d5 ∧ Dig d6 ∧ Dig d7))) :
    FnOk P w K mg base CX k f fd ps sp_digits := F.new fun a o ⟨d0, d1, d2, d3, d4, d5, d6, d7, e, _⟩ => .inl ⟨_, e⟩
theorem eight {ds : List Int} (h : ds.length = 8) (hd : ∀ d ∈ ds, Dig d) : ∃ d0 d1 d2 d3 d4 d5 d6 d7 : Int, HO.lst (ds.map V.int) = .lst [.int d0, .int d1, .int d2, .int d3, .int d4, .int d5, .int d6, .int d7] ∧ Dig d0 ∧ Dig d1 ∧ Dig d2 ∧ Dig d3 ∧ Dig d4 ∧ Dig d5 ∧ Dig d6 ∧ Dig d7 := by
  match ds, h with
  | [a, b, c, d, e, f, g, i], _ => exact ⟨a, b, c, d, e, f, g, i, rfl, hd a (by simp), hd b (by simp), hd c (by simp), hd d (by simp), hd e (by simp), hd f (by simp), hd g (by simp), hd i (by simp)⟩

noncomputable abbrev SMALL : Str := "abcdefghijklmnopqrstuvwxyz"
noncomputable def SIGNS : Str := ((((" !\"#$&'()*+,-./0123456789:;<=>?@" : Str) ++ Txt.upper SMALL) ++ ("[\\]^_`" : Str)) ++ SMALL) ++ ("{|}~" : Str)
theorem signs_len : SIGNS.length = 94 := by decide +kernel
noncomputable def sp_signs : Sp := pureSp (fun (_ : Unit) vs => vs = []) (fun _ v => v = .str SIGNS)
noncomputable def sp_words : Sp := pureSp (fun (a : Int × Int) vs => vs = [.int a.1, .int a.2]) (fun _ v => ∃ z : Str, v = .str z ∧ z.length ≤ 6 ∧ PyData.strOk z = true)
theorem all_join {P : Nat → Bool} {g : Str} (hg : g.cps.all P = true) : ∀ {ps : List Str}, (∀ p ∈ ps, p.cps.all P = true) → (Txt.join g ps).cps.all P = true := by
  intro ps h
  show ((ps.drop 1).foldl (fun acc p => acc ++ g.cps ++ p.cps) (ps.headD Str.empty).cps).all P = true
  have go : ∀ (qs : List Str) (a : Array Nat), a.all P = true → (∀ p ∈ qs, p.cps.all P = true) → (qs.foldl (fun acc p => acc ++ g.cps ++ p.cps) a).all P = true := by
    intro qs
    induction qs with
    | nil => intro a ha _; exact ha
    | cons q qs ih =>
      intro a ha hq
      refine ih _ ?_ fun p hp => hq p (List.mem_cons_of_mem _ hp)
      rw [Array.all_append, Array.all_append, ha, hg, hq q List.mem_cons_self]
      rfl
  refine go _ _ ?_ fun p hp => h p (List.mem_of_mem_drop hp)
  cases ps with
  | nil => show (#[] : Array Nat).all P = true; simp
  | cons p ps => exact h p List.mem_cons_self
theorem signs_ok (i : Nat) : SIGNS.cps.toList.getD i 0 < 0x110000 := by
  have h : SIGNS.cps.toList.all (fun c => decide (c < 0x110000)) = true := by decide +kernel
  rw [List.getD_eq_getElem?_getD]
  cases e : SIGNS.cps.toList[i]? with
  | none => decide
  | some c => exact of_decide_eq_true (List.all_eq_true.mp h c (List.mem_of_getElem? e))
noncomputable def digL (l : Addr) (H : Hp) : Prop := ∃ d0 d1 d2 d3 d4 d5 d6 d7 : Int, H l = some (.lst [.int d0, .int d1, .int d2, .int d3, .int d4, .int d5, .int d6, .int d7]) ∧ Dig d0 ∧ Dig d1 ∧ Dig d2 ∧ Dig d3 ∧ Dig d4 ∧ Dig d5 ∧ Dig d6 ∧ Dig d7
noncomputable def sp_ver (K : PySem.W.Frag) : Sp := genSp (fun (a : Addr) vs H => vs = [.ref a] ∧ digL a H) (fun _ r H => ∃ v : Ver, DV K H (ver v) r ∧ okV v ∧ v.2.2.length ≤ 6) (fun _ _ => False)
theorem iteDF {p : Prop} [Decidable p] {A B : Prop} (h : ¬ p) (b : B) : if decide p = true then A else B := by rw [decide_eq_false h]; exact iteF b
theorem iteDT {p : Prop} [Decidable p] {A B : Prop} (h : p) (a : A) : if decide p = true then A else B := by rw [decide_eq_true h]; exact iteT a
theorem iteNT {p : Prop} [Decidable p] {A B : Prop} (h : ¬ p) (a : A) : if (!decide p) = true then A else B := by rw [decide_eq_false h]; exact iteT a
theorem empty_dv {K : PySem.W.Frag} {H : Hp} {t : Addr} (h : H t = some (.tup [])) : DV K H (plc []) (.ref t) := ⟨t, [], rfl, SqT.of h, rfl⟩
noncomputable def sp_in (K : PySem.W.Frag) : Sp := genSp (fun (v : Ver) vs H => ∃ x, vs = [x] ∧ DV K H (ver v) x) (fun v r _ => r = .bl (!decide (v.2.1 = []))) (fun _ _ => False)

theorem Plain.ins {H : Hp} {l C dx : Addr} {fs : List (Str × V)} (p : Plain H) : Plain (upd H l (.ins C dx fs)) := p.upd trivial
theorem Plain.ext {H : Hp} {l : Addr} {φ : Heap → Prop} (p : Plain H) : Plain (upd H l (.ext φ)) := p.upd trivial
theorem sqT_ins {K : PySem.W.Frag} {H : Hp} {p C dx : Addr} {fs fs' : List (Str × V)} {a : Addr} {xs : List V} (hp : H p = some (.ins C dx fs)) (h : SqT K H a xs) : SqT K (upd H p (.ins C dx fs')) a xs := by
  rcases h with (h | ⟨o, h⟩) | h
  · exact .inl (.inl (by rw [upd_ne (ne_of h hp (by intro z; cases z))]; exact h))
  · exact .inl (.inr ⟨o, by rw [upd_ne (ne_of h hp (by intro z; cases z))]; exact h⟩)
  · exact .inr h
mutual
theorem dv_ins {K : PySem.W.Frag} {H : Hp} {p C dx : Addr} {fs fs' : List (Str × V)} (hp : H p = some (.ins C dx fs)) : ∀ (d : PyData) (v : V), noL d = true → DV K H d v → DV K (upd H p (.ins C dx fs')) d v
  | .none, v, _, h => h
  | .bool b, v, _, h => h
  | .int i, v, _, h => h
  | .str x, v, _, h => h
  | .list xs, v, n, _ => by cases n
  | .tuple xs, v, n, ⟨a, vs, h1, h2, h3⟩ => ⟨a, vs, h1, sqT_ins hp h2, dvs_ins hp xs vs n h3⟩
  | .dict _, v, _, h => h.elim
theorem dvs_ins {K : PySem.W.Frag} {H : Hp} {p C dx : Addr} {fs fs' : List (Str × V)} (hp : H p = some (.ins C dx fs)) : ∀ (ds : List PyData) (vs : List V), noLs ds = true → DVs K H ds vs → DVs K (upd H p (.ins C dx fs')) ds vs
  | [], vs, _, h => h
  | d :: ds, vs, n, ⟨v, r, h1, h2, h3⟩ => by
    have n : noL d = true ∧ noLs ds = true := by rw [noLs, Bool.and_eq_true] at n; exact n
    exact ⟨v, r, h1, dv_ins hp d v n.1 h2, dvs_ins hp ds r n.2 h3⟩
end
theorem prD_of {K : PySem.W.Frag} {H : Hp} {m : Mark × Ver} {y : V} (h : DV K H (prD m) y) : ∃ t q x, y = .ref t ∧ SqT K H t [.ref q, x] ∧ SqT K H q (mkV m.1) ∧ DV K H (ver m.2) x := by
  obtain ⟨t, vs, rfl, ht, x1, r1, rfl, e1, x2, r2, rfl, e2, e3⟩ := h
  cases (show r2 = [] from e3)
  obtain ⟨q, rfl, hq⟩ := mark_of e1
  exact ⟨t, q, x2, rfl, ht, hq, e2⟩
theorem ens_find {K : PySem.W.Frag} {H : Hp} {es : List Ent} {ms : Sh} (he : EnS K H es ms) (nd : (ms.map (·.1)).Nodup) {m : Mark × Ver} (h : m ∈ ms) : ∃ x, findM es m.1 = some x ∧ DV K H (ver m.2) x := by
  have h1 := look_find he m.1
  rw [look_in nd h] at h1
  cases e : findM es m.1 with
  | none =>
    rw [e] at h1
    obtain ⟨t, pv, z, _⟩ := ver_of (show DV K H (ver m.2) V.non from h1)
    cases z
  | some x =>
    rw [e] at h1
    exact ⟨x, rfl, h1⟩
theorem uniq {α : Type} {r : α → α → Prop} (as : ∀ a b, r a b → r b a → False) : ∀ {l1 l2 : List α}, l1.Perm l2 → l1.Pairwise r → l2.Pairwise r → l1 = l2
  | [], l2, p, _, _ => (List.nil_perm.mp p).symm
  | a :: l1, [], p, _, _ => absurd p.symm.nil_eq (by simp)
  | a :: l1, b :: l2, p, h1, h2 => by
    have h1' := List.pairwise_cons.mp h1
    have h2' := List.pairwise_cons.mp h2
    by_cases e : a = b
    · subst e
      rw [uniq as ((List.perm_cons a).mp p) h1'.2 h2'.2]
    · have m1 : a ∈ l2 := by
        rcases List.mem_cons.mp (p.mem_iff.mp List.mem_cons_self) with z | z
        · exact absurd z e
        · exact z
      have m2 : b ∈ l1 := by
        rcases List.mem_cons.mp (p.mem_iff.mpr List.mem_cons_self) with z | z
        · exact absurd z.symm e
        · exact z
      exact absurd (h2'.1 a m1) (fun z => as _ _ (h1'.1 b m2) z)
theorem look_none {ms : Sh} {m : Mark} (h : m ∉ ms.map (·.1)) : look ms m = none := by
  induction ms with
  | nil => rfl
  | cons a ms ih =>
    unfold look
    rw [if_neg (fun z => h (by rw [← z]; exact List.mem_cons_self))]
    exact ih fun z => h (List.mem_cons_of_mem _ z)
theorem look_perm {ns ms : Sh} (p : ns.Perm ms) (nd : (ms.map (·.1)).Nodup) (m : Mark) : look ns m = look ms m := by
  have ndn : (ns.map (·.1)).Nodup := (p.map (·.1)).nodup_iff.mpr nd
  by_cases h : m ∈ ms.map (·.1)
  · obtain ⟨x, hx, rfl⟩ := List.mem_map.mp h
    rw [look_in nd hx, look_in ndn (p.mem_iff.mpr hx)]
  · rw [look_none h, look_none fun z => h ((p.map (·.1)).mem_iff.mp z)]
theorem join2 {α β : Type} {ok G : α → β → Prop} {C : Prop} (h1 : (∀ y z, ok y z → G y z) → C) (h2 : ∀ y z, ok y z → G y z) : C := h1 h2
noncomputable def sp_shi (P : Program) (w : World) (K : PySem.W.Frag) (C NS : Addr) : Sp := fun vs H Q E => Plain H ∧ ∃ (p dx l : Addr) (ws : List V) (ms : Sh), vs = [.ref p, .ref l] ∧ H p = some (.ins C dx []) ∧ SqL K H l ws ∧ DVs K H (ms.map prD) ws ∧ (∀ m ∈ ms, okV m.2) ∧ ms.length < 64 ∧
  ((ms.map (·.1)).Nodup → ∀ H', (∀ b o, b ≠ p → H b = some o → H' b = some o) → ShAt P w K C H' p ms → Plain H' → Q .non H') ∧ (¬ (ms.map (·.1)).Nodup → ∀ H', (∀ b o, b ≠ p → H b = some o → H' b = some o) → Plain H' → E (.ref NS) none H')
noncomputable def sp_shv (P : Program) (w : World) (K : PySem.W.Frag) (C : Addr) : Sp := fun vs H Q _ => Plain H ∧ ∃ (p q : Addr) (m : Mark) (ms : Sh), vs = [.ref p, .ref q] ∧ ShAt P w K C H p ms ∧ SqT K H q (mkV m) ∧ ∀ x, DV K H (vdat (look ms m)) x → Q x H
noncomputable def sp_shl (P : Program) (w : World) (K : PySem.W.Frag) (C : Addr) : Sp := fun vs H Q _ => Plain H ∧ ∃ (p : Addr) (ms : Sh), vs = [.ref p] ∧ ShAt P w K C H p ms ∧ ∀ (H' : Hp) (l : Addr) (bs : List Mark) (ws : List V), H l = none → Same H H' → Plain H' → H' l = some (.lst ws) → bs.Perm (insOf ms) → bs.Pairwise (fun a b => lnLt ms a b = true) → DVs K H' (bs.map (lnD ms)) ws → Q (.ref l) H'
noncomputable def inBox (ks : List Mark) : Prop := ∀ k ∈ ks, k ∈ boxM 4 10
noncomputable def okSh (a : Sh) : Prop := (∀ m ∈ a, okV m.2) ∧ (mks a).Nodup
noncomputable def srtd (a : Sh) : Prop := a.Pairwise fun x y => mLt x.1 y.1 = true
theorem ens_upd {P : Program} {w : World} {K : PySem.W.Frag} {H : Hp} {d : Addr} {es0 es : List Ent} {o : Obj} {ns : Sh} {x : HO} (hd : H d = some (dO P w d es0 o)) (he : EnS K H es ns) : EnS K (upd H d x) es ns := he.imp (fun _ _ q => sqT_other hd (noT_ext _) q) fun v _ q => dv_other hd (noT_ext _) _ _ (noL_ver v) q
theorem ens_same {K : PySem.W.Frag} {H H' : Hp} {es : List Ent} {ns : Sh} (s : Same H H') (he : EnS K H es ns) : EnS K H' es ns := he.imp (fun _ _ q => s.seqT q) fun _ _ q => DV.same s _ _ q
theorem putS_iff {ns : Sh} {m : Mark} {v : Ver} {k : Mark} : k ∈ mks (putS ns m v) ↔ k = m ∨ k ∈ mks ns := by
  rw [putS_marks]
  by_cases h : m ∈ mks ns
  · rw [if_pos h]
    exact ⟨.inr, fun z => z.elim (fun e => by rw [e]; exact h) id⟩
  · rw [if_neg h, List.mem_append, List.mem_singleton, Or.comm]
theorem mks_snoc (a : Sh) (x : Mark × Ver) (k : Mark) : k ∈ mks (a ++ [x]) ↔ k ∈ mks a ∨ k = x.1 := by
  unfold mks
  rw [List.map_append, List.mem_append, List.map_singleton, List.mem_singleton]
theorem pr_at {α β : Type} {R : α → β → Prop} {xs : List α} {ys : List β} (h : Paired R xs ys) : ∀ {i : Nat} {y : β}, ys[i]? = some y → ∃ x, xs[i]? = some x ∧ R x y := by
  induction h with
  | nil => intro i y e; cases e
  | cons a _ ih =>
    intro i y e
    cases i with
    | zero => cases e; exact ⟨_, rfl, a⟩
    | succ i => exact ih e
noncomputable def sp_tbl (P : Program) (w : World) (K : PySem.W.Frag) : Sp := fun vs H Q _ => Plain H ∧ ∃ (p : Addr) (ws : List V) (ms : Sh), vs = [.ref p] ∧ SqL K H p ws ∧ DVs K H (ms.map prD) ws ∧ okSh ms ∧ ms.length < 64 ∧
  ∀ (d : Addr) (es : List Ent) (o : Obj) (ns : Sh) (H' : Hp), H d = none → Same H H' → Plain H' → H' d = some (dO P w d es o) → EnS K H' es ns → okSh ns → ns.length ≤ ms.length → (∀ k, look ns k = look ms k) → Q (.ref d) H'
noncomputable abbrev Sv := Sh × Int × Int × Int
noncomputable def hdV (a : Sv) : List V := [.int a.2.1, .int a.2.2.1, .int a.2.2.2]
noncomputable def SvR (P : Program) (w : World) (K : PySem.W.Frag) (C : Addr) (H : Hp) (z : V) (a : Sv) : Prop := ∃ (t x u : Addr), z = .ref t ∧ SqT K H t [.ref x, .ref u] ∧ SqT K H u (hdV a) ∧ ShAt P w K C H x a.1
structure BkAt (P : Program) (w : World) (K : PySem.W.Frag) (CB CS : Addr) (H : Hp) (b sl : Addr) (zs : List V) (as : List Sv) : Prop where
  ob : ∃ dx, H b = some (.ins CB dx [("saves", .ref sl)])
  ls : H sl = some (.lst zs)
  pr : Paired (SvR P w K CS H) zs as
theorem SvR.same {P : Program} {w : World} {K : PySem.W.Frag} {C : Addr} {H H' : Hp} {z : V} {a : Sv} (h : SvR P w K C H z a) (s : Same H H') : SvR P w K C H' z a := by
  obtain ⟨t, x, u, e, ht, hu, hx⟩ := h
  exact ⟨t, x, u, e, s.seqT ht, s.seqT hu, hx.same s⟩
theorem SvR.updL {P : Program} {w : World} {K : PySem.W.Frag} {C D : Addr} {H : Hp} {z : V} {a : Sv} {xs ys : List V} (h : SvR P w K C H z a) (hd : H D = some (.lst xs)) : SvR P w K C (upd H D (.lst ys)) z a := by
  obtain ⟨t, x, u, e, ht, hu, hx⟩ := h
  exact ⟨t, x, u, e, sqT_other hd (noT_lst _) ht, sqT_other hd (noT_lst _) hu, hx.mono (D := D) (fun c o n e => by rw [upd_ne n]; exact e) ⟨_, hd⟩⟩
theorem getD_in {as : List Sv} {i : Nat} (h : i < as.length) : as.getD i ([], 0, 0, 0) = as[i] := by
  rw [List.getD_eq_getElem?_getD, List.getElem?_eq_getElem h]
  rfl
theorem BkAt.same {P : Program} {w : World} {K : PySem.W.Frag} {CB CS : Addr} {H H' : Hp} {b sl : Addr} {zs : List V} {as : List Sv} (h : BkAt P w K CB CS H b sl zs as) (s : Same H H') : BkAt P w K CB CS H' b sl zs as := by
  obtain ⟨⟨dx, hb⟩, hl, hp⟩ := h
  exact ⟨⟨dx, s _ _ hb⟩, s _ _ hl, Paired.mapP hp fun z a q => q.same s⟩
theorem BkAt.put {P : Program} {w : World} {K : PySem.W.Frag} {CB CS : Addr} {H : Hp} {b sl : Addr} {zs : List V} {as : List Sv} {t : V} {a : Sv} (h : BkAt P w K CB CS H b sl zs as) (hn : SvR P w K CS H t a) : BkAt P w K CB CS (upd H sl (.lst (zs ++ [t]))) b sl (zs ++ [t]) (as ++ [a]) := by
  obtain ⟨⟨dx, hb⟩, hl, hp⟩ := h
  exact ⟨⟨dx, by rw [upd_ne (ne_of hb hl (by intro z; cases z))]; exact hb⟩, upd_same, Paired.snoc (Paired.mapP hp fun z a q => q.updL hl) (hn.updL hl)⟩
noncomputable def sp_bki (P : Program) (w : World) (K : PySem.W.Frag) (A : Adr) : Sp := fun vs H Q _ => Plain H ∧ ∃ (b dx : Addr), vs = [.ref b] ∧ H b = some (.ins A.Book dx []) ∧ ∀ H' sl zs, (∀ c o, c ≠ b → H c = some o → H' c = some o) → H sl = none → BkAt P w K A.Book A.Sheet H' b sl zs [([], 0, 0, 0)] → Plain H' → Q .non H'
noncomputable def sp_bka (P : Program) (w : World) (K : PySem.W.Frag) (A : Adr) : Sp := fun vs H Q _ => Plain H ∧ ∃ (b sl x : Addr) (wi be co : Int) (zs : List V) (as : List Sv) (a : Sh), vs = [.ref b, .ref x, .int wi, .int be, .int co] ∧ BkAt P w K A.Book A.Sheet H b sl zs as ∧ ShAt P w K A.Sheet H x a ∧ as.length < 100 ∧ ∀ H' t, (∀ c o, c ≠ sl → H c = some o → H' c = some o) → BkAt P w K A.Book A.Sheet H' b sl (zs ++ [t]) (as ++ [(a, wi, be, co)]) → Plain H' → Q (.int as.length) H'
noncomputable def sp_bkn (P : Program) (w : World) (K : PySem.W.Frag) (A : Adr) : Sp := fun vs H Q _ => Plain H ∧ ∃ (b sl : Addr) (zs : List V) (as : List Sv), vs = [.ref b] ∧ BkAt P w K A.Book A.Sheet H b sl zs as ∧ Q (.int ((as.length : Int) - 1)) H
theorem SvR.keep {P : Program} {w : World} {K : PySem.W.Frag} {C D : Addr} {H H' : Hp} {z : V} {a : Sv} (h : SvR P w K C H z a) (k : ∀ c o, c ≠ D → H c = some o → H' c = some o) (hd : ∃ xs, H D = some (.lst xs)) : SvR P w K C H' z a := by
  obtain ⟨t, x, u, e, ht, hu, hx⟩ := h
  exact ⟨t, x, u, e, seqT_mono k hd ht, seqT_mono k hd hu, hx.mono (D := D) k hd⟩
theorem BkAt.keep {P : Program} {w : World} {K : PySem.W.Frag} {CB CS D : Addr} {H H' : Hp} {b sl : Addr} {zs : List V} {as : List Sv} (h : BkAt P w K CB CS H b sl zs as) (k : ∀ c o, c ≠ D → H c = some o → H' c = some o) (hd : ∃ xs, H D = some (.lst xs)) (n : sl ≠ D) : BkAt P w K CB CS H' b sl zs as := by
  obtain ⟨⟨dx, hb⟩, hl, hp⟩ := h
  obtain ⟨xs, hx⟩ := id hd
  exact ⟨⟨dx, k _ _ (ne_of hb hx (by intro z; cases z)) hb⟩, k _ _ n hl, Paired.mapP hp fun z a q => q.keep k hd⟩
noncomputable abbrev noSv (n : Int) (as : List Sv) : Prop := n < 0 ∨ (as.length : Int) ≤ n
noncomputable def sp_xkk (P : Program) (w : World) (K : PySem.W.Frag) (A : Adr) : Sp := fun vs H Q E => Plain H ∧ ∃ (b sl : Addr) (zs : List V) (as : List Sv) (n : Int), vs = [.ref b, .int n] ∧ BkAt P w K A.Book A.Sheet H b sl zs as ∧ ((∃ (i : Nat) (z : V), n = i ∧ zs[i]? = some z ∧ Q z H) ∨ (noSv n as ∧ E (.ref A.NoSave) none H))
noncomputable def sp_xks (P : Program) (w : World) (K : PySem.W.Frag) (A : Adr) : Sp := fun vs H Q E => Plain H ∧ ∃ (b sl : Addr) (zs : List V) (as : List Sv) (n : Int), vs = [.ref b, .int n] ∧ BkAt P w K A.Book A.Sheet H b sl zs as ∧ ((∃ (i : Nat) (a : Sv), n = i ∧ as[i]? = some a ∧ ∀ x, ShAt P w K A.Sheet H x a.1 → Q (.ref x) H) ∨ (noSv n as ∧ E (.ref A.NoSave) none H))
noncomputable def sp_xkl (P : Program) (w : World) (K : PySem.W.Frag) (A : Adr) : Sp := fun vs H Q E => Plain H ∧ ∃ (b sl : Addr) (zs : List V) (as : List Sv) (n : Int), vs = [.ref b, .int n] ∧ BkAt P w K A.Book A.Sheet H b sl zs as ∧ ((∃ (i : Nat) (ms : Sv), n = i ∧ as[i]? = some ms ∧ ∀ (H' : Hp) (l : Addr) (bs : List Mark) (ws : List V), H l = none → Same H H' → Plain H' → H' l = some (.lst ws) → bs.Perm (insOf ms.1) → bs.Pairwise (fun a b => lnLt ms.1 a b = true) → DVs K H' (bs.map (lnD ms.1)) ws → Q (.ref l) H') ∨ (noSv n as ∧ E (.ref A.NoSave) none H))
noncomputable def lkA (as : List Sv) (i : Nat) (m : Mark) : Option Ver := look (as.getD i ([], 0, 0, 0)).1 m
/-- the least save from which on to this one the piece has the same version -/
noncomputable def sinceN (as : List Sv) (m : Mark) : Nat → Nat
  | 0 => 0
  | i + 1 => if lkA as i m = lkA as (i + 1) m then sinceN as m i else i + 1
noncomputable def sp_fso (P : Program) (w : World) (K : PySem.W.Frag) (A : Adr) : Sp := fun vs H Q E => Plain H ∧ ∃ (b sl q : Addr) (zs : List V) (as : List Sv) (m : Mark) (i : Nat), vs = [.ref b, .ref q, .int i] ∧ BkAt P w K A.Book A.Sheet H b sl zs as ∧ SqT K H q (mkV m) ∧ i < as.length ∧ lkA as 0 m = none ∧ lkA as i m ≠ none ∧ (∀ a ∈ as, ∀ x ∈ a.1, okV x.2) ∧ Q (.int (sinceN as m i)) H
noncomputable def snD (as : List Sv) (i : Nat) (m : Mark) : PyData := .tuple [markD m, .int (sinceN as m i)]
noncomputable def sp_snc (P : Program) (w : World) (K : PySem.W.Frag) (A : Adr) : Sp := fun vs H Q E => Plain H ∧ ∃ (b sl : Addr) (zs : List V) (as : List Sv) (n : Int), vs = [.ref b, .int n] ∧ BkAt P w K A.Book A.Sheet H b sl zs as ∧ ((∃ (i : Nat) (ms : Sv), n = i ∧ as[i]? = some ms ∧ as[0]? = some ([], 0, 0, 0) ∧ ∀ (H' : Hp) (l : Addr) (bs : List Mark) (ws : List V), H l = none → Same H H' → Plain H' → H' l = some (.lst ws) → bs.Perm (insOf ms.1) → bs.Pairwise (fun a b => lnLt ms.1 a b = true) → DVs K H' (bs.map (snD as i)) ws → Q (.ref l) H') ∨ (noSv n as ∧ E (.ref A.NoSave) none H))
noncomputable def Row (K : PySem.W.Frag) (N : List Addr) (H : Hp) (l : Addr) (m : Sh) : Prop := ∃ ws, l ∉ N ∧ H l = some (.lst ws) ∧ DVs K H (m.map prD) ws ∧ okSh m ∧ srtd m ∧ inBox (mks m)
theorem Row.keep {K : PySem.W.Frag} {N : List Addr} {D l : Addr} {H H' : Hp} {m : Sh} (h : Row K N H l m) (k : ∀ c o, c ≠ D → H c = some o → H' c = some o) (hd : ∃ xs, H D = some (.lst xs)) (n : D ∈ N) : Row K N H' l m := by
  obtain ⟨ws, h3, h4, h5, h6⟩ := h
  exact ⟨ws, h3, k _ _ (fun z => h3 (by rw [z]; exact n)) h4, DVs.mono (D := D) k hd _ _ (noLs_pr _) h5, h6⟩
theorem Row.same {K : PySem.W.Frag} {N : List Addr} {l : Addr} {H H' : Hp} {m : Sh} (h : Row K N H l m) (s : Same H H') : Row K N H' l m := by
  obtain ⟨ws, h3, h4, h5, h6⟩ := h
  exact ⟨ws, h3, s _ _ h4, DVs.same s _ _ h5, h6⟩
theorem upd_keep {H : Hp} {D : Addr} {o : HO} : ∀ c o', c ≠ D → H c = some o' → (upd H D o) c = some o' := fun c o' n e => by rw [upd_ne n]; exact e


noncomputable def RowL (K : PySem.W.Frag) (N : List Addr) (H : Hp) (r : V) (m : Sv) : Prop := ∃ l, r = .ref l ∧ Row K N H l m.1
theorem RowL.same {K : PySem.W.Frag} {N : List Addr} {H H' : Hp} {r : V} {m : Sv} (h : RowL K N H r m) (s : Same H H') : RowL K N H' r m := by
  obtain ⟨l, e, h⟩ := h
  exact ⟨l, e, h.same s⟩
theorem RowL.keep {K : PySem.W.Frag} {N : List Addr} {D : Addr} {H H' : Hp} {r : V} {m : Sv} (h : RowL K N H r m) (k : ∀ c o, c ≠ D → H c = some o → H' c = some o) (hd : ∃ xs, H D = some (.lst xs)) (n : D ∈ N) : RowL K N H' r m := by
  obtain ⟨l, e, h⟩ := h
  exact ⟨l, e, h.keep k hd n⟩

noncomputable def prevL (f : Nat → Option Ver) : Nat → Option Ver
  | 0 => none
  | k + 1 => f k
noncomputable def trL (f : Nat → Option Ver) : Nat → List (Nat × Ver)
  | 0 => []
  | k + 1 => trL f k ++ match f k with
    | none => []
    | some v => if prevL f k = some v then [] else [(k, v)]
noncomputable def trD (x : Nat × Ver) : PyData := .tuple [.int x.1, ver x.2]
theorem noL_tr (x : Nat × Ver) : noL (trD x) = true := by
  show (true && (noL (ver x.2) && true)) = true
  rw [noL_ver]
  rfl
theorem noLs_tr : ∀ xs : List (Nat × Ver), noLs (xs.map trD) = true
  | [] => rfl
  | c :: cs => by
    show (noL (trD c) && noLs (cs.map trD)) = true
    rw [noL_tr, noLs_tr cs]
    rfl
theorem tr_lay : ∀ (xs : List (Nat × Ver)), (∀ x ∈ xs, okV x.2) → PyData.canLayAll0 (xs.map trD) = true ∧ PyData.depthAll (xs.map trD) ≤ 30
  | [], _ => ⟨rfl, Nat.zero_le _⟩
  | x :: xs, h => by
    obtain ⟨h1, h2⟩ := tr_lay xs fun y hy => h y (List.mem_cons_of_mem _ hy)
    have h3 := ver_shaped (h x List.mem_cons_self)
    unfold SeqAt.shaped at h3
    rw [Bool.and_eq_true] at h3
    have h4 := depth_stps x.2.2.1
    refine ⟨?_, ?_⟩
    · show ((true && (PyData.canLay0 (ver x.2) && true)) && PyData.canLayAll0 (xs.map trD)) = true
      rw [h3.1, h1]
      rfl
    · show max (PyData.depth (trD x)) (PyData.depthAll (xs.map trD)) ≤ 30
      have e : PyData.depth (trD x) = max 0 (max (max 0 (max (PyData.depthAll (x.2.2.1.map stp) + 1) (max 0 0)) + 1) 0) + 1 := rfl
      rw [e]
      omega
theorem tr_shaped {xs : List (Nat × Ver)} (h : ∀ x ∈ xs, okV x.2) : SeqAt.shaped (.list (xs.map trD)) = true := by
  obtain ⟨h1, h2⟩ := tr_lay xs h
  unfold SeqAt.shaped
  rw [show PyData.canLay0 (.list (xs.map trD)) = true from h1, Bool.true_and]
  refine decide_eq_true ?_
  show PyData.depthAll (xs.map trD) + 1 ≤ 64
  omega
theorem tr_eqv {xs : List (Nat × Ver)} (h : ∀ x ∈ xs, okV x.2) : PyData.eqv (.list (xs.map trD)) (.list (xs.map trD)) = true := SeqAt.eqvAll_refl _ (tr_lay xs h).1
theorem trL_ok {f : Nat → Option Ver} (h : ∀ k, okO (f k)) : ∀ n, ∀ x ∈ trL f n, okV x.2
  | 0, x, hx => by cases hx
  | n + 1, x, hx => by
    rcases List.mem_append.mp hx with hx | hx
    · exact trL_ok h n x hx
    · cases e : f n with
      | none => rw [e] at hx; cases hx
      | some v =>
        rw [e] at hx
        dsimp only at hx
        split at hx
        · cases hx
        · rw [List.mem_singleton.mp hx]; exact h n v e
theorem trL_congr {f g : Nat → Option Ver} : ∀ {n}, (∀ k, k < n → f k = g k) → trL f n = trL g n
  | 0, _ => rfl
  | n + 1, h => by
    have e1 := trL_congr (f := f) (g := g) (n := n) fun k hk => h k (Nat.lt_succ_of_lt hk)
    have e2 := h n (Nat.lt_succ_self n)
    have e3 : prevL f n = prevL g n := by
      cases n with
      | zero => rfl
      | succ m => exact h m (by omega)
    show trL f n ++ _ = trL g n ++ _
    rw [e1, e2, e3]
theorem mkL_lay : ∀ (xs : List Mark), PyData.canLayAll0 (xs.map L2.markD) = true ∧ PyData.depthAll (xs.map L2.markD) ≤ 30
  | [] => ⟨rfl, Nat.zero_le _⟩
  | x :: xs => by
    obtain ⟨h1, h2⟩ := mkL_lay xs
    refine ⟨?_, ?_⟩
    · show (true && PyData.canLayAll0 (xs.map L2.markD)) = true
      rw [h1]
      rfl
    · show max 1 (PyData.depthAll (xs.map L2.markD)) ≤ 30
      omega
theorem mkL_shaped (xs : List Mark) : SeqAt.shaped (.list (xs.map L2.markD)) = true := by
  obtain ⟨h1, h2⟩ := mkL_lay xs
  unfold SeqAt.shaped
  rw [show PyData.canLay0 (.list (xs.map L2.markD)) = true from h1, Bool.true_and]
  refine decide_eq_true ?_
  show PyData.depthAll (xs.map L2.markD) + 1 ≤ 64
  omega
theorem mkL_eqv (xs : List Mark) : PyData.eqv (.list (xs.map L2.markD)) (.list (xs.map L2.markD)) = true := SeqAt.eqvAll_refl _ (mkL_lay xs).1
theorem sinceN_congr {as ms : List Sv} {m : Mark} : ∀ {i : Nat}, (∀ j, j ≤ i → lkA as j m = lkA ms j m) → sinceN as m i = sinceN ms m i
  | 0, _ => rfl
  | i + 1, h => by
    show (if lkA as i m = lkA as (i + 1) m then sinceN as m i else i + 1) = if lkA ms i m = lkA ms (i + 1) m then sinceN ms m i else i + 1
    rw [h i (Nat.le_succ i), h (i + 1) (Nat.le_refl _), sinceN_congr fun j hj => h j (Nat.le_succ_of_le hj)]
theorem lkA_perm {as ms : List Sv} (pm : Paired (fun a m => a.1.Perm m.1 ∧ a.2 = m.2) as ms) (ok : ∀ m ∈ ms, okSh m.1) (m : Mark) (j : Nat) : lkA as j m = lkA ms j m := by
  unfold lkA
  by_cases h : j < ms.length
  · obtain ⟨a, ha, pa, _⟩ := pr_at pm (List.getElem?_eq_getElem h)
    rw [List.getD_eq_getElem?_getD, ha, getD_in h]
    exact look_perm pa (ok _ (List.getElem_mem h)).2 m
  · have e := Paired.length pm
    rw [List.getD_eq_getElem?_getD, List.getElem?_eq_none (by omega), List.getD_eq_getElem?_getD, List.getElem?_eq_none (by omega)]
theorem snD_of {K : PySem.W.Frag} {H : Hp} {as : List Sv} {i : Nat} {m : Mark} {x : V} (h : DV K H (snD as i m) x) : ∃ t q, x = .ref t ∧ SqT K H t [.ref q, .int (sinceN as m i)] ∧ SqT K H q (mkV m) := by
  obtain ⟨t, vs, rfl, hq, b, r2, rfl, hb, c, r3, rfl, hc, h4⟩ := h
  cases (show c = V.int (sinceN as m i) from hc)
  cases (show r3 = [] from h4)
  obtain ⟨q, rfl, hm⟩ := mark_of hb
  exact ⟨t, q, rfl, hq, hm⟩
theorem cut_2 (xs : List V) (k : Nat) : (cutV xs (some (k : Int)) (some ((k : Int) + 2))).length < 10 := by
  unfold cutV
  rw [List.length_take, List.length_drop, show HT.sIx xs.length 0 (some (k : Int)) = min k xs.length from HT.sIx_nat .., show ((k : Int) + 2) = ((k + 2 : Nat) : Int) by omega, show HT.sIx xs.length xs.length (some ((k + 2 : Nat) : Int)) = min (k + 2) xs.length from HT.sIx_nat ..]
  omega
theorem num2_lt {i : Nat} {J : Int} (h : i < numZ 2 0 J) (h0 : 0 ≤ J) : (i : Int) * 2 < J := by
  unfold numZ Builtin.Range.rangeSize at h
  rw [if_pos (by decide)] at h
  split at h <;> omega
noncomputable def sp_trl (P : Program) (w : World) (K : PySem.W.Frag) (A : Adr) : Sp := fun vs H Q _ => Plain H ∧ ∃ (b sl q : Addr) (zs : List V) (as : List Sv) (m : Mark), vs = [.ref b, .ref q] ∧ BkAt P w K A.Book A.Sheet H b sl zs as ∧ SqT K H q (mkV m) ∧ as.length < 100 ∧ ∀ (l : Addr) (ws : List V) (H' : Hp), H l = none → Same H H' → Plain H' → H' l = some (.lst ws) → DVs K H' ((trL (fun k => lkA as k m) as.length).map trD) ws → Q (.ref l) H'
noncomputable def TabR (P : Program) (w : World) (K : PySem.W.Frag) (H : Hp) (r : V) (m : Sv) : Prop := ∃ (d : Addr) (es : List Ent) (o : Obj) (ns : Sh), r = .ref d ∧ H d = some (dO P w d es o) ∧ EnS K H es ns ∧ okSh ns ∧ ns.length < 64 ∧ ∀ k, look ns k = look m.1 k
theorem TabR.same {P : Program} {w : World} {K : PySem.W.Frag} {H H' : Hp} {r : V} {m : Sv} (h : TabR P w K H r m) (s : Same H H') : TabR P w K H' r m := by
  obtain ⟨d, es, o, ns, e, h1, h2, h3⟩ := h
  exact ⟨d, es, o, ns, e, s _ _ h1, ens_same s h2, h3⟩
theorem TabR.keep {P : Program} {w : World} {K : PySem.W.Frag} {D : Addr} {H H' : Hp} {r : V} {m : Sv} (h : TabR P w K H r m) (k : ∀ c o, c ≠ D → H c = some o → H' c = some o) (hd : ∃ xs, H D = some (.lst xs)) : TabR P w K H' r m := by
  obtain ⟨d, es, o, ns, e, h1, h2, h3⟩ := h
  obtain ⟨xs, hx⟩ := id hd
  exact ⟨d, es, o, ns, e, k _ _ (ne_of h1 hx (by intro z; cases z)) h1, h2.imp (fun _ _ q => seqT_mono k hd q) fun v _ q => DV.mono k hd _ _ (noL_ver v) q, h3⟩
noncomputable def sp_bck (K : PySem.W.Frag) : Sp := fun vs H Q _ => Plain H ∧ ∃ (p rl sm : Addr) (N : List Addr) (ws rs : List V) (ms : Sh) (mss : List Sv) (d0 d1 d2 d3 d4 d5 d6 d7 : Int), vs = [.ref p, .ref rl, .ref sm] ∧ SqL K H p ws ∧ DVs K H (ms.map prD) ws ∧ okSh ms ∧ inBox (mks ms) ∧ SqL K H rl rs ∧ Paired (RowL K N H) rs mss ∧ 0 < mss.length ∧ H sm = some (.lst [.int d0, .int d1, .int d2, .int d3, .int d4, .int d5, .int d6, .int d7]) ∧ ∀ (l : Addr) (ws' : List V) (ns : Sh) (H' : Hp), H l = none → Same H H' → Plain H' → H' l = some (.lst ws') → DVs K H' (ns.map prD) ws' → okSh ns → srtd ns → inBox (mks ns) → Q (.ref l) H'
noncomputable def sp_lst (P : Program) (w : World) (K : PySem.W.Frag) : Sp := fun vs H Q _ => Plain H ∧ ∃ (tl q : Addr) (ts : List V) (ms : List Sv) (i : Nat) (m : Mark), vs = [.ref tl, .int i, .ref q] ∧ SqL K H tl ts ∧ Paired (TabR P w K H) ts ms ∧ SqT K H q (mkV m) ∧ i < ms.length ∧ ms.length < 100 ∧ lkA ms i m ≠ none ∧ Q (.int (sinceN ms m i)) H
noncomputable def sp_rg6 (P : Program) (w : World) (K : PySem.W.Frag) (A : Adr) : Sp := fun vs H Q _ => Plain H ∧ ∃ (b sl tl : Addr) (zs ts : List V) (as ms : List Sv) (i : Nat), vs = [.ref b, .ref tl, .int i] ∧ BkAt P w K A.Book A.Sheet H b sl zs as ∧ SqL K H tl ts ∧ Paired (TabR P w K H) ts ms ∧ Paired (fun a m => a.1.Perm m.1 ∧ a.2 = m.2) as ms ∧ (∀ m ∈ ms, okSh m.1) ∧ i < ms.length ∧ ms.length < 100 ∧ as[0]? = some ([], 0, 0, 0) ∧ ∀ H', Same H H' → Plain H' → Q (.bl true) H'
noncomputable def sp_ltr (P : Program) (w : World) (K : PySem.W.Frag) : Sp := fun vs H Q _ => Plain H ∧ ∃ (tl q : Addr) (ts : List V) (ms : List Sv) (m : Mark), vs = [.ref tl, .ref q] ∧ SqL K H tl ts ∧ Paired (TabR P w K H) ts ms ∧ SqT K H q (mkV m) ∧ 0 < ms.length ∧ ms.length < 100 ∧ lkA ms 0 m = none ∧ ∀ (l : Addr) (ws : List V) (H' : Hp), H l = none → Same H H' → Plain H' → H' l = some (.lst ws) → DVs K H' ((trL (fun k => lkA ms k m) ms.length).map trD) ws → Q (.ref l) H'
theorem atI_last {xs : List V} {v : V} (h : xs[xs.length - 1]? = some v) : atI xs (-1) = some v := by
  have hl := (List.getElem?_eq_some_iff.mp h).1
  have e : ixN xs.length (-1) = some (xs.length - 1) := by
    unfold ixN
    rw [if_neg (by decide), if_pos (by omega)]
    congr 1
    omega
  unfold atI
  rw [e]
  exact h
noncomputable def sp_onn (K : PySem.W.Frag) : Sp := fun vs H Q _ => Plain H ∧ ∃ (p c : Addr) (by_ : Int) (ws xs : List V) (ms : Sh), vs = [.ref p, .ref c, .int by_] ∧ SqL K H p ws ∧ DVs K H (ms.map prD) ws ∧ okSh ms ∧ inBox (mks ms) ∧ H c = some (.lst xs) ∧ (∀ x ∈ xs, ∃ n, x = .int n) ∧ xs.length < 10 ∧ ∀ (l : Addr) (ws' : List V) (ns : Sh) (H' : Hp), H l = none → Same H H' → Plain H' → H' l = some (.lst ws') → DVs K H' (ns.map prD) ws' → okSh ns → srtd ns → inBox (mks ns) → (∀ m ∈ mks ms, m ∈ mks ns) → Q (.ref l) H'
theorem box_few {ks : List Mark} (nd : ks.Nodup) (h : inBox ks) : ks.length ≤ 40 := by
  have := nodup_le nd h
  have e : (boxM 4 10).length = 40 := by decide +kernel
  omega
theorem ens_has {K : PySem.W.Frag} {H : Hp} {es : List Ent} {ns : Sh} (he : EnS K H es ns) (nd : (mks ns).Nodup) {m : Mark} {z : V} (h : findM es m = some z) : ∃ v, (m, v) ∈ ns ∧ DV K H (ver v) z := by
  have hm : m ∈ mks ns := by
    unfold mks
    rw [← ens_marks he]
    exact Classical.byContradiction fun hn => by rw [find_none hn] at h; cases h
  obtain ⟨v, hv⟩ := mem_mks hm
  obtain ⟨x, h1, h2⟩ := ens_find he nd hv
  rw [h] at h1
  cases h1
  exact ⟨v, hv, h2⟩
section
variable {P : Program} {w : World} {K : PySem.W.Frag} {mg : Str → Option Value} {base : Heap} {A : Adr}
theorem sc_is_in : FnScope ["version"] ["version"] (defScope s_is_in) := ⟨rfl, rfl, rfl, by decide +kernel, rfl, by decide +kernel, by decide +kernel⟩
noncomputable abbrev Ok_is_in (P : Program) (w : World) (K : PySem.W.Frag) (mg : Str → Option Value) (base : Heap) (A : Adr) : Prop := FnOk P w K mg base (CX1 P w base) 1 A.f_is_in A.d_is_in ["version"] (sp_in K)
set_option maxHeartbeats 4000000 in
theorem ok_is_in (T : Txt K mg A)  : Ok_is_in P w K mg base A := by
  refine T.F_is_in.okN sc_is_in (fun vs H Q E h => ?_) (fun cdv Ar outer s H vs Q E hr h => ?_)
  · obtain ⟨_, a, ⟨x, rfl, _⟩, _⟩ := h
    rfl
  · obtain ⟨hp, v, ⟨x, hv, hx⟩, q, _⟩ := h
    obtain rfl : vs = [x] := hv
    obtain ⟨t, pa, rfl, hq, hd⟩ := ver_of hx
    refine ⟨_, (pss_one (ps_ret (pe_cmpR (op_neD hr.units) (pe_ix ix_tup (pv 0) pe_int (fun _ _ => rfl)) (pe_tup pa_nil) (nomark _)))), ?_⟩
    refine ⟨_, rfl, _, _, _, _, rfl, rfl, hq, rfl, by show 0 ≤ sizeLine; decide, fun te hp1 => ?_⟩
    generalize hH1 : upd H te (HO.tup _) = H1
    have s1 : Same H H1 := hH1 ▸ same_upd hp1
    have P1 : Plain H1 := hH1 ▸ hp.tup
    have h1 := (congrFun hH1 te).symm.trans upd_same
    refine ⟨plc v.2.1, plc [], DV.same s1 _ _ hd, empty_dv h1, plc_shaped _, plc_shaped _, q _ _ ?_ s1 P1⟩
    rw [plc_eqv]
theorem sc_Sheet____init__ : FnScope ["self", "pairs"] ["self", "pairs"] (defScope s_Sheet____init__) := ⟨rfl, rfl, rfl, by decide +kernel, rfl, by decide +kernel, by decide +kernel⟩
noncomputable abbrev Ok_Sheet____init__ (P : Program) (w : World) (K : PySem.W.Frag) (mg : Str → Option Value) (base : Heap) (A : Adr) : Prop := FnOk P w K mg base (CX1 P w base) 1 A.f_Sheet____init__ A.d_Sheet____init__ ["self", "pairs"] (sp_shi P w K A.Sheet A.NoSheet)
set_option maxHeartbeats 4000000 in
theorem ok_Sheet____init__ (T : Txt K mg A)  : Ok_Sheet____init__ P w K mg base A := by
  refine T.F_Sheet____init__.okX sc_Sheet____init__ (fun vs H Q E h => ?_) (fun cdv Ar outer s H vs Q E hr h => ?_)
  · obtain ⟨_, p, dx, l, ws, ms, rfl, _⟩ := h
    rfl
  · obtain ⟨hP, p, dx, l, ws, ms, rfl, hp, hl, hd, hok, few, q, qe⟩ := h
    refine ⟨_, (pss_cons (ps_fld (pv 0) (pe_callTy (call_dictL rfl hr.u100) rfl T.n_dict (by decide +kernel) (pa_cons (pv 1) pa_nil)) rfl)
      (pss_one (ps_if (pt_cmpR op_ne (pe_callB call_lenM rfl T.n_len (by decide +kernel) (pa_cons (pe_fld (pv 0) rfl) pa_nil)) (pe_callB call_len_seq rfl T.n_len (by decide +kernel) (pa_cons (pv 1) pa_nil)) (nomark _)) (pss_one (ps_raise T.x_NoSheet wants_fn rfl rfl T.g_NoSheet (pa_cons pe_str pa_nil))) pss_nil))), ?_⟩
    obtain ⟨ps, h1, h2⟩ := pairs_of hd
    have hpl : ps.length = ws.length := Paired.length h1
    have hpm : ps.length = ms.length := Paired.length h2
    have emk := ens_marks h2
    refine ⟨_, rfl, l, ws, ps, rfl, hl, h1, by omega, fun d o hd0 => ?_⟩
    have npd : p ≠ d := ne_of_none hp hd0
    refine ⟨_, rfl, p, A.Sheet, dx, [], rfl, (by rw [upd_ne npd]; exact hp), T.cl_Sheet, T.na_Sheet_versions, (by show 0 < 1000; decide), ?_⟩
    have keep : ∀ b o', b ≠ p → H b = some o' → (upd (upd H d (dO P w d (putAll [] ps) o)) p (.ins A.Sheet dx (putF "versions" (.ref d) []))) b = some o' := fun b o' hb e => by
      rw [upd_ne hb, upd_ne (ne_of_none e hd0)]; exact e
    have P2 : Plain (upd (upd H d (dO P w d (putAll [] ps) o)) p (.ins A.Sheet dx (putF "versions" (.ref d) []))) := Plain.ins (Plain.ext hP)
    have hp2 : (upd (upd H d (dO P w d (putAll [] ps) o)) p (.ins A.Sheet dx (putF "versions" (.ref d) []))) p = some (.ins A.Sheet dx [("versions", .ref d)]) := upd_same
    have hd2 : (upd (upd H d (dO P w d (putAll [] ps) o)) p (.ins A.Sheet dx (putF "versions" (.ref d) []))) d = some (dO P w d (putAll [] ps) o) := by rw [upd_ne npd.symm]; exact upd_same
    have hl2 : SqL K (upd (upd H d (dO P w d (putAll [] ps) o)) p (.ins A.Sheet dx (putF "versions" (.ref d) []))) l ws := by
      rcases hl with (z | ⟨o', z⟩) | z
      · exact .inl (.inl (keep _ _ (ne_of z hp (by intro z; cases z)) z))
      · exact .inl (.inr ⟨o', keep _ _ (ne_of z hp (by intro z; cases z)) z⟩)
      · exact .inr z
    have he2 : EnS K (upd (upd H d (dO P w d (putAll [] ps) o)) p (.ins A.Sheet dx (putF "versions" (.ref d) []))) ps ms := by
      have sd : Same H (upd H d (dO P w d (putAll [] ps) o)) := same_upd hd0
      have hpd : (upd H d (dO P w d (putAll [] ps) o)) p = some (.ins A.Sheet dx []) := sd _ _ hp
      refine (h2.imp (H' := upd H d (dO P w d (putAll [] ps) o)) (fun _ _ q => sd.seqT q) fun _ _ q => DV.same sd _ _ q).imp (fun a m q => sqT_ins hpd q) fun v x q => dv_ins hpd _ _ (noL_ver v) q
    refine ⟨_, rfl, p, A.Sheet, dx, _, _, rfl, hp2, T.cl_Sheet, T.na_Sheet_versions, rfl, d, _, o, rfl, hd2, _, rfl, l, ws, rfl, .inl hl2, rfl, _, rfl, ?_⟩
    by_cases nd : (ms.map (·.1)).Nodup
    · have e : putAll [] ps = ps := putAll_new ps [] (by rw [List.nil_append, emk]; exact nd)
      refine iteNS (by rw [e, hpl]) ?_
      exact q nd _ keep ⟨⟨dx, d, ps, o, hp2, hd2.trans (by rw [e]), he2⟩, nd, hok, few⟩ P2
    · have e := putAll_less ps [] List.nodup_nil (by rw [List.nil_append, emk]; exact nd)
      rw [List.length_nil] at e
      refine iteNT (fun z => by have := V.int.inj z; omega) ?_
      exact ⟨by show 1 ≤ sizeLine; decide, qe nd _ keep P2⟩
theorem sc_Sheet__lines : FnScope ["self", "inside"] ["self"] (defScope s_Sheet__lines) := ⟨rfl, rfl, rfl, by decide +kernel, rfl, by decide +kernel, by decide +kernel⟩
noncomputable abbrev Ok_Sheet__lines (P : Program) (w : World) (K : PySem.W.Frag) (mg : Str → Option Value) (base : Heap) (A : Adr) : Prop := FnOk P w K mg base (CX1 P w base) 2 A.f_Sheet__lines A.d_Sheet__lines ["self"] (sp_shl P w K A.Sheet)
set_option maxHeartbeats 4000000 in
theorem ok_Sheet__lines (T : Txt K mg A) (G_is_in : Ok_is_in P w K mg base A) : Ok_Sheet__lines P w K mg base A := by
  have B_is_in := T.b_is_in
  refine T.F_Sheet__lines.okN sc_Sheet__lines (fun vs H Q E h => ?_) (fun cdv Ar outer s H vs Q E hr h => ?_)
  · obtain ⟨_, p, ms, rfl, _⟩ := h
    rfl
  · obtain ⟨hP, p, ms, rfl, S, q⟩ := h
    refine ⟨_, (pss_cons (ps_setC ["mark", "version"] 2 [] (i := 1) sc_Sheet__lines.nd rfl (Or.inl rfl) rfl (pi_items (pe_fld (pv 0) rfl)) gk2 (fun _ _ _ _ _ => pg_tup rfl (pgs_cons (pg_name (i := 0) (show List.Nodup (["mark", "version"] : List Str) by decide +kernel) rfl (Or.inl rfl)) (pgs_cons (pg_name (i := 1) (show List.Nodup (["mark", "version"] : List Str) by decide +kernel) rfl (Or.inl rfl)) pgs_nil))) (fun _ _ _ _ _ => pif_one (pt_val (pe_call G_is_in (hr.mono (by decide)) rfl T.g_is_in T.k_is_in B_is_in .nil pass1 (pa_cons (pv 1) pa_nil)))) (fun _ _ _ _ _ => (pe_tup (pa_cons (pe_ix (ix_tupK (K := K) rfl) (pv 1) pe_int (fun _ _ => rfl)) (pa_cons (pv 0) (pa_cons (pe_ix (ix_tupK (K := K) rfl) (pv 1) pe_int (fun _ _ => rfl)) pa_nil))))))
      (pss_one (ps_ret (pe_comp ["place", "mark", "words"] 3 [] rfl (pi_list (pe_callB (call_sortedL hr.u100) rfl T.n_sorted (by decide +kernel) (pa_cons (pv 1) pa_nil))) gk3 (fun _ _ _ _ _ => pg_tup rfl (pgs_cons (pg_name (i := 0) (show List.Nodup (["place", "mark", "words"] : List Str) by decide +kernel) rfl (Or.inl rfl)) (pgs_cons (pg_name (i := 1) (show List.Nodup (["place", "mark", "words"] : List Str) by decide +kernel) rfl (Or.inl rfl)) (pgs_cons (pg_name (i := 2) (show List.Nodup (["place", "mark", "words"] : List Str) by decide +kernel) rfl (Or.inl rfl)) pgs_nil)))) (fun _ _ _ _ _ => pif_nil) (fun _ _ _ _ _ => (pe_tup (pa_cons (pv 1) (pa_cons (pv 2) pa_nil)))))))), ?_⟩
    obtain ⟨dx, d, es, o, hp, hd, he⟩ := S.ex
    have hpm : es.length = ms.length := Paired.length he
    have few := S.few
    refine ⟨_, rfl, p, A.Sheet, dx, _, _, rfl, hp, T.cl_Sheet, T.na_Sheet_versions, rfl, d, es, o, rfl, hd, fun v hv D hD => ?_⟩
    have sv : Same H (upd H v (viewO v d)) := same_upd hv
    have P1 : Plain (upd H v (viewO v d)) := Plain.ext hP
    refine comp_items (fun e => isInV (vOf ms e.1)) (fun e y H => DV K H (.tuple (enL ms e.1)) y) hD P1 (sv _ _ hd) (Nat.le_of_lt (small1000 (by omega))) (fun e y Ha Hb h k hz => DV.mono k hz _ _ (noL_enL ms e.1) h) ?_ ?_
    · intro i e H2 T' Tt Tf hei P2 S2 hT ht hf
      obtain ⟨hk, x, hx, hv2⟩ := ens_val he e (List.mem_of_getElem? hei)
      have ex : vOf ms e.1 = x := vOf_in S.nd hx
      have s3 : Same H (upd H2 T' (.tup [.ref e.2.1, e.2.2])) := (sv.trans S2).trans (same_upd hT)
      refine ⟨T', _, rfl, SqT.of upd_same, rfl, _, _, rfl, _, _, rfl, rfl, ?_⟩
      refine ⟨_, rfl, P2.tup, x, ⟨_, rfl, DV.same s3 _ _ hv2⟩, fun r H5 hr5 s5 P5 => ⟨_, hr5, ?_⟩, fun _ _ h => h.elim⟩
      have hk5 := (s3.trans s5).seqT hk
      have hv5 := DV.same (s3.trans s5) _ _ hv2
      obtain ⟨tv, pvv, e5, hq5, hd5⟩ := ver_of hv5
      cases hb : isInV x with
      | true =>
        rw [show (!decide (x.2.1 = [])) = true from hb]
        refine iteT ?_
        refine ⟨_, rfl, tv, _, _, _, e5, rfl, hq5, rfl, _, rfl, _, rfl, tv, _, _, _, e5, rfl, hq5, rfl, by show 3 ≤ sizeLine; decide, fun t h6 => ?_⟩
        refine ht (by rw [ex]; exact hb) _ _ ?_ (((same_upd hT).trans s5).trans (same_upd h6)) P5.tup
        have s6 := same_upd (o := HO.tup [pvv, .ref e.2.1, .str x.2.2]) h6
        show DV K (upd H5 t (.tup [pvv, .ref e.2.1, .str x.2.2])) (.tuple (enL ms e.1)) (.ref t)
        unfold enL
        rw [ex]
        exact ⟨t, _, rfl, SqT.of upd_same, _, _, rfl, DV.same s6 _ _ hd5, _, _, rfl, mkV_dv (s6.seqT hk5), _, _, rfl, rfl, rfl⟩
      | false =>
        rw [show (!decide (x.2.1 = [])) = false from hb]
        exact iteF (hf (by rw [ex]; exact hb) _ ((same_upd hT).trans s5) P5)
    · intro ys H2 hys hD2 S2 P2
      have hdv : DVs K H2 ((insOf ms).map fun m => .tuple (enL ms m)) ys := by
        have := paired_dvs (f := fun (e : Ent) => PyData.tuple (enL ms e.1)) hys
        rw [show ((es.filter fun e => isInV (vOf ms e.1)).map fun (e : Ent) => PyData.tuple (enL ms e.1)) = (insOf ms).map fun m => .tuple (enL ms m) by rw [← ins_of_es he S.nd, List.map_map]; rfl] at this
        exact this
      refine ⟨_, rfl, Mark, insOf ms, enL ms, lnLt ms, .tup, D, ys, rfl, SqL.of hD2, hdv, insOf_srt S.nd S.ok S.few, fun l bs ws hl pm pw hw => ?_⟩
      have s3 : Same H2 (upd H2 l (.lst ws)) := same_upd hl
      have P3 : Plain (upd H2 l (.lst ws)) := P2.lst
      have h3 : SqL K (upd H2 l (.lst ws)) l ws := SqL.of upd_same
      have hw3 := DVs.same s3 _ _ hw
      have hbl : bs.length ≤ 63 := by rw [pm.length_eq]; exact Nat.le_of_lt_succ (insOf_srt S.nd S.ok S.few).few
      have hwl : ws.length = bs.length := by rw [hw3.length, List.length_map]
      generalize upd H2 l (.lst ws) = H3 at s3 P3 h3 hw3 ⊢
      refine ⟨l, rfl, ⟨_, h3⟩, fun D2 hD3 => comp_gen (fun i => ws.getD i .non) (fun i y H => ∃ m, bs[i]? = some m ∧ DV K H (lnD ms m) y) hD3 P3 (Nat.le_of_lt (small1000 (by omega))) (itl_ok h3) ?_ ?_ ?_⟩
      · rintro i y Ha Hb ⟨m, hm, hy⟩ k hz
        exact ⟨m, hm, DV.mono k hz _ _ (by show (noL (markD m) && (noL (.str (vOf ms m).2.2) && true)) = true; rfl) hy⟩
      · intro i H4 R hi P4 S4 hR
        have hib : i < bs.length := by omega
        obtain ⟨y, hy, hyd⟩ := hw3.get (i := i) (d := .tuple (enL ms bs[i])) (by rw [List.getElem?_map, List.getElem?_eq_getElem hib]; rfl)
        obtain ⟨t, pv0, q0, ey, hq, hm⟩ := enL_of hyd
        have eg : ws.getD i .non = .ref t := by rw [List.getD_eq_getElem?_getD, hy, ey]; rfl
        rw [eg]
        refine ⟨t, _, rfl, S4.seqT hq, rfl, _, _, rfl, _, _, rfl, _, _, rfl, rfl, ?_⟩
        refine ⟨_, rfl, _, rfl, by show 2 ≤ sizeLine; decide, fun t2 h2 => ?_⟩
        refine hR _ _ ⟨bs[i], List.getElem?_eq_getElem hib, t2, _, rfl, SqT.of upd_same, _, _, rfl, mkV_dv ((S4.trans (same_upd h2)).seqT hm), _, _, rfl, rfl, rfl⟩ (same_upd h2) P4.tup
      · intro zs H4 hzl hzs hD4 S4 P4
        refine q H4 D2 bs zs (((sv.trans S2).trans s3).free hD3) (((sv.trans S2).trans s3).trans S4) P4 hD4 pm pw ?_
        refine DVs.of (f := lnD ms) (by omega) fun i v m hv hm => ?_
        obtain ⟨m', h1, h2⟩ := hzs i v hv
        rw [hm] at h1
        cases h1
        exact h2
theorem sc_Sheet__version : FnScope ["self", "mark"] ["self", "mark"] (defScope s_Sheet__version) := ⟨rfl, rfl, rfl, by decide +kernel, rfl, by decide +kernel, by decide +kernel⟩
noncomputable abbrev Ok_Sheet__version (P : Program) (w : World) (K : PySem.W.Frag) (mg : Str → Option Value) (base : Heap) (A : Adr) : Prop := FnOk P w K mg base (CX1 P w base) 1 A.f_Sheet__version A.d_Sheet__version ["self", "mark"] (sp_shv P w K A.Sheet)
set_option maxHeartbeats 4000000 in
theorem ok_Sheet__version (T : Txt K mg A)  : Ok_Sheet__version P w K mg base A := by
  refine T.F_Sheet__version.okN sc_Sheet__version (fun vs H Q E h => ?_) (fun cdv Ar outer s H vs Q E hr h => ?_)
  · obtain ⟨_, p, q0, m, ms, rfl, _⟩ := h
    rfl
  · obtain ⟨hP, p, q0, m, ms, rfl, S, hm, q⟩ := h
    refine ⟨_, (pss_one (ps_ret (pe_mget (hu_of hr) (pe_fld (pv 0) rfl) (pv 1)))), ?_⟩
    obtain ⟨dx, d, es, o, hp, hd, he⟩ := S.ex
    have D : DM P w K H d es := ⟨⟨o, hd⟩, fun e h => (ens_val he e h).1⟩
    exact ⟨_, rfl, p, A.Sheet, dx, _, _, rfl, hp, T.cl_Sheet, T.na_Sheet_versions, rfl, d, es, rfl, D, _, rfl, q0, m, rfl, D, hm, q _ (look_find he m)⟩
theorem sc_Book____init__ : FnScope ["self"] ["self"] (defScope s_Book____init__) := ⟨rfl, rfl, rfl, by decide +kernel, rfl, by decide +kernel, by decide +kernel⟩
noncomputable abbrev Ok_Book____init__ (P : Program) (w : World) (K : PySem.W.Frag) (mg : Str → Option Value) (base : Heap) (A : Adr) : Prop := FnOk P w K mg base (CX1 P w base) 3 A.f_Book____init__ A.d_Book____init__ ["self"] (sp_bki P w K A)
set_option maxHeartbeats 4000000 in
theorem ok_Book____init__ (T : Txt K mg A) (G_Sheet____init__ : Ok_Sheet____init__ P w K mg base A) : Ok_Book____init__ P w K mg base A := by
  have B_Sheet____init__ := T.b_Sheet____init__
  refine T.F_Book____init__.okX sc_Book____init__ (fun vs H Q E h => ?_) (fun cdv Ar outer s H vs Q E hr h => ?_)
  · obtain ⟨_, b, dx, rfl, _⟩ := h
    rfl
  · obtain ⟨hP, b, dx, rfl, hb, q⟩ := h
    refine ⟨_, (pss_one (ps_fld (pv 0) (pe_lst (pa_cons (pe_tup (pa_cons (pe_make T.mk_Sheet G_Sheet____init__ (hr.mono (by decide)) rfl T.g_Sheet B_Sheet____init__ .nil (Wants.passes wants_fn) (pa_cons (pe_lst pa_nil) pa_nil)) (pa_cons (pe_tup (pa_cons pe_int (pa_cons pe_int (pa_cons pe_int pa_nil)))) pa_nil))) pa_nil)) rfl)), ?_⟩
    refine ⟨Nat.zero_le _, fun e1 hp1 => ?_⟩
    generalize hH1 : upd H e1 (HO.lst _) = H1
    have s1 : Same H H1 := hH1 ▸ same_upd hp1
    have P1 : Plain H1 := hH1 ▸ hP.lst
    have h1 := (congrFun hH1 e1).symm.trans upd_same
    refine fun x dx2 nx ndx nex => ?_
    have sx : Same H1 (upd (upd H1 dx2 (.own x)) x (.ins A.Sheet dx2 [])) := fun b o e => by
      rw [upd_ne (ne_of_none e nx), upd_ne (ne_of_none e ndx)]
      exact e
    refine ⟨Plain.ins (P1.upd trivial), x, dx2, e1, [], [], rfl, upd_same, SqL.of (sx _ _ h1), rfl, (fun m h => by cases h), by decide, fun _ H2 k2 Sh2 P2 => ⟨rfl, ?_⟩, fun h => absurd List.nodup_nil h⟩
    have s2 : Same H1 H2 := fun b o e => k2 b o (ne_of_none e nx) (sx b o e)
    refine ⟨by show 3 ≤ sizeLine; decide, fun u hp3 => ?_⟩
    generalize hH3 : upd H2 u (HO.tup _) = H3
    have s3 : Same H2 H3 := hH3 ▸ same_upd hp3
    have P3 : Plain H3 := hH3 ▸ P2.tup
    have h3 := (congrFun hH3 u).symm.trans upd_same
    refine ⟨by show 2 ≤ sizeLine; decide, fun t hp4 => ?_⟩
    generalize hH4 : upd H3 t (HO.tup _) = H4
    have s4 : Same H3 H4 := hH4 ▸ same_upd hp4
    have P4 : Plain H4 := hH4 ▸ P3.tup
    have h4 := (congrFun hH4 t).symm.trans upd_same
    refine ⟨by show 1 ≤ sizeLine; decide, fun sl hp5 => ?_⟩
    generalize hH5 : upd H4 sl (HO.lst _) = H5
    have s5 : Same H4 H5 := hH5 ▸ same_upd hp5
    have P5 : Plain H5 := hH5 ▸ P4.lst
    have h5 := (congrFun hH5 sl).symm.trans upd_same
    have S4 := ((s1.trans s2).trans s3).trans s4
    have S5 := S4.trans s5
    have hb5 := S5 _ _ hb
    refine ⟨_, rfl, b, A.Book, dx, [], rfl, hb5, T.cl_Book, T.na_Book_saves, (by show 0 < 1000; decide), ?_⟩
    have nbx : x ≠ b := (ne_of_none (s1 _ _ hb) nx).symm
    have nsl : sl ≠ b := (ne_of_none (S4 _ _ hb) hp5).symm
    obtain ⟨dx', d', es', o', hx', hd', he'⟩ := (Sh2.same ((s3.trans s4).trans s5)).ex
    have ndb : d' ≠ b := ne_of hd' hb5 (by intro z; cases z)
    have hes : es' = [] := by cases he'; rfl
    exact q _ sl [.ref t] (fun c o hc e => by rw [upd_ne hc]; exact S5 _ _ e) (S4.free hp5) ⟨⟨dx, upd_same⟩, by rw [upd_ne nsl]; exact h5, .cons ⟨t, x, u, rfl, sqT_ins hb5 (SqT.of (s5 _ _ h4)), sqT_ins hb5 (SqT.of ((s4.trans s5) _ _ h3)), ⟨dx', d', es', o', by rw [upd_ne nbx]; exact hx', by rw [upd_ne ndb]; exact hd', by rw [hes]; exact .nil⟩, List.nodup_nil, (fun m h => by cases h), by decide⟩ .nil⟩ (Plain.ins P5)
theorem sc_Book__newest : FnScope ["self"] ["self"] (defScope s_Book__newest) := ⟨rfl, rfl, rfl, by decide +kernel, rfl, by decide +kernel, by decide +kernel⟩
noncomputable abbrev Ok_Book__newest (P : Program) (w : World) (K : PySem.W.Frag) (mg : Str → Option Value) (base : Heap) (A : Adr) : Prop := FnOk P w K mg base (CX1 P w base) 1 A.f_Book__newest A.d_Book__newest ["self"] (sp_bkn P w K A)
set_option maxHeartbeats 4000000 in
theorem ok_Book__newest (T : Txt K mg A)  : Ok_Book__newest P w K mg base A := by
  refine T.F_Book__newest.okN sc_Book__newest (fun vs H Q E h => ?_) (fun cdv Ar outer s H vs Q E hr h => ?_)
  · obtain ⟨_, b, sl, zs, as, rfl, _⟩ := h
    rfl
  · obtain ⟨hP, b, sl, zs, as, rfl, B, q⟩ := h
    refine ⟨_, (pss_one (ps_ret (pe_op op_sub (pe_callB call_len_seq rfl T.n_len (by decide +kernel) (pa_cons (pe_fld (pv 0) rfl) pa_nil)) pe_int))), ?_⟩
    obtain ⟨dx, hb⟩ := B.ob
    have hz : zs.length = as.length := Paired.length B.pr
    refine ⟨_, rfl, b, A.Book, dx, _, _, rfl, hb, T.cl_Book, T.na_Book_saves, rfl, sl, zs, rfl, .inl (SqL.of B.ls), _, _, rfl, rfl, ?_⟩
    rw [hz]
    exact q
theorem sc_Book__add : FnScope ["self", "sheet", "window", "beat", "count"] ["self", "sheet", "window", "beat", "count"] (defScope s_Book__add) := ⟨rfl, rfl, rfl, by decide +kernel, rfl, by decide +kernel, by decide +kernel⟩
noncomputable abbrev Ok_Book__add (P : Program) (w : World) (K : PySem.W.Frag) (mg : Str → Option Value) (base : Heap) (A : Adr) : Prop := FnOk P w K mg base (CX1 P w base) 2 A.f_Book__add A.d_Book__add ["self", "sheet", "window", "beat", "count"] (sp_bka P w K A)
set_option maxHeartbeats 4000000 in
theorem ok_Book__add (T : Txt K mg A) (G_Book__newest : Ok_Book__newest P w K mg base A) : Ok_Book__add P w K mg base A := by
  have B_Book__newest := T.b_Book__newest
  refine T.F_Book__add.okN sc_Book__add (fun vs H Q E h => ?_) (fun cdv Ar outer s H vs Q E hr h => ?_)
  · obtain ⟨_, b, sl, x, wi, be, co, zs, as, a, rfl, _⟩ := h
    rfl
  · obtain ⟨hP, b, sl, x, wi, be, co, zs, as, a, rfl, B, Sx, few, q⟩ := h
    refine ⟨_, (pss_cons (ps_expr (pe_bm PySem.F.plainAttrs_list PySem.F.slot_list_append PySem.F.type_list_append mt_append (pe_fld (pv 0) rfl) (pa_cons (pe_tup (pa_cons (pv 1) (pa_cons (pe_tup (pa_cons (pv 2) (pa_cons (pv 3) (pa_cons (pv 4) pa_nil)))) pa_nil))) pa_nil)))
      (pss_one (ps_ret (pe_meth0 (pv 0) T.cl_Book T.m_Book__newest G_Book__newest (hr.mono (by decide)) B_Book__newest .nil pass1)))), ?_⟩
    obtain ⟨dx, hb⟩ := id B.ob
    have hz : zs.length = as.length := Paired.length B.pr
    refine ⟨_, rfl, b, A.Book, dx, _, _, rfl, hb, T.cl_Book, T.na_Book_saves, rfl, .inl ⟨rfl, _, SqL.of B.ls⟩, ?_⟩
    refine ⟨_, rfl, _, rfl, _, rfl, _, rfl, by show 3 ≤ sizeLine; decide, fun u hp1 => ?_⟩
    generalize hH1 : upd H u (HO.tup _) = H1
    have s1 : Same H H1 := hH1 ▸ same_upd hp1
    have P1 : Plain H1 := hH1 ▸ hP.tup
    have h1 := (congrFun hH1 u).symm.trans upd_same
    refine ⟨by show 2 ≤ sizeLine; decide, fun t hp2 => ?_⟩
    generalize hH2 : upd H1 t (HO.tup _) = H2
    have s2 : Same H1 H2 := hH2 ▸ same_upd hp2
    have P2 : Plain H2 := hH2 ▸ P1.tup
    have h2 := (congrFun hH2 t).symm.trans upd_same
    have S2 := s1.trans s2
    have B2 := B.same S2
    refine ⟨sl, zs, _, rfl, rfl, B2.ls, small1000 (by omega), ?_⟩
    have B3 := B2.put (t := .ref t) (a := (a, wi, be, co)) ⟨t, x, u, rfl, SqT.of h2, SqT.of (s2 _ _ h1), Sx.same S2⟩
    obtain ⟨dx3, hb3⟩ := id B3.ob
    refine ⟨_, rfl, b, dx3, _, rfl, hb3, rfl, P2.lst, b, sl, _, _, rfl, B3, ?_⟩
    rw [show (((as ++ [(a, wi, be, co)]).length : Nat) : Int) - 1 = (as.length : Int) by rw [List.length_append, List.length_singleton]; omega]
    exact q _ _ (fun c o n e => by rw [upd_ne n]; exact S2 _ _ e) B3 P2.lst
theorem sc_Book__kept : FnScope ["self", "save"] ["self", "save"] (defScope s_Book__kept) := ⟨rfl, rfl, rfl, by decide +kernel, rfl, by decide +kernel, by decide +kernel⟩
noncomputable abbrev Ok_Book__kept (P : Program) (w : World) (K : PySem.W.Frag) (mg : Str → Option Value) (base : Heap) (A : Adr) : Prop := FnOk P w K mg base (CX1 P w base) 2 A.f_Book__kept A.d_Book__kept ["self", "save"] (sp_xkk P w K A)
set_option maxHeartbeats 4000000 in
theorem ok_Book__kept (T : Txt K mg A) (G_Book__newest : Ok_Book__newest P w K mg base A) : Ok_Book__kept P w K mg base A := by
  have B_Book__newest := T.b_Book__newest
  refine T.F_Book__kept.okX sc_Book__kept (fun vs H Q E h => ?_) (fun cdv Ar outer s H vs Q E hr h => ?_)
  · obtain ⟨_, b, sl, zs, as, n, rfl, _⟩ := h
    rfl
  · obtain ⟨hP, b, sl, zs, as, n, rfl, B, q⟩ := h
    obtain ⟨dx, hb⟩ := id B.ob
    refine ⟨_, (pss_cons (ps_if (PW.pt (pw_or (pt_cmpR op_lt (pv 1) pe_int (nomark _)) (pw_or1 (pt_cmpR op_gt (pv 1) (pe_meth0 (pv 0) T.cl_Book T.m_Book__newest G_Book__newest (hr.mono (by decide)) B_Book__newest .nil pass1) (nomark _))))) (pss_one (ps_raise T.x_NoSave wants_fn rfl rfl T.g_NoSave (pa_cons pe_str pa_nil))) pss_nil)
      (pss_one (ps_ret (pe_ix ix_list (pe_fld (pv 0) rfl) (pv 1) (fun _ _ => rfl))))), ?_⟩
    have hz : zs.length = as.length := Paired.length B.pr
    refine ⟨_, rfl, _, _, rfl, rfl, _, rfl, ?_⟩
    rcases q with ⟨i, z, rfl, hi, q⟩ | ⟨hn, q⟩
    · have hil := (List.getElem?_eq_some_iff.mp hi).1
      refine iteDF (by show ¬ (i : Int) < 0; omega) ?_
      refine ⟨_, rfl, _, rfl, b, dx, _, rfl, hb, rfl, hP, b, sl, zs, as, rfl, B, _, _, rfl, rfl, _, rfl, iteDF (by show ¬ (as.length : Int) - 1 < (i : Int); omega) ?_⟩
      exact ⟨_, rfl, b, A.Book, dx, _, _, rfl, hb, T.cl_Book, T.na_Book_saves, rfl, _, rfl, sl, zs, _, _, rfl, rfl, SqL.of B.ls, atI_nat hi, q⟩
    · by_cases h0 : n < 0
      · refine iteDT h0 (iteT ?_)
        exact ⟨by decide, q⟩
      · refine iteDF h0 ?_
        refine ⟨_, rfl, _, rfl, b, dx, _, rfl, hb, rfl, hP, b, sl, zs, as, rfl, B, _, _, rfl, rfl, _, rfl, iteDT (by show (as.length : Int) - 1 < n; omega) ?_⟩
        exact ⟨by decide, q⟩
theorem sc_Book__sheet : FnScope ["self", "save"] ["self", "save"] (defScope s_Book__sheet) := ⟨rfl, rfl, rfl, by decide +kernel, rfl, by decide +kernel, by decide +kernel⟩
noncomputable abbrev Ok_Book__sheet (P : Program) (w : World) (K : PySem.W.Frag) (mg : Str → Option Value) (base : Heap) (A : Adr) : Prop := FnOk P w K mg base (CX1 P w base) 3 A.f_Book__sheet A.d_Book__sheet ["self", "save"] (sp_xks P w K A)
set_option maxHeartbeats 4000000 in
theorem ok_Book__sheet (T : Txt K mg A) (G_Book__kept : Ok_Book__kept P w K mg base A) : Ok_Book__sheet P w K mg base A := by
  have B_Book__kept := T.b_Book__kept
  refine T.F_Book__sheet.okX sc_Book__sheet (fun vs H Q E h => ?_) (fun cdv Ar outer s H vs Q E hr h => ?_)
  · obtain ⟨_, b, sl, zs, as, n, rfl, _⟩ := h
    rfl
  · obtain ⟨hP, b, sl, zs, as, n, rfl, B, q⟩ := h
    obtain ⟨dx, hb⟩ := id B.ob
    refine ⟨_, (pss_one (ps_ret (pe_ix ix_tup (pe_meth (pv 0) T.cl_Book T.m_Book__kept G_Book__kept (hr.mono (by decide)) B_Book__kept .nil (Wants.passes wants_fn) (pa_cons (pv 1) pa_nil)) pe_int (fun _ _ => rfl)))), ?_⟩
    rcases q with ⟨i, a, rfl, hi, q⟩ | ⟨hn, q⟩
    · obtain ⟨z, hz, t, x, u, rfl, ht, hu, hx⟩ := pr_at B.pr hi
      refine ⟨_, rfl, b, dx, _, rfl, hb, rfl, _, rfl, hP, b, sl, zs, as, _, rfl, B, .inl ⟨i, _, rfl, hz, ?_⟩⟩
      exact ⟨t, _, _, _, rfl, rfl, ht, rfl, q x hx⟩
    · exact ⟨_, rfl, b, dx, _, rfl, hb, rfl, _, rfl, hP, b, sl, zs, as, _, rfl, B, .inr ⟨hn, q⟩⟩
theorem sc_Book__lines : FnScope ["self", "save"] ["self", "save"] (defScope s_Book__lines) := ⟨rfl, rfl, rfl, by decide +kernel, rfl, by decide +kernel, by decide +kernel⟩
noncomputable abbrev Ok_Book__lines (P : Program) (w : World) (K : PySem.W.Frag) (mg : Str → Option Value) (base : Heap) (A : Adr) : Prop := FnOk P w K mg base (CX1 P w base) 4 A.f_Book__lines A.d_Book__lines ["self", "save"] (sp_xkl P w K A)
set_option maxHeartbeats 4000000 in
theorem ok_Book__lines (T : Txt K mg A) (G_Sheet__lines : Ok_Sheet__lines P w K mg base A) (G_Book__sheet : Ok_Book__sheet P w K mg base A) : Ok_Book__lines P w K mg base A := by
  have B_Sheet__lines := T.b_Sheet__lines
  have B_Book__sheet := T.b_Book__sheet
  refine T.F_Book__lines.okX sc_Book__lines (fun vs H Q E h => ?_) (fun cdv Ar outer s H vs Q E hr h => ?_)
  · obtain ⟨_, b, sl, zs, as, n, rfl, _⟩ := h
    rfl
  · obtain ⟨hP, b, sl, zs, as, n, rfl, B, q⟩ := h
    obtain ⟨dx, hb⟩ := id B.ob
    refine ⟨_, (pss_one (ps_ret (pe_meth0 (pe_meth (pv 0) T.cl_Book T.m_Book__sheet G_Book__sheet (hr.mono (by decide)) B_Book__sheet .nil (Wants.passes wants_fn) (pa_cons (pv 1) pa_nil)) T.cl_Sheet T.m_Sheet__lines G_Sheet__lines (hr.mono (by decide)) B_Sheet__lines .nil pass1))), ?_⟩
    rcases q with ⟨i, a, rfl, hi, q⟩ | ⟨hn, q⟩
    · refine ⟨_, rfl, b, dx, _, rfl, hb, rfl, _, rfl, hP, b, sl, zs, as, _, rfl, B, .inl ⟨i, a, rfl, hi, fun x hx => ?_⟩⟩
      obtain ⟨dxa, _, _, _, hxa, _⟩ := id hx.ex
      exact ⟨x, dxa, _, rfl, hxa, rfl, hP, x, a.1, rfl, hx, q⟩
    · exact ⟨_, rfl, b, dx, _, rfl, hb, rfl, _, rfl, hP, b, sl, zs, as, _, rfl, B, .inr ⟨hn, q⟩⟩
theorem sc_Book__first_so : FnScope ["self", "mark", "save", "version", "first"] ["self", "mark", "save"] (defScope s_Book__first_so) := ⟨rfl, rfl, rfl, by decide +kernel, rfl, by decide +kernel, by decide +kernel⟩
noncomputable abbrev Ok_Book__first_so (P : Program) (w : World) (K : PySem.W.Frag) (mg : Str → Option Value) (base : Heap) (A : Adr) : Prop := FnOk P w K mg base (CX1 P w base) 4 A.f_Book__first_so A.d_Book__first_so ["self", "mark", "save"] (sp_fso P w K A)
set_option maxHeartbeats 4000000 in
theorem ok_Book__first_so (T : Txt K mg A) (G_Sheet__version : Ok_Sheet__version P w K mg base A) (G_Book__sheet : Ok_Book__sheet P w K mg base A) : Ok_Book__first_so P w K mg base A := by
  have B_Sheet__version := T.b_Sheet__version
  have B_Book__sheet := T.b_Book__sheet
  refine T.F_Book__first_so.okX sc_Book__first_so (fun vs H Q E h => ?_) (fun cdv Ar outer s H vs Q E hr h => ?_)
  · obtain ⟨_, b, sl, q0, zs, as, m, i, rfl, _⟩ := h
    rfl
  · obtain ⟨hP, b, sl, q0, zs, as, m, i, rfl, B, hm, hi, h0, hv, okA, q⟩ := h
    obtain ⟨dx, hb⟩ := id B.ob
    refine ⟨_, (pss_cons (ps_set (i := 3) sc_Book__first_so.nd rfl (Or.inl rfl) (pe_meth (pe_meth (pv 0) T.cl_Book T.m_Book__sheet G_Book__sheet (hr.mono (by decide)) B_Book__sheet .nil (Wants.passes wants_fn) (pa_cons (pv 2) pa_nil)) T.cl_Sheet T.m_Sheet__version G_Sheet__version (hr.mono (by decide)) B_Sheet__version .nil pass1 (pa_cons (pv 1) pa_nil)))
      (pss_cons (ps_set (i := 4) sc_Book__first_so.nd rfl (Or.inl rfl) (pv 2))
      (pss_cons (ps_while PassesOwn.leaving (pt_cmpR (op_eqD hr.units) (pe_meth (pe_meth (pv 0) T.cl_Book T.m_Book__sheet G_Book__sheet (hr.mono (by decide)) B_Book__sheet .nil (Wants.passes wants_fn) (pa_cons (pe_op op_sub (pv 4) pe_int) pa_nil)) T.cl_Sheet T.m_Sheet__version G_Sheet__version (hr.mono (by decide)) B_Sheet__version .nil pass1 (pa_cons (pv 1) pa_nil)) (pv 3) (nomark _)) (pss_one (ps_aug (i := 4) sc_Book__first_so.nd rfl (Or.inl rfl) pe_int ip_sub)))
      (pss_one (ps_ret (pv 4)))))), ?_⟩
    have lk : ∀ {j : Nat} (h : j < as.length), lkA as j m = look as[j].1 m := fun h => by unfold lkA; rw [getD_in h]
    have okl : ∀ {j : Nat}, j < as.length → okO (lkA as j m) := fun {j} h v e => okA as[j] (List.getElem_mem h) _ (look_some (by rw [← lk h]; exact e))
    refine ⟨_, rfl, b, dx, _, rfl, hb, rfl, _, rfl, hP, b, sl, zs, as, _, rfl, B, .inl ⟨i, as[i], rfl, List.getElem?_eq_getElem hi, fun x Sx => ?_⟩⟩
    obtain ⟨dxa, _, _, _, hxa, _⟩ := id Sx.ex
    refine ⟨x, dxa, _, rfl, hxa, rfl, _, rfl, hP, x, q0, m, as[i].1, rfl, Sx, hm, fun v hvx => ?_⟩
    rw [← lk hi] at hvx
    refine ⟨_, rfl, ?_⟩
    refine ⟨fun k σ H2 => H2 = H ∧ σ = [some (.ref b), some (.ref q0), some (.int i), some v, some (.int (k : Nat))] ∧ k < as.length ∧ lkA as k m = lkA as i m ∧ sinceN as m k = sinceN as m i, ⟨i, rfl, rfl, hi, rfl, rfl⟩, ?_⟩
    rintro k σ H2 ⟨rfl, rfl, hj, hjv, hjs⟩
    obtain ⟨j, rfl⟩ : ∃ j, k = j + 1 := by
      cases k with
      | zero => exact absurd (by rw [← hjv]; exact h0) hv
      | succ j => exact ⟨j, rfl⟩
    have hj' : j < as.length := by omega
    refine ⟨_, rfl, b, dx, _, rfl, hb, rfl, _, rfl, _, _, rfl, rfl, hP, b, sl, zs, as, _, rfl, B, .inl ⟨j, as[j], by omega, List.getElem?_eq_getElem hj', fun x2 Sx2 => ?_⟩⟩
    obtain ⟨dxb, _, _, _, hxb, _⟩ := id Sx2.ex
    refine ⟨x2, dxb, _, rfl, hxb, rfl, _, rfl, hP, x2, q0, m, as[j].1, rfl, Sx2, hm, fun v2 hv2 => ?_⟩
    rw [← lk hj'] at hv2
    refine ⟨_, rfl, vdat (lkA as j m), vdat (lkA as i m), hv2, hvx, vdat_shaped (okl hj'), vdat_shaped (okl hi), _, rfl, ?_⟩
    rw [vdat_eqv]
    have es : sinceN as m (j + 1) = if lkA as j m = lkA as (j + 1) m then sinceN as m j else j + 1 := rfl
    rw [hjv] at es
    by_cases e : lkA as j m = lkA as i m
    · rw [decide_eq_true e]
      rw [if_pos e] at es
      refine iteT ?_
      refine ⟨fun σ' H' => H' = H2 ∧ σ' = [some (.ref b), some (.ref q0), some (.int i), some v, some (.int (j : Nat))], fun σ' H' ⟨e1, e2⟩ => ⟨j, Nat.lt_succ_self j, e1, e2, hj', e, by rw [← es]; exact hjs⟩, ?_⟩
      refine ⟨_, rfl, _, _, rfl, rfl, rfl, ?_⟩
      show [some (V.ref b), some (V.ref q0), some (V.int i), some v, some (V.int (((j + 1 : Nat) : Int) - 1))] = _
      rw [show ((j + 1 : Nat) : Int) - 1 = (j : Int) by omega]
    · rw [decide_eq_false e]
      rw [if_neg e] at es
      refine iteF ?_
      refine ⟨_, rfl, ?_⟩
      rw [← es, hjs]
      exact q
theorem sc_Book__since : FnScope ["self", "save"] ["self", "save"] (defScope s_Book__since) := ⟨rfl, rfl, rfl, by decide +kernel, rfl, by decide +kernel, by decide +kernel⟩
noncomputable abbrev Ok_Book__since (P : Program) (w : World) (K : PySem.W.Frag) (mg : Str → Option Value) (base : Heap) (A : Adr) : Prop := FnOk P w K mg base (CX1 P w base) 5 A.f_Book__since A.d_Book__since ["self", "save"] (sp_snc P w K A)
set_option maxHeartbeats 4000000 in
theorem ok_Book__since (T : Txt K mg A) (G_Sheet__lines : Ok_Sheet__lines P w K mg base A) (G_Book__lines : Ok_Book__lines P w K mg base A) (G_Book__first_so : Ok_Book__first_so P w K mg base A) : Ok_Book__since P w K mg base A := by
  have B_Sheet__lines := T.b_Sheet__lines
  have B_Book__lines := T.b_Book__lines
  have B_Book__first_so := T.b_Book__first_so
  refine T.F_Book__since.okX sc_Book__since (fun vs H Q E h => ?_) (fun cdv Ar outer s H vs Q E hr h => ?_)
  · obtain ⟨_, b, sl, zs, as, n, rfl, _⟩ := h
    rfl
  · obtain ⟨hP, b, sl, zs, as, n, rfl, B, q⟩ := h
    obtain ⟨dx, hb⟩ := id B.ob
    refine ⟨_, (pss_one (ps_ret (pe_compX _ ["mark", "words", "self", "save"] 2 [0, 1] wants_fn ⟨⟨_, _, _, rfl, rfl, rfl⟩⟩ rfl (pi_list (pe_meth (pv 0) T.cl_Book T.m_Book__lines G_Book__lines (hr.mono (by decide)) B_Book__lines .nil (Wants.passes wants_fn) (pa_cons (pv 1) pa_nil))) gk2 (fun _ _ _ _ _ => pg_tup rfl (pgs_cons (pg_name (i := 0) (show List.Nodup (["mark", "words", "self", "save"] : List Str) by decide +kernel) rfl (Or.inl rfl)) (pgs_cons (pg_name (i := 1) (show List.Nodup (["mark", "words", "self", "save"] : List Str) by decide +kernel) rfl (Or.inl rfl)) pgs_nil))) (fun _ _ _ _ _ => pif_nil) (fun _ _ _ _ _ hW => (pe_tup (pa_cons (pv 0) (pa_cons (pe_meth (pv 2) T.cl_Book T.m_Book__first_so G_Book__first_so (hr.mono (by decide)) B_Book__first_so .nil (Wants.passes hW) (pa_cons (pv 0) (pa_cons (pv 3) pa_nil))) pa_nil))))))), ?_⟩
    rcases q with ⟨i, a, rfl, hi, h00, q⟩ | ⟨hn, q⟩
    case inr => exact ⟨_, rfl, b, dx, _, rfl, hb, rfl, _, rfl, hP, b, sl, zs, as, _, rfl, B, .inr ⟨hn, q⟩⟩
    have hil := (List.getElem?_eq_some_iff.mp hi).1
    have ei : as[i] = a := by rw [List.getElem?_eq_getElem hil] at hi; exact Option.some.inj hi
    have okA : ∀ a ∈ as, ∀ x ∈ a.1, okV x.2 := fun a ha x hx => by
      obtain ⟨j, hj⟩ := List.getElem?_of_mem ha
      obtain ⟨z, _, t, x2, u, _, _, _, hs⟩ := pr_at B.pr hj
      exact hs.ok x hx
    refine ⟨_, rfl, b, dx, _, rfl, hb, rfl, _, rfl, hP, b, sl, zs, as, _, rfl, B, .inl ⟨i, a, rfl, hi, fun H1 l1 bs w1 n1 s1 P1 h1 pm pw hw => ?_⟩⟩
    obtain ⟨z0, _, t0, x0, u0, _, _, _, Sa⟩ := pr_at B.pr hi
    have hbl : bs.length < 250 := by have := (insOf_srt Sa.nd Sa.ok Sa.few).few; rw [pm.length_eq]; omega
    have hwl : w1.length = bs.length := by rw [hw.length, List.length_map]
    refine ⟨l1, rfl, ⟨_, SqL.of h1⟩, fun D hD => comp_gen (fun i => w1.getD i .non) (fun k y H => ∃ m, bs[k]? = some m ∧ DV K H (snD as i m) y) hD P1 (Nat.le_of_lt (small1000 (by omega))) (itl_ok (SqL.of h1)) ?_ ?_ ?_⟩
    · rintro k y Ha Hb ⟨m, hm, hy⟩ kk hz
      exact ⟨m, hm, DV.mono kk hz _ _ (by show (noL (markD m) && (true && true)) = true; rfl) hy⟩
    · intro k H4 R hk P4 S4 hR
      have hkb : k < bs.length := by omega
      obtain ⟨y, hy, hyd⟩ := hw.get (i := k) (d := lnD a.1 bs[k]) (by rw [List.getElem?_map, List.getElem?_eq_getElem hkb]; rfl)
      obtain ⟨t, q0, ey, hq, hm⟩ := lnD_of hyd
      have eg : w1.getD k .non = .ref t := by rw [List.getD_eq_getElem?_getD, hy, ey]; rfl
      rw [eg]
      have S14 := s1.trans S4
      have hv : lkA as i bs[k] ≠ none := fun z => by
        obtain ⟨m, hm, e⟩ := List.mem_map.mp (pm.mem_iff.mp (List.getElem_mem hkb))
        unfold lkA at z
        rw [getD_in hil, ei, ← e, look_in Sa.nd (List.mem_filter.mp hm).1] at z
        cases z
      refine ⟨t, _, rfl, S4.seqT hq, rfl, _, _, rfl, _, _, rfl, rfl, ?_⟩
      refine ⟨_, rfl, _, rfl, b, dx, _, rfl, S14 _ _ hb, rfl, _, rfl, _, rfl, P4, b, sl, q0, zs, as, bs[k], i, rfl, B.same S14, S4.seqT hm, hil, ?_, hv, okA, by show 2 ≤ sizeLine; decide, fun t2 h2 => ?_⟩
      · unfold lkA
        rw [List.getD_eq_getElem?_getD, h00]
        rfl
      · exact hR _ _ ⟨bs[k], List.getElem?_eq_getElem hkb, t2, _, rfl, SqT.of upd_same, _, _, rfl, mkV_dv ((S4.trans (same_upd h2)).seqT hm), _, _, rfl, rfl, rfl⟩ (same_upd h2) P4.tup
    · intro ys H4 hzl hzs hD4 S4 P4
      refine q H4 D bs ys (s1.free hD) (s1.trans S4) P4 hD4 pm pw ?_
      refine DVs.of (f := snD as i) (by omega) fun i v m hv hm => ?_
      obtain ⟨m', h1, h2⟩ := hzs i v hv
      rw [hm] at h1
      cases h1
      exact h2
theorem sc_Book__trail : FnScope ["self", "mark", "pairs", "before", "save", "sheet", "told", "version"] ["self", "mark"] (defScope s_Book__trail) := ⟨rfl, rfl, rfl, by decide +kernel, rfl, by decide +kernel, by decide +kernel⟩
noncomputable abbrev Ok_Book__trail (P : Program) (w : World) (K : PySem.W.Frag) (mg : Str → Option Value) (base : Heap) (A : Adr) : Prop := FnOk P w K mg base (CX1 P w base) 2 A.f_Book__trail A.d_Book__trail ["self", "mark"] (sp_trl P w K A)
set_option maxHeartbeats 4000000 in
theorem ok_Book__trail (T : Txt K mg A) (G_Sheet__version : Ok_Sheet__version P w K mg base A) : Ok_Book__trail P w K mg base A := by
  have B_Sheet__version := T.b_Sheet__version
  refine T.F_Book__trail.okN sc_Book__trail (fun vs H Q E h => ?_) (fun cdv Ar outer s H vs Q E hr h => ?_)
  · obtain ⟨_, b, sl, q0, zs, as, m, rfl, _⟩ := h
    rfl
  · obtain ⟨hP, b, sl, q0, zs, as, m, rfl, B, hm, few, q⟩ := h
    obtain ⟨dx, hb⟩ := id B.ob
    refine ⟨_, (pss_cons (ps_set (i := 2) sc_Book__trail.nd rfl (Or.inl rfl) (pe_lst pa_nil))
      (pss_cons (ps_set (i := 3) sc_Book__trail.nd rfl (Or.inl rfl) pe_non)
      (pss_cons (ps_for PassesOwn.never rfl (pi_enum rfl T.n_enumerate (by decide +kernel) (pa_cons (pe_fld (pv 0) rfl) pa_nil)) (pg_tup rfl (pgs_cons (pg_name (i := 4) sc_Book__trail.nd rfl (Or.inl rfl)) (pgs_cons (pg_tup rfl (pgs_cons (pg_name (i := 5) sc_Book__trail.nd rfl (Or.inl rfl)) (pgs_cons (pg_name (i := 6) sc_Book__trail.nd rfl (Or.inl rfl)) pgs_nil))) pgs_nil))) (pss_cons (ps_set (i := 7) sc_Book__trail.nd rfl (Or.inl rfl) (pe_meth (pv 5) T.cl_Sheet T.m_Sheet__version G_Sheet__version (hr.mono (by decide)) B_Sheet__version .nil pass1 (pa_cons (pv 1) pa_nil)))
      (pss_cons (ps_if (PW.pt (pw_and (pt_cmpR op_notN (pv 7) pe_non (nomark _)) (pw_and1 (pt_cmpR (op_neD hr.units) (pv 7) (pv 3) (nomark _))))) (pss_one (ps_expr (pe_bm PySem.F.plainAttrs_list PySem.F.slot_list_append PySem.F.type_list_append mt_append (pv 2) (pa_cons (pe_tup (pa_cons (pv 4) (pa_cons (pv 7) pa_nil))) pa_nil)))) pss_nil)
      (pss_one (ps_set (i := 3) sc_Book__trail.nd rfl (Or.inl rfl) (pv 7))))))
      (pss_one (ps_ret (pv 2)))))), ?_⟩
    have hz : zs.length = as.length := Paired.length B.pr
    have lk : ∀ {j : Nat} (h : j < as.length), lkA as j m = look as[j].1 m := fun h => by unfold lkA; rw [getD_in h]
    have okl : ∀ j, okO (lkA as j m) := fun j v e => by
      by_cases h : j < as.length
      · obtain ⟨z, _, t, x, u, _, _, _, Sx⟩ := pr_at B.pr (List.getElem?_eq_getElem h)
        exact Sx.ok _ (look_some (by rw [← lk h]; exact e))
      · unfold lkA at e
        rw [List.getD_eq_getElem?_getD, List.getElem?_eq_none (by omega)] at e
        cases e
    have okp : ∀ j, okO (prevL (fun k => lkA as k m) j) := fun j => by
      cases j with
      | zero => intro v e; cases e
      | succ j => exact okl j
    refine ⟨Nat.zero_le _, fun fl hfl => ?_⟩
    generalize hH1 : upd H fl (HO.lst _) = H1
    have s1 : Same H H1 := hH1 ▸ same_upd hfl
    have P1 : Plain H1 := hH1 ▸ hP.lst
    have h1 := (congrFun hH1 fl).symm.trans upd_same
    have nsf : sl ≠ fl := ne_of_none B.ls hfl
    have hf1 : ∃ zs, H1 fl = some (.lst zs) := ⟨_, h1⟩
    refine ⟨_, rfl, b, A.Book, dx, _, _, rfl, s1 _ _ hb, T.cl_Book, T.na_Book_saves, rfl, sl, rfl, ⟨_, SqL.of (s1 _ _ B.ls)⟩, for_enum (K := K) (a := sl) (xs := zs) (fun i σ H2 => ∃ (o4 o5 o6 o7 : Option V) (pv : V) (ys : List V), σ = [some (.ref b), some (.ref q0), some (.ref fl), some pv, o4, o5, o6, o7] ∧ Plain H2 ∧ (∀ c o, c ≠ fl → H1 c = some o → H2 c = some o) ∧ H2 fl = some (.lst ys) ∧ DVs K H2 ((trL (fun k => lkA as k m) i).map trD) ys ∧ ys.length ≤ i ∧ DV K H2 (vdat (prevL (fun k => lkA as k m) i)) pv)
      ⟨_, _, _, _, .non, [], rfl, P1, (fun c o _ e => e), h1, rfl, Nat.le_refl _, rfl⟩ (fun i σ H2 _ ⟨_, _, _, _, _, _, _, _, k, _⟩ => SqL.of (k _ _ nsf (s1 _ _ B.ls))) ?_ ?_⟩
    · rintro i x T' σ H3 hx ⟨o4, o5, o6, o7, pv, ys, rfl, P3, k3, f3, hys, hyl, hpv⟩ hT
      have hi : i < as.length := by have := (List.getElem?_eq_some_iff.mp hx).1; omega
      have B3 := (B.same s1).keep k3 hf1 nsf
      obtain ⟨z, hz1, t, xx, u, rfl, htt, hu, Sx⟩ := pr_at B3.pr (List.getElem?_eq_getElem hi)
      rw [hx] at hz1
      cases hz1
      have s4 : Same H3 (upd H3 T' (.tup [.int i, .ref t])) := same_upd hT
      refine ⟨T', _, rfl, SqT.of upd_same, rfl, _, _, rfl, _, _, rfl, t, _, rfl, s4.seqT htt, rfl, _, _, rfl, _, _, rfl, rfl, rfl, ?_⟩
      have P4 : Plain (upd H3 T' (.tup [.int i, .ref t])) := P3.tup
      have f4 := s4 _ _ f3
      generalize upd H3 T' (.tup [.int i, .ref t]) = H4 at s4 P4 f4 ⊢
      have Sx4 := Sx.same s4
      have hm4 := s4.seqT (seqT_mono k3 hf1 (s1.seqT hm))
      obtain ⟨dxa, _, _, _, hxa, _⟩ := id Sx4.ex
      refine ⟨_, rfl, xx, dxa, _, rfl, hxa, rfl, _, rfl, P4, xx, q0, m, as[i].1, rfl, Sx4, hm4, fun v hv => ?_⟩
      rw [← lk hi] at hv
      have k4 : ∀ c o, c ≠ fl → H1 c = some o → H4 c = some o := fun c o n e => s4 _ _ (k3 c o n e)
      have hys4 := DVs.same s4 _ _ hys
      have etr : trL (fun k => lkA as k m) (i + 1) = trL (fun k => lkA as k m) i ++ match lkA as i m with
        | none => []
        | some v => if prevL (fun k => lkA as k m) i = some v then [] else [(i, v)] := rfl
      cases e : lkA as i m with
      | none =>
        rw [e] at hv etr
        have ev : v = .non := hv
        refine ⟨_, rfl, rfl, _, rfl, iteNS ev (iteF ?_)⟩
        refine ⟨_, rfl, ?_⟩
        refine ⟨_, _, _, _, v, ys, rfl, P4, k4, f4, ?_, by omega, ?_⟩
        · rw [etr, List.append_nil]; exact hys4
        · show DV K H4 (vdat (lkA as i m)) v
          rw [e]; exact hv
      | some vv =>
        have hv' := hv
        rw [e] at hv
        obtain ⟨tv, pl, rfl, hqv, hpl⟩ := ver_of (show DV K H4 (ver vv) v from hv)
        refine ⟨_, rfl, rfl, _, rfl, iteNT (fun z => by cases z) ?_⟩
        refine ⟨_, rfl, _, rfl, vdat (lkA as i m), vdat (prevL (fun k => lkA as k m) i), hv', DV.same s4 _ _ hpv, vdat_shaped (okl i), vdat_shaped (okp i), _, rfl, ?_⟩
        rw [vdat_eqv]
        rw [e] at etr
        dsimp only at etr
        by_cases e2 : lkA as i m = prevL (fun k => lkA as k m) i
        · rw [decide_eq_true e2]
          refine iteF ?_
          refine ⟨_, rfl, ?_⟩
          refine ⟨_, _, _, _, _, ys, rfl, P4, k4, f4, ?_, by omega, hv'⟩
          rw [etr, if_pos (by rw [← e2]; exact e), List.append_nil]
          exact hys4
        · rw [decide_eq_false e2]
          refine iteT ?_
          refine ⟨_, rfl, .inl ⟨rfl, _, SqL.of f4⟩, _, rfl, _, rfl, by show 2 ≤ sizeLine; decide, fun t5 hp5 => ?_⟩
          have s5 : Same H4 (upd H4 t5 (.tup [.int i, .ref tv])) := same_upd hp5
          have P5 : Plain (upd H4 t5 (.tup [.int i, .ref tv])) := P4.tup
          have h5 : (upd H4 t5 (.tup [.int i, .ref tv])) t5 = some (.tup [.int i, .ref tv]) := upd_same
          generalize upd H4 t5 (.tup [.int i, .ref tv]) = H5 at s5 P5 h5 ⊢
          have f5 := s5 _ _ f4
          refine ⟨fl, ys, _, rfl, rfl, f5, small1000 (by omega), ?_⟩
          refine ⟨_, rfl, ?_⟩
          refine ⟨_, _, _, _, _, ys ++ [.ref t5], rfl, P5.lst, fun c o n e' => by rw [upd_ne n]; exact s5 _ _ (k4 c o n e'), upd_same, ?_, by rw [List.length_append, List.length_singleton]; omega, ?_⟩
          · refine dvs_other f5 (noT_lst _) _ _ (noLs_tr _) ?_
            rw [etr, if_neg (fun z => e2 (by rw [e]; exact z.symm)), List.map_append]
            exact (DVs.same s5 _ _ hys4).append ⟨_, _, rfl, ⟨t5, _, rfl, SqT.of h5, _, _, rfl, rfl, _, _, rfl, DV.same s5 _ _ hv, rfl⟩, rfl⟩
          · show DV K _ (vdat (lkA as i m)) _
            rw [e]
            exact dv_other f5 (noT_lst _) _ _ (noL_ver vv) (DV.same s5 _ _ hv)
    rintro σ H3 ⟨o4, o5, o6, o7, pv, ys, rfl, P3, k3, f3, hys, hyl, hpv⟩
    rw [hz] at hys
    exact ⟨_, rfl, q fl ys H3 hfl (fun c o e => k3 c o (ne_of_none e hfl) (s1 _ _ e)) P3 f3 hys⟩
theorem sc__law_digits : FnScope ["_law_cell", "_law_place", "_law_found", "_law_seed", "_law_k"] ["_law_cell", "_law_place"] (defScope s__law_digits) := ⟨rfl, rfl, rfl, by decide +kernel, rfl, by decide +kernel, by decide +kernel⟩
noncomputable abbrev Ok__law_digits (P : Program) (w : World) (K : PySem.W.Frag) (mg : Str → Option Value) (base : Heap) (A : Adr) : Prop := FnOk P w K mg base (CX1 P w base) 1 A.f__law_digits A.d__law_digits ["_law_cell", "_law_place"] sp_digits
set_option maxHeartbeats 4000000 in
theorem ok__law_digits (T : Txt K mg A)  : Ok__law_digits P w K mg base A := by
  refine new_digits (T.F__law_digits.okN sc__law_digits (fun vs H Q E h => ?_) (fun cdv Ar outer s H vs Q E hr h => ?_))
  · obtain ⟨_, a, rfl, _⟩ := h
    rfl
  · obtain ⟨hp, ⟨c, p⟩, rfl, q⟩ := h
    refine ⟨_, (pss_cons (ps_set (i := 2) sc__law_digits.nd rfl (Or.inl rfl) (pe_lst pa_nil))
      (pss_cons (ps_if (pt_chain op_lt op_lt (pe_op op_sub pe_int pe_int) (pv 0) pe_int) (pss_cons (ps_set (i := 3) sc__law_digits.nd rfl (Or.inl rfl) (pe_op op_add (pe_op op_mul (pe_op op_add (pe_op op_mod (pv 0) pe_int) pe_int) pe_int) (pe_op op_mul (pe_op op_add (pe_op op_mod (pv 1) pe_int) pe_int) pe_int)))
      (pss_cons (ps_for PassesOwn.never rfl (pi_range1 rfl T.n_range (pa_cons pe_int pa_nil)) (pg_name (i := 4) sc__law_digits.nd rfl (Or.inl rfl)) (pss_cons (ps_set (i := 3) sc__law_digits.nd rfl (Or.inl rfl) (pe_op op_mod (pe_op op_mul (pv 3) pe_int) pe_int))
      (pss_one (ps_expr (pe_bm PySem.F.plainAttrs_list PySem.F.slot_list_append PySem.F.type_list_append mt_append (pv 2) (pa_cons (pe_op op_mod (pe_op op_fdiv (pv 3) pe_int) pe_int) pa_nil))))))
      (pss_one (ps_ret (pv 2))))) pss_nil)
      (pss_cons (ps_set (i := 3) sc__law_digits.nd rfl (Or.inl rfl) (pe_op op_mod (pv 0) (pe_op op_pow pe_int pe_int)))
      (pss_cons (ps_for PassesOwn.never rfl (pi_range1 rfl T.n_range (pa_cons pe_int pa_nil)) (pg_name (i := 4) sc__law_digits.nd rfl (Or.inl rfl)) (pss_cons (ps_expr (pe_bm PySem.F.plainAttrs_list PySem.F.slot_list_append PySem.F.type_list_append mt_append (pv 2) (pa_cons (pe_op op_mod (pv 3) pe_int) pa_nil)))
      (pss_one (ps_set (i := 3) sc__law_digits.nd rfl (Or.inl rfl) (pe_op op_fdiv (pv 3) pe_int)))))
      (pss_one (ps_ret (pv 2))))))), ?_⟩
    -- found = []
    refine ⟨Nat.zero_le _, fun l hl => ?_⟩
    -- 0 - 10000 < cell < 10000
    refine ⟨_, _, rfl, rfl, _, rfl, _, _, rfl, rfl, _, rfl, ?_⟩
    refine ite2d (fun h1 => ⟨_, _, rfl, rfl, _, rfl, ite2d (fun h2 => ?a) (fun h2 => ?b1)⟩) (fun h1 => ⟨_, rfl, iteF ?b2⟩)
    case a =>
      walk_at "rd"
      refine ⟨by decide, by decide, for_range (n := 8) (fun i σ H2 => ∃ (seed : Int) (ds : List Int) (k : Option V), σ = [some (.int c), some (.int p), some (.ref l), some (.int seed), k] ∧ H2 = upd H l (.lst (ds.map V.int)) ∧ ds.length = i ∧ ∀ d ∈ ds, Dig d)
        ⟨_, [], _, rfl, rfl, rfl, fun _ z => nomatch z⟩ ?_ ?_⟩
      · rintro i σ H2 hi ⟨seed, ds, k, rfl, rfl, hlen, hd⟩
        walk_at "rd"
        refine ⟨.inl ⟨rfl, _, SqL.of upd_same⟩, ?_⟩
        walk_at "rd"
        refine ⟨l, _, _, rfl, rfl, upd_same, small1000 (by rw [List.length_map]; omega), ?_⟩
        refine ⟨_, ds ++ [_], _, rfl, by rw [upd_upd, List.map_append]; rfl, by simp [hlen], fun d hd' => ?_⟩
        rcases List.mem_append.mp hd' with z | z
        · exact hd d z
        · rw [List.mem_singleton.mp z]; exact dig_mod _
      · rintro σ H2 ⟨seed, ds, k, rfl, rfl, hlen, hd⟩
        refine ⟨_, rfl, ?_⟩
        exact q l _ _ hl upd_same (eight hlen hd) (same_upd hl)
    case b1 | b2 =>
      walk_at "rd"
      refine ⟨by decide, by decide, for_range (n := 8) (fun i σ H2 => ∃ (seed : Int) (ds : List Int) (k : Option V), σ = [some (.int c), some (.int p), some (.ref l), some (.int seed), k] ∧ H2 = upd H l (.lst (ds.map V.int)) ∧ ds.length = i ∧ ∀ d ∈ ds, Dig d)
        ⟨_, [], _, rfl, rfl, rfl, fun _ z => nomatch z⟩ ?_ ?_⟩
      · rintro i σ H2 hi ⟨seed, ds, k, rfl, rfl, hlen, hd⟩
        walk_at "rd"
        refine ⟨.inl ⟨rfl, _, SqL.of upd_same⟩, ?_⟩
        walk_at "rd"
        refine ⟨l, _, _, rfl, rfl, upd_same, small1000 (by rw [List.length_map]; omega), ?_⟩
        walk_at "rd"
        refine ⟨_, ds ++ [_], _, rfl, by rw [upd_upd, List.map_append]; rfl, by simp [hlen], fun d hd' => ?_⟩
        rcases List.mem_append.mp hd' with z | z
        · exact hd d z
        · rw [List.mem_singleton.mp z]; exact dig_mod _
      · rintro σ H2 ⟨seed, ds, k, rfl, rfl, hlen, hd⟩
        refine ⟨_, rfl, ?_⟩
        exact q l _ _ hl upd_same (eight hlen hd) (same_upd hl)
theorem sc__law_signs : FnScope ["_law_small"] [] (defScope s__law_signs) := ⟨rfl, rfl, rfl, by decide +kernel, rfl, by decide +kernel, by decide +kernel⟩
noncomputable abbrev Ok__law_signs (P : Program) (w : World) (K : PySem.W.Frag) (mg : Str → Option Value) (base : Heap) (A : Adr) : Prop := FnOk P w K mg base (CX1 P w base) 1 A.f__law_signs A.d__law_signs [] sp_signs
set_option maxHeartbeats 4000000 in
theorem ok__law_signs (T : Txt K mg A)  : Ok__law_signs P w K mg base A := by
  refine FnOk.pure (T.F__law_signs.okN sc__law_signs (fun vs H Q E h => ?_) (fun cdv Ar outer s H vs Q E hr h => ?_))
  · obtain ⟨_, a, rfl, _⟩ := h
    rfl
  · obtain ⟨hp, _, rfl, q⟩ := h
    refine ⟨_, (pss_cons (ps_set (i := 0) sc__law_signs.nd rfl (Or.inl rfl) pe_str)
      (pss_one (ps_ret (pe_op op_add_str (pe_op op_add_str (pe_op op_add_str (pe_op op_add_str pe_str (pe_bm0 PySem.F.plainAttrs_str PySem.F.slot_str_upper PySem.F.type_str_upper mt_upper (pv 0))) pe_str) (pv 0)) pe_str)))), ?_⟩
    refine ⟨_, rfl, rfl, ⟨_, rfl, rfl, by decide +kernel, ?_⟩⟩
    refine ⟨_, _, rfl, rfl, by decide +kernel, _, _, rfl, rfl, by decide +kernel, ?_⟩
    refine ⟨_, rfl, _, _, rfl, rfl, by decide +kernel, _, _, rfl, rfl, by decide +kernel, ?_⟩
    exact q _ _ rfl (Same.refl _)
theorem sc__law_words : FnScope ["_law_one", "_law_other", "_law_signs_here"] ["_law_one", "_law_other"] (defScope s__law_words) := ⟨rfl, rfl, rfl, by decide +kernel, rfl, by decide +kernel, by decide +kernel⟩
noncomputable abbrev Ok__law_words (P : Program) (w : World) (K : PySem.W.Frag) (mg : Str → Option Value) (base : Heap) (A : Adr) : Prop := FnOk P w K mg base (CX1 P w base) 2 A.f__law_words A.d__law_words ["_law_one", "_law_other"] sp_words
set_option maxHeartbeats 4000000 in
theorem ok__law_words (T : Txt K mg A) (G__law_signs : Ok__law_signs P w K mg base A) : Ok__law_words P w K mg base A := by
  have B__law_signs := T.b__law_signs
  refine FnOk.pure (T.F__law_words.okN sc__law_words (fun vs H Q E h => ?_) (fun cdv Ar outer s H vs Q E hr h => ?_))
  · obtain ⟨_, a, rfl, _⟩ := h
    rfl
  · obtain ⟨hp, ⟨one, other⟩, rfl, q⟩ := h
    refine ⟨_, (pss_cons (ps_set (i := 2) sc__law_words.nd rfl (Or.inr rfl) (pe_call0 G__law_signs (hr.mono (by decide)) rfl T.g__law_signs T.k__law_signs B__law_signs .nil pass1))
      (pss_one (ps_ret (pe_bm PySem.F.plainAttrs_str PySem.F.slot_str_join PySem.F.type_str_join mt_join pe_str (pa_cons (pe_comp ["_law_k", "_law_one", "_law_other", "_law_signs_here"] 1 [0, 1, 2] rfl (pi_range1 rfl T.n_range (pa_cons (pe_op op_mod (pv 1) pe_int) pa_nil)) gk1 (fun _ _ _ _ _ => pg_name (i := 0) (show List.Nodup (["_law_k", "_law_one", "_law_other", "_law_signs_here"] : List Str) by decide +kernel) rfl (Or.inl rfl)) (fun _ _ _ _ _ => pif_nil) (fun _ _ _ _ _ => (pe_ix ix_str (pv 3) (pe_op op_mod (pe_op op_add (pv 1) (pe_op op_mul (pv 0) (pe_op op_add (pe_op op_fdiv (pv 2) pe_int) pe_int))) pe_int) (fun _ _ => rfl)))) pa_nil))))), ?_⟩
    refine ⟨hp, (), rfl, fun v hv => ?_⟩
    subst hv
    refine ⟨rfl, ?_⟩
    walk_at "rd"
    have h7 := Int.emod_nonneg other (show (7 : Int) ≠ 0 by decide)
    have h8 := Int.emod_lt_of_pos other (show (0 : Int) < 7 by decide)
    have hk : (other % 7).toNat ≤ 1000 := by omega
    refine ⟨by omega, by omega, fun D hD => comp_range (fun k => .str ⟨#[SIGNS.cps.toList.getD ((one + (0 + (k : Int)) * (other / 7 + 1)) % 94).toNat 0]⟩) (Nat.le_of_lt (small1000 hk)) ?_ ?_⟩
    · intro i H2 R hi hR
      walk_at "rd"
      refine ⟨Or.inl ⟨by omega, by omega⟩, ?_⟩
      walk_at "rd"
      refine ⟨_, _, _, rfl, rfl, by decide +kernel, atI_in (Int.emod_nonneg _ (by decide)) ?_, hR _ rfl⟩
      have e : SIGNS.cps.toList.length = 94 := by have := signs_len; simpa [Str.length] using this
      rw [e]
      exact Int.emod_lt_of_pos _ (by decide)
    · refine ⟨_, D, (List.range (other % 7).toNat).map fun (k : Nat) => ⟨#[SIGNS.cps.toList.getD ((one + (0 + (k : Int)) * (other / 7 + 1)) % 94).toNat 0]⟩, rfl, rfl, SqL.of (by rw [upd_same, List.map_map]; rfl), ?_, ?_⟩
      · rw [sum_ones fun _ => rfl]
        show (other % 7).toNat + _ * 0 ≤ 16777216
        omega
      · refine q _ _ ⟨_, rfl, ?_, ?_⟩ (same_upd hD)
        · have := len_join0 ((List.range (other % 7).toNat).map fun (k : Nat) => (⟨#[SIGNS.cps.toList.getD ((one + (0 + (k : Int)) * (other / 7 + 1)) % 94).toNat 0]⟩ : Str))
          rw [sum_ones fun _ => rfl] at this
          have e : (⟨#[]⟩ : Str) = "" := rfl
          rw [e] at this
          omega
        · refine all_join (by decide +kernel) fun p hp => ?_
          obtain ⟨k, _, rfl⟩ := List.mem_map.mp hp
          have := signs_ok ((one + (0 + (k : Int)) * (other / 7 + 1)) % 94).toNat
          simpa using this
theorem sc__law_version : FnScope ["_law_some", "_law_beat", "_law_steps", "_law_k"] ["_law_some"] (defScope s__law_version) := ⟨rfl, rfl, rfl, by decide +kernel, rfl, by decide +kernel, by decide +kernel⟩
noncomputable abbrev Ok__law_version (P : Program) (w : World) (K : PySem.W.Frag) (mg : Str → Option Value) (base : Heap) (A : Adr) : Prop := FnOk P w K mg base (CX1 P w base) 3 A.f__law_version A.d__law_version ["_law_some"] (sp_ver K)
set_option maxHeartbeats 4000000 in
theorem ok__law_version (T : Txt K mg A) (G__law_words : Ok__law_words P w K mg base A) : Ok__law_version P w K mg base A := by
  have B__law_words := T.b__law_words
  refine T.F__law_version.okN sc__law_version (fun vs H Q E h => ?_) (fun cdv Ar outer s H vs Q E hr h => ?_)
  · obtain ⟨_, a, ⟨rfl, _⟩, _⟩ := h
    rfl
  · obtain ⟨hp, l, ⟨rfl, hd⟩, q, _⟩ := h
    obtain ⟨d0, d1, d2, d3, d4, d5, d6, d7, hl, e0, e1, e2, e3, e4, e5, e6, e7⟩ := hd
    refine ⟨_, (pss_cons (ps_set (i := 1) sc__law_version.nd rfl (Or.inl rfl) (pe_op op_add (pe_op op_add pe_int (pe_op op_mod (pe_ix ix_list (pv 0) pe_int (fun _ _ => rfl)) pe_int)) (pe_op op_mul (pe_op op_mod (pe_op op_fdiv (pe_ix ix_list (pv 0) pe_int (fun _ _ => rfl)) pe_int) pe_int) (pe_op op_pow pe_int pe_int))))
      (pss_cons (ps_if (pt_cmpR op_eq (pe_op op_mod (pe_ix ix_list (pv 0) pe_int (fun _ _ => rfl)) pe_int) pe_int (nomark _)) (pss_one (ps_ret (pe_tup (pa_cons (pv 1) (pa_cons (pe_tup pa_nil) (pa_cons pe_str pa_nil)))))) pss_nil)
      (pss_cons (ps_set (i := 2) sc__law_version.nd rfl (Or.inl rfl) (pe_lst (pa_cons (pe_tup (pa_cons (pe_op op_sub (pe_op op_mod (pe_ix ix_list (pv 0) pe_int (fun _ _ => rfl)) pe_int) pe_int) (pa_cons (pe_op op_mod (pe_ix ix_list (pv 0) pe_int (fun _ _ => rfl)) pe_int) (pa_cons (pe_op op_add pe_int (pe_op op_mod (pe_op op_fdiv (pe_ix ix_list (pv 0) pe_int (fun _ _ => rfl)) pe_int) pe_int)) pa_nil)))) pa_nil)))
      (pss_cons (ps_for PassesOwn.never rfl (pi_range1 rfl T.n_range (pa_cons (pe_op op_mod (pe_op op_fdiv (pe_ix ix_list (pv 0) pe_int (fun _ _ => rfl)) pe_int) pe_int) pa_nil)) (pg_name (i := 3) sc__law_version.nd rfl (Or.inl rfl)) (pss_one (ps_expr (pe_bm PySem.F.plainAttrs_list PySem.F.slot_list_append PySem.F.type_list_append mt_append (pv 2) (pa_cons (pe_tup (pa_cons (pe_op op_sub (pe_op op_mod (pe_op op_fdiv (pe_ix ix_list (pv 0) pe_int (fun _ _ => rfl)) (pe_op op_add (pv 3) pe_int)) pe_int) pe_int) (pa_cons (pe_op op_add pe_int (pe_op op_mod (pe_op op_fdiv (pe_ix ix_list (pv 0) pe_int (fun _ _ => rfl)) (pe_op op_add (pv 3) pe_int)) pe_int)) (pa_cons (pe_op op_add pe_int (pe_op op_mod (pe_op op_fdiv (pe_ix ix_list (pv 0) pe_int (fun _ _ => rfl)) (pe_op op_add (pv 3) pe_int)) pe_int)) pa_nil)))) pa_nil)))))
      (pss_one (ps_ret (pe_tup (pa_cons (pv 1) (pa_cons (pe_callTy call_tuple_of rfl T.n_tuple (by decide +kernel) (pa_cons (pv 2) pa_nil)) (pa_cons (pe_call G__law_words (hr.mono (by decide)) rfl T.g__law_words T.k__law_words B__law_words .nil pass1 (pa_cons (pe_ix ix_list (pv 0) pe_int (fun _ _ => rfl)) (pa_cons (pe_ix ix_list (pv 0) pe_int (fun _ _ => rfl)) pa_nil))) pa_nil)))))))))), ?_⟩
    unfold Dig at *
    walk_at "rd"
    refine ⟨rfl, _, rfl, ite2d (fun _ => ?a) (fun _ => ?b)⟩
    case a =>
      dsimp only
      generalize 1 + d2 % 50 + d2 / 50 % 2 * 10 ^ Int.toNat 15 = b
      refine ⟨_, rfl, by show 0 ≤ sizeLine; decide, fun te hp2 => ?_⟩
      generalize hH2 : upd H te (HO.tup _) = H2
      have s2 : Same H H2 := hH2 ▸ same_upd hp2
      have P2 : Plain H2 := hH2 ▸ hp.tup
      have h2 := (congrFun hH2 te).symm.trans upd_same
      refine ⟨by show 3 ≤ sizeLine; decide, fun t hp3 => ?_⟩
      generalize hH3 : upd H2 t (HO.tup _) = H3
      have s3 : Same H2 H3 := hH3 ▸ same_upd hp3
      have P3 : Plain H3 := hH3 ▸ P2.tup
      have h3 := (congrFun hH3 t).symm.trans upd_same
      exact q _ _ ⟨(b, [], ""), ver_mk (v := (b, [], "")) (SqT.of h3) (DV.same s3 _ _ (empty_dv h2)), ok_lit "", by show 0 ≤ 6; decide⟩ (s2.trans s3) P3
    case b =>
      dsimp only
      generalize 1 + d2 % 50 + d2 / 50 % 2 * 10 ^ Int.toNat 15 = b
      walk_at "rd"
      refine ⟨by show 3 ≤ sizeLine; decide, fun t1 hp1 => ?_⟩
      dsimp only
      generalize d4 % 3 - 1 = r1
      generalize d5 % 3 = r2
      generalize 1 + d5 / 3 % 3 = r3
      generalize hH1 : upd H t1 (HO.tup _) = H1
      have s1 : Same H H1 := hH1 ▸ same_upd hp1
      have P1 : Plain H1 := hH1 ▸ hp.tup
      have h1 := (congrFun hH1 t1).symm.trans upd_same
      refine ⟨by show 1 ≤ sizeLine; decide, fun st hp4 => ?_⟩
      have S4 : Same H1 (upd H1 st (.lst [.ref t1])) := same_upd hp4
      have hl1 := s1 _ _ hl
      have hl4 := S4 _ _ hl1
      have z1 := Int.emod_nonneg (d4 / 3) (show (3 : Int) ≠ 0 by decide)
      have z2 := Int.emod_lt_of_pos (d4 / 3) (show (0 : Int) < 3 by decide)
      refine ⟨_, rfl, _, _, _, _, rfl, rfl, SqL.of hl4, rfl, _, _, rfl, rfl, ⟨by decide, by decide⟩, _, _, rfl, rfl, (by show (0 : Int) < 3; decide), _, rfl, by omega, by omega, for_range (lo := 0) (n := (d4 / 3 % 3).toNat) (fun i σ H2 => ∃ (k : Option V) (xs : List V) (ss : List Stp), σ = [some (.ref l), some (.int b), some (.ref st), k] ∧ Plain H2 ∧ Same H1 H2 ∧ H2 st = some (.lst xs) ∧ DVs K H2 (ss.map stp) xs ∧ ss.length = i + 1)
        ⟨_, [.ref t1], [(r1, r2, r3)], rfl, P1.lst, S4, upd_same, ⟨_, _, rfl, stp_mk (SqT.of (S4 _ _ h1)), rfl⟩, rfl⟩ ?_ ?_⟩
      · rintro i σ H2 hi ⟨k, xs, ss, rfl, hP2, hs2, hst, hds, hi2⟩
        have hl2 := hs2 _ _ hl1
        have hxl : xs.length = i + 1 := by rw [hds.length, List.length_map]; exact hi2
        have hi3 : i ≤ 2 := by omega
        refine ⟨_, rfl, .inl ⟨rfl, _, SqL.of hst⟩, ?_⟩
        refine ⟨_, rfl, _, _, _, _, rfl, rfl, SqL.of hl2, rfl, _, rfl, _, _, rfl, rfl, _, _, rfl, rfl, ⟨by show (0 : Int) < 0 + (i : Int) + 2; omega, by show 0 + (i : Int) + 2 < 1073741824; omega⟩, _, _, rfl, rfl, (by show (0 : Int) < 3; decide), _, _, rfl, rfl, ?_⟩
        refine ⟨_, rfl, _, _, _, _, rfl, rfl, SqL.of hl2, rfl, _, rfl, _, _, rfl, rfl, _, _, rfl, rfl, ⟨by show (0 : Int) < 0 + (i : Int) + 3; omega, by show 0 + (i : Int) + 3 < 1073741824; omega⟩, _, _, rfl, rfl, (by show (0 : Int) < 2; decide), _, _, rfl, rfl, ?_⟩
        refine ⟨_, rfl, _, _, _, _, rfl, rfl, SqL.of hl2, rfl, _, rfl, _, _, rfl, rfl, _, _, rfl, rfl, ⟨by show (0 : Int) < 0 + (i : Int) + 5; omega, by show 0 + (i : Int) + 5 < 1073741824; omega⟩, _, _, rfl, rfl, (by show (0 : Int) < 3; decide), _, _, rfl, rfl, by show 3 ≤ sizeLine; decide, fun t hp5 => ?_⟩
        dsimp only
        generalize d6 / (0 + (i : Int) + 2) % 3 - 1 = q1
        generalize 1 + d6 / (0 + (i : Int) + 3) % 2 = q2
        generalize 1 + d6 / (0 + (i : Int) + 5) % 3 = q3
        generalize hH5 : upd H2 t (HO.tup _) = H5
        have s5 : Same H2 H5 := hH5 ▸ same_upd hp5
        have P5 : Plain H5 := hH5 ▸ hP2.tup
        have h5 := (congrFun hH5 t).symm.trans upd_same
        have hst5 := s5 _ _ hst
        refine ⟨st, _, _, rfl, rfl, hst5, small1000 (by omega), ?_⟩
        refine ⟨_, xs ++ [.ref t], ss ++ [(q1, q2, q3)], rfl, P5.lst, ?_, upd_same, ?_, by simp [hi2]⟩
        · exact fun b' o' e => by rw [upd_ne (ne_of_none e hp4)]; exact s5 _ _ (hs2 b' o' e)
        · rw [List.map_append]
          refine DVs.mono (D := st) (fun b' o' hb' e => by rw [upd_ne hb']; exact e) ⟨_, hst5⟩ _ _ (by rw [← List.map_singleton, ← List.map_append]; exact noLs_stp _) ?_
          exact (DVs.same s5 _ _ hds).append ⟨_, _, rfl, stp_mk (SqT.of h5), rfl⟩
      · rintro σ H2 ⟨k, xs, ss, rfl, hP2, hs2, hst, hds, hi2⟩
        have hl2 := hs2 _ _ hl1
        refine ⟨_, rfl, _, rfl, st, xs, rfl, .inl ⟨SqL.of hst, fun pt hp6 => ?_⟩⟩
        generalize hH6 : upd H2 pt (HO.tup _) = H6
        have s6 : Same H2 H6 := hH6 ▸ same_upd hp6
        have P6 : Plain H6 := hH6 ▸ hP2.tup
        have h6 := (congrFun hH6 pt).symm.trans upd_same
        have hl6 := s6 _ _ hl2
        refine ⟨_, rfl, _, _, _, _, rfl, rfl, SqL.of hl6, rfl, _, rfl, _, _, _, _, rfl, rfl, SqL.of hl6, rfl, P6, (d6, d7), rfl, fun v hv => ?_⟩
        obtain ⟨z, rfl, hz, hok⟩ := hv
        refine ⟨by show 3 ≤ sizeLine; decide, fun t hp7 => ?_⟩
        generalize hH7 : upd H6 t (HO.tup _) = H7
        have s7 : Same H6 H7 := hH7 ▸ same_upd hp7
        have P7 : Plain H7 := hH7 ▸ P6.tup
        have h7 := (congrFun hH7 t).symm.trans upd_same
        refine q _ _ ⟨(b, ss, z), ver_mk (v := (b, ss, z)) (SqT.of h7) ⟨pt, xs, rfl, SqT.of (s7 _ _ h6), DVs.same (s6.trans s7) _ _ hds⟩, hok, hz⟩ (((s1.trans hs2).trans s6).trans s7) P7
theorem sc__law_on : FnScope ["_law_pairs_here", "_law_cells", "_law_by", "_law_versions", "_law_mark", "_law_version_here", "_law_j", "_law_cell", "_law_some"] ["_law_pairs_here", "_law_cells", "_law_by"] (defScope s__law_on) := ⟨rfl, rfl, rfl, by decide +kernel, rfl, by decide +kernel, by decide +kernel⟩
noncomputable abbrev Ok__law_on (P : Program) (w : World) (K : PySem.W.Frag) (mg : Str → Option Value) (base : Heap) (A : Adr) : Prop := FnOk P w K mg base (CX1 P w base) 4 A.f__law_on A.d__law_on ["_law_pairs_here", "_law_cells", "_law_by"] (sp_onn K)
set_option maxHeartbeats 4000000 in
theorem ok__law_on (T : Txt K mg A) (G__law_digits : Ok__law_digits P w K mg base A) (G__law_version : Ok__law_version P w K mg base A) : Ok__law_on P w K mg base A := by
  have B__law_digits := T.b__law_digits
  have B__law_version := T.b__law_version
  refine T.F__law_on.okN sc__law_on (fun vs H Q E h => ?_) (fun cdv Ar outer s H vs Q E hr h => ?_)
  · obtain ⟨_, p, c, by_, ws, xs, ms, rfl, _⟩ := h
    rfl
  · obtain ⟨hP, p, c, by_, ws, xs, ms, rfl, hp, hw, okm, bm, hc, hxi, fx, q⟩ := h
    have few : ms.length + xs.length < 64 := by have := box_few okm.2 bm; unfold mks at this; rw [List.length_map] at this; omega
    refine ⟨_, (pss_cons (ps_set (i := 3) sc__law_on.nd rfl (Or.inr rfl) (toE pe_mnew (show _ = tMNew P w from rfl)))
      (pss_cons (ps_for PassesOwn.never rfl (pi_list (pv 0)) (pg_tup rfl (pgs_cons (pg_name (i := 4) sc__law_on.nd rfl (Or.inl rfl)) (pgs_cons (pg_name (i := 5) sc__law_on.nd rfl (Or.inl rfl)) pgs_nil))) (pss_one (toS (ps_mput (hu_of hr) (pv 3) (pv 4) (pv 5) rfl) (show _ = sMPut P w K _ _ _ from rfl))))
      (pss_cons (ps_for PassesOwn.never rfl (pi_enum rfl T.n_enumerate (by decide +kernel) (pa_cons (pv 1) pa_nil)) (pg_tup rfl (pgs_cons (pg_name (i := 6) sc__law_on.nd rfl (Or.inl rfl)) (pgs_cons (pg_name (i := 7) sc__law_on.nd rfl (Or.inl rfl)) pgs_nil))) (pss_cons (ps_set (i := 8) sc__law_on.nd rfl (Or.inl rfl) (pe_call G__law_digits (hr.mono (by decide)) rfl T.g__law_digits T.k__law_digits B__law_digits .nil pass1 (pa_cons (pv 7) (pa_cons (pe_op op_add (pv 6) (pv 2)) pa_nil))))
      (pss_cons (ps_set (i := 4) sc__law_on.nd rfl (Or.inl rfl) (pe_tup (pa_cons (pe_op op_mod (pe_ix ix_list (pv 8) pe_int (fun _ _ => rfl)) pe_int) (pa_cons (pe_op op_add pe_int (pe_op op_mod (pe_ix ix_list (pv 8) pe_int (fun _ _ => rfl)) pe_int)) pa_nil))))
      (pss_cons (ps_if (PW.pt (pw_and (pt_cmpR (op_neE hr.u100) (pv 3) (toE pe_mnew (show _ = tMNew P w from rfl)) (nomark _)) (pw_and1 (pt_cmpR op_eq (pe_op op_mod (pe_ix ix_list (pv 8) pe_int (fun _ _ => rfl)) pe_int) pe_int (nomark _))))) (pss_one (ps_set (i := 4) sc__law_on.nd rfl (Or.inl rfl) (pe_ix ix_list (pe_callB (call_sortedK rfl hr.u100) rfl T.n_sorted (by decide +kernel) (pa_cons (pv 3) pa_nil)) (pe_op op_mod (pe_ix ix_list (pv 8) pe_int (fun _ _ => rfl)) (pe_callB call_lenM rfl T.n_len (by decide +kernel) (pa_cons (pv 3) pa_nil))) (fun _ _ => rfl)))) pss_nil)
      (pss_cons (ps_set (i := 5) sc__law_on.nd rfl (Or.inl rfl) (pe_call G__law_version (hr.mono (by decide)) rfl T.g__law_version T.k__law_version B__law_version .nil pass1 (pa_cons (pv 8) pa_nil)))
      (pss_cons (ps_if (PW.pt (pw_and (pt_cmpR op_eq (pe_op op_mod (pe_ix ix_list (pv 8) pe_int (fun _ _ => rfl)) pe_int) pe_int (nomark _)) (pw_and1 (pt_cmpR (op_inM (hu_of hr)) (pv 4) (pv 3) (by rfl))))) (pss_one (ps_set (i := 5) sc__law_on.nd rfl (Or.inl rfl) (pe_tup (pa_cons (pe_op op_add (pe_ix ix_tup (pe_ix (ix_M (hu_of hr)) (pv 3) (pv 4) (fun _ _ => rfl)) pe_int (fun _ _ => rfl)) (pe_op op_mod (pe_ix ix_list (pv 8) pe_int (fun _ _ => rfl)) pe_int)) (pa_cons (pe_ix ix_tup (pe_ix (ix_M (hu_of hr)) (pv 3) (pv 4) (fun _ _ => rfl)) pe_int (fun _ _ => rfl)) (pa_cons (pe_ix ix_tup (pe_ix (ix_M (hu_of hr)) (pv 3) (pv 4) (fun _ _ => rfl)) pe_int (fun _ _ => rfl)) pa_nil)))))) pss_nil)
      (pss_one (toS (ps_mput (hu_of hr) (pv 3) (pv 4) (pv 5) rfl) (show _ = sMPut P w K _ _ _ from rfl)))))))))
      (pss_one (ps_ret (pe_comp ["_law_mark", "_law_versions"] 1 [3] rfl (pi_list (pe_callB (call_sortedK rfl hr.u100) rfl T.n_sorted (by decide +kernel) (pa_cons (pv 3) pa_nil))) gk1 (fun _ _ _ _ _ => pg_name (i := 0) (show List.Nodup (["_law_mark", "_law_versions"] : List Str) by decide +kernel) rfl (Or.inl rfl)) (fun _ _ _ _ _ => pif_nil) (fun _ _ _ _ _ => (pe_tup (pa_cons (pv 0) (pa_cons (pe_ix (ix_MK (P := P) (w := w) (K := K) rfl rfl rfl (hu_of hr)) (pv 1) (pv 0) (fun _ _ => rfl)) pa_nil)))))))))), ?_⟩
    refine fun d o hd0 => ?_
    have s1 : Same H (upd H d (dO P w d [] o)) := same_upd hd0
    have P1 : Plain (upd H d (dO P w d [] o)) := Plain.ext hP
    have h1 : (upd H d (dO P w d [] o)) d = some (dO P w d [] o) := upd_same
    generalize upd H d (dO P w d [] o) = H1 at s1 P1 h1 ⊢
    have hwl : ws.length = ms.length := by rw [hw.length, List.length_map]
    refine ⟨_, rfl, p, rfl, ⟨_, s1.seq hp⟩, for_list (K := K) (a := p) (xs := ws) (fun i σ H2 => ∃ (o4 o5 o6 o7 o8 : Option V) (es : List Ent) (ob : Obj) (ns : Sh), σ = [some (.ref p), some (.ref c), some (.int by_), some (.ref d), o4, o5, o6, o7, o8] ∧ Plain H2 ∧ Same H H2 ∧ H2 d = some (dO P w d es ob) ∧ EnS K H2 es ns ∧ okSh ns ∧ ns.length ≤ i ∧ ∀ m, m ∈ mks ns ↔ m ∈ mks (ms.take i))
      ⟨_, _, _, _, _, [], o, [], rfl, P1, s1, h1, .nil, ⟨(fun m h => by cases h), List.nodup_nil⟩, Nat.le_refl _, fun m => Iff.rfl⟩ (fun i σ H2 _ ⟨_, _, _, _, _, _, _, _, _, _, s, _⟩ => s.seq hp) ?_ ?_⟩
    · rintro i y σ H2 hy ⟨o4, o5, o6, o7, o8, es, ob, ns, rfl, P2, S2, hd2, he2, okn, hnl, hmem⟩
      have hi : i < ms.length := by have := (List.getElem?_eq_some_iff.mp hy).1; omega
      obtain ⟨y', hy', hyd⟩ := (DVs.same S2 _ _ hw).get (i := i) (d := prD ms[i]) (by rw [List.getElem?_map, List.getElem?_eq_getElem hi]; rfl)
      rw [hy] at hy'
      cases hy'
      obtain ⟨t, q1, vx, rfl, ht, hq1, hvx⟩ := prD_of hyd
      refine ⟨t, _, rfl, ht, rfl, _, _, rfl, _, _, rfl, rfl, ?_⟩
      have ky : ∀ e ∈ es, SqT K H2 e.2.1 (mkV e.1) := fun e h => (ens_val he2 e h).1
      have hel : es.length = ns.length := Paired.length he2
      refine ⟨_, rfl, _, rfl, _, rfl, d, es, q1, ms[i].1, rfl, ⟨⟨ob, hd2⟩, ky⟩, rfl, hq1, small1000 (by omega), fun o' => ?_⟩
      have hl' := putS_len ns ms[i].1 ms[i].2
      exact ⟨_, _, _, _, _, putM es ms[i].1 q1 vx, o', putS ns ms[i].1 ms[i].2, rfl, Plain.ext P2, fun b z e => by rw [upd_ne (ne_of_none e hd0)]; exact S2 _ _ e, upd_same, ens_upd hd2 (ens_putS he2 hq1 hvx), ⟨putS_ok okn.1 _ (okm.1 _ (List.getElem_mem hi)), putS_nd okn.2 _ _⟩, by omega, fun m => by
        rw [List.take_succ_eq_append_getElem hi]
        exact putS_iff.trans ((or_congr Iff.rfl (hmem m)).trans (Or.comm.trans (mks_snoc _ _ _).symm))⟩
    rintro σ H2 ⟨o4, o5, o6, o7, o8, es2, ob2, ns2, rfl, P2, S2, hd2, he2, okn2, hnl2, hmem2⟩
    rw [hwl, List.take_length] at hmem2
    refine ⟨_, rfl, c, rfl, ⟨_, SqL.of (S2 _ _ hc)⟩, for_enum (K := K) (a := c) (xs := xs) (fun i σ H3 => ∃ (o4 o5 o6 o7 o8 : Option V) (es : List Ent) (ob : Obj) (ns : Sh), σ = [some (.ref p), some (.ref c), some (.int by_), some (.ref d), o4, o5, o6, o7, o8] ∧ Plain H3 ∧ Same H H3 ∧ H3 d = some (dO P w d es ob) ∧ EnS K H3 es ns ∧ okSh ns ∧ ns.length ≤ ms.length + i ∧ inBox (mks ns) ∧ ∀ m ∈ mks ms, m ∈ mks ns)
      ⟨_, _, _, _, _, es2, ob2, ns2, rfl, P2, S2, hd2, he2, okn2, by omega, fun k hk => bm k ((hmem2 k).mp hk), fun m hm => (hmem2 m).mpr hm⟩ (fun i σ H3 _ ⟨_, _, _, _, _, _, _, _, _, _, s, _⟩ => SqL.of (s _ _ hc)) ?_ ?_⟩
    · rintro i x T' σ H3 hx ⟨o4, o5, o6, o7, o8, es, ob, ns, rfl, P3, S3, hd3, he3, okn, hnl, bn, hMx⟩ hT
      obtain ⟨cell, rfl⟩ := hxi x (List.mem_of_getElem? hx)
      have hix : i < xs.length := (List.getElem?_eq_some_iff.mp hx).1
      have hel : es.length = ns.length := Paired.length he3
      refine ⟨T', _, rfl, SqT.of upd_same, rfl, _, _, rfl, _, _, rfl, rfl, ?_⟩
      refine ⟨_, rfl, _, rfl, _, rfl, _, _, rfl, rfl, P3.tup, (cell, (i : Int) + by_), rfl, fun l ol hl ho => ?_⟩
      obtain ⟨d0, d1, d2, d3, d4, d5, d6, d7, rfl, e0, e1, e2, e3, e4, e5, e6, e7⟩ := ho
      have P4 : Plain (upd (upd H3 T' (.tup [.int i, .int cell])) l (.lst [.int d0, .int d1, .int d2, .int d3, .int d4, .int d5, .int d6, .int d7])) := P3.tup.lst
      have s4 : Same H3 (upd (upd H3 T' (.tup [.int i, .int cell])) l (.lst [.int d0, .int d1, .int d2, .int d3, .int d4, .int d5, .int d6, .int d7])) := (same_upd hT).trans (same_upd hl)
      have hl4 : (upd (upd H3 T' (.tup [.int i, .int cell])) l (.lst [.int d0, .int d1, .int d2, .int d3, .int d4, .int d5, .int d6, .int d7])) l = some (.lst [.int d0, .int d1, .int d2, .int d3, .int d4, .int d5, .int d6, .int d7]) := upd_same
      generalize upd (upd H3 T' (.tup [.int i, .int cell])) l (.lst [.int d0, .int d1, .int d2, .int d3, .int d4, .int d5, .int d6, .int d7]) = H4 at P4 s4 hl4 ⊢
      have dig : ∀ H', H' l = some (.lst [.int d0, .int d1, .int d2, .int d3, .int d4, .int d5, .int d6, .int d7]) → digL l H' := fun H' s => ⟨d0, d1, d2, d3, d4, d5, d6, d7, s, e0, e1, e2, e3, e4, e5, e6, e7⟩
      walk_at "rd"
      refine ⟨by show 2 ≤ sizeLine; decide, fun t hp5 => ?_⟩
      dsimp only
      obtain ⟨m, hm⟩ : ∃ m : Mark, m = (d0 % 4, 1 + d1 % 9) := ⟨_, rfl⟩
      have a0 := Int.emod_nonneg d0 (show (4 : Int) ≠ 0 by decide)
      have a1 := Int.emod_lt_of_pos d0 (show (0 : Int) < 4 by decide)
      have b0 := Int.emod_nonneg d1 (show (9 : Int) ≠ 0 by decide)
      have b1 := Int.emod_lt_of_pos d1 (show (0 : Int) < 9 by decide)
      have hmb : m ∈ boxM 4 10 := by
        rw [hm]
        exact mem_box (by show (0 : Int) ≤ d0 % 4; omega) (by show d0 % 4 < 4; omega) (by show (0 : Int) ≤ 1 + d1 % 9; omega) (by show 1 + d1 % 9 < 10; omega)
      have hmv : [V.int (d0 % 4), V.int (1 + d1 % 9)] = mkV m := by rw [hm]; rfl
      rw [hmv]
      generalize hH5 : upd H4 t (HO.tup _) = H5
      have s5 : Same H4 H5 := hH5 ▸ same_upd hp5
      have P5 : Plain H5 := hH5 ▸ P4.tup
      have h5 := (congrFun hH5 t).symm.trans upd_same
      have S35 : Same H3 H5 := s4.trans s5
      apply join2 (α := Addr) (β := Hp) (ok := fun q' H' => Plain H' ∧ Same H5 H' ∧ ∃ m', SqT K H' q' (mkV m') ∧ m' ∈ boxM 4 10)
      · intro go
        refine ⟨_, rfl, fun nd no hnd => ?_⟩
        have s6 : Same H5 (upd H5 nd (dO P w nd [] no)) := same_upd hnd
        have P6 : Plain (upd H5 nd (dO P w nd [] no)) := Plain.ext P5
        have h6 : (upd H5 nd (dO P w nd [] no)) nd = some (dO P w nd [] no) := upd_same
        generalize upd H5 nd (dO P w nd [] no) = H6 at s6 P6 h6 ⊢
        have hd6 := s6 _ _ (S35 _ _ hd3)
        have S36 := S35.trans s6
        refine ⟨d, nd, es, ob, no, rfl, rfl, hd6, h6, _, rfl, ?_⟩
        by_cases hes : es = []
        · rw [decide_eq_true hes]
          refine iteF (iteF ?_)
          obtain ⟨z, hz⟩ : ∃ z, z = t := ⟨_, rfl⟩
          rw [← hz]
          exact go z H6 ⟨P6, s6, m, by rw [hz]; exact SqT.of (s6 _ _ h5), hmb⟩
        · rw [decide_eq_false hes]
          refine iteT ?_
          have hl6 := s6 _ _ (s5 _ _ hl4)
          refine ⟨_, rfl, _, _, _, _, rfl, rfl, SqL.of hl6, rfl, _, _, rfl, rfl, (by show (0 : Int) < 2; decide), rfl, _, rfl, ite2d (fun _ => ?_) (fun _ => ?_)⟩
          · have hep : 0 < es.length := List.length_pos_iff.mpr hes
            refine ⟨_, rfl, d, es, ob, rfl, hd6, (fun e h => S36.seqT (ens_val he3 e h).1), (by rw [ens_marks he3]; exact okn.2), by omega, fun sl ks ws2 hsl pmk pwk hwk => ?_⟩
            have s7 : Same H6 (upd H6 sl (.lst ws2)) := same_upd hsl
            have P7 : Plain (upd H6 sl (.lst ws2)) := P6.lst
            have h7 : (upd H6 sl (.lst ws2)) sl = some (.lst ws2) := upd_same
            generalize upd H6 sl (.lst ws2) = H7 at s7 P7 h7 ⊢
            have y1 := Int.emod_nonneg d1 (show (es.length : Int) ≠ 0 by omega)
            have y2 := Int.emod_lt_of_pos d1 (show (0 : Int) < (es.length : Int) by omega)
            obtain ⟨jn, hjn⟩ : ∃ jn : Nat, d1 % (es.length : Int) = jn := ⟨(d1 % (es.length : Int)).toNat, by omega⟩
            have hkl : ks.length = es.length := by rw [pmk.length_eq, List.length_map]
            have hjl : jn < ks.length := by omega
            obtain ⟨z, hz, hzd⟩ := (DVs.same s7 _ _ hwk).get (i := jn) (d := L2.markD ks[jn]) (by rw [List.getElem?_map, List.getElem?_eq_getElem hjl]; rfl)
            obtain ⟨q1, rfl, hq1⟩ := mark_of hzd
            refine ⟨_, rfl, _, _, _, _, rfl, rfl, SqL.of (s7 _ _ hl6), rfl, _, rfl, d, es, ob, rfl, s7 _ _ hd6, _, _, rfl, rfl, (by show (0 : Int) < (es.length : Int); omega), sl, ws2, _, _, rfl, rfl, SqL.of h7, (by show atI ws2 (d1 % (es.length : Int)) = _; rw [hjn]; exact atI_nat hz), ?_⟩
            exact go q1 H7 ⟨P7, s6.trans s7, ks[jn], hq1, bn _ (show ks[jn] ∈ List.map (·.1) ns by rw [← ens_marks he3]; exact pmk.mem_iff.mp (List.getElem_mem hjl))⟩
          · exact go t H6 ⟨P6, s6, m, SqT.of (s6 _ _ h5), hmb⟩
      rintro q1 H6 ⟨P6, s6, m1, hm1, hm1b⟩
      have S36 := S35.trans s6
      have hl6 := s6 _ _ (s5 _ _ hl4)
      refine ⟨_, rfl, P6, l, ⟨rfl, dig _ hl6⟩, fun x H7 hx7 s7 P7 => ?_, fun _ _ h => h.elim⟩
      obtain ⟨v, hv7, okv, hvl⟩ := hx7
      have S37 := S36.trans s7
      have hl7 := s7 _ _ hl6
      have hd7 := S37 _ _ hd3
      have he7 := ens_same S37 he3
      have hm7 := s7.seqT hm1
      have ky7 : ∀ e ∈ es, SqT K H7 e.2.1 (mkV e.1) := fun e h => (ens_val he7 e h).1
      apply join2 (α := V) (β := Hp) (ok := fun y H' => Plain H' ∧ Same H7 H' ∧ ∃ v', DV K H' (ver v') y ∧ okV v')
      · intro go
        refine ⟨_, rfl, _, _, _, _, rfl, rfl, SqL.of hl7, rfl, _, _, rfl, rfl, (by show (0 : Int) < 5; decide), rfl, _, rfl, ite2d (fun _ => ?a) (fun _ => ?b)⟩
        case b =>
          refine iteF ?_
          obtain ⟨z, hz⟩ : ∃ z, z = x := ⟨_, rfl⟩
          obtain ⟨Hz, hHz⟩ : ∃ Hz, Hz = H7 := ⟨_, rfl⟩
          rw [← hz, ← hHz]
          exact go z Hz ⟨by rw [hHz]; exact P7, by rw [hHz]; exact Same.refl _, v, by rw [hHz, hz]; exact hv7, okv⟩
        refine ⟨_, rfl, _, rfl, q1, m1, d, es, rfl, hm7, rfl, ⟨⟨ob, hd7⟩, ky7⟩, _, rfl, ?_⟩
        cases hfm : findM es m1 with
        | none => exact iteF (go x H7 ⟨P7, Same.refl _, v, hv7, okv⟩)
        | some z =>
          refine iteT ?_
          obtain ⟨v0, hv0, hz0⟩ := ens_has he7 okn.2 hfm
          obtain ⟨tv, pvv, rfl, hqv, hplc⟩ := ver_of hz0
          refine ⟨_, rfl, _, rfl, d, es, q1, m1, _, rfl, ⟨⟨ob, hd7⟩, ky7⟩, rfl, hm7, hfm, tv, _, _, _, rfl, rfl, hqv, rfl, ?_⟩
          refine ⟨_, rfl, _, _, _, _, rfl, rfl, SqL.of hl7, rfl, _, _, rfl, rfl, (by show (0 : Int) < 3; decide), _, _, rfl, rfl, ?_⟩
          refine ⟨_, rfl, _, rfl, d, es, q1, m1, _, rfl, ⟨⟨ob, hd7⟩, ky7⟩, rfl, hm7, hfm, tv, _, _, _, rfl, rfl, hqv, rfl, ?_⟩
          refine ⟨_, rfl, _, rfl, d, es, q1, m1, _, rfl, ⟨⟨ob, hd7⟩, ky7⟩, rfl, hm7, hfm, tv, _, _, _, rfl, rfl, hqv, rfl, ?_⟩
          refine ⟨by show 3 ≤ sizeLine; decide, fun t9 hp9 => ?_⟩
          dsimp only
          generalize hH9 : upd H7 t9 (HO.tup _) = H9
          have s9 : Same H7 H9 := hH9 ▸ same_upd hp9
          have P9 : Plain H9 := hH9 ▸ P7.tup
          have h9 := (congrFun hH9 t9).symm.trans upd_same
          obtain ⟨y, hy⟩ : ∃ y, y = V.ref t9 := ⟨_, rfl⟩
          rw [← hy]
          exact go y H9 ⟨P9, s9, (v0.1 + d4 % 3, v0.2), by rw [hy]; exact ver_mk (v := (v0.1 + d4 % 3, v0.2)) (SqT.of h9) (DV.same s9 _ _ hplc), okn.1 _ hv0⟩
      rintro x8 H8 ⟨P8, s8, v8, hv8, okv8⟩
      have S38 := S37.trans s8
      have hl8 := s8 _ _ hl7
      have hd8 := S38 _ _ hd3
      have he8 := ens_same S38 he3
      have hm8 := s8.seqT hm7
      have ky8 : ∀ e ∈ es, SqT K H8 e.2.1 (mkV e.1) := fun e h => (ens_val he8 e h).1
      refine ⟨_, rfl, _, rfl, _, rfl, d, es, q1, m1, rfl, ⟨⟨ob, hd8⟩, ky8⟩, rfl, hm8, small1000 (by omega), fun o9 => ?_⟩
      obtain ⟨ns', hns'⟩ : ∃ ns', ns' = putS ns m1 v8 := ⟨_, rfl⟩
      have he' : EnS K H8 (putM es m1 q1 x8) ns' := by rw [hns']; exact ens_putS he8 hm8 hv8
      have nd' : (mks ns').Nodup := by rw [hns']; exact putS_nd okn.2 _ _
      have ok' : ∀ n ∈ ns', okV n.2 := by rw [hns']; exact putS_ok okn.1 _ okv8
      have hl' : ns'.length ≤ ns.length + 1 := by rw [hns']; exact putS_len _ _ _
      have bn' : inBox (mks ns') := fun k hk => by
        rw [hns'] at hk
        rcases putS_mem hk with rfl | hk
        · exact hm1b
        · exact bn _ hk
      have hMx' : ∀ m ∈ mks ms, m ∈ mks ns' := fun m hm => by rw [hns', putS_iff]; exact .inr (hMx m hm)
      have nld : l ≠ d := ne_of hl8 hd8 (by intro z; cases z)
      have P9 : Plain (upd H8 d (dO P w d (putM es m1 q1 x8) o9)) := Plain.ext P8
      have hd9 : (upd H8 d (dO P w d (putM es m1 q1 x8) o9)) d = some (dO P w d (putM es m1 q1 x8) o9) := upd_same
      have he9 := ens_upd (x := dO P w d (putM es m1 q1 x8) o9) hd8 he'
      have hm9 : SqT K (upd H8 d (dO P w d (putM es m1 q1 x8) o9)) q1 (mkV m1) := sqT_other hd8 (noT_ext _) hm8
      have hl9 : (upd H8 d (dO P w d (putM es m1 q1 x8) o9)) l = some (.lst [.int d0, .int d1, .int d2, .int d3, .int d4, .int d5, .int d6, .int d7]) := by rw [upd_ne nld]; exact hl8
      have S9 : Same H (upd H8 d (dO P w d (putM es m1 q1 x8) o9)) := fun b z e => by rw [upd_ne (ne_of_none e hd0)]; exact S38 _ _ (S3 _ _ e)
      generalize upd H8 d (dO P w d (putM es m1 q1 x8) o9) = H9 at P9 hd9 he9 hm9 hl9 S9 ⊢
      have ky9 : ∀ e ∈ putM es m1 q1 x8, SqT K H9 e.2.1 (mkV e.1) := fun e h => (ens_val he9 e h).1
      have hel9 : (putM es m1 q1 x8).length = ns'.length := Paired.length he9
      exact ⟨_, _, _, _, _, putM es m1 q1 x8, o9, ns', rfl, P9, S9, hd9, he9, ⟨ok', nd'⟩, by omega, bn', hMx'⟩
    rintro σ H3 ⟨o4, o5, o6, o7, o8, es, ob, ns, rfl, P3, S3, hd3, he3, okn, hnl, bn, hMx⟩
    have hel : es.length = ns.length := Paired.length he3
    have emk := ens_marks he3
    refine ⟨_, rfl, d, es, ob, rfl, hd3, (fun e h => (ens_val he3 e h).1), (by rw [emk]; exact okn.2), by omega, fun sl ks ws2 hsl pmk pwk hwk => ?_⟩
    have s4 : Same H3 (upd H3 sl (.lst ws2)) := same_upd hsl
    have P4 : Plain (upd H3 sl (.lst ws2)) := P3.lst
    have h4 : (upd H3 sl (.lst ws2)) sl = some (.lst ws2) := upd_same
    generalize upd H3 sl (.lst ws2) = H4 at s4 P4 h4 ⊢
    have S4 := S3.trans s4
    have hw4 := DVs.same s4 _ _ hwk
    have hkl : ks.length = ns.length := by rw [pmk.length_eq, List.length_map, hel]
    have hwl2 : ws2.length = ks.length := by rw [hw4.length, List.length_map]
    have pmn : ks.Perm (List.map (·.1) ns) := by rw [← emk]; exact pmk
    have hin : ∀ (i : Nat) (h : i < ks.length), ∃ v, (ks[i], v) ∈ ns := fun i h => mem_mks (pmn.mem_iff.mp (List.getElem_mem h))
    refine ⟨sl, rfl, ⟨_, SqL.of h4⟩, fun D hD => comp_gen (fun i => ws2.getD i .non) (fun i y H => ∀ m, (toSh ns ks)[i]? = some m → DV K H (prD m) y) hD P4 (n := ws2.length) (Nat.le_of_lt (small1000 (by omega))) (itl_ok (SqL.of h4)) ?_ ?_ ?_⟩
    · exact fun i y Ha Hb h k hz m e => DV.mono k hz _ _ (by have := noLs_pr [m]; rw [List.map_cons, noLs, Bool.and_eq_true] at this; exact this.1) (h m e)
    · intro i H5 R hi P5 S5 hR
      have hic : i < ks.length := by omega
      obtain ⟨y, hy, hyd⟩ := hw4.get (i := i) (d := L2.markD ks[i]) (by rw [List.getElem?_map, List.getElem?_eq_getElem hic]; rfl)
      obtain ⟨q1, ey, hm⟩ := mark_of hyd
      have eg : ws2.getD i .non = .ref q1 := by rw [List.getD_eq_getElem?_getD, hy, ey]; rfl
      rw [eg]
      obtain ⟨v, hv⟩ := hin i hic
      have he5 := ens_same (s4.trans S5) he3
      obtain ⟨z, hf, hz⟩ := ens_find he5 okn.2 hv
      have hm5 := S5.seqT hm
      refine ⟨_, rfl, _, rfl, _, rfl, d, es, q1, ks[i], z, rfl, ⟨⟨ob, S5 _ _ (s4 _ _ hd3)⟩, fun e h => (ens_val he5 e h).1⟩, rfl, hm5, hf, by show 2 ≤ sizeLine; decide, fun t hp6 => ?_⟩
      have s6 : Same H5 (upd H5 t (.tup [.ref q1, z])) := same_upd hp6
      refine hR _ _ (fun m e => ?_) s6 P5.tup
      have em : m = (ks[i], v) := by
        unfold toSh at e
        rw [List.getElem?_map, List.getElem?_eq_getElem hic] at e
        have e := Option.some.inj e
        rw [← e]
        show (ks[i], (look ns ks[i]).getD (0, [], "")) = _
        rw [show look ns ks[i] = some v from look_in okn.2 hv]
        rfl
      rw [em]
      exact ⟨t, _, rfl, SqT.of upd_same, _, _, rfl, mkV_dv (s6.seqT hm5), _, _, rfl, DV.same s6 _ _ hz, rfl⟩
    · intro zs H5 hzl hzs hD5 S5 P5
      have pms := toSh_perm okn.2 pmn
      have mko : ∀ k, k ∈ mks (toSh ns ks) ↔ k ∈ mks ns := fun k => (pms.map (fun x : Mark × Ver => x.1)).mem_iff
      refine q D zs (toSh ns ks) H5 ((S4).free hD) (S4.trans S5) P5 hD5 ?_ ⟨fun m h => okn.1 m (pms.mem_iff.mp h), (show (List.map (fun x : Mark × Ver => x.1) (toSh ns ks)).Nodup from (pms.map (fun x : Mark × Ver => x.1)).nodup_iff.mpr okn.2)⟩ (toSh_pw pwk) (fun k hk => bn k ((mko k).mp hk)) fun m hm => (mko m).mpr (hMx m hm)
      refine DVs.of (f := prD) (by rw [hzl, hwl2]; unfold toSh; rw [List.length_map]) fun i v m hv hm => hzs i v hv m hm
theorem sc__law_table : FnScope ["_law_pairs_here", "_law_found", "_law_mark", "_law_version_here"] ["_law_pairs_here"] (defScope s__law_table) := ⟨rfl, rfl, rfl, by decide +kernel, rfl, by decide +kernel, by decide +kernel⟩
noncomputable abbrev Ok__law_table (P : Program) (w : World) (K : PySem.W.Frag) (mg : Str → Option Value) (base : Heap) (A : Adr) : Prop := FnOk P w K mg base (CX1 P w base) 1 A.f__law_table A.d__law_table ["_law_pairs_here"] (sp_tbl P w K)
set_option maxHeartbeats 4000000 in
theorem ok__law_table (T : Txt K mg A)  : Ok__law_table P w K mg base A := by
  refine T.F__law_table.okN sc__law_table (fun vs H Q E h => ?_) (fun cdv Ar outer s H vs Q E hr h => ?_)
  · obtain ⟨_, p, ws, ms, rfl, _⟩ := h
    rfl
  · obtain ⟨hP, p, ws, ms, rfl, hp, hw, okm, few, q⟩ := h
    refine ⟨_, (pss_cons (ps_set (i := 1) sc__law_table.nd rfl (Or.inl rfl) (toE pe_mnew (show _ = tMNew P w from rfl)))
      (pss_cons (ps_for PassesOwn.never rfl (pi_list (pv 0)) (pg_tup rfl (pgs_cons (pg_name (i := 2) sc__law_table.nd rfl (Or.inl rfl)) (pgs_cons (pg_name (i := 3) sc__law_table.nd rfl (Or.inl rfl)) pgs_nil))) (pss_one (toS (ps_mput (hu_of hr) (pv 1) (pv 2) (pv 3) rfl) (show _ = sMPut P w K _ _ _ from rfl))))
      (pss_one (ps_ret (pv 1))))), ?_⟩
    refine fun d o hd0 => ?_
    have s1 : Same H (upd H d (dO P w d [] o)) := same_upd hd0
    have P1 : Plain (upd H d (dO P w d [] o)) := Plain.ext hP
    have h1 : (upd H d (dO P w d [] o)) d = some (dO P w d [] o) := upd_same
    generalize upd H d (dO P w d [] o) = H1 at s1 P1 h1 ⊢
    have hwl : ws.length = ms.length := by rw [hw.length, List.length_map]
    refine ⟨_, rfl, p, rfl, ⟨_, s1.seq hp⟩, for_list (K := K) (a := p) (xs := ws) (fun i σ H2 => ∃ (o2 o3 : Option V) (es : List Ent) (ob : Obj) (ns : Sh), σ = [some (.ref p), some (.ref d), o2, o3] ∧ Plain H2 ∧ Same H H2 ∧ H2 d = some (dO P w d es ob) ∧ EnS K H2 es ns ∧ okSh ns ∧ ns.length ≤ i ∧ ∀ k, look ns k = lookF (fun _ => none) (allG (ms.take i)) k)
      ⟨_, _, [], o, [], rfl, P1, s1, h1, .nil, ⟨(fun m h => by cases h), List.nodup_nil⟩, Nat.le_refl _, fun k => rfl⟩ (fun i σ H2 _ ⟨_, _, _, _, _, _, _, s, _⟩ => s.seq hp) ?_ ?_⟩
    · rintro i y σ H2 hy ⟨o2, o3, es, ob, ns, rfl, P2, S2, hd2, he2, okn, hnl, hlk⟩
      have hi : i < ms.length := by have := (List.getElem?_eq_some_iff.mp hy).1; omega
      obtain ⟨y', hy', hyd⟩ := (DVs.same S2 _ _ hw).get (i := i) (d := prD ms[i]) (by rw [List.getElem?_map, List.getElem?_eq_getElem hi]; rfl)
      rw [hy] at hy'
      cases hy'
      obtain ⟨t, q1, vx, rfl, ht, hq1, hvx⟩ := prD_of hyd
      refine ⟨t, _, rfl, ht, rfl, _, _, rfl, _, _, rfl, rfl, ?_⟩
      have ky : ∀ e ∈ es, SqT K H2 e.2.1 (mkV e.1) := fun e h => (ens_val he2 e h).1
      have hel : es.length = ns.length := Paired.length he2
      refine ⟨_, rfl, _, rfl, _, rfl, d, es, q1, ms[i].1, rfl, ⟨⟨ob, hd2⟩, ky⟩, rfl, hq1, small1000 (by omega), fun o' => ?_⟩
      have hl' := putS_len ns ms[i].1 ms[i].2
      exact ⟨_, _, putM es ms[i].1 q1 vx, o', putS ns ms[i].1 ms[i].2, rfl, Plain.ext P2, fun b z e => by rw [upd_ne (ne_of_none e hd0)]; exact S2 _ _ e, upd_same, ens_upd hd2 (ens_putS he2 hq1 hvx), ⟨putS_ok okn.1 _ (okm.1 _ (List.getElem_mem hi)), putS_nd okn.2 _ _⟩, by omega, fun k => by
        rw [putS_look, hlk, List.take_succ_eq_append_getElem hi]
        unfold allG
        rw [List.map_append, List.map_singleton, lookF_snoc]⟩
    rintro σ H2 ⟨o2, o3, es, ob, ns, rfl, P2, S2, hd2, he2, okn, hnl, hlk⟩
    rw [hwl, List.take_length] at hlk
    exact ⟨_, rfl, q d es ob ns H2 hd0 S2 P2 hd2 he2 okn (by omega) fun k => (hlk k).trans (allG_look okm.2 k)⟩
theorem sc__law_back : FnScope ["_law_pairs_here", "_law_rows", "_law_some", "_law_found", "_law_elder", "_law_mark"] ["_law_pairs_here", "_law_rows", "_law_some"] (defScope s__law_back) := ⟨rfl, rfl, rfl, by decide +kernel, rfl, by decide +kernel, by decide +kernel⟩
noncomputable abbrev Ok__law_back (P : Program) (w : World) (K : PySem.W.Frag) (mg : Str → Option Value) (base : Heap) (A : Adr) : Prop := FnOk P w K mg base (CX1 P w base) 2 A.f__law_back A.d__law_back ["_law_pairs_here", "_law_rows", "_law_some"] (sp_bck K)
set_option maxHeartbeats 4000000 in
theorem ok__law_back (T : Txt K mg A) (G__law_table : Ok__law_table P w K mg base A) : Ok__law_back P w K mg base A := by
  have B__law_table := T.b__law_table
  refine T.F__law_back.okN sc__law_back (fun vs H Q E h => ?_) (fun cdv Ar outer s H vs Q E hr h => ?_)
  · obtain ⟨_, p, rl, sm, N, ws, rs, ms, mss, d0, d1, d2, d3, d4, d5, d6, d7, rfl, _⟩ := h
    rfl
  · obtain ⟨hP, p, rl, sm, N, ws, rs, ms, mss, d0, d1, d2, d3, d4, d5, d6, d7, rfl, hp, hw, okm, bm, hrl, hrs, pos, hsm, q⟩ := h
    refine ⟨_, (pss_cons (ps_set (i := 3) sc__law_back.nd rfl (Or.inr rfl) (pe_call G__law_table (hr.mono (by decide)) rfl T.g__law_table T.k__law_table B__law_table .nil pass1 (pa_cons (pv 0) pa_nil)))
      (pss_cons (ps_set (i := 4) sc__law_back.nd rfl (Or.inl rfl) (pe_call G__law_table (hr.mono (by decide)) rfl T.g__law_table T.k__law_table B__law_table .nil pass1 (pa_cons (pe_ix ix_list (pv 1) (pe_op op_mod (pe_ix ix_list (pv 2) pe_int (fun _ _ => rfl)) (pe_callB call_len_seq rfl T.n_len (by decide +kernel) (pa_cons (pv 1) pa_nil))) (fun _ _ => rfl)) pa_nil)))
      (pss_cons (ps_for PassesOwn.never rfl (pi_keys (pv 4)) (pg_name (i := 5) sc__law_back.nd rfl (Or.inl rfl)) (pss_one (ps_if (pt_cmpR op_eq (pe_op op_mod (pe_op op_add (pe_ix ix_list (pv 2) pe_int (fun _ _ => rfl)) (pe_ix ix_tup (pv 5) pe_int (fun _ _ => rfl))) pe_int) pe_int (nomark _)) (pss_one (toS (ps_mput (hu_of hr) (pv 3) (pv 5) (pe_ix (ix_M (hu_of hr)) (pv 4) (pv 5) (fun _ _ => rfl)) rfl) (show _ = sMPut P w K _ _ _ from rfl))) pss_nil)))
      (pss_one (ps_ret (pe_comp ["_law_mark", "_law_found"] 1 [3] rfl (pi_list (pe_callB (call_sortedK rfl hr.u100) rfl T.n_sorted (by decide +kernel) (pa_cons (pv 3) pa_nil))) gk1 (fun _ _ _ _ _ => pg_name (i := 0) (show List.Nodup (["_law_mark", "_law_found"] : List Str) by decide +kernel) rfl (Or.inl rfl)) (fun _ _ _ _ _ => pif_nil) (fun _ _ _ _ _ => (pe_tup (pa_cons (pv 0) (pa_cons (pe_ix (ix_MK (P := P) (w := w) (K := K) rfl rfl rfl (hu_of hr)) (pv 1) (pv 0) (fun _ _ => rfl)) pa_nil)))))))))), ?_⟩
    have few : ms.length ≤ 40 := by have := box_few okm.2 bm; unfold mks at this; rw [List.length_map] at this; exact this
    have hz : rs.length = mss.length := Paired.length hrs
    refine ⟨_, rfl, hP, p, ws, ms, rfl, hp, hw, okm, by omega, fun d es0 ob0 ns0 H1 n1 s1 P1 hd1 he1 ok1 nl1 lk1 => ?_⟩
    have y1 := Int.emod_nonneg d4 (show (rs.length : Int) ≠ 0 by omega)
    have y2 := Int.emod_lt_of_pos d4 (show (0 : Int) < (rs.length : Int) by omega)
    obtain ⟨jn, hjn⟩ : ∃ jn : Nat, d4 % (rs.length : Int) = jn := ⟨(d4 % (rs.length : Int)).toNat, by omega⟩
    have hjm : jn < mss.length := by omega
    obtain ⟨z, hz1, l3, rfl, w3, nl3, hl3, hw3, ok3, srt3, bx3⟩ := pr_at hrs (List.getElem?_eq_getElem hjm)
    have few3 : mss[jn].1.length ≤ 40 := by have := box_few ok3.2 bx3; unfold mks at this; rw [List.length_map] at this; exact this
    refine ⟨_, rfl, _, rfl, _, _, _, _, rfl, rfl, SqL.of (s1 _ _ hsm), rfl, _, rfl, rl, rs, rfl, .inl (s1.seq hrl), _, _, rfl, rfl, (by show (0 : Int) < (rs.length : Int); omega), rl, rs, _, _, rfl, rfl, s1.seq hrl, (by show atI rs (d4 % (rs.length : Int)) = _; rw [hjn]; exact atI_nat hz1), ?_⟩
    refine ⟨P1, l3, w3, mss[jn].1, rfl, SqL.of (s1 _ _ hl3), DVs.same s1 _ _ hw3, ok3, by omega, fun e2 es2 ob2 ns2 H2 n2 s2 P2 hd2 he2 ok2 nl2 lk2 => ?_⟩
    have nde : d ≠ e2 := ne_of_none hd1 n2
    have S2 := s1.trans s2
    have mk0 : ∀ k, k ∈ mks ns0 ↔ k ∈ mks ms := fun k => by
      have := lk1 k
      constructor <;> intro h <;> refine Classical.byContradiction fun n => ?_
      · obtain ⟨x, hx, rfl⟩ := List.mem_map.mp h
        rw [look_no' n, look_in ok1.2 hx] at this
        cases this
      · obtain ⟨x, hx, rfl⟩ := List.mem_map.mp h
        rw [look_no' n, look_in okm.2 hx] at this
        cases this
    have mk2 : ∀ k, k ∈ mks ns2 → k ∈ mks mss[jn].1 := fun k h => Classical.byContradiction fun n => by
      obtain ⟨x, hx, rfl⟩ := List.mem_map.mp h
      have := lk2 x.1
      rw [look_no' n, look_in ok2.2 hx] at this
      cases this
    refine ⟨_, rfl, e2, es2, ob2, rfl, hd2, for_keys (P := P) (w := w) (a := e2) (es := es2) (o := ob2) (fun i σ H3 => ∃ (o5 : Option V) (es : List Ent) (ob : Obj) (ns : Sh), σ = [some (.ref p), some (.ref rl), some (.ref sm), some (.ref d), some (.ref e2), o5] ∧ Plain H3 ∧ Same H H3 ∧ H3 d = some (dO P w d es ob) ∧ H3 e2 = some (dO P w e2 es2 ob2) ∧ EnS K H3 es2 ns2 ∧ EnS K H3 es ns ∧ okSh ns ∧ inBox (mks ns))
      ⟨_, es0, ob0, ns0, rfl, P2, S2, s2 _ _ hd1, hd2, he2, ens_same s2 he1, ok1, fun k hk => bm k ((mk0 k).mp hk)⟩ (fun i σ H3 _ ⟨_, _, _, _, _, _, _, _, h, _⟩ => h) ?_ ?_⟩
    · rintro i e σ H3 hei ⟨o5, es, ob, ns, rfl, P3, S3, hd3, he23, he2', he3, okn, bn⟩
      have hmem := List.mem_of_getElem? hei
      obtain ⟨hq1, v, hv, hvd⟩ := ens_val he2' e hmem
      have fn : ns.length ≤ 40 := by have := box_few okn.2 bn; unfold mks at this; rw [List.length_map] at this; exact this
      have hel : es.length = ns.length := Paired.length he3
      have hmk : e.1 ∈ mks ns2 := List.mem_map_of_mem (f := fun x : Mark × Ver => x.1) hv
      refine ⟨_, rfl, _, _, _, _, rfl, rfl, SqL.of (S3 _ _ hsm), rfl, _, rfl, e.2.1, _, _, _, rfl, rfl, hq1, rfl, _, _, rfl, rfl, _, _, rfl, rfl, (by show (0 : Int) < 3; decide), rfl, _, rfl, ite2d (fun _ => ?yes) (fun _ => ?no)⟩
      case no => exact ⟨_, es, ob, ns, rfl, P3, S3, hd3, he23, he2', he3, okn, bn⟩
      obtain ⟨z, hf, hzd⟩ := ens_find he2' ok2.2 hv
      have D2 : DM P w K H3 e2 es2 := ⟨⟨ob2, he23⟩, fun e h => (ens_val he2' e h).1⟩
      have D3 : DM P w K H3 d es := ⟨⟨ob, hd3⟩, fun e h => (ens_val he3 e h).1⟩
      refine ⟨_, rfl, _, rfl, e2, es2, e.2.1, e.1, z, rfl, D2, rfl, hq1, hf, _, rfl, _, rfl, d, es, e.2.1, e.1, rfl, D3, rfl, hq1, small1000 (by omega), fun o' => ?_⟩
      refine ⟨_, putM es e.1 e.2.1 z, o', putS ns e.1 v, rfl, Plain.ext P3, fun b y h => by rw [upd_ne (ne_of_none h n1)]; exact S3 _ _ h, upd_same, by rw [upd_ne nde.symm]; exact he23, ens_upd hd3 he2', ens_upd hd3 (ens_putS he3 hq1 hzd), ⟨putS_ok okn.1 _ (ok2.1 _ hv), putS_nd okn.2 _ _⟩, fun k hk => ?_⟩
      rcases putS_mem hk with rfl | hk
      · exact bx3 _ (mk2 _ hmk)
      · exact bn _ hk
    rintro σ H3 ⟨o5, es, ob, ns, rfl, P3, S3, hd3, he23, he2', he3, okn, bn⟩
    have fn : ns.length ≤ 40 := by have := box_few okn.2 bn; unfold mks at this; rw [List.length_map] at this; exact this
    have hel : es.length = ns.length := Paired.length he3
    have emk := ens_marks he3
    refine ⟨_, rfl, d, es, ob, rfl, hd3, (fun e h => (ens_val he3 e h).1), (by rw [emk]; exact okn.2), by omega, fun sl ks ws2 hsl pmk pwk hwk => ?_⟩
    have s4 : Same H3 (upd H3 sl (.lst ws2)) := same_upd hsl
    have P4 : Plain (upd H3 sl (.lst ws2)) := P3.lst
    have h4 : (upd H3 sl (.lst ws2)) sl = some (.lst ws2) := upd_same
    generalize upd H3 sl (.lst ws2) = H4 at s4 P4 h4 ⊢
    have S4 := S3.trans s4
    have hw4 := DVs.same s4 _ _ hwk
    have hkl : ks.length = ns.length := by rw [pmk.length_eq, List.length_map, hel]
    have hwl2 : ws2.length = ks.length := by rw [hw4.length, List.length_map]
    have pmn : ks.Perm (List.map (·.1) ns) := by rw [← emk]; exact pmk
    have hin : ∀ (i : Nat) (h : i < ks.length), ∃ v, (ks[i], v) ∈ ns := fun i h => mem_mks (pmn.mem_iff.mp (List.getElem_mem h))
    refine ⟨sl, rfl, ⟨_, SqL.of h4⟩, fun D hD => comp_gen (fun i => ws2.getD i .non) (fun i y H => ∀ m, (toSh ns ks)[i]? = some m → DV K H (prD m) y) hD P4 (n := ws2.length) (Nat.le_of_lt (small1000 (by omega))) (itl_ok (SqL.of h4)) ?_ ?_ ?_⟩
    · exact fun i y Ha Hb h k hz m e => DV.mono k hz _ _ (by have := noLs_pr [m]; rw [List.map_cons, noLs, Bool.and_eq_true] at this; exact this.1) (h m e)
    · intro i H5 R hi P5 S5 hR
      have hic : i < ks.length := by omega
      obtain ⟨y, hy, hyd⟩ := hw4.get (i := i) (d := L2.markD ks[i]) (by rw [List.getElem?_map, List.getElem?_eq_getElem hic]; rfl)
      obtain ⟨q1, ey, hm⟩ := mark_of hyd
      have eg : ws2.getD i .non = .ref q1 := by rw [List.getD_eq_getElem?_getD, hy, ey]; rfl
      rw [eg]
      obtain ⟨v, hv⟩ := hin i hic
      have he5 := ens_same (s4.trans S5) he3
      obtain ⟨z, hf, hz⟩ := ens_find he5 okn.2 hv
      have hm5 := S5.seqT hm
      refine ⟨_, rfl, _, rfl, _, rfl, d, es, q1, ks[i], z, rfl, ⟨⟨ob, S5 _ _ (s4 _ _ hd3)⟩, fun e h => (ens_val he5 e h).1⟩, rfl, hm5, hf, by show 2 ≤ sizeLine; decide, fun t hp6 => ?_⟩
      have s6 : Same H5 (upd H5 t (.tup [.ref q1, z])) := same_upd hp6
      refine hR _ _ (fun m e => ?_) s6 P5.tup
      have em : m = (ks[i], v) := by
        unfold toSh at e
        rw [List.getElem?_map, List.getElem?_eq_getElem hic] at e
        have e := Option.some.inj e
        rw [← e]
        show (ks[i], (look ns ks[i]).getD (0, [], "")) = _
        rw [show look ns ks[i] = some v from look_in okn.2 hv]
        rfl
      rw [em]
      exact ⟨t, _, rfl, SqT.of upd_same, _, _, rfl, mkV_dv (s6.seqT hm5), _, _, rfl, DV.same s6 _ _ hz, rfl⟩
    · intro zs H5 hzl hzs hD5 S5 P5
      have pms := toSh_perm okn.2 pmn
      have mko : ∀ k, k ∈ mks (toSh ns ks) ↔ k ∈ mks ns := fun k => (pms.map (fun x : Mark × Ver => x.1)).mem_iff
      refine q D zs (toSh ns ks) H5 ((S4).free hD) (S4.trans S5) P5 hD5 ?_ ⟨fun m h => okn.1 m (pms.mem_iff.mp h), (show (List.map (fun x : Mark × Ver => x.1) (toSh ns ks)).Nodup from (pms.map (fun x : Mark × Ver => x.1)).nodup_iff.mpr okn.2)⟩ (toSh_pw pwk) (fun k hk => bn k ((mko k).mp hk))
      refine DVs.of (f := prD) (by rw [hzl, hwl2]; unfold toSh; rw [List.length_map]) fun i v m hv hm => hzs i v hv m hm
theorem sc__law_least : FnScope ["_law_tables", "_law_save", "_law_mark", "_law_found", "_law_k"] ["_law_tables", "_law_save", "_law_mark"] (defScope s__law_least) := ⟨rfl, rfl, rfl, by decide +kernel, rfl, by decide +kernel, by decide +kernel⟩
noncomputable abbrev Ok__law_least (P : Program) (w : World) (K : PySem.W.Frag) (mg : Str → Option Value) (base : Heap) (A : Adr) : Prop := FnOk P w K mg base (CX1 P w base) 1 A.f__law_least A.d__law_least ["_law_tables", "_law_save", "_law_mark"] (sp_lst P w K)
set_option maxHeartbeats 4000000 in
theorem ok__law_least (T : Txt K mg A)  : Ok__law_least P w K mg base A := by
  refine T.F__law_least.okN sc__law_least (fun vs H Q E h => ?_) (fun cdv Ar outer s H vs Q E hr h => ?_)
  · obtain ⟨_, tl, q0, ts, ms, i, m, rfl, _⟩ := h
    rfl
  · obtain ⟨hP, tl, q0, ts, ms, i, m, rfl, hl, hts, hm, hi, few, hv, q⟩ := h
    refine ⟨_, (pss_cons (ps_set (i := 3) sc__law_least.nd rfl (Or.inl rfl) (pv 1))
      (pss_cons (ps_for PassesOwn.never rfl (pi_rangeZ rfl T.n_range (pa_cons (pe_op op_sub (pv 1) pe_int) (pa_cons (pe_op op_sub pe_int pe_int) (pa_cons (pe_op op_sub pe_int pe_int) pa_nil)))) (pg_name (i := 4) sc__law_least.nd rfl (Or.inl rfl)) (pss_cons (ps_if (pt_cmpR (op_neD hr.units) (pe_mget (hu_of hr) (pe_ix ix_list (pv 0) (pv 4) (fun _ _ => rfl)) (pv 2)) (pe_ix (ix_M (hu_of hr)) (pe_ix ix_list (pv 0) (pv 1) (fun _ _ => rfl)) (pv 2) (fun _ _ => rfl)) (nomark _)) (pss_one (ps_ret (pv 3))) pss_nil)
      (pss_one (ps_set (i := 3) sc__law_least.nd rfl (Or.inl rfl) (pv 4)))))
      (pss_one (ps_ret (pv 3))))), ?_⟩
    have hz : ts.length = ms.length := Paired.length hts
    have tab : ∀ {j : Nat}, j < ms.length → ∃ (d : Addr) (es : List Ent), ts[j]? = some (.ref d) ∧ DM P w K H d es ∧ DV K H (vdat (lkA ms j m)) ((findM es m).getD .non) ∧ okO (lkA ms j m) ∧ (lkA ms j m ≠ none → ∃ z, findM es m = some z) := fun {j} h => by
      obtain ⟨z, hz1, d, es, o, ns, rfl, hd, he, ok, _, lk⟩ := pr_at hts (List.getElem?_eq_getElem h)
      have e : lkA ms j m = look ns m := by unfold lkA; rw [getD_in h, lk]
      refine ⟨d, es, hz1, ⟨⟨o, hd⟩, fun e h => (ens_val he e h).1⟩, by rw [e]; exact look_find he m, fun v hv => ok.1 _ (look_some (by rw [← e]; exact hv)), fun hn => ?_⟩
      rw [e] at hn
      cases e2 : look ns m with
      | none => exact absurd e2 hn
      | some v =>
        obtain ⟨z, hf, _⟩ := ens_find he ok.2 (look_some e2)
        exact ⟨z, hf⟩
    have en : numZ (-1) ((i : Int) - 1) (0 - 1) = i := by
      unfold numZ Builtin.Range.rangeSize
      rw [if_neg (by decide)]
      show (if (i : Int) - 1 > -1 then ((i : Int) - 1 - -1 - 1) / 1 + 1 else 0).toNat = i
      rw [Int.ediv_one]
      split <;> omega
    refine ⟨_, rfl, _, rfl, _, _, rfl, rfl, _, _, rfl, rfl, _, _, rfl, rfl, -1, (i : Int) - 1, 0 - 1, rfl, .inr (.inr (.inr rfl)), ⟨by omega, by omega, by decide, by decide⟩, for_rangeZ (z := -1) (lo := (i : Int) - 1) (n := numZ (-1) ((i : Int) - 1) (0 - 1)) (fun t σ H2 => H2 = H ∧ ∃ (o4 : Option V), σ = [some (.ref tl), some (.int i), some (.ref q0), some (.int ((i : Int) - t)), o4] ∧ lkA ms (i - t) m = lkA ms i m ∧ sinceN ms m (i - t) = sinceN ms m i)
      ⟨rfl, _, by rw [show (i : Int) - ((0 : Nat) : Int) = i by omega]; rfl, rfl, rfl⟩ ?_ ?_⟩
    · rintro t σ H2 ht ⟨rfl, o4, rfl, hlk, hsn⟩
      rw [en] at ht
      obtain ⟨j, hj⟩ : ∃ j : Nat, i - t = j + 1 := ⟨i - t - 1, by omega⟩
      have ej : (i : Int) - 1 + (t : Int) * -1 = (j : Nat) := by omega
      rw [ej]
      rw [hj] at hlk hsn
      have hjm : j < ms.length := by omega
      obtain ⟨d1, es1, hd1, D1, v1, ok1, _⟩ := tab hjm
      obtain ⟨d2, es2, hd2, D2, v2, ok2, f2⟩ := tab hi
      obtain ⟨z2, hz2⟩ := f2 hv
      rw [hz2] at v2
      refine ⟨_, rfl, _, rfl, tl, ts, _, _, rfl, rfl, hl, atI_nat hd1, d1, es1, rfl, D1, _, rfl, q0, m, rfl, D1, hm, ?_⟩
      refine ⟨_, rfl, _, rfl, tl, ts, _, _, rfl, rfl, hl, atI_nat hd2, _, rfl, d2, es2, q0, m, z2, rfl, D2, rfl, hm, hz2, ?_⟩
      refine ⟨vdat (lkA ms j m), vdat (lkA ms i m), v1, v2, vdat_shaped ok1, vdat_shaped ok2, _, rfl, ?_⟩
      rw [vdat_eqv]
      have es : sinceN ms m (j + 1) = if lkA ms j m = lkA ms (j + 1) m then sinceN ms m j else j + 1 := rfl
      rw [hlk] at es
      by_cases e : lkA ms j m = lkA ms i m
      · rw [decide_eq_true e]
        rw [if_pos e] at es
        refine iteF ?_
        refine ⟨_, rfl, rfl, some (.int j), ?_, ?_, ?_⟩
        · rw [show (i : Int) - ((t + 1 : Nat) : Int) = (j : Nat) by omega]
          rfl
        · rw [show i - (t + 1) = j by omega]; exact e
        · rw [show i - (t + 1) = j by omega, ← es]; exact hsn
      · rw [decide_eq_false e]
        rw [if_neg e] at es
        refine iteT ?_
        refine ⟨_, rfl, ?_⟩
        rw [show (i : Int) - (t : Int) = ((j + 1 : Nat) : Int) by omega, ← es, hsn]
        exact q
    rintro σ H2 ⟨rfl, o4, rfl, hlk, hsn⟩
    rw [en] at hsn ⊢
    refine ⟨_, rfl, ?_⟩
    rw [show (i : Int) - (i : Int) = ((0 : Nat) : Int) by omega]
    rw [Nat.sub_self] at hsn
    rw [← hsn] at q
    exact q
theorem sc__law_right : FnScope ["_law_book", "_law_tables", "_law_save", "_law_told", "_law_lines", "_law_mark", "_law_k"] ["_law_book", "_law_tables", "_law_save"] (defScope s__law_right) := ⟨rfl, rfl, rfl, by decide +kernel, rfl, by decide +kernel, by decide +kernel⟩
noncomputable abbrev Ok__law_right (P : Program) (w : World) (K : PySem.W.Frag) (mg : Str → Option Value) (base : Heap) (A : Adr) : Prop := FnOk P w K mg base (CX1 P w base) 6 A.f__law_right A.d__law_right ["_law_book", "_law_tables", "_law_save"] (sp_rg6 P w K A)
set_option maxHeartbeats 4000000 in
theorem ok__law_right (T : Txt K mg A) (G_Sheet__lines : Ok_Sheet__lines P w K mg base A) (G_Book__lines : Ok_Book__lines P w K mg base A) (G_Book__since : Ok_Book__since P w K mg base A) (G__law_least : Ok__law_least P w K mg base A) : Ok__law_right P w K mg base A := by
  have B_Sheet__lines := T.b_Sheet__lines
  have B_Book__lines := T.b_Book__lines
  have B_Book__since := T.b_Book__since
  have B__law_least := T.b__law_least
  refine T.F__law_right.okN sc__law_right (fun vs H Q E h => ?_) (fun cdv Ar outer s H vs Q E hr h => ?_)
  · obtain ⟨_, b, sl, tl, zs, ts, as, ms, i, rfl, _⟩ := h
    rfl
  · obtain ⟨hP, b, sl, tl, zs, ts, as, ms, i, rfl, B, hl, hts, pm, okm, hi, few, h00, q⟩ := h
    obtain ⟨dx, hb⟩ := id B.ob
    refine ⟨_, (pss_cons (ps_set (i := 3) sc__law_right.nd rfl (Or.inl rfl) (pe_meth (pv 0) T.cl_Book T.m_Book__since G_Book__since (hr.mono (by decide)) B_Book__since .nil pass1 (pa_cons (pv 2) pa_nil)))
      (pss_cons (ps_set (i := 4) sc__law_right.nd rfl (Or.inl rfl) (pe_meth (pv 0) T.cl_Book T.m_Book__lines G_Book__lines (hr.mono (by decide)) B_Book__lines .nil pass1 (pa_cons (pv 2) pa_nil)))
      (pss_cons (ps_if (pt_cmpR (op_neD hr.units) (pe_comp ["_law_mark", "_law_words_here"] 2 [] rfl (pi_list (pv 4)) gk2 (fun _ _ _ _ _ => pg_tup rfl (pgs_cons (pg_name (i := 0) (show List.Nodup (["_law_mark", "_law_words_here"] : List Str) by decide +kernel) rfl (Or.inl rfl)) (pgs_cons (pg_name (i := 1) (show List.Nodup (["_law_mark", "_law_words_here"] : List Str) by decide +kernel) rfl (Or.inl rfl)) pgs_nil))) (fun _ _ _ _ _ => pif_nil) (fun _ _ _ _ _ => (pv 0))) (pe_comp ["_law_mark", "_law_k"] 2 [] rfl (pi_list (pv 3)) gk2 (fun _ _ _ _ _ => pg_tup rfl (pgs_cons (pg_name (i := 0) (show List.Nodup (["_law_mark", "_law_k"] : List Str) by decide +kernel) rfl (Or.inl rfl)) (pgs_cons (pg_name (i := 1) (show List.Nodup (["_law_mark", "_law_k"] : List Str) by decide +kernel) rfl (Or.inl rfl)) pgs_nil))) (fun _ _ _ _ _ => pif_nil) (fun _ _ _ _ _ => (pv 0))) (nomark _)) (pss_one (ps_ret pe_bl)) pss_nil)
      (pss_cons (ps_for PassesOwn.never rfl (pi_list (pv 3)) (pg_tup rfl (pgs_cons (pg_name (i := 5) sc__law_right.nd rfl (Or.inl rfl)) (pgs_cons (pg_name (i := 6) sc__law_right.nd rfl (Or.inl rfl)) pgs_nil))) (pss_one (ps_if (pt_cmpR op_ne (pv 6) (pe_call G__law_least (hr.mono (by decide)) rfl T.g__law_least T.k__law_least B__law_least .nil pass1 (pa_cons (pv 1) (pa_cons (pv 2) (pa_cons (pv 5) pa_nil)))) (nomark _)) (pss_one (ps_ret pe_bl)) pss_nil)))
      (pss_cons (ps_expr (pe_bm0 PySem.F.plainAttrs_list PySem.F.slot_list_clear PySem.F.type_list_clear mt_clear (pv 3)))
      (pss_one (ps_ret (pe_cmpR op_eq (pe_callB call_len_seq rfl T.n_len (by decide +kernel) (pa_cons (pe_meth (pv 0) T.cl_Book T.m_Book__since G_Book__since (hr.mono (by decide)) B_Book__since .nil pass1 (pa_cons (pv 2) pa_nil)) pa_nil)) (pe_callB call_len_seq rfl T.n_len (by decide +kernel) (pa_cons (pv 4) pa_nil)) (nomark _))))))))), ?_⟩
    have ha : as.length = ms.length := Paired.length pm
    obtain ⟨a, hai, pa, ea⟩ := pr_at pm (List.getElem?_eq_getElem hi)
    obtain ⟨_, _, _, _, _, _, _, _, Sa⟩ := pr_at B.pr hai
    refine ⟨_, rfl, b, dx, _, rfl, hb, rfl, _, rfl, hP, b, sl, zs, as, _, rfl, B, .inl ⟨i, a, rfl, hai, h00, fun H1 l1 bs1 w1 n1 s1 P1 h1 pm1 pw1 hw1 => ?_⟩⟩
    refine ⟨_, rfl, b, dx, _, rfl, s1 _ _ hb, rfl, _, rfl, P1, b, sl, zs, as, _, rfl, B.same s1, .inl ⟨i, a, rfl, hai, fun H2 l2 bs w2 n2 s2 P2 h2 pm2 pw2 hw2 => ?_⟩⟩
    obtain rfl : bs = bs1 := uniq (r := fun x y => lnLt a.1 x y = true) (fun x y g1 g2 => by
      have g3 := (lnLt_sto a.1).asym g1
      rw [g2] at g3
      cases g3) (pm2.trans pm1.symm) pw2 pw1
    have hbl : bs.length < 250 := by have := (insOf_srt Sa.nd Sa.ok Sa.few).few; rw [pm1.length_eq]; omega
    have hwl1 : w1.length = bs.length := by rw [hw1.length, List.length_map]
    have hwl2 : w2.length = bs.length := by rw [hw2.length, List.length_map]
    -- the marks of the lines
    refine ⟨_, rfl, l2, rfl, ⟨_, SqL.of h2⟩, fun D hD => comp_gen (fun j => w2.getD j .non) (fun j y H => ∃ m, bs[j]? = some m ∧ DV K H (L2.markD m) y) hD P2 (n := w2.length) (Nat.le_of_lt (small1000 (by omega))) (itl_ok (SqL.of h2)) ?_ ?_ ?_⟩
    · rintro k y Ha Hb ⟨m, hm, hy⟩ kk hz
      exact ⟨m, hm, DV.mono kk hz _ _ rfl hy⟩
    · intro j H4 R hj P4 S4 hR
      have hjb : j < bs.length := by omega
      obtain ⟨y, hy, hyd⟩ := hw2.get (i := j) (d := lnD a.1 bs[j]) (by rw [List.getElem?_map, List.getElem?_eq_getElem hjb]; rfl)
      obtain ⟨t, q0, ey, hq, hm⟩ := lnD_of hyd
      have eg : w2.getD j .non = .ref t := by rw [List.getD_eq_getElem?_getD, hy, ey]; rfl
      rw [eg]
      refine ⟨t, _, rfl, S4.seqT hq, rfl, _, _, rfl, _, _, rfl, rfl, ?_⟩
      exact ⟨_, rfl, hR _ _ ⟨bs[j], List.getElem?_eq_getElem hjb, mkV_dv (S4.seqT hm)⟩ (Same.refl _) P4⟩
    intro y3 H3 hyl3 hys3 hD3 S3 P3
    have d3 : DVs K H3 (bs.map L2.markD) y3 := DVs.of (f := L2.markD) (by omega) fun i v m hv hm => by
      obtain ⟨m', h1, h2⟩ := hys3 i v hv
      rw [hm] at h1
      cases h1
      exact h2
    have h13 := S3 _ _ (s2 _ _ h1)
    have hw13 := DVs.same (s2.trans S3) _ _ hw1
    -- the marks that are told
    refine ⟨_, rfl, l1, rfl, ⟨_, SqL.of h13⟩, fun D2 hD2 => comp_gen (fun j => w1.getD j .non) (fun j y H => ∃ m, bs[j]? = some m ∧ DV K H (L2.markD m) y) hD2 P3 (n := w1.length) (Nat.le_of_lt (small1000 (by omega))) (itl_ok (SqL.of h13)) ?_ ?_ ?_⟩
    · rintro k y Ha Hb ⟨m, hm, hy⟩ kk hz
      exact ⟨m, hm, DV.mono kk hz _ _ rfl hy⟩
    · intro j H4 R hj P4 S4 hR
      have hjb : j < bs.length := by omega
      obtain ⟨y, hy, hyd⟩ := hw13.get (i := j) (d := snD as i bs[j]) (by rw [List.getElem?_map, List.getElem?_eq_getElem hjb]; rfl)
      obtain ⟨t, q0, ey, hq, hm⟩ := snD_of hyd
      have eg : w1.getD j .non = .ref t := by rw [List.getD_eq_getElem?_getD, hy, ey]; rfl
      rw [eg]
      refine ⟨t, _, rfl, S4.seqT hq, rfl, _, _, rfl, _, _, rfl, rfl, ?_⟩
      exact ⟨_, rfl, hR _ _ ⟨bs[j], List.getElem?_eq_getElem hjb, mkV_dv (S4.seqT hm)⟩ (Same.refl _) P4⟩
    intro y4 H4 hyl4 hys4 hD4 S4 P4
    have d4 : DVs K H4 (bs.map L2.markD) y4 := DVs.of (f := L2.markD) (by omega) fun i v m hv hm => by
      obtain ⟨m', h1, h2⟩ := hys4 i v hv
      rw [hm] at h1
      cases h1
      exact h2
    refine ⟨.list (bs.map L2.markD), .list (bs.map L2.markD), ⟨D, y3, rfl, SqL.of (S4 _ _ hD3), DVs.same S4 _ _ d3⟩, ⟨D2, y4, rfl, SqL.of hD4, d4⟩, mkL_shaped _, mkL_shaped _, _, rfl, ?_⟩
    rw [mkL_eqv]
    refine iteF ?_
    have h14 := S4 _ _ h13
    have hw14 := DVs.same S4 _ _ hw13
    have S04 : Same H H4 := ((s1.trans s2).trans S3).trans S4
    -- each since
    refine ⟨_, rfl, l1, rfl, ⟨_, SqL.of h14⟩, for_list (K := K) (a := l1) (xs := w1) (fun j σ H5 => H5 = H4 ∧ ∃ (o5 o6 : Option V), σ = [some (.ref b), some (.ref tl), some (.int i), some (.ref l1), some (.ref l2), o5, o6])
      ⟨rfl, _, _, rfl⟩ (fun j σ H5 _ ⟨e, _⟩ => by rw [e]; exact SqL.of h14) ?_ ?_⟩
    · rintro j y σ H5 hy ⟨rfl, o5, o6, rfl⟩
      have hjb : j < bs.length := by have := (List.getElem?_eq_some_iff.mp hy).1; omega
      obtain ⟨y', hy', hyd⟩ := hw14.get (i := j) (d := snD as i bs[j]) (by rw [List.getElem?_map, List.getElem?_eq_getElem hjb]; rfl)
      rw [hy] at hy'
      cases hy'
      obtain ⟨t, q0, rfl, hq, hm⟩ := snD_of hyd
      have hv : lkA ms i bs[j] ≠ none := fun z => by
        obtain ⟨m, hm, e⟩ := List.mem_map.mp (pm1.mem_iff.mp (List.getElem_mem hjb))
        rw [← lkA_perm pm okm] at z
        unfold lkA at z
        rw [List.getD_eq_getElem?_getD, hai, ← e] at z
        have z : look a.1 m.1 = none := z
        rw [look_in Sa.nd (List.mem_filter.mp hm).1] at z
        cases z
      refine ⟨t, _, rfl, hq, rfl, _, _, rfl, _, _, rfl, rfl, ?_⟩
      refine ⟨_, rfl, _, rfl, _, rfl, _, rfl, P4, tl, q0, ts, ms, i, bs[j], rfl, S04.seq hl, Paired.mapP hts fun r m h => h.same S04, hm, hi, few, hv, ?_⟩
      refine ⟨rfl, _, rfl, iteNS (by rw [sinceN_congr fun j _ => lkA_perm pm okm _ j]) ?_⟩
      exact ⟨rfl, _, _, rfl⟩
    rintro σ H5 ⟨rfl, o5, o6, rfl⟩
    refine ⟨_, rfl, .inl ⟨rfl, _, SqL.of h14⟩, l1, w1, rfl, rfl, h14, ?_⟩
    have h24 := (S3.trans S4) _ _ h2
    have n21 : l2 ≠ l1 := (ne_of_none h1 n2).symm
    have S6 : Same H (upd H5 l1 (.lst [])) := fun c o e => by rw [upd_ne (ne_of_none e n1)]; exact S04 _ _ e
    have P6 : Plain (upd H5 l1 (.lst [])) := P4.lst
    have h26 : (upd H5 l1 (.lst [])) l2 = some (.lst w2) := by rw [upd_ne n21]; exact h24
    generalize upd H5 l1 (.lst []) = H6 at S6 P6 h26 ⊢
    refine ⟨_, rfl, b, dx, _, rfl, S6 _ _ hb, rfl, _, rfl, P6, b, sl, zs, as, _, rfl, B.same S6, .inl ⟨i, a, rfl, hai, h00, fun H7 l7 bs7 w7 n7 s7 P7 h7 pm7 pw7 hw7 => ?_⟩⟩
    refine ⟨l7, w7, rfl, .inl (SqL.of h7), _, rfl, l2, w2, rfl, .inl (SqL.of (s7 _ _ h26)), rfl, ?_⟩
    rw [show decide (V.int (w7.length : Int) = V.int (w2.length : Int)) = true from decide_eq_true (by rw [hw7.length, List.length_map, hwl2, pm7.length_eq, pm1.length_eq])]
    exact q _ (S6.trans s7) P7
theorem sc__law_trail : FnScope ["_law_tables", "_law_mark", "_law_found", "_law_k", "_law_version_here"] ["_law_tables", "_law_mark"] (defScope s__law_trail) := ⟨rfl, rfl, rfl, by decide +kernel, rfl, by decide +kernel, by decide +kernel⟩
noncomputable abbrev Ok__law_trail (P : Program) (w : World) (K : PySem.W.Frag) (mg : Str → Option Value) (base : Heap) (A : Adr) : Prop := FnOk P w K mg base (CX1 P w base) 1 A.f__law_trail A.d__law_trail ["_law_tables", "_law_mark"] (sp_ltr P w K)
set_option maxHeartbeats 4000000 in
theorem ok__law_trail (T : Txt K mg A)  : Ok__law_trail P w K mg base A := by
  refine T.F__law_trail.okN sc__law_trail (fun vs H Q E h => ?_) (fun cdv Ar outer s H vs Q E hr h => ?_)
  · obtain ⟨_, tl, q0, ts, ms, m, rfl, _⟩ := h
    rfl
  · obtain ⟨hP, tl, q0, ts, ms, m, rfl, hl, hts, hm, pos, few, h0, q⟩ := h
    refine ⟨_, (pss_cons (ps_set (i := 2) sc__law_trail.nd rfl (Or.inl rfl) (pe_lst pa_nil))
      (pss_cons (ps_for PassesOwn.never rfl (pi_range2 rfl T.n_range (pa_cons pe_int (pa_cons (pe_callB call_len_seq rfl T.n_len (by decide +kernel) (pa_cons (pv 0) pa_nil)) pa_nil))) (pg_name (i := 3) sc__law_trail.nd rfl (Or.inl rfl)) (pss_cons (ps_set (i := 4) sc__law_trail.nd rfl (Or.inl rfl) (pe_mget (hu_of hr) (pe_ix ix_list (pv 0) (pv 3) (fun _ _ => rfl)) (pv 1)))
      (pss_one (ps_if (PW.pt (pw_and (pt_cmpR op_notN (pv 4) pe_non (nomark _)) (pw_and1 (pt_cmpR (op_neD hr.units) (pv 4) (pe_mget (hu_of hr) (pe_ix ix_list (pv 0) (pe_op op_sub (pv 3) pe_int) (fun _ _ => rfl)) (pv 1)) (nomark _))))) (pss_one (ps_expr (pe_bm PySem.F.plainAttrs_list PySem.F.slot_list_append PySem.F.type_list_append mt_append (pv 2) (pa_cons (pe_tup (pa_cons (pv 3) (pa_cons (pv 4) pa_nil))) pa_nil)))) pss_nil))))
      (pss_one (ps_ret (pv 2))))), ?_⟩
    have hz : ts.length = ms.length := Paired.length hts
    have tab : ∀ {j : Nat} {H2 : Hp}, Same H H2 → j < ms.length → ∃ (d : Addr) (es : List Ent), ts[j]? = some (.ref d) ∧ DM P w K H2 d es ∧ DV K H2 (vdat (lkA ms j m)) ((findM es m).getD .non) ∧ okO (lkA ms j m) := fun {j H2} s h => by
      obtain ⟨z, hz1, d, es, o, ns, rfl, hd, he, ok, _, lk⟩ := pr_at hts (List.getElem?_eq_getElem h)
      have e : lkA ms j m = look ns m := by unfold lkA; rw [getD_in h, lk]
      exact ⟨d, es, hz1, DM.same ⟨⟨o, hd⟩, fun e h => (ens_val he e h).1⟩ s, by rw [e]; exact DV.same s _ _ (look_find he m), fun v hv => ok.1 _ (look_some (by rw [← e]; exact hv))⟩
    refine ⟨Nat.zero_le _, fun fl hfl => ?_⟩
    generalize hH1 : upd H fl (HO.lst _) = H1
    have s1 : Same H H1 := hH1 ▸ same_upd hfl
    have P1 : Plain H1 := hH1 ▸ hP.lst
    have h1 := (congrFun hH1 fl).symm.trans upd_same
    have e1 : trL (fun k => lkA ms k m) 1 = [] := by
      simp only [trL, h0, List.nil_append]
    refine ⟨_, rfl, tl, ts, rfl, .inl (s1.seq hl), _, _, rfl, ⟨by decide, by decide, by omega, by omega⟩, for_range (lo := 1) (n := ((ts.length : Int) - 1).toNat) (fun i σ H2 => ∃ (o3 o4 : Option V) (ys : List V), σ = [some (.ref tl), some (.ref q0), some (.ref fl), o3, o4] ∧ Plain H2 ∧ Same H H2 ∧ H2 fl = some (.lst ys) ∧ DVs K H2 ((trL (fun k => lkA ms k m) (1 + i)).map trD) ys ∧ ys.length ≤ i)
      ⟨_, _, [], rfl, P1, s1, h1, by rw [e1]; rfl, Nat.le_refl _⟩ ?_ ?_⟩
    · rintro i σ H2 hi ⟨o3, o4, ys, rfl, P2, S2, f2, hys, hyl⟩
      obtain ⟨j, hj⟩ : ∃ j : Nat, j = 1 + i := ⟨_, rfl⟩
      rw [show (1 + (i : Int)) = (j : Nat) by omega]
      rw [← hj] at hys
      have hjm : j < ms.length := by omega
      obtain ⟨d1, es1, hd1, D1, v1, ok1⟩ := tab S2 hjm
      obtain ⟨d2, es2, hd2, D2, v2, ok2⟩ := tab (j := i) S2 (by omega)
      have hm2 := S2.seqT hm
      refine ⟨_, rfl, _, rfl, tl, ts, _, _, rfl, rfl, S2.seq hl, atI_nat hd1, d1, es1, rfl, D1, _, rfl, q0, m, rfl, D1, hm2, ?_⟩
      have ep : prevL (fun k => lkA ms k m) j = lkA ms i m := by rw [hj, Nat.add_comm]; rfl
      have etr : trL (fun k => lkA ms k m) (1 + (i + 1)) = trL (fun k => lkA ms k m) j ++ match lkA ms j m with
        | none => []
        | some v => if lkA ms i m = some v then [] else [(j, v)] := by
        rw [show 1 + (i + 1) = j + 1 by omega, ← ep]
        rfl
      cases e : lkA ms j m with
      | none =>
        rw [e] at v1 etr
        refine ⟨_, rfl, rfl, _, rfl, iteNS v1 (iteF ?_)⟩
        exact ⟨_, _, ys, rfl, P2, S2, f2, by rw [etr, List.append_nil]; exact hys, by omega⟩
      | some vv =>
        have v1' := v1
        rw [e] at v1
        generalize (findM es1 m).getD .non = v at v1 v1' ⊢
        obtain ⟨tv, pl, rfl, hqv, hpl⟩ := ver_of (show DV K H2 (ver vv) v from v1)
        refine ⟨_, rfl, rfl, _, rfl, iteNT (fun z => by cases z) ?_⟩
        refine ⟨_, rfl, _, rfl, _, rfl, _, _, rfl, rfl, tl, ts, _, _, rfl, rfl, S2.seq hl, (by rw [show ((j : Nat) : Int) - 1 = (i : Nat) by omega]; exact atI_nat hd2), d2, es2, rfl, D2, _, rfl, q0, m, rfl, D2, hm2, ?_⟩
        refine ⟨vdat (lkA ms j m), vdat (lkA ms i m), v1', v2, vdat_shaped ok1, vdat_shaped ok2, _, rfl, ?_⟩
        rw [vdat_eqv]
        rw [e] at etr
        dsimp only at etr
        by_cases e2 : lkA ms j m = lkA ms i m
        · rw [decide_eq_true e2]
          refine iteF ?_
          refine ⟨_, _, ys, rfl, P2, S2, f2, ?_, by omega⟩
          rw [etr, if_pos (by rw [← e2]; exact e), List.append_nil]
          exact hys
        · rw [decide_eq_false e2]
          refine iteT ?_
          refine ⟨_, rfl, .inl ⟨rfl, _, SqL.of f2⟩, _, rfl, _, rfl, by show 2 ≤ sizeLine; decide, fun t5 hp5 => ?_⟩
          have s5 : Same H2 (upd H2 t5 (.tup [.int j, .ref tv])) := same_upd hp5
          have P5 : Plain (upd H2 t5 (.tup [.int j, .ref tv])) := P2.tup
          have h5 : (upd H2 t5 (.tup [.int j, .ref tv])) t5 = some (.tup [.int j, .ref tv]) := upd_same
          generalize upd H2 t5 (.tup [.int j, .ref tv]) = H5 at s5 P5 h5 ⊢
          have f5 := s5 _ _ f2
          refine ⟨fl, ys, _, rfl, rfl, f5, small1000 (by omega), ?_⟩
          refine ⟨_, _, ys ++ [.ref t5], rfl, P5.lst, fun c o e' => by rw [upd_ne (ne_of_none e' hfl)]; exact s5 _ _ (S2 _ _ e'), upd_same, ?_, by rw [List.length_append, List.length_singleton]; omega⟩
          refine dvs_other f5 (noT_lst _) _ _ (noLs_tr _) ?_
          rw [etr, if_neg (fun z => e2 (by rw [e]; exact z.symm)), List.map_append]
          exact (DVs.same s5 _ _ hys).append ⟨_, _, rfl, ⟨t5, _, rfl, SqT.of h5, _, _, rfl, rfl, _, _, rfl, DV.same s5 _ _ v1, rfl⟩, rfl⟩
    rintro σ H2 ⟨o3, o4, ys, rfl, P2, S2, f2, hys, hyl⟩
    rw [show 1 + ((ts.length : Int) - 1).toNat = ms.length by omega] at hys
    exact ⟨_, rfl, q fl ys H2 hfl S2 P2 f2 hys⟩
theorem sc_law : FnScope ["_law_script", "_law_book", "_law_rows", "_law_tables", "_law_k", "_law_some", "_law_pairs_here", "_law_mark"] ["_law_script"] (defScope s_law) := ⟨rfl, rfl, rfl, by decide +kernel, rfl, by decide +kernel, by decide +kernel⟩
noncomputable abbrev Ok_law (P : Program) (w : World) (K : PySem.W.Frag) (mg : Str → Option Value) (base : Heap) (A : Adr) : Prop := FnOk P w K mg base (CX1 P w base) 7 A.f_law A.d_law ["_law_script"] (sp_law K)
set_option maxHeartbeats 4000000 in
theorem ok_law (T : Txt K mg A) (G_Sheet____init__ : Ok_Sheet____init__ P w K mg base A) (G_Book____init__ : Ok_Book____init__ P w K mg base A) (G_Book__add : Ok_Book__add P w K mg base A) (G_Book__since : Ok_Book__since P w K mg base A) (G_Book__trail : Ok_Book__trail P w K mg base A) (G__law_digits : Ok__law_digits P w K mg base A) (G__law_on : Ok__law_on P w K mg base A) (G__law_table : Ok__law_table P w K mg base A) (G__law_back : Ok__law_back P w K mg base A) (G__law_right : Ok__law_right P w K mg base A) (G__law_trail : Ok__law_trail P w K mg base A) : Ok_law P w K mg base A := by
  have B_Sheet____init__ := T.b_Sheet____init__
  have B_Book____init__ := T.b_Book____init__
  have B_Book__add := T.b_Book__add
  have B_Book__since := T.b_Book__since
  have B_Book__trail := T.b_Book__trail
  have B__law_digits := T.b__law_digits
  have B__law_on := T.b__law_on
  have B__law_table := T.b__law_table
  have B__law_back := T.b__law_back
  have B__law_right := T.b__law_right
  have B__law_trail := T.b__law_trail
  refine T.F_law.okN sc_law (fun vs H Q E h => ?_) (fun cdv Ar outer s H vs Q E hr h => ?_)
  · obtain ⟨a, nsc, rfl, _⟩ := h
    rfl
  · obtain ⟨a, nsc, rfl, hS, hlen, kk, hP⟩ := h
    refine ⟨_, (pss_cons (ps_set (i := 1) sc_law.nd rfl (Or.inl rfl) (pe_make0 T.mk_Book G_Book____init__ (hr.mono (by decide)) rfl T.g_Book B_Book____init__ .nil pass1))
      (pss_cons (ps_set (i := 2) sc_law.nd rfl (Or.inl rfl) (pe_lst (pa_cons (pe_lst pa_nil) pa_nil)))
      (pss_cons (ps_set (i := 3) sc_law.nd rfl (Or.inl rfl) (pe_lst (pa_cons (toE pe_mnew (show _ = tMNew P w from rfl)) pa_nil)))
      (pss_cons (ps_for PassesOwn.never rfl (pi_rangeZ rfl T.n_range (pa_cons pe_int (pa_cons (pe_callB (call_min2 rfl) rfl T.n_min (by decide +kernel) (pa_cons (pe_callB call_len_seq rfl T.n_len (by decide +kernel) (pa_cons (pv 0) pa_nil)) (pa_cons pe_int pa_nil))) (pa_cons pe_int pa_nil)))) (pg_name (i := 4) sc_law.nd rfl (Or.inl rfl)) (pss_cons (ps_set (i := 5) sc_law.nd rfl (Or.inl rfl) (pe_call G__law_digits (hr.mono (by decide)) rfl T.g__law_digits T.k__law_digits B__law_digits .nil pass1 (pa_cons (pe_ix ix_list (pv 0) (pv 4) (fun _ _ => rfl)) (pa_cons (pe_op op_add (pv 4) pe_int) pa_nil))))
      (pss_cons (ps_set (i := 6) sc_law.nd rfl (Or.inl rfl) (pe_call G__law_on (hr.mono (by decide)) rfl T.g__law_on T.k__law_on B__law_on .nil pass1 (pa_cons (pe_ix ix_list (pv 2) (pe_un un_neg pe_int) (fun _ _ => rfl)) (pa_cons (pe_slice sl_list (pv 0) (po_some (pv 4)) (po_some (pe_op op_add (pv 4) pe_int))) (pa_cons (pv 4) pa_nil)))))
      (pss_cons (ps_if (pt_cmpR op_eq (pe_op op_mod (pe_ix ix_list (pv 5) pe_int (fun _ _ => rfl)) pe_int) pe_int (nomark _)) (pss_one (ps_set (i := 6) sc_law.nd rfl (Or.inl rfl) (pe_call G__law_back (hr.mono (by decide)) rfl T.g__law_back T.k__law_back B__law_back .nil pass1 (pa_cons (pv 6) (pa_cons (pv 2) (pa_cons (pv 5) pa_nil)))))) pss_nil)
      (pss_cons (ps_expr (pe_meth (pv 1) T.cl_Book T.m_Book__add G_Book__add (hr.mono (by decide)) B_Book__add .nil pass1 (pa_cons (pe_make T.mk_Sheet G_Sheet____init__ (hr.mono (by decide)) rfl T.g_Sheet B_Sheet____init__ .nil pass1 (pa_cons (pv 6) pa_nil)) (pa_cons (pe_op op_mod (pe_ix ix_list (pv 5) pe_int (fun _ _ => rfl)) pe_int) (pa_cons (pe_op op_add (pv 4) pe_int) (pa_cons (pe_ix ix_list (pv 5) pe_int (fun _ _ => rfl)) pa_nil))))))
      (pss_cons (ps_expr (pe_bm PySem.F.plainAttrs_list PySem.F.slot_list_append PySem.F.type_list_append mt_append (pv 2) (pa_cons (pv 6) pa_nil)))
      (pss_cons (ps_expr (pe_bm PySem.F.plainAttrs_list PySem.F.slot_list_append PySem.F.type_list_append mt_append (pv 3) (pa_cons (pe_call G__law_table (hr.mono (by decide)) rfl T.g__law_table T.k__law_table B__law_table .nil pass1 (pa_cons (pv 6) pa_nil)) pa_nil)))
      (pss_cons (ps_if (pt_not (pt_val (pe_call G__law_right (hr.mono (by decide)) rfl T.g__law_right T.k__law_right B__law_right .nil pass1 (pa_cons (pv 1) (pa_cons (pv 3) (pa_cons (pe_op op_sub (pe_callB call_len_seq rfl T.n_len (by decide +kernel) (pa_cons (pv 2) pa_nil)) pe_int) pa_nil)))))) (pss_one (ps_ret pe_bl)) pss_nil)
      (pss_one (ps_if (pt_not (pt_val (pe_call G__law_right (hr.mono (by decide)) rfl T.g__law_right T.k__law_right B__law_right .nil pass1 (pa_cons (pv 1) (pa_cons (pv 3) (pa_cons (pe_op op_mod (pe_ix ix_list (pv 5) pe_int (fun _ _ => rfl)) (pe_callB call_len_seq rfl T.n_len (by decide +kernel) (pa_cons (pv 2) pa_nil))) pa_nil)))))) (pss_one (ps_ret pe_bl)) pss_nil))))))))))
      (pss_cons (ps_for PassesOwn.never rfl (pi_list (pe_op op_cat (pe_callB (call_sortedK rfl hr.u100) rfl T.n_sorted (by decide +kernel) (pa_cons (pe_ix ix_list (pv 3) (pe_un un_neg pe_int) (fun _ _ => rfl)) pa_nil)) (pe_lst (pa_cons (pe_tup (pa_cons pe_int (pa_cons pe_int pa_nil))) pa_nil)))) (pg_name (i := 7) sc_law.nd rfl (Or.inl rfl)) (pss_cons (ps_expr (pe_bm0 PySem.F.plainAttrs_list PySem.F.slot_list_clear PySem.F.type_list_clear mt_clear (pe_meth (pv 1) T.cl_Book T.m_Book__trail G_Book__trail (hr.mono (by decide)) B_Book__trail .nil pass1 (pa_cons (pv 7) pa_nil))))
      (pss_one (ps_if (pt_cmpR (op_neD hr.units) (pe_meth (pv 1) T.cl_Book T.m_Book__trail G_Book__trail (hr.mono (by decide)) B_Book__trail .nil pass1 (pa_cons (pv 7) pa_nil)) (pe_call G__law_trail (hr.mono (by decide)) rfl T.g__law_trail T.k__law_trail B__law_trail .nil pass1 (pa_cons (pv 3) (pa_cons (pv 7) pa_nil))) (nomark _)) (pss_one (ps_ret pe_bl)) pss_nil))))
      (pss_one (ps_ret (pe_cmpR (op_eqD hr.units) (pe_meth (pv 1) T.cl_Book T.m_Book__since G_Book__since (hr.mono (by decide)) B_Book__since .nil pass1 (pa_cons pe_int pa_nil)) (pe_lst pa_nil) (nomark _))))))))), ?_⟩
    refine fun b dxb nb ndb neb => ?_
    have sb : Same H (upd (upd H dxb (.own b)) b (.ins A.Book dxb [])) := fun c o e => by
      rw [upd_ne (ne_of_none e nb), upd_ne (ne_of_none e ndb)]
      exact e
    refine ⟨Plain.ins (hP.upd trivial), b, dxb, rfl, upd_same, fun H1 sl zs1 k1 nsl B1 P1 => ⟨rfl, ?_⟩⟩
    have s1 : Same H H1 := fun c o e => k1 c o (ne_of_none e nb) (sb c o e)
    refine ⟨Nat.zero_le _, fun e2 hp2 => ?_⟩
    generalize hH2 : upd H1 e2 (HO.lst _) = H2
    have s2 : Same H1 H2 := hH2 ▸ same_upd hp2
    have P2 : Plain H2 := hH2 ▸ P1.lst
    have h2 := (congrFun hH2 e2).symm.trans upd_same
    refine ⟨by show 1 ≤ sizeLine; decide, fun rl hp3 => ?_⟩
    generalize hH3 : upd H2 rl (HO.lst _) = H3
    have s3 : Same H2 H3 := hH3 ▸ same_upd hp3
    have P3 : Plain H3 := hH3 ▸ P2.lst
    have h3 := (congrFun hH3 rl).symm.trans upd_same
    refine fun d0 ob0 hp4 => ?_
    have s4 : Same H3 (upd H3 d0 (dO P w d0 [] ob0)) := same_upd hp4
    have P4 : Plain (upd H3 d0 (dO P w d0 [] ob0)) := Plain.ext P3
    have h4 : (upd H3 d0 (dO P w d0 [] ob0)) d0 = some (dO P w d0 [] ob0) := upd_same
    generalize upd H3 d0 (dO P w d0 [] ob0) = H4 at s4 P4 h4 ⊢
    refine ⟨by show 1 ≤ sizeLine; decide, fun tl hp5 => ?_⟩
    generalize hH5 : upd H4 tl (HO.lst _) = H5
    have s5 : Same H4 H5 := hH5 ▸ same_upd hp5
    have P5 : Plain H5 := hH5 ▸ P4.lst
    have h5 := (congrFun hH5 tl).symm.trans upd_same
    have S13 := s2.trans s3
    have S14 := S13.trans s4
    have S15 := S14.trans s5
    have S5 := s1.trans S15
    have nsr : sl ≠ rl := ne_of_none (s2 _ _ B1.ls) hp3
    have nst : sl ≠ tl := ne_of_none (S14 _ _ B1.ls) hp5
    have nrt : rl ≠ tl := ne_of_none (s4 _ _ h3) hp5
    have nN : ∀ l : Addr, l ≠ sl → l ≠ rl → l ≠ tl → l ∉ [sl, rl, tl] := fun l a1 a2 a3 h => by
      simp only [List.mem_cons, List.not_mem_nil, or_false] at h
      rcases h with h | h | h
      · exact a1 h
      · exact a2 h
      · exact a3 h
    have okE : okSh [] := ⟨(fun m h => by cases h), List.nodup_nil⟩
    have bxE : inBox (mks []) := fun k h => by cases h
    have R2 : Row K [sl, rl, tl] H5 e2 [] := ⟨[], nN _ (ne_of_none B1.ls hp2).symm (ne_of_none h2 hp3) (ne_of_none ((s3.trans s4) _ _ h2) hp5), ((s3.trans s4).trans s5) _ _ h2, rfl, okE, List.Pairwise.nil, bxE⟩
    have T2 : TabR P w K H5 (.ref d0) ([], 0, 0, 0) := ⟨d0, [], ob0, [], rfl, s5 _ _ h4, .nil, okE, by decide, fun _ => rfl⟩
    have fN : ∀ D ∈ [sl, rl, tl], H D = none := fun D hD => by
      simp only [List.mem_cons, List.not_mem_nil, or_false] at hD
      rcases hD with rfl | rfl | rfl
      · exact sb.free nsl
      · exact (s1.trans s2).free hp3
      · exact (s1.trans S14).free hp5
    clear hH2 hH3 hH5
    have hlz : (nsc.map V.int).length = nsc.length := List.length_map _
    obtain ⟨J, hJ⟩ : ∃ J : Int, J = if (40 : Int) < ((nsc.map V.int).length : Int) then 40 else ((nsc.map V.int).length : Int) := ⟨_, rfl⟩
    have hJ3 : 0 ≤ J ∧ J ≤ 40 ∧ J ≤ nsc.length := by rw [hJ]; split <;> omega
    refine ⟨_, rfl, a, _, rfl, .inl (S5.seq hS), _, _, rfl, 2, 0, J, (by rw [hJ]), .inl rfl, ⟨by decide, by decide, by omega, by omega⟩, for_rangeZ (z := 2) (lo := 0) (n := numZ 2 0 J) (fun i σ H2 => ∃ (o4 o5 o6 o7 : Option V) (ms : List Sv) (zs rs ts : List V) (as : List Sv), σ = [some (.ref a), some (.ref b), some (.ref rl), some (.ref tl), o4, o5, o6, o7] ∧ Plain H2 ∧ Same H H2 ∧ BkAt P w K A.Book A.Sheet H2 b sl zs as ∧ H2 rl = some (.lst rs) ∧ H2 tl = some (.lst ts) ∧ Paired (RowL K [sl, rl, tl] H2) rs ms ∧ Paired (TabR P w K H2) ts ms ∧ Paired (fun a m => a.1.Perm m.1 ∧ a.2 = m.2) as ms ∧ ms.length = i + 1 ∧ ms[0]? = some ([], 0, 0, 0))
      ⟨_, _, _, _, [([], 0, 0, 0)], zs1, [.ref e2], [.ref d0], [([], 0, 0, 0)], rfl, P5, S5, B1.same S15, (s4.trans s5) _ _ h3, h5, .cons ⟨e2, rfl, R2⟩ .nil, .cons T2 .nil, .cons ⟨List.Perm.refl _, rfl⟩ .nil, rfl, rfl⟩ ?_ ?_⟩
    · rintro i σ H20 hi ⟨o4, o5, o6, o7, ms, zs, rs, ts, as, rfl, P20, S20, B20, hrl, htl, prs, pts, pm, lm, h00⟩
      have hi2 := num2_lt hi hJ3.1
      obtain ⟨kn, hkn⟩ : ∃ kn : Nat, (0 + (i : Int) * 2) = (kn : Int) := ⟨i * 2, by omega⟩
      rw [hkn]
      have hk40 : kn < nsc.length := by omega
      have i20 : i < 20 := by omega
      have la : as.length = ms.length := Paired.length pm
      have lr : rs.length = ms.length := Paired.length prs
      have lt : ts.length = ms.length := Paired.length pts
      obtain ⟨dx, hb⟩ := id B20.ob
      have hci : ∀ lo hi, ∀ x ∈ cutV (nsc.map V.int) lo hi, ∃ n, x = V.int n := fun lo hi x hx => by
        obtain ⟨i, hi⟩ := List.getElem?_of_mem hx
        exact cut_int hi
      refine ⟨_, rfl, _, rfl, a, _, _, _, rfl, rfl, S20.seq hS, atI_nat (j := kn) (v := V.int nsc[kn]) (by rw [List.getElem?_map, List.getElem?_eq_getElem hk40]; rfl), _, rfl, _, _, rfl, rfl, P20, (nsc[kn], (kn : Int) + 5), rfl, fun l ol hl ho => ?_⟩
      obtain ⟨d0, d1, d2, d3, d4, d5, d6, d7, rfl, e0, e1, e2, e3, e4, e5, e6, e7⟩ := ho
      have P21 : Plain (upd H20 l (.lst [.int d0, .int d1, .int d2, .int d3, .int d4, .int d5, .int d6, .int d7])) := P20.lst
      have s21 : Same H20 (upd H20 l (.lst [.int d0, .int d1, .int d2, .int d3, .int d4, .int d5, .int d6, .int d7])) := same_upd hl
      have h21 : (upd H20 l (.lst [.int d0, .int d1, .int d2, .int d3, .int d4, .int d5, .int d6, .int d7])) l = some (.lst [.int d0, .int d1, .int d2, .int d3, .int d4, .int d5, .int d6, .int d7]) := upd_same
      generalize upd H20 l (.lst [.int d0, .int d1, .int d2, .int d3, .int d4, .int d5, .int d6, .int d7]) = H21 at P21 s21 h21 ⊢
      have hlast : ms[ms.length - 1]? = some ms[ms.length - 1] := List.getElem?_eq_getElem (by omega)
      obtain ⟨rn, hrn, ln, rfl, wn, nln, hln, hwn, okn, srn, bxn⟩ := pr_at prs hlast
      refine ⟨_, rfl, _, rfl, rl, rs, _, _, rfl, rfl, SqL.of (s21 _ _ hrl), (by show atI rs (-1) = _; exact atI_last (by rw [lr]; exact hrn)), ?_⟩
      refine ⟨_, rfl, _, rfl, (kn : Int), rfl, _, rfl, _, _, rfl, rfl, (kn : Int) + 2, rfl, a, _, rfl, (S20.trans s21).seq hS, fun c6 hp22 => ?_⟩
      generalize hH22 : upd H21 c6 (HO.lst _) = H22
      have s22 : Same H21 H22 := hH22 ▸ same_upd hp22
      have P22 : Plain H22 := hH22 ▸ P21.lst
      have h22 := (congrFun hH22 c6).symm.trans upd_same
      have S22 := s21.trans s22
      refine ⟨_, rfl, P22, ln, c6, (kn : Int), wn, _, _, rfl, SqL.of (S22 _ _ hln), DVs.same S22 _ _ hwn, okn, bxn, h22, hci _ _, cut_2 _ _, fun l7 ws7 nx7 H23 n7 s23 P23 hl7 hw7 ok7 srt7 bx7 _ => ?_⟩
      have S23 := S22.trans s23
      have hd23 := (s22.trans s23) _ _ h21
      apply join2 (α := Addr) (β := Hp) (ok := fun lz Hz => ∃ (wz : List V) (nz : Sh), Plain Hz ∧ Same H23 Hz ∧ H20 lz = none ∧ Hz lz = some (.lst wz) ∧ DVs K Hz (nz.map prD) wz ∧ okSh nz ∧ srtd nz ∧ inBox (mks nz))
      · intro jn
        refine ⟨_, rfl, _, _, _, _, rfl, rfl, SqL.of hd23, rfl, _, _, rfl, rfl, (by show (0 : Int) < 2; decide), rfl, _, rfl, ite2d (fun _ => ?yes) (fun _ => ?no)⟩
        case yes =>
          refine ⟨_, rfl, _, rfl, _, rfl, P23, l7, rl, l, [sl, rl, tl], ws7, rs, nx7, ms, d0, d1, d2, d3, d4, d5, d6, d7, rfl, SqL.of hl7, hw7, ok7, bx7, SqL.of (S23 _ _ hrl), Paired.mapP prs fun r m h => h.same S23, by omega, hd23, fun lz wz nz Hz nlz sz Pz hlz hwz okz srtz bxz => ?_⟩
          exact jn lz Hz ⟨wz, nz, Pz, sz, S23.free nlz, hlz, hwz, okz, srtz, bxz⟩
        case no => exact jn l7 H23 ⟨ws7, nx7, P23, Same.refl _, S22.free n7, hl7, hw7, ok7, srt7, bx7⟩
      rintro l7 H24 ⟨ws7, nx7, P24, s24, n7, hl7, hw7, ok7, srt7, bx7⟩
      have S24 := S23.trans s24
      have hd24 := s24 _ _ hd23
      have fn7 : nx7.length ≤ 40 := by have := box_few ok7.2 bx7; unfold mks at this; rw [List.length_map] at this; exact this
      have nl7 : l7 ∉ [sl, rl, tl] := nN _ (fun z => by rw [z, B20.ls] at n7; cases n7) (fun z => by rw [z, hrl] at n7; cases n7) (fun z => by rw [z, htl] at n7; cases n7)
      -- added
      refine ⟨_, rfl, b, dx, _, rfl, S24 _ _ hb, rfl, _, rfl, fun x dxx nxx ndxx nexx => ?_⟩
      have sxx : Same H24 (upd (upd H24 dxx (.own x)) x (.ins A.Sheet dxx [])) := fun c o e => by
        rw [upd_ne (ne_of_none e nxx), upd_ne (ne_of_none e ndxx)]
        exact e
      refine ⟨Plain.ins (P24.upd trivial), x, dxx, l7, ws7, nx7, rfl, upd_same, SqL.of (sxx _ _ hl7), DVs.same sxx _ _ hw7, ok7.1, by omega, fun _ H25 k25 Sh25 P25 => ⟨rfl, ?_⟩, fun h => absurd ok7.2 h⟩
      have s25 : Same H24 H25 := fun c o e => k25 c o (ne_of_none e nxx) (sxx c o e)
      have S25 := S24.trans s25
      have hd25 := s25 _ _ hd24
      walk_at "rd"
      refine ⟨P25, b, sl, x, _, _, _, zs, as, nx7, rfl, B20.same S25, Sh25, by omega, fun H26 t26 k26 B26 P26 => ?_⟩
      generalize d0 % 3 = wi at B26
      generalize (kn : Int) + 1 = be at B26
      have hsl : ∃ zs, H25 sl = some (.lst zs) := ⟨_, S25 _ _ B20.ls⟩
      have R25 : Row K [sl, rl, tl] H25 l7 nx7 := ⟨ws7, nl7, s25 _ _ hl7, DVs.same s25 _ _ hw7, ok7, srt7, bx7⟩
      have R26 := R25.keep k26 hsl (by simp)
      have hrl26 := k26 _ _ nsr.symm (S25 _ _ hrl)
      have htl26 := k26 _ _ nst.symm (S25 _ _ htl)
      have prs26 : Paired (RowL K [sl, rl, tl] H26) rs ms := Paired.mapP prs fun r m h => (h.same S25).keep k26 hsl (by simp)
      have pts26 : Paired (TabR P w K H26) ts ms := Paired.mapP pts fun r m h => (h.same S25).keep k26 hsl
      have S26 : Same H H26 := fun c o e => k26 _ _ (ne_of_none e (fN _ (by simp))) (S25 _ _ (S20 _ _ e))
      have nld : l ≠ sl := (ne_of_none B20.ls hl).symm
      have hd26 := k26 _ _ nld hd25
      -- to the rows
      refine ⟨_, rfl, .inl ⟨rfl, _, SqL.of hrl26⟩, _, rfl, rl, rs, _, rfl, rfl, hrl26, small1000 (by omega), ?_⟩
      have kp : ∀ c o, c ≠ rl → H26 c = some o → (upd H26 rl (.lst (rs ++ [.ref l7]))) c = some o := upd_keep
      have B27 := B26.keep kp ⟨_, hrl26⟩ nsr
      have P27 : Plain (upd H26 rl (.lst (rs ++ [.ref l7]))) := P26.lst
      have hrl27 : (upd H26 rl (.lst (rs ++ [.ref l7]))) rl = some (.lst (rs ++ [.ref l7])) := upd_same
      have htl27 := kp _ _ nrt.symm htl26
      have R27 := R26.keep kp ⟨_, hrl26⟩ (by simp)
      have prs27 : Paired (RowL K [sl, rl, tl] (upd H26 rl (.lst (rs ++ [.ref l7])))) (rs ++ [.ref l7]) (ms ++ [(nx7, wi, be, d1)]) := Paired.snoc (Paired.mapP prs26 fun r m h => h.keep kp ⟨_, hrl26⟩ (by simp)) ⟨l7, rfl, R27⟩
      have pts27 : Paired (TabR P w K (upd H26 rl (.lst (rs ++ [.ref l7])))) ts ms := Paired.mapP pts26 fun r m h => h.keep kp ⟨_, hrl26⟩
      have S27 : Same H (upd H26 rl (.lst (rs ++ [.ref l7]))) := fun c o e => kp _ _ (ne_of_none e (fN _ (by simp))) (S26 _ _ e)
      have hd27 := kp _ _ (ne_of_none hrl hl).symm hd26
      generalize upd H26 rl (.lst (rs ++ [.ref l7])) = H27 at B27 P27 hrl27 htl27 R27 prs27 pts27 S27 hd27 ⊢
      -- to the tables
      obtain ⟨w27, _, hl27, hw27, _⟩ := id R27
      refine ⟨_, rfl, .inl ⟨rfl, _, SqL.of htl27⟩, _, rfl, P27, l7, w27, nx7, rfl, SqL.of hl27, hw27, ok7, by omega, fun td te to tn H28 n28 s28 P28 hd28 he28 ok28 nl28 lk28 => ?_⟩
      have htl28 := s28 _ _ htl27
      refine ⟨tl, ts, _, rfl, rfl, htl28, small1000 (by omega), ?_⟩
      have kq : ∀ c o, c ≠ tl → H28 c = some o → (upd H28 tl (.lst (ts ++ [.ref td]))) c = some o := upd_keep
      have B29 := (B27.same s28).keep kq ⟨_, htl28⟩ nst
      have P29 : Plain (upd H28 tl (.lst (ts ++ [.ref td]))) := P28.lst
      have hrl29 := kq _ _ nrt (s28 _ _ hrl27)
      have htl29 : (upd H28 tl (.lst (ts ++ [.ref td]))) tl = some (.lst (ts ++ [.ref td])) := upd_same
      have prs29 : Paired (RowL K [sl, rl, tl] (upd H28 tl (.lst (ts ++ [.ref td])))) (rs ++ [.ref l7]) (ms ++ [(nx7, wi, be, d1)]) := Paired.mapP prs27 fun r m h => (h.same s28).keep kq ⟨_, htl28⟩ (by simp)
      have tr28 : TabR P w K H28 (.ref td) (nx7, wi, be, d1) := ⟨td, te, to, tn, rfl, hd28, he28, ok28, by omega, lk28⟩
      have pts29 : Paired (TabR P w K (upd H28 tl (.lst (ts ++ [.ref td])))) (ts ++ [.ref td]) (ms ++ [(nx7, wi, be, d1)]) := Paired.snoc (Paired.mapP pts27 fun r m h => (h.same s28).keep kq ⟨_, htl28⟩) (tr28.keep kq ⟨_, htl28⟩)
      have S29 : Same H (upd H28 tl (.lst (ts ++ [.ref td]))) := fun c o e => kq _ _ (ne_of_none e (fN _ (by simp))) (s28 _ _ (S27 _ _ e))
      have hd29 := kq _ _ (ne_of_none htl hl).symm (s28 _ _ hd27)
      have pm29 : Paired (fun (a m : Sv) => a.1.Perm m.1 ∧ a.2 = m.2) (as ++ [(nx7, wi, be, d1)]) (ms ++ [(nx7, wi, be, d1)]) := Paired.snoc pm ⟨List.Perm.refl _, rfl⟩
      have lm29 : (ms ++ [(nx7, wi, be, d1)]).length = i + 1 + 1 := by rw [List.length_append, List.length_singleton, lm]
      have lr29 : (rs ++ [V.ref l7]).length = i + 1 + 1 := by rw [List.length_append, List.length_singleton, lr, lm]
      have h0029 : (ms ++ [(nx7, wi, be, d1)])[0]? = some ([], 0, 0, 0) := by rw [List.getElem?_append_left (by omega)]; exact h00
      generalize upd H28 tl (.lst (ts ++ [.ref td])) = H29 at B29 P29 hrl29 htl29 prs29 pts29 S29 hd29 ⊢
      generalize rs ++ [V.ref l7] = rs3 at hrl29 prs29 lr29
      generalize ts ++ [V.ref td] = ts3 at htl29 pts29
      generalize ms ++ [(nx7, wi, be, d1)] = ms3 at prs29 pts29 pm29 lm29 h0029
      generalize as ++ [(nx7, wi, be, d1)] = as3 at B29 pm29
      generalize zs ++ [t26] = zs3 at B29
      have okm : ∀ m ∈ ms3, okSh m.1 := fun m hm => by
        obtain ⟨j, hj⟩ := List.getElem?_of_mem hm
        obtain ⟨_, _, _, _, _, _, _, _, ok, _⟩ := pr_at prs29 hj
        exact ok
      obtain ⟨a0, ha0, pa0, ea0⟩ := pr_at pm29 h0029
      have ha0 : as3[0]? = some ([], 0, 0, 0) := by rw [ha0]; congr 1; exact Prod.ext pa0.eq_nil ea0
      refine ⟨_, rfl, _, rfl, _, rfl, rl, rs3, rfl, .inl (SqL.of hrl29), _, _, rfl, rfl, P29, b, sl, tl, zs3, ts3, as3, ms3, i + 1, (by show [V.ref b, V.ref tl, V.int ((rs3.length : Int) - 1)] = _; rw [lr29, show ((i + 1 + 1 : Nat) : Int) - 1 = ((i + 1 : Nat) : Int) by omega]), B29, SqL.of htl29, pts29, pm29, okm, by omega, by omega, ha0, fun H30 s30 P30 => ⟨true, rfl, iteF ?_⟩⟩
      have x1 := Int.emod_nonneg d7 (show (rs3.length : Int) ≠ 0 by omega)
      have x2 := Int.emod_lt_of_pos d7 (show (0 : Int) < (rs3.length : Int) by omega)
      obtain ⟨jn, hjn⟩ : ∃ jn : Nat, d7 % (rs3.length : Int) = jn := ⟨(d7 % (rs3.length : Int)).toNat, by omega⟩
      refine ⟨_, rfl, _, rfl, _, rfl, _, _, _, _, rfl, rfl, SqL.of (s30 _ _ hd29), rfl, _, rfl, rl, rs3, rfl, .inl (SqL.of (s30 _ _ hrl29)), _, _, rfl, rfl, (by show (0 : Int) < (rs3.length : Int); omega), P30, b, sl, tl, zs3, ts3, as3, ms3, jn, (by show [V.ref b, V.ref tl, V.int (d7 % (rs3.length : Int))] = _; rw [hjn]), B29.same s30, SqL.of (s30 _ _ htl29), Paired.mapP pts29 fun r m h => h.same s30, pm29, okm, by omega, by omega, ha0, fun H31 s31 P31 => ⟨true, rfl, iteF ?_⟩⟩
      have S31 := s30.trans s31
      exact ⟨_, _, _, _, ms3, zs3, rs3, ts3, as3, rfl, P31, S29.trans S31, B29.same S31, S31 _ _ hrl29, S31 _ _ htl29, Paired.mapP prs29 fun r m h => h.same S31, Paired.mapP pts29 fun r m h => h.same S31, pm29, lm29, h0029⟩
    rintro σ H50 ⟨o4, o5, o6, o7, ms, zs, rs, ts, as, rfl, P50, S50, B50, hrl, htl, prs, pts, pm, lm, h00⟩
    have la : as.length = ms.length := Paired.length pm
    have lt : ts.length = ms.length := Paired.length pts
    have hnm : numZ 2 0 J ≤ 20 := by
      unfold numZ Builtin.Range.rangeSize
      rw [if_pos (by decide)]
      split <;> omega
    obtain ⟨dx, hb⟩ := id B50.ob
    have okm : ∀ m ∈ ms, okSh m.1 := fun m hm => by
      obtain ⟨j, hj⟩ := List.getElem?_of_mem hm
      obtain ⟨_, _, _, _, _, _, _, _, ok, _⟩ := pr_at prs hj
      exact ok
    obtain ⟨a0, ha0, pa0, ea0⟩ := pr_at pm h00
    have ha0 : as[0]? = some ([], 0, 0, 0) := by rw [ha0]; congr 1; exact Prod.ext pa0.eq_nil ea0
    have hlast : ms[ms.length - 1]? = some ms[ms.length - 1] := List.getElem?_eq_getElem (by omega)
    obtain ⟨tn, htn, d, es, ob, ns, rfl, hd, he, okn, nfew, lkn⟩ := pr_at pts hlast
    have hel : es.length = ns.length := Paired.length he
    refine ⟨_, rfl, _, rfl, tl, ts, _, _, rfl, rfl, SqL.of htl, (by show atI ts (-1) = _; exact atI_last (by rw [lt]; exact htn)), ?_⟩
    refine ⟨d, es, ob, rfl, hd, (fun e h => (ens_val he e h).1), (by rw [ens_marks he]; exact okn.2), by omega, fun kl ks w51 hkl pmk pwk hwk => ?_⟩
    have s51 : Same H50 (upd H50 kl (.lst w51)) := same_upd hkl
    have P51 : Plain (upd H50 kl (.lst w51)) := P50.lst
    have h51 : (upd H50 kl (.lst w51)) kl = some (.lst w51) := upd_same
    generalize upd H50 kl (.lst w51) = H51 at s51 P51 h51 ⊢
    refine ⟨by show 2 ≤ sizeLine; decide, fun t52 hp52 => ?_⟩
    generalize hH52 : upd H51 t52 (HO.tup _) = H52
    have s52 : Same H51 H52 := hH52 ▸ same_upd hp52
    have P52 : Plain H52 := hH52 ▸ P51.tup
    have h52 := (congrFun hH52 t52).symm.trans upd_same
    refine ⟨by show 1 ≤ sizeLine; decide, fun l53 hp53 => ?_⟩
    generalize hH53 : upd H52 l53 (HO.lst _) = H53
    have s53 : Same H52 H53 := hH53 ▸ same_upd hp53
    have P53 : Plain H53 := hH53 ▸ P52.lst
    have h53 := (congrFun hH53 l53).symm.trans upd_same
    have hksl : ks.length = es.length := by rw [pmk.length_eq, List.length_map]
    have hwl : w51.length = ks.length := by rw [hwk.length, List.length_map]
    refine ⟨kl, l53, w51, _, rfl, rfl, (s52.trans s53) _ _ h51, h53, Nat.le_of_lt (small1000 (by show w51.length + 1 ≤ 1000; omega)), fun l54 hp54 => ?_⟩
    generalize hH54 : upd H53 l54 (HO.lst _) = H54
    have s54 : Same H53 H54 := hH54 ▸ same_upd hp54
    have P54 : Plain H54 := hH54 ▸ P53.lst
    have h54 := (congrFun hH54 l54).symm.trans upd_same
    have S54 := ((s51.trans s52).trans s53).trans s54
    have D54 : DVs K H54 ((ks ++ [(7, 7)]).map L2.markD) (w51 ++ [.ref t52]) := by
      rw [List.map_append]
      exact (DVs.same S54 _ _ hwk).append ⟨_, _, rfl, mkV_dv (m := (7, 7)) (SqT.of ((s53.trans s54) _ _ h52)), rfl⟩
    have lk0 : ∀ m, lkA ms 0 m = none := fun m => by
      unfold lkA
      rw [List.getD_eq_getElem?_getD, h00]
      rfl
    have okA : ∀ m j, okO (lkA ms j m) := fun m j v e => by
      unfold lkA at e
      by_cases h : j < ms.length
      · rw [getD_in h] at e
        exact (okm _ (List.getElem_mem h)).1 _ (look_some e)
      · rw [List.getD_eq_getElem?_getD, List.getElem?_eq_none (by omega)] at e
        cases e
    refine ⟨l54, rfl, ⟨_, SqL.of h54⟩, for_list (K := K) (a := l54) (xs := w51 ++ [.ref t52]) (fun i σ H2 => ∃ (o7 : Option V), σ = [some (.ref a), some (.ref b), some (.ref rl), some (.ref tl), o4, o5, o6, o7] ∧ Plain H2 ∧ Same H54 H2)
      ⟨_, rfl, P54, Same.refl _⟩ (fun i σ H2 _ ⟨_, _, _, s⟩ => SqL.of (s _ _ h54)) ?_ ?_⟩
    · rintro j y σ H55 hy ⟨o7, rfl, P55, S55⟩
      have hjl : j < (ks ++ [((7 : Int), (7 : Int))]).length := by
        have := (List.getElem?_eq_some_iff.mp hy).1
        rw [List.length_append, List.length_singleton] at this ⊢
        omega
      obtain ⟨y', hy', hyd⟩ := (DVs.same S55 _ _ D54).get (i := j) (d := L2.markD (ks ++ [((7 : Int), (7 : Int))])[j]) (by rw [List.getElem?_map, List.getElem?_eq_getElem hjl]; rfl)
      rw [hy] at hy'
      cases hy'
      generalize (ks ++ [((7 : Int), (7 : Int))])[j] = m at hyd
      obtain ⟨q1, rfl, hq1⟩ := mark_of hyd
      have T55 := S54.trans S55
      refine ⟨_, rfl, b, dx, _, rfl, T55 _ _ hb, rfl, _, rfl, P55, b, sl, q1, zs, as, m, rfl, B50.same T55, hq1, by omega, fun l56 w56 H56 n56 s56 P56 h56 _ => ?_⟩
      refine ⟨.inl ⟨rfl, _, SqL.of h56⟩, l56, w56, rfl, rfl, h56, ?_⟩
      have S57 : Same H55 (upd H56 l56 (.lst [])) := fun c o e => by rw [upd_ne (ne_of_none e n56)]; exact s56 _ _ e
      have P57 : Plain (upd H56 l56 (.lst [])) := P56.lst
      generalize upd H56 l56 (.lst []) = H57 at S57 P57 ⊢
      have T57 := T55.trans S57
      refine ⟨_, rfl, b, dx, _, rfl, T57 _ _ hb, rfl, _, rfl, P57, b, sl, q1, zs, as, m, rfl, B50.same T57, S57.seqT hq1, by omega, fun l58 w58 H58 n58 s58 P58 h58 hw58 => ?_⟩
      have T58 := T57.trans s58
      refine ⟨_, rfl, _, rfl, P58, tl, q1, ts, ms, m, rfl, SqL.of (T58 _ _ htl), Paired.mapP pts fun r m h => h.same T58, (S57.trans s58).seqT hq1, by omega, by omega, lk0 m, fun l59 w59 H59 n59 s59 P59 h59 hw59 => ?_⟩
      rw [la, trL_congr fun k _ => lkA_perm pm okm m k] at hw58
      have okt := trL_ok (f := fun k => lkA ms k m) (okA m) ms.length
      refine ⟨.list ((trL (fun k => lkA ms k m) ms.length).map trD), .list ((trL (fun k => lkA ms k m) ms.length).map trD), ⟨l58, w58, rfl, SqL.of (s59 _ _ h58), DVs.same s59 _ _ hw58⟩, ⟨l59, w59, rfl, SqL.of h59, hw59⟩, tr_shaped okt, tr_shaped okt, _, rfl, ?_⟩
      rw [tr_eqv okt]
      refine iteF ?_
      exact ⟨_, rfl, P59, ((S55.trans S57).trans s58).trans s59⟩
    rintro σ H55 ⟨o7, rfl, P55, S55⟩
    have T55 := S54.trans S55
    refine ⟨_, rfl, b, dx, _, rfl, T55 _ _ hb, rfl, P55, b, sl, zs, as, _, rfl, B50.same T55, .inl ⟨0, ([], 0, 0, 0), rfl, ha0, ha0, fun H56 l56 bs56 w56 n56 s56 P56 h56 pm56 _ hw56 => ?_⟩⟩
    refine ⟨Nat.zero_le _, fun e57 hp57 => ?_⟩
    generalize hH57 : upd H56 e57 (HO.lst _) = H57
    have s57 : Same H56 H57 := hH57 ▸ same_upd hp57
    have P57 : Plain H57 := hH57 ▸ P56.lst
    have h57 := (congrFun hH57 e57).symm.trans upd_same
    obtain rfl : bs56 = [] := pm56.eq_nil
    refine ⟨.list [], .list [], ⟨l56, w56, rfl, SqL.of (s57 _ _ h56), DVs.same s57 _ _ hw56⟩, ⟨e57, [], rfl, SqL.of h57, rfl⟩, rfl, rfl, ?_⟩
    exact kk _
end
theorem all_mk {l : PySem.W.OpenLaw} {w : World} {K : PySem.W.Frag} {h : Heap} {mg : Str → Option Value} {fa : Addr} (X : K.In h) (G : h.Ns mainGlobals mg) (hfa : mg "law" = some (.ref fa))
    {f_is_in : Addr} {od_is_in an_is_in : Option Addr} {sl_is_in : Array (Option Value)} {oc_is_in kV_is_in dc_is_in pm_is_in cd_is_in ct_is_in : Value}
    {f_Sheet____init__ : Addr} {od_Sheet____init__ an_Sheet____init__ : Option Addr} {sl_Sheet____init__ : Array (Option Value)} {oc_Sheet____init__ kV_Sheet____init__ dc_Sheet____init__ pm_Sheet____init__ cd_Sheet____init__ ct_Sheet____init__ : Value}
    {f_Sheet__lines : Addr} {od_Sheet__lines an_Sheet__lines : Option Addr} {sl_Sheet__lines : Array (Option Value)} {oc_Sheet__lines kV_Sheet__lines dc_Sheet__lines pm_Sheet__lines cd_Sheet__lines ct_Sheet__lines : Value}
    {f_Sheet__version : Addr} {od_Sheet__version an_Sheet__version : Option Addr} {sl_Sheet__version : Array (Option Value)} {oc_Sheet__version kV_Sheet__version dc_Sheet__version pm_Sheet__version cd_Sheet__version ct_Sheet__version : Value}
    {f_Book____init__ : Addr} {od_Book____init__ an_Book____init__ : Option Addr} {sl_Book____init__ : Array (Option Value)} {oc_Book____init__ kV_Book____init__ dc_Book____init__ pm_Book____init__ cd_Book____init__ ct_Book____init__ : Value}
    {f_Book__newest : Addr} {od_Book__newest an_Book__newest : Option Addr} {sl_Book__newest : Array (Option Value)} {oc_Book__newest kV_Book__newest dc_Book__newest pm_Book__newest cd_Book__newest ct_Book__newest : Value}
    {f_Book__add : Addr} {od_Book__add an_Book__add : Option Addr} {sl_Book__add : Array (Option Value)} {oc_Book__add kV_Book__add dc_Book__add pm_Book__add cd_Book__add ct_Book__add : Value}
    {f_Book__kept : Addr} {od_Book__kept an_Book__kept : Option Addr} {sl_Book__kept : Array (Option Value)} {oc_Book__kept kV_Book__kept dc_Book__kept pm_Book__kept cd_Book__kept ct_Book__kept : Value}
    {f_Book__sheet : Addr} {od_Book__sheet an_Book__sheet : Option Addr} {sl_Book__sheet : Array (Option Value)} {oc_Book__sheet kV_Book__sheet dc_Book__sheet pm_Book__sheet cd_Book__sheet ct_Book__sheet : Value}
    {f_Book__lines : Addr} {od_Book__lines an_Book__lines : Option Addr} {sl_Book__lines : Array (Option Value)} {oc_Book__lines kV_Book__lines dc_Book__lines pm_Book__lines cd_Book__lines ct_Book__lines : Value}
    {f_Book__first_so : Addr} {od_Book__first_so an_Book__first_so : Option Addr} {sl_Book__first_so : Array (Option Value)} {oc_Book__first_so kV_Book__first_so dc_Book__first_so pm_Book__first_so cd_Book__first_so ct_Book__first_so : Value}
    {f_Book__since : Addr} {od_Book__since an_Book__since : Option Addr} {sl_Book__since : Array (Option Value)} {oc_Book__since kV_Book__since dc_Book__since pm_Book__since cd_Book__since ct_Book__since : Value}
    {f_Book__trail : Addr} {od_Book__trail an_Book__trail : Option Addr} {sl_Book__trail : Array (Option Value)} {oc_Book__trail kV_Book__trail dc_Book__trail pm_Book__trail cd_Book__trail ct_Book__trail : Value}
    {f__law_digits : Addr} {od__law_digits an__law_digits : Option Addr} {sl__law_digits : Array (Option Value)} {oc__law_digits kV__law_digits dc__law_digits pm__law_digits cd__law_digits ct__law_digits : Value}
    {f__law_signs : Addr} {od__law_signs an__law_signs : Option Addr} {sl__law_signs : Array (Option Value)} {oc__law_signs kV__law_signs dc__law_signs pm__law_signs cd__law_signs ct__law_signs : Value}
    {f__law_words : Addr} {od__law_words an__law_words : Option Addr} {sl__law_words : Array (Option Value)} {oc__law_words kV__law_words dc__law_words pm__law_words cd__law_words ct__law_words : Value}
    {f__law_version : Addr} {od__law_version an__law_version : Option Addr} {sl__law_version : Array (Option Value)} {oc__law_version kV__law_version dc__law_version pm__law_version cd__law_version ct__law_version : Value}
    {f__law_on : Addr} {od__law_on an__law_on : Option Addr} {sl__law_on : Array (Option Value)} {oc__law_on kV__law_on dc__law_on pm__law_on cd__law_on ct__law_on : Value}
    {f__law_table : Addr} {od__law_table an__law_table : Option Addr} {sl__law_table : Array (Option Value)} {oc__law_table kV__law_table dc__law_table pm__law_table cd__law_table ct__law_table : Value}
    {f__law_back : Addr} {od__law_back an__law_back : Option Addr} {sl__law_back : Array (Option Value)} {oc__law_back kV__law_back dc__law_back pm__law_back cd__law_back ct__law_back : Value}
    {f__law_least : Addr} {od__law_least an__law_least : Option Addr} {sl__law_least : Array (Option Value)} {oc__law_least kV__law_least dc__law_least pm__law_least cd__law_least ct__law_least : Value}
    {f__law_right : Addr} {od__law_right an__law_right : Option Addr} {sl__law_right : Array (Option Value)} {oc__law_right kV__law_right dc__law_right pm__law_right cd__law_right ct__law_right : Value}
    {f__law_trail : Addr} {od__law_trail an__law_trail : Option Addr} {sl__law_trail : Array (Option Value)} {oc__law_trail kV__law_trail dc__law_trail pm__law_trail cd__law_trail ct__law_trail : Value}
    {f_law : Addr} {od_law an_law : Option Addr} {sl_law : Array (Option Value)} {oc_law kV_law dc_law pm_law cd_law ct_law : Value}
    {C_Book : Addr}
    {C_NoSave : Addr}
    {C_NoSheet : Addr}
    {C_Sheet : Addr}
    (a_is_in : PySem.W.nsIn K mainGlobals "is_in" = some (some (.ref f_is_in))) (l_is_in : K.lookup f_is_in = some ⟨oc_is_in, od_is_in, .func (PySem.W.fnOf "is_in" "is_in" (defArgs s_is_in) (defBody s_is_in) (defScope s_is_in) .none kV_is_in dc_is_in pm_is_in an_is_in cd_is_in ct_is_in), sl_is_in⟩) (c_is_in : PySem.W.codeIn K cd_is_in "is_in" = true) (k_is_in : PySem.W.keepIn K (.ref f_is_in) = true)
    (a_Sheet____init__ : PySem.W.findIn K (.ref C_Sheet) "__init__" = some (some (.ref f_Sheet____init__))) (i_Sheet____init__ : PySem.W.isFn K (.ref f_Sheet____init__) = true) (l_Sheet____init__ : K.lookup f_Sheet____init__ = some ⟨oc_Sheet____init__, od_Sheet____init__, .func (PySem.W.fnOf "__init__" "Sheet.__init__" (defArgs s_Sheet____init__) (defBody s_Sheet____init__) (defScope s_Sheet____init__) .none kV_Sheet____init__ dc_Sheet____init__ pm_Sheet____init__ an_Sheet____init__ cd_Sheet____init__ ct_Sheet____init__), sl_Sheet____init__⟩) (c_Sheet____init__ : PySem.W.codeIn K cd_Sheet____init__ "Sheet.__init__" = true) (k_Sheet____init__ : PySem.W.keepIn K (.ref f_Sheet____init__) = true)
    (a_Sheet__lines : PySem.W.findIn K (.ref C_Sheet) "lines" = some (some (.ref f_Sheet__lines))) (i_Sheet__lines : PySem.W.isFn K (.ref f_Sheet__lines) = true) (l_Sheet__lines : K.lookup f_Sheet__lines = some ⟨oc_Sheet__lines, od_Sheet__lines, .func (PySem.W.fnOf "lines" "Sheet.lines" (defArgs s_Sheet__lines) (defBody s_Sheet__lines) (defScope s_Sheet__lines) .none kV_Sheet__lines dc_Sheet__lines pm_Sheet__lines an_Sheet__lines cd_Sheet__lines ct_Sheet__lines), sl_Sheet__lines⟩) (c_Sheet__lines : PySem.W.codeIn K cd_Sheet__lines "Sheet.lines" = true) (k_Sheet__lines : PySem.W.keepIn K (.ref f_Sheet__lines) = true)
    (a_Sheet__version : PySem.W.findIn K (.ref C_Sheet) "version" = some (some (.ref f_Sheet__version))) (i_Sheet__version : PySem.W.isFn K (.ref f_Sheet__version) = true) (l_Sheet__version : K.lookup f_Sheet__version = some ⟨oc_Sheet__version, od_Sheet__version, .func (PySem.W.fnOf "version" "Sheet.version" (defArgs s_Sheet__version) (defBody s_Sheet__version) (defScope s_Sheet__version) .none kV_Sheet__version dc_Sheet__version pm_Sheet__version an_Sheet__version cd_Sheet__version ct_Sheet__version), sl_Sheet__version⟩) (c_Sheet__version : PySem.W.codeIn K cd_Sheet__version "Sheet.version" = true) (k_Sheet__version : PySem.W.keepIn K (.ref f_Sheet__version) = true)
    (a_Book____init__ : PySem.W.findIn K (.ref C_Book) "__init__" = some (some (.ref f_Book____init__))) (i_Book____init__ : PySem.W.isFn K (.ref f_Book____init__) = true) (l_Book____init__ : K.lookup f_Book____init__ = some ⟨oc_Book____init__, od_Book____init__, .func (PySem.W.fnOf "__init__" "Book.__init__" (defArgs s_Book____init__) (defBody s_Book____init__) (defScope s_Book____init__) .none kV_Book____init__ dc_Book____init__ pm_Book____init__ an_Book____init__ cd_Book____init__ ct_Book____init__), sl_Book____init__⟩) (c_Book____init__ : PySem.W.codeIn K cd_Book____init__ "Book.__init__" = true) (k_Book____init__ : PySem.W.keepIn K (.ref f_Book____init__) = true)
    (a_Book__newest : PySem.W.findIn K (.ref C_Book) "newest" = some (some (.ref f_Book__newest))) (i_Book__newest : PySem.W.isFn K (.ref f_Book__newest) = true) (l_Book__newest : K.lookup f_Book__newest = some ⟨oc_Book__newest, od_Book__newest, .func (PySem.W.fnOf "newest" "Book.newest" (defArgs s_Book__newest) (defBody s_Book__newest) (defScope s_Book__newest) .none kV_Book__newest dc_Book__newest pm_Book__newest an_Book__newest cd_Book__newest ct_Book__newest), sl_Book__newest⟩) (c_Book__newest : PySem.W.codeIn K cd_Book__newest "Book.newest" = true) (k_Book__newest : PySem.W.keepIn K (.ref f_Book__newest) = true)
    (a_Book__add : PySem.W.findIn K (.ref C_Book) "add" = some (some (.ref f_Book__add))) (i_Book__add : PySem.W.isFn K (.ref f_Book__add) = true) (l_Book__add : K.lookup f_Book__add = some ⟨oc_Book__add, od_Book__add, .func (PySem.W.fnOf "add" "Book.add" (defArgs s_Book__add) (defBody s_Book__add) (defScope s_Book__add) .none kV_Book__add dc_Book__add pm_Book__add an_Book__add cd_Book__add ct_Book__add), sl_Book__add⟩) (c_Book__add : PySem.W.codeIn K cd_Book__add "Book.add" = true) (k_Book__add : PySem.W.keepIn K (.ref f_Book__add) = true)
    (a_Book__kept : PySem.W.findIn K (.ref C_Book) "kept" = some (some (.ref f_Book__kept))) (i_Book__kept : PySem.W.isFn K (.ref f_Book__kept) = true) (l_Book__kept : K.lookup f_Book__kept = some ⟨oc_Book__kept, od_Book__kept, .func (PySem.W.fnOf "kept" "Book.kept" (defArgs s_Book__kept) (defBody s_Book__kept) (defScope s_Book__kept) .none kV_Book__kept dc_Book__kept pm_Book__kept an_Book__kept cd_Book__kept ct_Book__kept), sl_Book__kept⟩) (c_Book__kept : PySem.W.codeIn K cd_Book__kept "Book.kept" = true) (k_Book__kept : PySem.W.keepIn K (.ref f_Book__kept) = true)
    (a_Book__sheet : PySem.W.findIn K (.ref C_Book) "sheet" = some (some (.ref f_Book__sheet))) (i_Book__sheet : PySem.W.isFn K (.ref f_Book__sheet) = true) (l_Book__sheet : K.lookup f_Book__sheet = some ⟨oc_Book__sheet, od_Book__sheet, .func (PySem.W.fnOf "sheet" "Book.sheet" (defArgs s_Book__sheet) (defBody s_Book__sheet) (defScope s_Book__sheet) .none kV_Book__sheet dc_Book__sheet pm_Book__sheet an_Book__sheet cd_Book__sheet ct_Book__sheet), sl_Book__sheet⟩) (c_Book__sheet : PySem.W.codeIn K cd_Book__sheet "Book.sheet" = true) (k_Book__sheet : PySem.W.keepIn K (.ref f_Book__sheet) = true)
    (a_Book__lines : PySem.W.findIn K (.ref C_Book) "lines" = some (some (.ref f_Book__lines))) (i_Book__lines : PySem.W.isFn K (.ref f_Book__lines) = true) (l_Book__lines : K.lookup f_Book__lines = some ⟨oc_Book__lines, od_Book__lines, .func (PySem.W.fnOf "lines" "Book.lines" (defArgs s_Book__lines) (defBody s_Book__lines) (defScope s_Book__lines) .none kV_Book__lines dc_Book__lines pm_Book__lines an_Book__lines cd_Book__lines ct_Book__lines), sl_Book__lines⟩) (c_Book__lines : PySem.W.codeIn K cd_Book__lines "Book.lines" = true) (k_Book__lines : PySem.W.keepIn K (.ref f_Book__lines) = true)
    (a_Book__first_so : PySem.W.findIn K (.ref C_Book) "first_so" = some (some (.ref f_Book__first_so))) (i_Book__first_so : PySem.W.isFn K (.ref f_Book__first_so) = true) (l_Book__first_so : K.lookup f_Book__first_so = some ⟨oc_Book__first_so, od_Book__first_so, .func (PySem.W.fnOf "first_so" "Book.first_so" (defArgs s_Book__first_so) (defBody s_Book__first_so) (defScope s_Book__first_so) .none kV_Book__first_so dc_Book__first_so pm_Book__first_so an_Book__first_so cd_Book__first_so ct_Book__first_so), sl_Book__first_so⟩) (c_Book__first_so : PySem.W.codeIn K cd_Book__first_so "Book.first_so" = true) (k_Book__first_so : PySem.W.keepIn K (.ref f_Book__first_so) = true)
    (a_Book__since : PySem.W.findIn K (.ref C_Book) "since" = some (some (.ref f_Book__since))) (i_Book__since : PySem.W.isFn K (.ref f_Book__since) = true) (l_Book__since : K.lookup f_Book__since = some ⟨oc_Book__since, od_Book__since, .func (PySem.W.fnOf "since" "Book.since" (defArgs s_Book__since) (defBody s_Book__since) (defScope s_Book__since) .none kV_Book__since dc_Book__since pm_Book__since an_Book__since cd_Book__since ct_Book__since), sl_Book__since⟩) (c_Book__since : PySem.W.codeIn K cd_Book__since "Book.since" = true) (k_Book__since : PySem.W.keepIn K (.ref f_Book__since) = true)
    (a_Book__trail : PySem.W.findIn K (.ref C_Book) "trail" = some (some (.ref f_Book__trail))) (i_Book__trail : PySem.W.isFn K (.ref f_Book__trail) = true) (l_Book__trail : K.lookup f_Book__trail = some ⟨oc_Book__trail, od_Book__trail, .func (PySem.W.fnOf "trail" "Book.trail" (defArgs s_Book__trail) (defBody s_Book__trail) (defScope s_Book__trail) .none kV_Book__trail dc_Book__trail pm_Book__trail an_Book__trail cd_Book__trail ct_Book__trail), sl_Book__trail⟩) (c_Book__trail : PySem.W.codeIn K cd_Book__trail "Book.trail" = true) (k_Book__trail : PySem.W.keepIn K (.ref f_Book__trail) = true)
    (a__law_digits : PySem.W.nsIn K mainGlobals "_law_digits" = some (some (.ref f__law_digits))) (l__law_digits : K.lookup f__law_digits = some ⟨oc__law_digits, od__law_digits, .func (PySem.W.fnOf "_law_digits" "_law_digits" (defArgs s__law_digits) (defBody s__law_digits) (defScope s__law_digits) .none kV__law_digits dc__law_digits pm__law_digits an__law_digits cd__law_digits ct__law_digits), sl__law_digits⟩) (c__law_digits : PySem.W.codeIn K cd__law_digits "_law_digits" = true) (k__law_digits : PySem.W.keepIn K (.ref f__law_digits) = true)
    (a__law_signs : PySem.W.nsIn K mainGlobals "_law_signs" = some (some (.ref f__law_signs))) (l__law_signs : K.lookup f__law_signs = some ⟨oc__law_signs, od__law_signs, .func (PySem.W.fnOf "_law_signs" "_law_signs" (defArgs s__law_signs) (defBody s__law_signs) (defScope s__law_signs) .none kV__law_signs dc__law_signs pm__law_signs an__law_signs cd__law_signs ct__law_signs), sl__law_signs⟩) (c__law_signs : PySem.W.codeIn K cd__law_signs "_law_signs" = true) (k__law_signs : PySem.W.keepIn K (.ref f__law_signs) = true)
    (a__law_words : PySem.W.nsIn K mainGlobals "_law_words" = some (some (.ref f__law_words))) (l__law_words : K.lookup f__law_words = some ⟨oc__law_words, od__law_words, .func (PySem.W.fnOf "_law_words" "_law_words" (defArgs s__law_words) (defBody s__law_words) (defScope s__law_words) .none kV__law_words dc__law_words pm__law_words an__law_words cd__law_words ct__law_words), sl__law_words⟩) (c__law_words : PySem.W.codeIn K cd__law_words "_law_words" = true) (k__law_words : PySem.W.keepIn K (.ref f__law_words) = true)
    (a__law_version : PySem.W.nsIn K mainGlobals "_law_version" = some (some (.ref f__law_version))) (l__law_version : K.lookup f__law_version = some ⟨oc__law_version, od__law_version, .func (PySem.W.fnOf "_law_version" "_law_version" (defArgs s__law_version) (defBody s__law_version) (defScope s__law_version) .none kV__law_version dc__law_version pm__law_version an__law_version cd__law_version ct__law_version), sl__law_version⟩) (c__law_version : PySem.W.codeIn K cd__law_version "_law_version" = true) (k__law_version : PySem.W.keepIn K (.ref f__law_version) = true)
    (a__law_on : PySem.W.nsIn K mainGlobals "_law_on" = some (some (.ref f__law_on))) (l__law_on : K.lookup f__law_on = some ⟨oc__law_on, od__law_on, .func (PySem.W.fnOf "_law_on" "_law_on" (defArgs s__law_on) (defBody s__law_on) (defScope s__law_on) .none kV__law_on dc__law_on pm__law_on an__law_on cd__law_on ct__law_on), sl__law_on⟩) (c__law_on : PySem.W.codeIn K cd__law_on "_law_on" = true) (k__law_on : PySem.W.keepIn K (.ref f__law_on) = true)
    (a__law_table : PySem.W.nsIn K mainGlobals "_law_table" = some (some (.ref f__law_table))) (l__law_table : K.lookup f__law_table = some ⟨oc__law_table, od__law_table, .func (PySem.W.fnOf "_law_table" "_law_table" (defArgs s__law_table) (defBody s__law_table) (defScope s__law_table) .none kV__law_table dc__law_table pm__law_table an__law_table cd__law_table ct__law_table), sl__law_table⟩) (c__law_table : PySem.W.codeIn K cd__law_table "_law_table" = true) (k__law_table : PySem.W.keepIn K (.ref f__law_table) = true)
    (a__law_back : PySem.W.nsIn K mainGlobals "_law_back" = some (some (.ref f__law_back))) (l__law_back : K.lookup f__law_back = some ⟨oc__law_back, od__law_back, .func (PySem.W.fnOf "_law_back" "_law_back" (defArgs s__law_back) (defBody s__law_back) (defScope s__law_back) .none kV__law_back dc__law_back pm__law_back an__law_back cd__law_back ct__law_back), sl__law_back⟩) (c__law_back : PySem.W.codeIn K cd__law_back "_law_back" = true) (k__law_back : PySem.W.keepIn K (.ref f__law_back) = true)
    (a__law_least : PySem.W.nsIn K mainGlobals "_law_least" = some (some (.ref f__law_least))) (l__law_least : K.lookup f__law_least = some ⟨oc__law_least, od__law_least, .func (PySem.W.fnOf "_law_least" "_law_least" (defArgs s__law_least) (defBody s__law_least) (defScope s__law_least) .none kV__law_least dc__law_least pm__law_least an__law_least cd__law_least ct__law_least), sl__law_least⟩) (c__law_least : PySem.W.codeIn K cd__law_least "_law_least" = true) (k__law_least : PySem.W.keepIn K (.ref f__law_least) = true)
    (a__law_right : PySem.W.nsIn K mainGlobals "_law_right" = some (some (.ref f__law_right))) (l__law_right : K.lookup f__law_right = some ⟨oc__law_right, od__law_right, .func (PySem.W.fnOf "_law_right" "_law_right" (defArgs s__law_right) (defBody s__law_right) (defScope s__law_right) .none kV__law_right dc__law_right pm__law_right an__law_right cd__law_right ct__law_right), sl__law_right⟩) (c__law_right : PySem.W.codeIn K cd__law_right "_law_right" = true) (k__law_right : PySem.W.keepIn K (.ref f__law_right) = true)
    (a__law_trail : PySem.W.nsIn K mainGlobals "_law_trail" = some (some (.ref f__law_trail))) (l__law_trail : K.lookup f__law_trail = some ⟨oc__law_trail, od__law_trail, .func (PySem.W.fnOf "_law_trail" "_law_trail" (defArgs s__law_trail) (defBody s__law_trail) (defScope s__law_trail) .none kV__law_trail dc__law_trail pm__law_trail an__law_trail cd__law_trail ct__law_trail), sl__law_trail⟩) (c__law_trail : PySem.W.codeIn K cd__law_trail "_law_trail" = true) (k__law_trail : PySem.W.keepIn K (.ref f__law_trail) = true)
    (a_law : PySem.W.nsIn K mainGlobals "law" = some (some (.ref f_law))) (l_law : K.lookup f_law = some ⟨oc_law, od_law, .func (PySem.W.fnOf "law" "law" (defArgs s_law) (defBody s_law) (defScope s_law) .none kV_law dc_law pm_law an_law cd_law ct_law), sl_law⟩) (c_law : PySem.W.codeIn K cd_law "law" = true) (k_law : PySem.W.keepIn K (.ref f_law) = true)
    (q_Book : PySem.W.nsIn K mainGlobals "Book" = some (some (.ref C_Book)))
    (pg_Book : PySem.W.plainGet K C_Book Str.empty = true) (hd_Book : PySem.W.hasDictIn K C_Book = true) (po_Book : PySem.W.plainOver K C_Book = true) (sa_Book : PySem.W.findIn K (.ref C_Book) "__setattr__" = some (some (.builtin "object.__setattr__"))) (mk_Book : PySem.W.makesIn K C_Book = true) (kc_Book : PySem.W.keepIn K (.ref C_Book) = true)
    (na_Book_saves : PySem.W.findIn K (.ref C_Book) "saves" = some none)
    (q_NoSave : PySem.W.nsIn K mainGlobals "NoSave" = some (some (.ref C_NoSave)))
    (x_NoSave : XCls K C_NoSave)
    (q_NoSheet : PySem.W.nsIn K mainGlobals "NoSheet" = some (some (.ref C_NoSheet)))
    (x_NoSheet : XCls K C_NoSheet)
    (q_Sheet : PySem.W.nsIn K mainGlobals "Sheet" = some (some (.ref C_Sheet)))
    (pg_Sheet : PySem.W.plainGet K C_Sheet Str.empty = true) (hd_Sheet : PySem.W.hasDictIn K C_Sheet = true) (po_Sheet : PySem.W.plainOver K C_Sheet = true) (sa_Sheet : PySem.W.findIn K (.ref C_Sheet) "__setattr__" = some (some (.builtin "object.__setattr__"))) (mk_Sheet : PySem.W.makesIn K C_Sheet = true) (kc_Sheet : PySem.W.keepIn K (.ref C_Sheet) = true)
    (na_Sheet_versions : PySem.W.findIn K (.ref C_Sheet) "versions" = some none)
    (n_dict : PySem.W.nsIn K mainGlobals "dict" = some none)
    (n_enumerate : PySem.W.nsIn K mainGlobals "enumerate" = some none)
    (n_len : PySem.W.nsIn K mainGlobals "len" = some none)
    (n_min : PySem.W.nsIn K mainGlobals "min" = some none)
    (n_range : PySem.W.nsIn K mainGlobals "range" = some none)
    (n_sorted : PySem.W.nsIn K mainGlobals "sorted" = some none)
    (n_tuple : PySem.W.nsIn K mainGlobals "tuple" = some none)
    : ∃ fd : FuncData, (∀ (s : Shared) (v : Value), BindsTo s fd ⟨[v], []⟩ [("_law_script", v)]) ∧ ∀ base : Heap, K.In base → base.Ns mainGlobals mg → FnOk l.prog w K mg base (CX1 l.prog w base) 7 fa fd ["_law_script"] (sp_law K) := by
  have e := hfa.symm.trans (PySem.W.mg_of X G a_law)
  cases e
  have F_is_in := fun_mk (st := s_is_in) l_is_in c_is_in k_is_in
  have F_Sheet____init__ := fun_mk (st := s_Sheet____init__) l_Sheet____init__ c_Sheet____init__ k_Sheet____init__
  have F_Sheet__lines := fun_mk (st := s_Sheet__lines) l_Sheet__lines c_Sheet__lines k_Sheet__lines
  have F_Sheet__version := fun_mk (st := s_Sheet__version) l_Sheet__version c_Sheet__version k_Sheet__version
  have F_Book____init__ := fun_mk (st := s_Book____init__) l_Book____init__ c_Book____init__ k_Book____init__
  have F_Book__newest := fun_mk (st := s_Book__newest) l_Book__newest c_Book__newest k_Book__newest
  have F_Book__add := fun_mk (st := s_Book__add) l_Book__add c_Book__add k_Book__add
  have F_Book__kept := fun_mk (st := s_Book__kept) l_Book__kept c_Book__kept k_Book__kept
  have F_Book__sheet := fun_mk (st := s_Book__sheet) l_Book__sheet c_Book__sheet k_Book__sheet
  have F_Book__lines := fun_mk (st := s_Book__lines) l_Book__lines c_Book__lines k_Book__lines
  have F_Book__first_so := fun_mk (st := s_Book__first_so) l_Book__first_so c_Book__first_so k_Book__first_so
  have F_Book__since := fun_mk (st := s_Book__since) l_Book__since c_Book__since k_Book__since
  have F_Book__trail := fun_mk (st := s_Book__trail) l_Book__trail c_Book__trail k_Book__trail
  have F__law_digits := fun_mk (st := s__law_digits) l__law_digits c__law_digits k__law_digits
  have F__law_signs := fun_mk (st := s__law_signs) l__law_signs c__law_signs k__law_signs
  have F__law_words := fun_mk (st := s__law_words) l__law_words c__law_words k__law_words
  have F__law_version := fun_mk (st := s__law_version) l__law_version c__law_version k__law_version
  have F__law_on := fun_mk (st := s__law_on) l__law_on c__law_on k__law_on
  have F__law_table := fun_mk (st := s__law_table) l__law_table c__law_table k__law_table
  have F__law_back := fun_mk (st := s__law_back) l__law_back c__law_back k__law_back
  have F__law_least := fun_mk (st := s__law_least) l__law_least c__law_least k__law_least
  have F__law_right := fun_mk (st := s__law_right) l__law_right c__law_right k__law_right
  have F__law_trail := fun_mk (st := s__law_trail) l__law_trail c__law_trail k__law_trail
  have F_law := fun_mk (st := s_law) l_law c_law k_law
  have T : Txt K mg ⟨f_is_in, _, f_Sheet____init__, _, f_Sheet__lines, _, f_Sheet__version, _, f_Book____init__, _, f_Book__newest, _, f_Book__add, _, f_Book__kept, _, f_Book__sheet, _, f_Book__lines, _, f_Book__first_so, _, f_Book__since, _, f_Book__trail, _, f__law_digits, _, f__law_signs, _, f__law_words, _, f__law_version, _, f__law_on, _, f__law_table, _, f__law_back, _, f__law_least, _, f__law_right, _, f__law_trail, _, fa, _, C_Book, C_NoSave, C_NoSheet, C_Sheet⟩ := ⟨F_is_in, (PySem.W.mg_of X G a_is_in), k_is_in, (F_is_in.binds fun _ _ _ _ _ _ us hl => match us, hl with | [_], _ => rfl), F_Sheet____init__, (F_Sheet____init__.binds fun _ _ _ _ _ _ us hl => match us, hl with | [_, _], _ => rfl), ⟨mk_Sheet, a_Sheet____init__, i_Sheet____init__, kc_Sheet⟩, F_Sheet__lines, (F_Sheet__lines.binds fun _ _ _ _ _ _ us hl => match us, hl with | [_], _ => rfl), ⟨a_Sheet__lines, i_Sheet__lines, k_Sheet__lines⟩, F_Sheet__version, (F_Sheet__version.binds fun _ _ _ _ _ _ us hl => match us, hl with | [_, _], _ => rfl), ⟨a_Sheet__version, i_Sheet__version, k_Sheet__version⟩, F_Book____init__, (F_Book____init__.binds fun _ _ _ _ _ _ us hl => match us, hl with | [_], _ => rfl), ⟨mk_Book, a_Book____init__, i_Book____init__, kc_Book⟩, F_Book__newest, (F_Book__newest.binds fun _ _ _ _ _ _ us hl => match us, hl with | [_], _ => rfl), ⟨a_Book__newest, i_Book__newest, k_Book__newest⟩, F_Book__add, (F_Book__add.binds fun _ _ _ _ _ _ us hl => match us, hl with | [_, _, _, _, _], _ => rfl), ⟨a_Book__add, i_Book__add, k_Book__add⟩, F_Book__kept, (F_Book__kept.binds fun _ _ _ _ _ _ us hl => match us, hl with | [_, _], _ => rfl), ⟨a_Book__kept, i_Book__kept, k_Book__kept⟩, F_Book__sheet, (F_Book__sheet.binds fun _ _ _ _ _ _ us hl => match us, hl with | [_, _], _ => rfl), ⟨a_Book__sheet, i_Book__sheet, k_Book__sheet⟩, F_Book__lines, (F_Book__lines.binds fun _ _ _ _ _ _ us hl => match us, hl with | [_, _], _ => rfl), ⟨a_Book__lines, i_Book__lines, k_Book__lines⟩, F_Book__first_so, (F_Book__first_so.binds fun _ _ _ _ _ _ us hl => match us, hl with | [_, _, _], _ => rfl), ⟨a_Book__first_so, i_Book__first_so, k_Book__first_so⟩, F_Book__since, (F_Book__since.binds fun _ _ _ _ _ _ us hl => match us, hl with | [_, _], _ => rfl), ⟨a_Book__since, i_Book__since, k_Book__since⟩, F_Book__trail, (F_Book__trail.binds fun _ _ _ _ _ _ us hl => match us, hl with | [_, _], _ => rfl), ⟨a_Book__trail, i_Book__trail, k_Book__trail⟩, F__law_digits, (PySem.W.mg_of X G a__law_digits), k__law_digits, (F__law_digits.binds fun _ _ _ _ _ _ us hl => match us, hl with | [_, _], _ => rfl), F__law_signs, (PySem.W.mg_of X G a__law_signs), k__law_signs, (F__law_signs.binds fun _ _ _ _ _ _ us hl => match us, hl with | [], _ => rfl), F__law_words, (PySem.W.mg_of X G a__law_words), k__law_words, (F__law_words.binds fun _ _ _ _ _ _ us hl => match us, hl with | [_, _], _ => rfl), F__law_version, (PySem.W.mg_of X G a__law_version), k__law_version, (F__law_version.binds fun _ _ _ _ _ _ us hl => match us, hl with | [_], _ => rfl), F__law_on, (PySem.W.mg_of X G a__law_on), k__law_on, (F__law_on.binds fun _ _ _ _ _ _ us hl => match us, hl with | [_, _, _], _ => rfl), F__law_table, (PySem.W.mg_of X G a__law_table), k__law_table, (F__law_table.binds fun _ _ _ _ _ _ us hl => match us, hl with | [_], _ => rfl), F__law_back, (PySem.W.mg_of X G a__law_back), k__law_back, (F__law_back.binds fun _ _ _ _ _ _ us hl => match us, hl with | [_, _, _], _ => rfl), F__law_least, (PySem.W.mg_of X G a__law_least), k__law_least, (F__law_least.binds fun _ _ _ _ _ _ us hl => match us, hl with | [_, _, _], _ => rfl), F__law_right, (PySem.W.mg_of X G a__law_right), k__law_right, (F__law_right.binds fun _ _ _ _ _ _ us hl => match us, hl with | [_, _, _], _ => rfl), F__law_trail, (PySem.W.mg_of X G a__law_trail), k__law_trail, (F__law_trail.binds fun _ _ _ _ _ _ us hl => match us, hl with | [_, _], _ => rfl), F_law, (PySem.W.mg_of X G a_law), k_law, (F_law.binds fun _ _ _ _ _ _ us hl => match us, hl with | [_], _ => rfl), (PySem.W.mg_of X G q_Book), ⟨pg_Book, hd_Book, po_Book, sa_Book⟩, na_Book_saves, (PySem.W.mg_of X G q_NoSave), x_NoSave, (PySem.W.mg_of X G q_NoSheet), x_NoSheet, (PySem.W.mg_of X G q_Sheet), ⟨pg_Sheet, hd_Sheet, po_Sheet, sa_Sheet⟩, na_Sheet_versions, (PySem.W.mg_none_of X G n_dict), (PySem.W.mg_none_of X G n_enumerate), (PySem.W.mg_none_of X G n_len), (PySem.W.mg_none_of X G n_min), (PySem.W.mg_none_of X G n_range), (PySem.W.mg_none_of X G n_sorted), (PySem.W.mg_none_of X G n_tuple)⟩
  refine ⟨PySem.W.fnOf "law" "law" (defArgs s_law) (defBody s_law) (defScope s_law) .none kV_law dc_law pm_law an_law cd_law ct_law, fun s v => .of_eq rfl, fun base _ _ => ?_⟩
  have G_is_in : Ok_is_in l.prog w K mg base ⟨f_is_in, _, f_Sheet____init__, _, f_Sheet__lines, _, f_Sheet__version, _, f_Book____init__, _, f_Book__newest, _, f_Book__add, _, f_Book__kept, _, f_Book__sheet, _, f_Book__lines, _, f_Book__first_so, _, f_Book__since, _, f_Book__trail, _, f__law_digits, _, f__law_signs, _, f__law_words, _, f__law_version, _, f__law_on, _, f__law_table, _, f__law_back, _, f__law_least, _, f__law_right, _, f__law_trail, _, fa, _, C_Book, C_NoSave, C_NoSheet, C_Sheet⟩ := ok_is_in T 
  have G_Sheet____init__ : Ok_Sheet____init__ l.prog w K mg base ⟨f_is_in, _, f_Sheet____init__, _, f_Sheet__lines, _, f_Sheet__version, _, f_Book____init__, _, f_Book__newest, _, f_Book__add, _, f_Book__kept, _, f_Book__sheet, _, f_Book__lines, _, f_Book__first_so, _, f_Book__since, _, f_Book__trail, _, f__law_digits, _, f__law_signs, _, f__law_words, _, f__law_version, _, f__law_on, _, f__law_table, _, f__law_back, _, f__law_least, _, f__law_right, _, f__law_trail, _, fa, _, C_Book, C_NoSave, C_NoSheet, C_Sheet⟩ := ok_Sheet____init__ T 
  have G_Sheet__lines : Ok_Sheet__lines l.prog w K mg base ⟨f_is_in, _, f_Sheet____init__, _, f_Sheet__lines, _, f_Sheet__version, _, f_Book____init__, _, f_Book__newest, _, f_Book__add, _, f_Book__kept, _, f_Book__sheet, _, f_Book__lines, _, f_Book__first_so, _, f_Book__since, _, f_Book__trail, _, f__law_digits, _, f__law_signs, _, f__law_words, _, f__law_version, _, f__law_on, _, f__law_table, _, f__law_back, _, f__law_least, _, f__law_right, _, f__law_trail, _, fa, _, C_Book, C_NoSave, C_NoSheet, C_Sheet⟩ := ok_Sheet__lines T G_is_in
  have G_Sheet__version : Ok_Sheet__version l.prog w K mg base ⟨f_is_in, _, f_Sheet____init__, _, f_Sheet__lines, _, f_Sheet__version, _, f_Book____init__, _, f_Book__newest, _, f_Book__add, _, f_Book__kept, _, f_Book__sheet, _, f_Book__lines, _, f_Book__first_so, _, f_Book__since, _, f_Book__trail, _, f__law_digits, _, f__law_signs, _, f__law_words, _, f__law_version, _, f__law_on, _, f__law_table, _, f__law_back, _, f__law_least, _, f__law_right, _, f__law_trail, _, fa, _, C_Book, C_NoSave, C_NoSheet, C_Sheet⟩ := ok_Sheet__version T 
  have G_Book____init__ : Ok_Book____init__ l.prog w K mg base ⟨f_is_in, _, f_Sheet____init__, _, f_Sheet__lines, _, f_Sheet__version, _, f_Book____init__, _, f_Book__newest, _, f_Book__add, _, f_Book__kept, _, f_Book__sheet, _, f_Book__lines, _, f_Book__first_so, _, f_Book__since, _, f_Book__trail, _, f__law_digits, _, f__law_signs, _, f__law_words, _, f__law_version, _, f__law_on, _, f__law_table, _, f__law_back, _, f__law_least, _, f__law_right, _, f__law_trail, _, fa, _, C_Book, C_NoSave, C_NoSheet, C_Sheet⟩ := ok_Book____init__ T G_Sheet____init__
  have G_Book__newest : Ok_Book__newest l.prog w K mg base ⟨f_is_in, _, f_Sheet____init__, _, f_Sheet__lines, _, f_Sheet__version, _, f_Book____init__, _, f_Book__newest, _, f_Book__add, _, f_Book__kept, _, f_Book__sheet, _, f_Book__lines, _, f_Book__first_so, _, f_Book__since, _, f_Book__trail, _, f__law_digits, _, f__law_signs, _, f__law_words, _, f__law_version, _, f__law_on, _, f__law_table, _, f__law_back, _, f__law_least, _, f__law_right, _, f__law_trail, _, fa, _, C_Book, C_NoSave, C_NoSheet, C_Sheet⟩ := ok_Book__newest T 
  have G_Book__add : Ok_Book__add l.prog w K mg base ⟨f_is_in, _, f_Sheet____init__, _, f_Sheet__lines, _, f_Sheet__version, _, f_Book____init__, _, f_Book__newest, _, f_Book__add, _, f_Book__kept, _, f_Book__sheet, _, f_Book__lines, _, f_Book__first_so, _, f_Book__since, _, f_Book__trail, _, f__law_digits, _, f__law_signs, _, f__law_words, _, f__law_version, _, f__law_on, _, f__law_table, _, f__law_back, _, f__law_least, _, f__law_right, _, f__law_trail, _, fa, _, C_Book, C_NoSave, C_NoSheet, C_Sheet⟩ := ok_Book__add T G_Book__newest
  have G_Book__kept : Ok_Book__kept l.prog w K mg base ⟨f_is_in, _, f_Sheet____init__, _, f_Sheet__lines, _, f_Sheet__version, _, f_Book____init__, _, f_Book__newest, _, f_Book__add, _, f_Book__kept, _, f_Book__sheet, _, f_Book__lines, _, f_Book__first_so, _, f_Book__since, _, f_Book__trail, _, f__law_digits, _, f__law_signs, _, f__law_words, _, f__law_version, _, f__law_on, _, f__law_table, _, f__law_back, _, f__law_least, _, f__law_right, _, f__law_trail, _, fa, _, C_Book, C_NoSave, C_NoSheet, C_Sheet⟩ := ok_Book__kept T G_Book__newest
  have G_Book__sheet : Ok_Book__sheet l.prog w K mg base ⟨f_is_in, _, f_Sheet____init__, _, f_Sheet__lines, _, f_Sheet__version, _, f_Book____init__, _, f_Book__newest, _, f_Book__add, _, f_Book__kept, _, f_Book__sheet, _, f_Book__lines, _, f_Book__first_so, _, f_Book__since, _, f_Book__trail, _, f__law_digits, _, f__law_signs, _, f__law_words, _, f__law_version, _, f__law_on, _, f__law_table, _, f__law_back, _, f__law_least, _, f__law_right, _, f__law_trail, _, fa, _, C_Book, C_NoSave, C_NoSheet, C_Sheet⟩ := ok_Book__sheet T G_Book__kept
  have G_Book__lines : Ok_Book__lines l.prog w K mg base ⟨f_is_in, _, f_Sheet____init__, _, f_Sheet__lines, _, f_Sheet__version, _, f_Book____init__, _, f_Book__newest, _, f_Book__add, _, f_Book__kept, _, f_Book__sheet, _, f_Book__lines, _, f_Book__first_so, _, f_Book__since, _, f_Book__trail, _, f__law_digits, _, f__law_signs, _, f__law_words, _, f__law_version, _, f__law_on, _, f__law_table, _, f__law_back, _, f__law_least, _, f__law_right, _, f__law_trail, _, fa, _, C_Book, C_NoSave, C_NoSheet, C_Sheet⟩ := ok_Book__lines T G_Sheet__lines G_Book__sheet
  have G_Book__first_so : Ok_Book__first_so l.prog w K mg base ⟨f_is_in, _, f_Sheet____init__, _, f_Sheet__lines, _, f_Sheet__version, _, f_Book____init__, _, f_Book__newest, _, f_Book__add, _, f_Book__kept, _, f_Book__sheet, _, f_Book__lines, _, f_Book__first_so, _, f_Book__since, _, f_Book__trail, _, f__law_digits, _, f__law_signs, _, f__law_words, _, f__law_version, _, f__law_on, _, f__law_table, _, f__law_back, _, f__law_least, _, f__law_right, _, f__law_trail, _, fa, _, C_Book, C_NoSave, C_NoSheet, C_Sheet⟩ := ok_Book__first_so T G_Sheet__version G_Book__sheet
  have G_Book__since : Ok_Book__since l.prog w K mg base ⟨f_is_in, _, f_Sheet____init__, _, f_Sheet__lines, _, f_Sheet__version, _, f_Book____init__, _, f_Book__newest, _, f_Book__add, _, f_Book__kept, _, f_Book__sheet, _, f_Book__lines, _, f_Book__first_so, _, f_Book__since, _, f_Book__trail, _, f__law_digits, _, f__law_signs, _, f__law_words, _, f__law_version, _, f__law_on, _, f__law_table, _, f__law_back, _, f__law_least, _, f__law_right, _, f__law_trail, _, fa, _, C_Book, C_NoSave, C_NoSheet, C_Sheet⟩ := ok_Book__since T G_Sheet__lines G_Book__lines G_Book__first_so
  have G_Book__trail : Ok_Book__trail l.prog w K mg base ⟨f_is_in, _, f_Sheet____init__, _, f_Sheet__lines, _, f_Sheet__version, _, f_Book____init__, _, f_Book__newest, _, f_Book__add, _, f_Book__kept, _, f_Book__sheet, _, f_Book__lines, _, f_Book__first_so, _, f_Book__since, _, f_Book__trail, _, f__law_digits, _, f__law_signs, _, f__law_words, _, f__law_version, _, f__law_on, _, f__law_table, _, f__law_back, _, f__law_least, _, f__law_right, _, f__law_trail, _, fa, _, C_Book, C_NoSave, C_NoSheet, C_Sheet⟩ := ok_Book__trail T G_Sheet__version
  have G__law_digits : Ok__law_digits l.prog w K mg base ⟨f_is_in, _, f_Sheet____init__, _, f_Sheet__lines, _, f_Sheet__version, _, f_Book____init__, _, f_Book__newest, _, f_Book__add, _, f_Book__kept, _, f_Book__sheet, _, f_Book__lines, _, f_Book__first_so, _, f_Book__since, _, f_Book__trail, _, f__law_digits, _, f__law_signs, _, f__law_words, _, f__law_version, _, f__law_on, _, f__law_table, _, f__law_back, _, f__law_least, _, f__law_right, _, f__law_trail, _, fa, _, C_Book, C_NoSave, C_NoSheet, C_Sheet⟩ := ok__law_digits T 
  have G__law_signs : Ok__law_signs l.prog w K mg base ⟨f_is_in, _, f_Sheet____init__, _, f_Sheet__lines, _, f_Sheet__version, _, f_Book____init__, _, f_Book__newest, _, f_Book__add, _, f_Book__kept, _, f_Book__sheet, _, f_Book__lines, _, f_Book__first_so, _, f_Book__since, _, f_Book__trail, _, f__law_digits, _, f__law_signs, _, f__law_words, _, f__law_version, _, f__law_on, _, f__law_table, _, f__law_back, _, f__law_least, _, f__law_right, _, f__law_trail, _, fa, _, C_Book, C_NoSave, C_NoSheet, C_Sheet⟩ := ok__law_signs T 
  have G__law_words : Ok__law_words l.prog w K mg base ⟨f_is_in, _, f_Sheet____init__, _, f_Sheet__lines, _, f_Sheet__version, _, f_Book____init__, _, f_Book__newest, _, f_Book__add, _, f_Book__kept, _, f_Book__sheet, _, f_Book__lines, _, f_Book__first_so, _, f_Book__since, _, f_Book__trail, _, f__law_digits, _, f__law_signs, _, f__law_words, _, f__law_version, _, f__law_on, _, f__law_table, _, f__law_back, _, f__law_least, _, f__law_right, _, f__law_trail, _, fa, _, C_Book, C_NoSave, C_NoSheet, C_Sheet⟩ := ok__law_words T G__law_signs
  have G__law_version : Ok__law_version l.prog w K mg base ⟨f_is_in, _, f_Sheet____init__, _, f_Sheet__lines, _, f_Sheet__version, _, f_Book____init__, _, f_Book__newest, _, f_Book__add, _, f_Book__kept, _, f_Book__sheet, _, f_Book__lines, _, f_Book__first_so, _, f_Book__since, _, f_Book__trail, _, f__law_digits, _, f__law_signs, _, f__law_words, _, f__law_version, _, f__law_on, _, f__law_table, _, f__law_back, _, f__law_least, _, f__law_right, _, f__law_trail, _, fa, _, C_Book, C_NoSave, C_NoSheet, C_Sheet⟩ := ok__law_version T G__law_words
  have G__law_on : Ok__law_on l.prog w K mg base ⟨f_is_in, _, f_Sheet____init__, _, f_Sheet__lines, _, f_Sheet__version, _, f_Book____init__, _, f_Book__newest, _, f_Book__add, _, f_Book__kept, _, f_Book__sheet, _, f_Book__lines, _, f_Book__first_so, _, f_Book__since, _, f_Book__trail, _, f__law_digits, _, f__law_signs, _, f__law_words, _, f__law_version, _, f__law_on, _, f__law_table, _, f__law_back, _, f__law_least, _, f__law_right, _, f__law_trail, _, fa, _, C_Book, C_NoSave, C_NoSheet, C_Sheet⟩ := ok__law_on T G__law_digits G__law_version
  have G__law_table : Ok__law_table l.prog w K mg base ⟨f_is_in, _, f_Sheet____init__, _, f_Sheet__lines, _, f_Sheet__version, _, f_Book____init__, _, f_Book__newest, _, f_Book__add, _, f_Book__kept, _, f_Book__sheet, _, f_Book__lines, _, f_Book__first_so, _, f_Book__since, _, f_Book__trail, _, f__law_digits, _, f__law_signs, _, f__law_words, _, f__law_version, _, f__law_on, _, f__law_table, _, f__law_back, _, f__law_least, _, f__law_right, _, f__law_trail, _, fa, _, C_Book, C_NoSave, C_NoSheet, C_Sheet⟩ := ok__law_table T 
  have G__law_back : Ok__law_back l.prog w K mg base ⟨f_is_in, _, f_Sheet____init__, _, f_Sheet__lines, _, f_Sheet__version, _, f_Book____init__, _, f_Book__newest, _, f_Book__add, _, f_Book__kept, _, f_Book__sheet, _, f_Book__lines, _, f_Book__first_so, _, f_Book__since, _, f_Book__trail, _, f__law_digits, _, f__law_signs, _, f__law_words, _, f__law_version, _, f__law_on, _, f__law_table, _, f__law_back, _, f__law_least, _, f__law_right, _, f__law_trail, _, fa, _, C_Book, C_NoSave, C_NoSheet, C_Sheet⟩ := ok__law_back T G__law_table
  have G__law_least : Ok__law_least l.prog w K mg base ⟨f_is_in, _, f_Sheet____init__, _, f_Sheet__lines, _, f_Sheet__version, _, f_Book____init__, _, f_Book__newest, _, f_Book__add, _, f_Book__kept, _, f_Book__sheet, _, f_Book__lines, _, f_Book__first_so, _, f_Book__since, _, f_Book__trail, _, f__law_digits, _, f__law_signs, _, f__law_words, _, f__law_version, _, f__law_on, _, f__law_table, _, f__law_back, _, f__law_least, _, f__law_right, _, f__law_trail, _, fa, _, C_Book, C_NoSave, C_NoSheet, C_Sheet⟩ := ok__law_least T 
  have G__law_right : Ok__law_right l.prog w K mg base ⟨f_is_in, _, f_Sheet____init__, _, f_Sheet__lines, _, f_Sheet__version, _, f_Book____init__, _, f_Book__newest, _, f_Book__add, _, f_Book__kept, _, f_Book__sheet, _, f_Book__lines, _, f_Book__first_so, _, f_Book__since, _, f_Book__trail, _, f__law_digits, _, f__law_signs, _, f__law_words, _, f__law_version, _, f__law_on, _, f__law_table, _, f__law_back, _, f__law_least, _, f__law_right, _, f__law_trail, _, fa, _, C_Book, C_NoSave, C_NoSheet, C_Sheet⟩ := ok__law_right T G_Sheet__lines G_Book__lines G_Book__since G__law_least
  have G__law_trail : Ok__law_trail l.prog w K mg base ⟨f_is_in, _, f_Sheet____init__, _, f_Sheet__lines, _, f_Sheet__version, _, f_Book____init__, _, f_Book__newest, _, f_Book__add, _, f_Book__kept, _, f_Book__sheet, _, f_Book__lines, _, f_Book__first_so, _, f_Book__since, _, f_Book__trail, _, f__law_digits, _, f__law_signs, _, f__law_words, _, f__law_version, _, f__law_on, _, f__law_table, _, f__law_back, _, f__law_least, _, f__law_right, _, f__law_trail, _, fa, _, C_Book, C_NoSave, C_NoSheet, C_Sheet⟩ := ok__law_trail T 
  have G_law : Ok_law l.prog w K mg base ⟨f_is_in, _, f_Sheet____init__, _, f_Sheet__lines, _, f_Sheet__version, _, f_Book____init__, _, f_Book__newest, _, f_Book__add, _, f_Book__kept, _, f_Book__sheet, _, f_Book__lines, _, f_Book__first_so, _, f_Book__since, _, f_Book__trail, _, f__law_digits, _, f__law_signs, _, f__law_words, _, f__law_version, _, f__law_on, _, f__law_table, _, f__law_back, _, f__law_least, _, f__law_right, _, f__law_trail, _, fa, _, C_Book, C_NoSave, C_NoSheet, C_Sheet⟩ := ok_law T G_Sheet____init__ G_Book____init__ G_Book__add G_Book__since G_Book__trail G__law_digits G__law_on G__law_table G__law_back G__law_right G__law_trail
  exact G_law
theorem walk {l : PySem.W.OpenLaw} {q : Program} {loose : List Str} {XP : (Str → Option Value) → Heap → Prop} {YP : World → Heap → Prop} {d : DefRec} {K : Params → PySem.W.Frag} (hn : l.most = some 63) (hdf : d.params.defaults = [])
    (hY : ∀ (w : World) (h : Heap), YP w h → (K w.params).In h)
    (F : ∀ (w : World) (mg : Str → Option Value) (fa : Addr) (h : Heap), (K w.params).In h → h.Ns mainGlobals mg → mg d.name = some (.ref fa) →
      ∃ fd : FuncData, (∀ (s : Shared) (u : Value), BindsTo s fd ⟨[u], []⟩ [("_law_script", u)]) ∧ ∀ base : Heap, (K w.params).In base → base.Ns mainGlobals mg → FnOk l.prog w (K w.params) mg base (CX1 l.prog w base) 7 fa fd ["_law_script"] (sp_law (K w.params))) :
    PySem.W.WalkO q loose XP YP l.row.toRowW d [] (fun f vs => PySem.call f vs) :=
  walk_ofX (n := 63) (k := 7) (x := "_law_script") (sp := fun w => sp_law (K w.params)) hn (by decide) hdf ⟨rfl, by decide, by decide⟩ hY F (fun _ _ a ns hl hO hS => ⟨a, ns, rfl, hS, hl, fun _ => rfl, hO.plain⟩)
end My
open PySem PySem.W PyProof.Rows
open Lean in
local macro_rules
  | `(tactic| o_head $H) => do
    let (hl, hw, hc) := (mkIdent `hl, mkIdent `hw, mkIdent `hc)
    `(tactic| refine PySem.W.holds_open (q := My.viewQ) (loose := []) (Xt := fun s => xlAt My.viewQ [] s && recOk (RowW.records PySem.Challenge.rw_twotabs_k26_since_and_trails.row.toRowW) s) (XP := XL My.viewQ []) (Yf := Hook.obs $H) (Ya := Hook.val $H) (YP := Hook.says $H) (N := 4954) ?$hl (Hook.of $H) (Hook.keeps $H) (fun s e => xl_of s (Bool.and_eq_true_iff.mp e).1) XL.keeps (by rfl) (by rfl) (by rfl) (fun s e => recFacts_of (Bool.and_eq_true_iff.mp e).2) (by rfl) (by assumption) (by decide +kernel) ⟨rfl, rfl, rfl, rfl, rfl, by decide +kernel⟩ ?$hw ?$hc)
set_option maxRecDepth 100000 in
set_option maxHeartbeats 0 in
theorem PySem.Challenge.cw_twotabs_k26_since_and_trails_holds : PySem.Challenge.rw_twotabs_k26_since_and_trails.Holds := by
  w_on; o_law; k_head; (case hw => w_witness2); (case hl => exact My.hlQ)
  k_fill
  refine My.walk (l := PySem.Challenge.rw_twotabs_k26_since_and_trails) rfl rfl (fun w h Y => PySem.W.kIn_of Y) ?F
  case F =>
    intro w mg fa h KX G hmg
    refine' My.all_mk KX G hmg ?a_is_in ?l_is_in ?c_is_in ?k_is_in ?a_Sheet____init__ ?i_Sheet____init__ ?l_Sheet____init__ ?c_Sheet____init__ ?k_Sheet____init__ ?a_Sheet__lines ?i_Sheet__lines ?l_Sheet__lines ?c_Sheet__lines ?k_Sheet__lines ?a_Sheet__version ?i_Sheet__version ?l_Sheet__version ?c_Sheet__version ?k_Sheet__version ?a_Book____init__ ?i_Book____init__ ?l_Book____init__ ?c_Book____init__ ?k_Book____init__ ?a_Book__newest ?i_Book__newest ?l_Book__newest ?c_Book__newest ?k_Book__newest ?a_Book__add ?i_Book__add ?l_Book__add ?c_Book__add ?k_Book__add ?a_Book__kept ?i_Book__kept ?l_Book__kept ?c_Book__kept ?k_Book__kept ?a_Book__sheet ?i_Book__sheet ?l_Book__sheet ?c_Book__sheet ?k_Book__sheet ?a_Book__lines ?i_Book__lines ?l_Book__lines ?c_Book__lines ?k_Book__lines ?a_Book__first_so ?i_Book__first_so ?l_Book__first_so ?c_Book__first_so ?k_Book__first_so ?a_Book__since ?i_Book__since ?l_Book__since ?c_Book__since ?k_Book__since ?a_Book__trail ?i_Book__trail ?l_Book__trail ?c_Book__trail ?k_Book__trail ?a__law_digits ?l__law_digits ?c__law_digits ?k__law_digits ?a__law_signs ?l__law_signs ?c__law_signs ?k__law_signs ?a__law_words ?l__law_words ?c__law_words ?k__law_words ?a__law_version ?l__law_version ?c__law_version ?k__law_version ?a__law_on ?l__law_on ?c__law_on ?k__law_on ?a__law_table ?l__law_table ?c__law_table ?k__law_table ?a__law_back ?l__law_back ?c__law_back ?k__law_back ?a__law_least ?l__law_least ?c__law_least ?k__law_least ?a__law_right ?l__law_right ?c__law_right ?k__law_right ?a__law_trail ?l__law_trail ?c__law_trail ?k__law_trail ?a_law ?l_law ?c_law ?k_law ?q_Book ?pg_Book ?hd_Book ?po_Book ?sa_Book ?mk_Book ?kc_Book ?na_Book_saves ?q_NoSave ?x_NoSave ?q_NoSheet ?x_NoSheet ?q_Sheet ?pg_Sheet ?hd_Sheet ?po_Sheet ?sa_Sheet ?mk_Sheet ?kc_Sheet ?na_Sheet_versions ?n_dict ?n_enumerate ?n_len ?n_min ?n_range ?n_sorted ?n_tuple
    (case q_Book => k_is)
    (case q_Sheet => k_is)
    (case a_is_in => k_is)
    (case l_is_in => k_is)
    (case c_is_in => k_is)
    (case k_is_in => k_is)
    (case a_Sheet____init__ => k_is)
    (case i_Sheet____init__ => k_is)
    (case l_Sheet____init__ => k_is)
    (case c_Sheet____init__ => k_is)
    (case k_Sheet____init__ => k_is)
    (case a_Sheet__lines => k_is)
    (case i_Sheet__lines => k_is)
    (case l_Sheet__lines => k_is)
    (case c_Sheet__lines => k_is)
    (case k_Sheet__lines => k_is)
    (case a_Sheet__version => k_is)
    (case i_Sheet__version => k_is)
    (case l_Sheet__version => k_is)
    (case c_Sheet__version => k_is)
    (case k_Sheet__version => k_is)
    (case a_Book____init__ => k_is)
    (case i_Book____init__ => k_is)
    (case l_Book____init__ => k_is)
    (case c_Book____init__ => k_is)
    (case k_Book____init__ => k_is)
    (case a_Book__newest => k_is)
    (case i_Book__newest => k_is)
    (case l_Book__newest => k_is)
    (case c_Book__newest => k_is)
    (case k_Book__newest => k_is)
    (case a_Book__add => k_is)
    (case i_Book__add => k_is)
    (case l_Book__add => k_is)
    (case c_Book__add => k_is)
    (case k_Book__add => k_is)
    (case a_Book__kept => k_is)
    (case i_Book__kept => k_is)
    (case l_Book__kept => k_is)
    (case c_Book__kept => k_is)
    (case k_Book__kept => k_is)
    (case a_Book__sheet => k_is)
    (case i_Book__sheet => k_is)
    (case l_Book__sheet => k_is)
    (case c_Book__sheet => k_is)
    (case k_Book__sheet => k_is)
    (case a_Book__lines => k_is)
    (case i_Book__lines => k_is)
    (case l_Book__lines => k_is)
    (case c_Book__lines => k_is)
    (case k_Book__lines => k_is)
    (case a_Book__first_so => k_is)
    (case i_Book__first_so => k_is)
    (case l_Book__first_so => k_is)
    (case c_Book__first_so => k_is)
    (case k_Book__first_so => k_is)
    (case a_Book__since => k_is)
    (case i_Book__since => k_is)
    (case l_Book__since => k_is)
    (case c_Book__since => k_is)
    (case k_Book__since => k_is)
    (case a_Book__trail => k_is)
    (case i_Book__trail => k_is)
    (case l_Book__trail => k_is)
    (case c_Book__trail => k_is)
    (case k_Book__trail => k_is)
    (case a__law_digits => k_is)
    (case l__law_digits => k_is)
    (case c__law_digits => k_is)
    (case k__law_digits => k_is)
    (case a__law_signs => k_is)
    (case l__law_signs => k_is)
    (case c__law_signs => k_is)
    (case k__law_signs => k_is)
    (case a__law_words => k_is)
    (case l__law_words => k_is)
    (case c__law_words => k_is)
    (case k__law_words => k_is)
    (case a__law_version => k_is)
    (case l__law_version => k_is)
    (case c__law_version => k_is)
    (case k__law_version => k_is)
    (case a__law_on => k_is)
    (case l__law_on => k_is)
    (case c__law_on => k_is)
    (case k__law_on => k_is)
    (case a__law_table => k_is)
    (case l__law_table => k_is)
    (case c__law_table => k_is)
    (case k__law_table => k_is)
    (case a__law_back => k_is)
    (case l__law_back => k_is)
    (case c__law_back => k_is)
    (case k__law_back => k_is)
    (case a__law_least => k_is)
    (case l__law_least => k_is)
    (case c__law_least => k_is)
    (case k__law_least => k_is)
    (case a__law_right => k_is)
    (case l__law_right => k_is)
    (case c__law_right => k_is)
    (case k__law_right => k_is)
    (case a__law_trail => k_is)
    (case l__law_trail => k_is)
    (case c__law_trail => k_is)
    (case k__law_trail => k_is)
    (case a_law => k_is)
    (case l_law => k_is)
    (case c_law => k_is)
    (case k_law => k_is)
    (case pg_Book => k_is)
    (case hd_Book => k_is)
    (case po_Book => k_is)
    (case sa_Book => k_is)
    (case mk_Book => k_is)
    (case kc_Book => k_is)
    (case na_Book_saves => k_is)
    (case q_NoSave => k_is)
    (case x_NoSave => refine' L2.XCls.mk ?_ ?_ ?_ ?_ ?_ ?_ ?_ ?_ ?_; all_goals (first | k_is | k_exc))
    (case q_NoSheet => k_is)
    (case x_NoSheet => refine' L2.XCls.mk ?_ ?_ ?_ ?_ ?_ ?_ ?_ ?_ ?_; all_goals (first | k_is | k_exc))
    (case pg_Sheet => k_is)
    (case hd_Sheet => k_is)
    (case po_Sheet => k_is)
    (case sa_Sheet => k_is)
    (case mk_Sheet => k_is)
    (case kc_Sheet => k_is)
    (case na_Sheet_versions => k_is)
    (case n_dict => k_is)
    (case n_enumerate => k_is)
    (case n_len => k_is)
    (case n_min => k_is)
    (case n_range => k_is)
    (case n_sorted => k_is)
    (case n_tuple => k_is)
