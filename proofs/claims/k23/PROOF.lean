import PyProof.Rows.All
import Wide.All
import OpenK.AllK
import Wide.FinOn
import Lean
import PyProof.EqAt
import PyProof.EqKinds
import PyProof.TupleCall
import PySem.Challenge.RW_twotabs_k23_merged
set_option Elab.async false
set_option linter.all false
set_option genSizeOfSpec false
set_option genSizeOf false
set_option maxRecDepth 100000
namespace My
open PySem PySem.W PyProof.Rows
noncomputable def topRunT (tb:String→Option Builtin) (p:Program) (w:World) (n0:Nat) (ann:Option Value):Nat→SharedT→Thread→Option SharedT
  | 0,_,_=>none
  | n + 1,s,t=>match through t with
    | true=>some s
    | false=>match stepOk n0 ann t with
      | false=>none
      | true=>match stepT (denote tb) p w s t with
        | some (s',t')=>topRunT tb p w n0 ann n s' t'
        | none=>none
theorem topRun_of {tb:String→Option Builtin} {p:Program} {w:World} {n0:Nat} {ann:Option Value}:∀ {n:Nat} {s s':SharedT} {t:Thread},topRunT tb p w n0 ann n s t = some s'→topRun tb p w n0 ann n s.abs t = some s'.abs
  | 0,_,_,_,h=>by cases h
  | n + 1,s,s',t,h=>by
    unfold topRunT at h
    unfold topRun
    cases he:through t with
    | true=>rw [he] at h; cases h; rfl
    | false =>
      rw [he] at h
      cases hk:stepOk n0 ann t with
      | false=>rw [hk] at h; cases h
      | true =>
        rw [hk] at h
        cases hs:stepT (denote tb) p w s t with
        | none=>rw [hs] at h; cases h
        | some r=>obtain ⟨s2,t2⟩:=r; rw [hs] at h; rw [stepT_spec hs]; exact topRun_of h
noncomputable def treeOf (l:List Obj):BT:=(l.foldl (fun x o=>(x.1.ins x.2 o,x.2 + 1)) (BT.nil,0)).1
theorem left_tree {p q:Program} {loose:List Str} {Xt:Shared→Bool} {α:Type} {Yf:Shared→α} {Ya:World→α} {N:Nat} {g0:Bool} {m0:Nat} {T0:Params→BT} {L0:Params→Life}
    (e:opening p = plainProg p.main.scope.names) (hN:Nat.ble 600 N = true) (f:∀ s,fenceModules? p s = some s)
    (hT:∀ P:Params,absHeap (T0 P) m0 (L0 P) = boot_heap P)
    (size:∀ P:Params,((boot_heap P).isNs mainGlobals,(boot_heap P).objs.size) = (true,m0))
    (all:∀ w:World,(fun os=>(topRunT treeTable p w m0 ((boot_heap w.params).nsMap mainGlobals "__annotations__") N ⟨T0 w.params,m0,L0 w.params,Array.mk [],boot_drawn,boot_toks,os⟩ (topStub p)).map fun s=>(fun r:Shared=>((staticsOk (importedModules p.main.body) (boot_heap w.params) r.heap && namesBound p r.heap && gensDone r && laidKept (boot_heap w.params) r.heap),openSeen q loose (importedModules p.main.body) Xt g0 r,Yf r)) s.abs) = fun _=>some (true,openGood q loose,Ya w)) :
    LeftO p q loose Xt Yf Ya N g0:=fun w=>by
  obtain ⟨⟨h,gs,d,k,os⟩,e1,e2⟩:=Option.map_eq_some_iff.mp (boot_open e hN f w)
  obtain ⟨rfl,rfl,rfl,rfl⟩:h = boot_heap w.params∧gs = Array.mk []∧d = boot_drawn∧k = boot_toks:=by simpa using e2
  obtain ⟨z1,z2⟩:_∧_:=by simpa only [Prod.mk.injEq] using size w.params
  obtain ⟨s,h1,h2⟩:=Option.map_eq_some_iff.mp (congrFun (all w) os)
  obtain ⟨l1,l2,l3⟩:_∧_∧_:=by simpa only [Prod.mk.injEq] using h2
  have r:=topRun_of h1
  have r:topRun treeTable p w m0 ((boot_heap w.params).nsMap mainGlobals "__annotations__") N ⟨boot_heap w.params,Array.mk [],boot_drawn,boot_toks,os⟩ (topStub p) = some s.abs:=by
    have e3:(⟨T0 w.params,m0,L0 w.params,Array.mk [],boot_drawn,boot_toks,os⟩:SharedT).abs = ⟨boot_heap w.params,Array.mk [],boot_drawn,boot_toks,os⟩:=by
      show (⟨absHeap (T0 w.params) m0 (L0 w.params),_,_,_,_⟩:Shared) = _
      rw [hT]
    rw [← e3]
    exact r
  have t:topFrom treeTable p w N ⟨boot_heap w.params,Array.mk [],boot_drawn,boot_toks,os⟩ = some s.abs:=by
    unfold topFrom
    dsimp only
    rw [z1,z2,r]
    show (match staticsOk (importedModules p.main.body) (boot_heap w.params) s.abs.heap && namesBound p s.abs.heap && gensDone s.abs && laidKept (boot_heap w.params) s.abs.heap with | true=>_ | false=>_) = _
    rw [l1]
  unfold openEnds
  rw [e1]
  show (topFrom treeTable p w N _).map _ = _
  rw [t]
  exact congrArg some (Prod.ext l2 l3)
end My
section
open PySem PySem.W PyProof.Rows
noncomputable def My.viewQ:Program:={ PySem.Challenge.pw_twotabs_k23_merged with main:={ PySem.Challenge.pw_twotabs_k23_merged.main with body:=[0,2,3,4,6,7,8,10,11,13,14,16,17,18,19,20,21,22,23,24,25].filterMap (PySem.Challenge.pw_twotabs_k23_merged.main.body[·]?) } }
open Lean in
local macro_rules
  | `(tactic| o_head $H)=>do
    let (hl,hw,hc):=(mkIdent `hl,mkIdent `hw,mkIdent `hc)
    `(tactic| refine PySem.W.holds_open (q:=My.viewQ) (loose:=[]) (Xt:=fun s=>xlAt My.viewQ [] s && recOk (RowW.records PySem.Challenge.rw_twotabs_k23_merged.row.toRowW) s) (XP:=XL My.viewQ []) (Yf:=Hook.obs $H) (Ya:=Hook.val $H) (YP:=Hook.says $H) (N:=3466) ?$hl (Hook.of $H) (Hook.keeps $H) (fun s e=>xl_of s (Bool.and_eq_true_iff.mp e).1) XL.keeps (by rfl) (by rfl) (by rfl) (fun s e=>recFacts_of (Bool.and_eq_true_iff.mp e).2) (by rfl) (by assumption) (by decide +kernel) ⟨rfl,rfl,rfl,rfl,rfl,by decide +kernel⟩ ?$hw ?$hc)
set_option maxRecDepth 100000 in
set_option maxHeartbeats 0 in
theorem My.dummy (hF:False):PySem.Challenge.rw_twotabs_k23_merged.Holds:=by
  w_on; o_law; k_head
  all_goals exact hF.elim
set_option maxRecDepth 100000 in
set_option maxHeartbeats 0 in
theorem My.hlQ:LeftO PySem.Challenge.rw_twotabs_k23_merged.row.prog My.viewQ [] (fun s=>xlAt My.viewQ [] s && recOk (RowW.records PySem.Challenge.rw_twotabs_k23_merged.row.toRowW) s) (kHook My.dummy.heap_39 [2,3,15,17,18,20,21,22,29,30,31,32,35,42,43,44,47,54,55,56,59,61,62,64,65,66,68,69,71,72,73,75,76,78,79,87,89,90,92,93,94,96,97,99,100,101,103,104,106,107,108,110,111,113,114,115,117,118,120,121,122,124,125,127,128,129,131,132,134,135,136,138,139,141,142,143,145,146,148,149,150,152,153,155,156,157,158,159,160,161,164,167,168,169,171,172,174,175,176,178,179,181,182,183,185,186,188,189,190,192,193,195,196,197,200,201,202,204,205,207,208,209,211,212,214,215,216,219,220,221,223,224,226,227,228,231,232,233,236,237,238,241,242] (fun _=>rfl)).obs (kHook My.dummy.heap_39 [2,3,15,17,18,20,21,22,29,30,31,32,35,42,43,44,47,54,55,56,59,61,62,64,65,66,68,69,71,72,73,75,76,78,79,87,89,90,92,93,94,96,97,99,100,101,103,104,106,107,108,110,111,113,114,115,117,118,120,121,122,124,125,127,128,129,131,132,134,135,136,138,139,141,142,143,145,146,148,149,150,152,153,155,156,157,158,159,160,161,164,167,168,169,171,172,174,175,176,178,179,181,182,183,185,186,188,189,190,192,193,195,196,197,200,201,202,204,205,207,208,209,211,212,214,215,216,219,220,221,223,224,226,227,228,231,232,233,236,237,238,241,242] (fun _=>rfl)).val 3466:=by
  refine My.left_tree (T0:=fun P=>My.treeOf (boot_heap P).objs.toList) (L0:=fun P=>(boot_heap P).life) (m0:=11) (by kernel_rfl) (by kernel_rfl) (fun s=>by kernel_rfl) (fun P=>by kernel_rfl) (fun P=>by kernel_rfl) (fun w => ?_)
  kernel_rfl
end
namespace L2
open PySem PySem.Spec PyProof.Rows
noncomputable abbrev Key:=Sum Int Str
noncomputable def keyIs:Key→Value→Bool
  | .inl k,v=>Value.isInt k v
  | .inr x,v=>Value.isStrOf x v
noncomputable def keyH (w:World):Key→Int
  | .inl k=>hashInt k
  | .inr x=>hashStr w x
theorem keyIs_shape:∀ {k:Key} {v:Value},keyIs k v = true→(∃ i t,k = Sum.inl i∧v = Value.int i t) ∨ (∃ x t,k = Sum.inr x∧v = Value.str x t)
  | .inl i,v,h=>by
    obtain ⟨t,e⟩:=Value.isInt_shape (k:=i) (v:=v) h
    exact .inl ⟨i,t,rfl,e⟩
  | .inr x,v,h=>by
    obtain ⟨t,e⟩:=Value.isStrOf_shape (x:=x) (v:=v) h
    exact .inr ⟨x,t,rfl,e⟩
theorem keyIs_int (i:Int) (t:Tok):keyIs (.inl i) (.int i t) = true:=by simp [keyIs,Value.isInt]
theorem key_ll (a b:Int):decide ((Sum.inl a:Key) = Sum.inl b) = (a == b):=by
  by_cases e:a = b
  · subst e; simp
  · have h:¬ (Sum.inl a:Key) = Sum.inl b:=fun q=>e (Sum.inl.inj q)
    rw [decide_eq_false h]
    exact (beq_eq_false_iff_ne.mpr e).symm
theorem key_rr (a b:Str):decide ((Sum.inr a:Key) = Sum.inr b) = decide (a = b):=by
  by_cases e:a = b
  · subst e; simp
  · have h:¬ (Sum.inr a:Key) = Sum.inr b:=fun q=>e (Sum.inr.inj q)
    rw [decide_eq_false h,decide_eq_false e]
theorem key_lr (a:Int) (b:Str):decide ((Sum.inl a:Key) = Sum.inr b) = false:=decide_eq_false (fun q=>nomatch q)
theorem key_rl (a:Str) (b:Int):decide ((Sum.inr a:Key) = Sum.inl b) = false:=decide_eq_false (fun q=>nomatch q)
noncomputable def mixKind (prog:Program) (w:World):PySem.KeyKind prog w Key where
  is:=keyIs
  hash:=keyH w
  inj:=fun v a b ha hb=>by
    rcases keyIs_shape ha with ⟨i,t,rfl,rfl⟩ | ⟨x,t,rfl,rfl⟩
    · rcases keyIs_shape hb with ⟨j,u,rfl,e⟩ | ⟨y,u,rfl,e⟩
      · injection e with e1 _; rw [e1]
      · exact nomatch e
    · rcases keyIs_shape hb with ⟨j,u,rfl,e⟩ | ⟨y,u,rfl,e⟩
      · exact nomatch e
      · injection e with e1 _; rw [e1]
  byValue:=fun k v h=>by
    rcases keyIs_shape h with ⟨i,t,rfl,rfl⟩ | ⟨x,t,rfl,rfl⟩ <;> rfl
  pyHash:=fun hv h=>by
    rcases keyIs_shape hv with ⟨i,t,rfl,rfl⟩ | ⟨x,t,rfl,rfl⟩
    · exact wpAny_pyHash_int h
    · exact wpAny_pyHash_str h
  eqBool:=fun hu hv h=>by
    rcases keyIs_shape hu with ⟨i,t,rfl,rfl⟩ | ⟨x,t,rfl,rfl⟩
    · rcases keyIs_shape hv with ⟨j,u,rfl,rfl⟩ | ⟨y,u,rfl,rfl⟩
      · rw [key_ll] at h; exact wpAny_eqBool_int h
      · rw [key_lr] at h; exact SeqAt.EqAt.int_str i t y u _ _ _ _ h
    · rcases keyIs_shape hv with ⟨j,u,rfl,rfl⟩ | ⟨y,u,rfl,rfl⟩
      · rw [key_rl] at h; exact SeqAt.EqAt.str_int x t j u _ _ _ _ h
      · rw [key_rr] at h; exact wpAny_eqBool_str h
  «strs» := fun k x t v h=>by
    rcases keyIs_shape h with ⟨i,u,rfl,e⟩ | ⟨y,u,rfl,e⟩
    · exact nomatch e
    · injection e with e1 _
      subst e1
      cases v <;> rfl
theorem mixKind_int (prog:Program) (w:World) (i:Int) (t:Tok):(mixKind prog w).is (.inl i) (.int i t) = true:=keyIs_int i t
end L2
namespace L2
open PySem PySem.Spec PyProof.Rows
inductive V where
  | non | bl (b:Bool) | int (i:Int) | str (x:Str) | byt (b:Array UInt8) | flt (b:UInt64) | ref (a:Addr) | ty (n:String)
  deriving DecidableEq
noncomputable def RelV:V→Value→Prop
  | .non,u=>u = Value.none
  | .bl b,u=>u = Value.bool b
  | .int i,u=>∃ t,u = Value.int i t
  | .str x,u=>∃ t,u = Value.str x t
  | .byt b,u=>∃ t,u = Value.bytes b t
  | .flt b,u=>∃ t,u = Value.float b t
  | .ref a,u=>u = Value.ref a
  | .ty n,u=>u = Value.type n
noncomputable abbrev Vals:List V→List Value→Prop:=Paired RelV
theorem Vals.length {xs:List V} {us:List Value} (r:Vals xs us):xs.length = us.length:=Paired.length r
theorem Vals.get:∀ {xs:List V} {us:List Value} {i:Nat} {x:V},Vals xs us→xs[i]? = some x→∃ u,us[i]? = some u∧RelV x u
  | _,_,_,_,.nil,e=>by simp at e
  | _,_,0,_,.cons r _,e=>by simp at e; subst e; exact ⟨_,rfl,r⟩
  | _,_,i + 1,x,.cons _ t,e=>by
    obtain ⟨u,h1,h2⟩:=Vals.get (i:=i) (x:=x) t (by simpa using e)
    exact ⟨u,by simpa using h1,h2⟩
theorem Vals.append:∀ {xs ys:List V} {us ws:List Value},Vals xs us→Vals ys ws→Vals (xs ++ ys) (us ++ ws)
  | _,_,_,_,.nil,s=>s
  | _,_,_,_,.cons r t,s=>.cons r (Vals.append t s)
theorem Vals.take:∀ {xs:List V} {us:List Value} (n:Nat),Vals xs us→Vals (xs.take n) (us.take n)
  | _,_,0,_=>.nil
  | _,_,_ + 1,.nil=>.nil
  | _,_,n + 1,.cons r t=>.cons r (Vals.take n t)
theorem Vals.drop:∀ {xs:List V} {us:List Value} (n:Nat),Vals xs us→Vals (xs.drop n) (us.drop n)
  | _,_,0,r=>r
  | _,_,_ + 1,.nil=>.nil
  | _,_,n + 1,.cons _ t=>Vals.drop n t
noncomputable def RelO:Option V→Option Value→Prop
  | some v,some u=>RelV v u
  | none,none=>True
  | _,_=>False
noncomputable def KV {κ:Type}:List (κ × V)→List (κ × Value)→Prop:=Paired fun (p:κ × V) (q:κ × Value)=>p.1 = q.1∧RelV p.2 q.2
noncomputable def kV:Key→V
  | .inl i=>.int i
  | .inr x=>.str x
inductive HO where
  | lst (xs:List V)
  | tup (xs:List V)
  | dK (kvs:List (Key × V)) | dT (kvs:List (List Key × V))
  | set (S:Int→Bool) (n:Nat)
  | ins (C dx:Addr) (fs:List (Str × V))
  | own (x:Addr)
  | xd (fs:List (Str × V))
  | met (f x:Addr)
  | rng (lo hi:Int)
  | frz (o:Obj) (u:HO)
  | tbl (ps:Array Value)
  | ext (φ:Heap→Prop)
noncomputable abbrev Hp:=Addr→Option HO
noncomputable def upd (H:Hp) (a:Addr) (o:HO):Hp:=fun b=>if b = a then some o else H b
theorem upd_same {H:Hp} {a:Addr} {o:HO}:upd H a o a = some o:=by unfold upd; rw [if_pos rfl]
theorem upd_ne {H:Hp} {a b:Addr} {o:HO} (h:b ≠ a):upd H a o b = H b:=by unfold upd; rw [if_neg h]
theorem upd_upd {H:Hp} {a:Addr} {o u:HO}:upd (upd H a o) a u = upd H a u:=by
  funext b; unfold upd; split <;> rfl
theorem ne_of {H:Hp} {a b:Addr} {o u:HO} (h:H a = some o) (h':H b = some u) (d:o ≠ u):a ≠ b:=by
  intro e; subst e; rw [h] at h'; exact d (Option.some.inj h')
theorem ne_of_none {H:Hp} {a b:Addr} {o:HO} (h:H a = some o) (h':H b = none):a ≠ b:=by
  intro e; subst e; rw [h] at h'; cases h'
section
variable (P:Program) (w:World)
noncomputable def ObjOk (H:Hp) (h:Heap) (a:Addr):HO→Prop
  | .lst xs=>xs.length ≤ sizeLine∧∃ (its:List Value) (n:Nat),Vals xs its∧h.get? a = some { cls := .type "list",data := .seq its.toArray n }
  | .tup xs=>xs.length ≤ sizeLine∧∃ its:List Value,Vals xs its∧IsTup h a its.toArray
  | .dK kvs=>kvs.length ≤ sizeLine∧(a == sysModules) = false∧∃ vs,KV kvs vs∧h.DictOf (mixKind P w) a vs
  | .dT kvs=>kvs.length ≤ sizeLine∧(a == sysModules) = false∧∃ xs:List (List Key × Addr × Value),
      Paired (fun (p:List Key × V) (q:List Key × Addr × Value)=>p.1 = q.1∧H q.2.1 = some (.tup (p.1.map kV))∧RelV p.2 q.2.2) kvs xs ∧
      ∃ o es ep,h.get? a = some o∧o.ExactDict∧o.data = .dict es ep∧es.toList = xs.map (entryOfKey (tupleKind (mixKind P w)))∧(xs.map (·.1)).Nodup
  | .set S n=>h.SetOf (intKind P w) a S n
  | .ins C dx fs=>H dx = some (.own a)∧fs.length ≤ 1000∧dx ≠ a∧h.get? a = some (PySem.W.instObj C dx) ∧
      ∃ mA,h.Ns1 dx mA∧(∀ f,RelO (fs.lookup f) (mA f))∧PySem.Within mA (fs.map (·.1))
  | .own _=>∃ o,h.get? a = some o
  | .xd fs=>∃ mA,h.Ns1 a mA∧∀ f,RelO (fs.lookup f) (mA f)
  | .rng lo hi=>∃ t u v,h.get? a = some { cls := .type "range",data := .fields #[.int lo t,.int hi u,.int 1 v] }
  | .frz o u=>h.get? a = some o∧ObjOk H h a u
  | .tbl ps=>h.get? a = some { cls := .none,data := .fields ps }
  | .met f x=>h.get? a = some (PySem.W.methodObj (.ref f) (.ref x))
  | .ext φ=>φ h∧(∃ o,h.get? a = some o)∧∀ h1 h2:Heap,φ h1→(∀ o,h1.get? a = some o→h2.get? a = some o)→φ h2
noncomputable def HOk (H:Hp) (h:Heap):Prop:=∀ a o,H a = some o→ObjOk P w H h a o
end
section
variable {P:Program} {w:World} {H H':Hp} {h h':Heap} {a:Addr} {o:HO}
theorem ObjOk.lt (x:ObjOk P w H h a o):a < h.objs.size:=by
  cases o with
  | lst xs=>obtain ⟨_,_,_,_,e⟩:=x; exact Heap.lt_size e
  | tup xs=>obtain ⟨_,_,_,p⟩:=x; exact p.lt
  | dK kvs=>obtain ⟨_,_,_,_,o,_,_,e,_⟩:=x; exact Heap.lt_size e
  | dT kvs=>obtain ⟨_,_,_,_,o,_,_,e,_⟩:=x; exact Heap.lt_size e
  | set S n=>obtain ⟨o,_,_,_,e,_⟩:=x; exact Heap.lt_size e
  | ins C dx fs=>obtain ⟨_,_,_,e,_⟩:=x; exact Heap.lt_size e
  | own y=>obtain ⟨_,e⟩:=x; exact Heap.lt_size e
  | xd fs=>obtain ⟨_,⟨_,_,_,e,_⟩,_⟩:=x; exact Heap.lt_size e
  | rng lo hi=>obtain ⟨_,_,_,e⟩:=x; exact Heap.lt_size e
  | frz ob u=>obtain ⟨e,_⟩:=x; exact Heap.lt_size e
  | tbl ps=>exact Heap.lt_size (show h.get? a = some _ from x)
  | met f y=>exact Heap.lt_size (show h.get? a = some _ from x)
  | ext φ=>obtain ⟨_,⟨_,e⟩,_⟩:=x; exact Heap.lt_size e
theorem Paired.mapP {α β:Type} {F G:α→β→Prop}:∀ {l₁:List α} {l₂:List β},Paired F l₁ l₂→(∀ a b,F a b→G a b)→Paired G l₁ l₂
  | _,_,.nil,_=>.nil
  | _,_,.cons r t,f=>.cons (f _ _ r) (Paired.mapP t f)
theorem ObjOk.stay (x:ObjOk P w H h a o) (k:∀ b u,(b = a ∨ H b = some (.own a))→h.get? b = some u→h'.get? b = some u)
    (ho:∀ b,H b = some (.own a)→H' b = some (.own a)) (ht:∀ b xs,H b = some (.tup xs)→H' b = some (.tup xs)):ObjOk P w H' h' a o:=by
  induction o with
  | lst xs=>obtain ⟨z,its,n,r,e⟩:=x; exact ⟨z,its,n,r,k _ _ (.inl rfl) e⟩
  | tup xs=>obtain ⟨z,its,r,ob,e,c⟩:=x; exact ⟨z,its,r,ob,k _ _ (.inl rfl) e,c⟩
  | dK kvs=>obtain ⟨z,y,vs,r,ob,es,ep,e,c⟩:=x; exact ⟨z,y,vs,r,ob,es,ep,k _ _ (.inl rfl) e,c⟩
  | dT kvs =>
    obtain ⟨z,y,xs,r,ob,es,ep,e,c⟩:=x
    exact ⟨z,y,xs,Paired.mapP r fun p q z=>⟨z.1,ht _ _ z.2.1,z.2.2⟩,ob,es,ep,k _ _ (.inl rfl) e,c⟩
  | set S n=>obtain ⟨ob,es,ep,t,e,c⟩:=x; exact ⟨ob,es,ep,t,k _ _ (.inl rfl) e,c⟩
  | ins C dx fs =>
    obtain ⟨d,z,ne,e,mA,⟨od,es,ep,e2,c⟩,r⟩:=x
    exact ⟨ho _ d,z,ne,k _ _ (.inl rfl) e,mA,⟨od,es,ep,k _ _ (.inr d) e2,c⟩,r⟩
  | own y=>obtain ⟨ob,e⟩:=x; exact ⟨ob,k _ _ (.inl rfl) e⟩
  | xd fs=>obtain ⟨mA,⟨od,es,ep,e,c⟩,r⟩:=x; exact ⟨mA,⟨od,es,ep,k _ _ (.inl rfl) e,c⟩,r⟩
  | rng lo hi=>obtain ⟨t,u,v,e⟩:=x; exact ⟨t,u,v,k _ _ (.inl rfl) e⟩
  | frz ob u ih=>obtain ⟨e,q⟩:=x; exact ⟨k _ _ (.inl rfl) e,ih q⟩
  | tbl ps =>
    have e:h.get? a = some { cls := .none,data := .fields ps }:=x
    show h'.get? a = some { cls := .none,data := .fields ps }
    exact k a _ (.inl rfl) e
  | met f y =>
    have e:h.get? a = some (PySem.W.methodObj (.ref f) (.ref y)):=x
    show h'.get? a = some (PySem.W.methodObj (.ref f) (.ref y))
    exact k a _ (.inl rfl) e
  | ext φ=>obtain ⟨p,⟨o,e⟩,st⟩:=x; exact ⟨st _ _ p fun o q=>k _ _ (.inl rfl) q,⟨o,k _ _ (.inl rfl) e⟩,st⟩
theorem HOk.lt (x:HOk P w H h) (e:H a = some o):a < h.objs.size:=(x a o e).lt
theorem HOk.fresh (x:HOk P w H h) (e:h.objs.size ≤ a):H a = none:=by
  cases q:H a with
  | none=>rfl
  | some u=>exact absurd (Nat.lt_of_lt_of_le (x.lt q) e) (Nat.lt_irrefl _)
theorem HOk.kept (x:HOk P w H h) (k:∀ b u,h.get? b = some u→h'.get? b = some u):HOk P w H h':=fun a o e =>
  (x a o e).stay (fun b u _ q=>k b u q) (fun _ q=>q) fun _ _ q=>q
theorem HOk.laid (x:HOk P w H h) (k:∀ b u,h.get? b = some u→h'.get? b = some u) (hp:h.objs.size ≤ a) (new:ObjOk P w (upd H a o) h' a o):HOk P w (upd H a o) h':=fun b u e=>by
  have hn:=x.fresh hp
  by_cases hb:b = a
  · subst hb; rw [upd_same] at e; cases e; exact new
  · rw [upd_ne hb] at e
    exact (x b u e).stay (fun c v _ q=>k c v q) (fun c q=>by rw [upd_ne (ne_of_none q hn)]; exact q) fun c xs q=>by rw [upd_ne (ne_of_none q hn)]; exact q
end
noncomputable def Rd (H:Hp) (a:Addr) (u:HO):Prop:=H a = some u ∨ ∃ o,H a = some (.frz o u)
theorem Rd.ok {P:Program} {w:World} {H:Hp} {h:Heap} {a:Addr} {u:HO} (r:Rd H a u) (x:HOk P w H h):ObjOk P w H h a u:=by
  rcases r with r | ⟨o,r⟩
  · exact x a u r
  · obtain ⟨_,q⟩:=x a _ r
    exact q
noncomputable def Mut:Option HO→Prop
  | some (.lst _)=>True
  | some (.dK _)=>True
  | some (.dT _)=>True
  | some (.set _ _)=>True
  | some (.ins _ _ _)=>True
  | some (.ext _)=>True
  | _=>False
section
variable {P:Program} {w:World} {H:Hp} {h h':Heap} {x e:Addr} {o':HO}
theorem HOk.write (ok:HOk P w H h) (mu:Mut (H x)) (he:e = x ∨ H e = some (.own x)) (k:∀ b u,b ≠ e→h.get? b = some u→h'.get? b = some u) (heo:∃ u,h'.get? e = some u)
    (new:ObjOk P w (upd H x o') h' x o'):HOk P w (upd H x o') h':=fun b u q=>by
  have nown:∀ c y,H c = some (.own y)→c ≠ x:=fun c y r z=>by subst z; rw [r] at mu; exact mu
  have ntup:∀ c xs,H c = some (.tup xs)→c ≠ x:=fun c xs r z=>by subst z; rw [r] at mu; exact mu
  by_cases hb:b = x
  · subst hb; rw [upd_same] at q; cases q; exact new
  · rw [upd_ne hb] at q
    by_cases hbe:b = e
    · have q':H b = some (.own x):=by
        rcases he with z | z
        · exact absurd (hbe.trans z) hb
        · rw [hbe]; exact z
      rw [q] at q'; cases q'
      obtain ⟨v,hv⟩:=heo
      exact ⟨v,by rw [hbe]; exact hv⟩
    · refine (ok b u q).stay (fun c v hc r=>k c v ?_ r) (fun c r=>by rw [upd_ne (nown c b r)]; exact r) fun c xs r=>by rw [upd_ne (ntup c xs r)]; exact r
      rcases hc with rfl | hc
      · exact hbe
      · rintro rfl
        rcases he with z | z
        · exact nown c b hc z
        · rw [hc] at z; cases z; exact hb rfl
end
structure Un (fs ex:List Addr) (H H':Hp) (h h':Heap):Prop where
  keep:∀ b o,h.get? b = some o→H b = none→b ∉ fs→b ∉ ex→h'.get? b = some o
  slot:∀ b o,h.get? b = some o→H b = none→b ∈ fs→b ∉ ex→∃ sl,h'.get? b = some { o with slots:=sl }
  free:∀ b o,h.get? b = some o→H b = none→b ∉ ex→H' b = none
  there:∀ b o,h.get? b = some o→b ∉ ex→∃ o',h'.get? b = some o'
  tups:∀ b xs,H b = some (.tup xs)→H' b = some (.tup xs)
  frzs:∀ b o u,H b = some (.frz o u)→H' b = some (.frz o u)
  tbls:∀ b ps,H b = some (.tbl ps)→∃ more,H' b = some (.tbl (ps ++ more))
section
variable {fs fs' ex ex':List Addr} {H H1 H2:Hp} {h h1 h2 h':Heap} {a x e:Addr} {o:HO}
theorem Un.any (u:Un fs ex H H1 h h1) {b:Addr} {ob:Obj} (q:h.get? b = some ob) (n:H b = none) (hx:b ∉ ex):∃ sl,h1.get? b = some { ob with slots:=sl }:=by
  by_cases hb:b ∈ fs
  · exact u.slot b ob q n hb hx
  · exact ⟨ob.slots,u.keep b ob q n hb hx⟩
theorem Un.kept (k:∀ b u,h.get? b = some u→h'.get? b = some u):Un fs ex H H h h' :=
  ⟨fun b ob q _ _ _=>k b ob q,fun b ob q _ _ _=>⟨ob.slots,k b ob q⟩,fun _ _ _ n _=>n,fun b ob q _=>⟨ob,k b ob q⟩,fun _ _ q=>q,fun _ _ _ q=>q,fun _ ps q=>⟨#[],by rw [q]; simp⟩⟩
theorem Un.refl:Un fs ex H H h h:=Un.kept fun _ _ q=>q
theorem Un.laid (k:∀ b u,h.get? b = some u→h'.get? b = some u) (hp:h.objs.size ≤ a) (hn:H a = none):Un fs ex H (upd H a o) h h' where
  keep:=fun b u q _ _ _=>k b u q
  slot:=fun b u q _ _ _=>⟨u.slots,k b u q⟩
  free:=fun b u q n _=>by rw [upd_ne (Nat.ne_of_lt (Nat.lt_of_lt_of_le (Heap.lt_size q) hp))]; exact n
  there:=fun b u q _=>⟨u,k b u q⟩
  tups:=fun b xs q=>by rw [upd_ne (ne_of_none q hn)]; exact q
  frzs:=fun b u xs q=>by rw [upd_ne (ne_of_none q hn)]; exact q
  tbls:=fun b ps q=>⟨#[],by rw [upd_ne (ne_of_none q hn),q]; simp⟩
theorem Un.write (mu:Mut (H x)) (he:e = x ∨ H e = some (.own x)) (k:∀ b u,b ≠ e→h.get? b = some u→h'.get? b = some u) (heo:∃ u,h'.get? e = some u):Un fs ex H (upd H x o) h h':=by
  have hx:∀ b,H b = none→b ≠ x:=fun b n z=>by subst z; rw [n] at mu; exact mu
  have hb:∀ b,H b = none→b ≠ e:=fun b n z=>by
    subst z
    rcases he with r | r
    · exact hx b n r
    · rw [n] at r; cases r
  have hm:∀ b u,H b = some u→¬ Mut (some u)→b ≠ x:=fun b u q nm z=>by subst z; rw [q] at mu; exact nm mu
  refine ⟨fun b u q n _ _=>k b u (hb b n) q,fun b u q n _ _=>⟨u.slots,k b u (hb b n) q⟩,fun b u q n _=>by rw [upd_ne (hx b n)]; exact n,fun b u q _ => ?_,
    fun b xs q=>by rw [upd_ne (hm b _ q fun z=>z)]; exact q,fun b u xs q=>by rw [upd_ne (hm b _ q fun z=>z)]; exact q,fun b ps q=>⟨#[],by rw [upd_ne (hm b _ q fun z=>z),q]; simp⟩⟩
  by_cases hbe:b = e
  · subst hbe; exact heo
  · exact ⟨u,k b u hbe q⟩
end
noncomputable def trk (h:Heap) (H:Hp):List Addr:=(List.range h.objs.size).filter fun a=>(H a).isSome
noncomputable def hidT (h:Heap) (H:Hp):Heap:=PySem.W.hideAll h (trk h H)
theorem hidT_size (h:Heap) (H:Hp):(hidT h H).objs.size = h.objs.size:=PySem.W.hideAll_size _ _
theorem hidT_get {h:Heap} {H:Hp} {b:Addr} {o:Obj} (e:h.get? b = some o) (n:H b = none):(hidT h H).get? b = some o :=
  PySem.W.hideAll_get _ e fun hm=>by
    have q:(H b).isSome = true:=(List.mem_filter.mp hm).2
    rw [n] at q; simp at q
theorem of_hidT {h:Heap} {H:Hp} {b:Addr} {o:Obj} (e:(hidT h H).get? b = some o):h.get? b = some o∧H b = none:=by
  have e':h.get? b = some o:=PySem.W.of_hideAll (trk h H) e
  refine ⟨e', ?_⟩
  cases q:H b with
  | none=>rfl
  | some x =>
    have hm:b ∈ trk h H:=List.mem_filter.mpr ⟨List.mem_range.mpr (Heap.lt_size e'),by simp [q]⟩
    have z:(hidT h H).get? b = none:=PySem.W.hideAll_none (trk h H) hm
    rw [z] at e; cases e
end L2
namespace L2
open PySem PySem.Spec PyProof.Rows
structure Mod (K:PySem.W.Frag) (mg:Str→Option Value) (base:Heap):Prop where
  kin:K.In base
  glob:base.Ns mainGlobals mg
  blt:∃ mb,base.Ns builtinsNs mb∧∀ x:Str,x ≠ "__name__" → mb x = bootBuiltins x
  nolimit:base.NoLimit
structure Cx where
  prog:Program
  w:World
  K:PySem.W.Frag
  mg:Str→Option Value
  base:Heap
  A:Around
  N:List Str
  s₀:Shared
  H₀:Hp
  env:Env
  outer:List Env
  stack:List Env
  ex:List Addr
  fn:Str→Bool
  calm:Bool
  pn:List (Addr × Obj)
  xe:Value→Shared→Prop
noncomputable def frs (l:List Env):List Addr:=l.filterMap (·.frame)
noncomputable abbrev Cx.fs (X:Cx):List Addr:=frs X.outer
noncomputable def Vis (sc:Scope) (x:Str):Prop:=sc.names.lookup x = some .local ∨ sc.names.lookup x = some .cell ∨ sc.names.lookup x = some .free
noncomputable def Loc (sc:Scope) (x:Str):Prop:=sc.names.lookup x = some .local ∨ sc.names.lookup x = some .cell
noncomputable def Look (env:Env) (h:Heap) (m:Str→Option Value) (x:Str) (u:Value):Prop :=
  (env.kindOf x = some .local∧m x = some u) ∨ ((env.kindOf x = some .cell ∨ env.kindOf x = some .free)∧∃ c,env.cells.lookup x = some c∧h.IsCell c (some u))
structure Cx.Ok (X:Cx):Prop where
  mod:Mod X.K X.mg X.base
  kind:X.env.scope.kind = .function
  glob:X.env.globals = mainGlobals
  blt:X.env.builtins = builtinsNs
  above:X.s₀.heap.objs.size ≤ X.env.locals
  inj:∀ x y c,X.env.cells.lookup x = some c→X.env.cells.lookup y = some c→x = y
  has:∀ x,(X.env.kindOf x = some .cell ∨ X.env.kindOf x = some .free)→∃ c,X.env.cells.lookup x = some c
  cab:∀ x c,X.fn x = true→X.env.cells.lookup x = some c→X.s₀.heap.objs.size ≤ c
  hd:X.calm = true→X.A.handled = none
  frames:X.A.frames = some X.stack
  stk:X.stack = X.outer ∨ (X.stack = X.env :: X.outer∧X.env.frame = some X.env.locals)
  exf:∀ b ∈ X.ex,b ≠ X.env.locals∧∀ x c,X.env.cells.lookup x = some c→c ≠ b
  bs:∀ b o,X.base.get? b = some o→X.s₀.heap.get? b = some o∧X.H₀ b = none
  bsz:X.base.objs.size ≤ X.s₀.heap.objs.size
  noex:∀ b o,X.base.get? b = some o→b ∉ X.ex
  exfs:∀ b ∈ X.ex,b ∉ X.fs
  funs:X.s₀.heap.FunFrames X.base X.outer
  frf:∀ b ∈ X.fs,X.H₀ b = none
structure Inv (X:Cx) (pins:List (Addr × Obj)) (σ:List (Option V)) (H:Hp) (s:Shared):Prop where
  ok:X.Ok
  os:s.os = X.s₀.os
  bare:AllBare s.gens
  base:Un X.fs X.ex X.H₀ H X.s₀.heap s.heap
  loc:∃ m,s.heap.Ns X.env.locals m∧∀ (i:Nat) (x:Str) (v:V),X.N[i]? = some x→σ[i]? = some (some v)→Vis X.env.scope x→∃ u,RelV v u∧Look X.env s.heap m x u
  cell:∀ x c,X.env.cells.lookup x = some c→∃ v,s.heap.IsCell c v
  free:H X.env.locals = none
  freeC:∀ x c,X.env.cells.lookup x = some c→H c = none
  pin:∀ p ∈ X.pn ++ pins,s.heap.get? p.1 = some p.2∧H p.1 = none∧p.1 ≠ X.env.locals∧p.1 ∉ X.fs∧∀ v,p.2.data ≠ .cell v
  hok:HOk X.prog X.w H s.heap
  len:σ.length = X.N.length
section
variable {X:Cx} {pins:List (Addr × Obj)} {σ:List (Option V)} {H H':Hp} {s:Shared} {h':Heap}
theorem Cx.Ok.nofr (ok:X.Ok) {b:Addr} {o:Obj} (e:X.base.get? b = some o):b ∉ X.fs:=fun hb=>by
  have:=(ok.funs.mem hb).1
  rw [e] at this; cases this
theorem Inv.bs (I:Inv X pins σ H s):∀ b o,X.base.get? b = some o→s.heap.get? b = some o∧H b = none:=fun b o e =>
  ⟨I.base.keep b o (I.ok.bs b o e).1 (I.ok.bs b o e).2 (I.ok.nofr e) (I.ok.noex b o e),I.base.free b o (I.ok.bs b o e).1 (I.ok.bs b o e).2 (I.ok.noex b o e)⟩
theorem Inv.bk (I:Inv X pins σ H s):∀ b o,X.base.get? b = some o→s.heap.get? b = some o:=fun b o e=>(I.bs b o e).1
theorem Inv.mod (I:Inv X pins σ H s):Mod X.K X.mg X.base:=I.ok.mod
theorem Inv.kIn (I:Inv X pins σ H s):X.K.In s.heap:=I.ok.mod.kin.keeps I.bk
theorem Inv.lt (I:Inv X pins σ H s):X.env.locals < s.heap.objs.size:=let ⟨_,hn,_⟩:=I.loc; hn.lt
theorem Inv.sz (I:Inv X pins σ H s):X.s₀.heap.objs.size ≤ s.heap.objs.size:=Nat.le_trans I.ok.above (Nat.le_of_lt I.lt)
theorem Inv.nofs (I:Inv X pins σ H s) {a:Addr} (h:s.heap.objs.size ≤ a):a ∉ X.fs:=fun hb=>by
  obtain ⟨_,o,ho,_⟩:=I.ok.funs.mem hb
  exact absurd (Nat.lt_of_lt_of_le (Heap.lt_size ho) (Nat.le_trans I.sz h)) (Nat.lt_irrefl _)
theorem Inv.cne (I:Inv X pins σ H s):∀ x c,X.env.cells.lookup x = some c→c ≠ X.env.locals:=fun x c e z=>by
  obtain ⟨v,o,ho,hd⟩:=I.cell x c e
  obtain ⟨m,⟨o',es,ep,ho',hd',_⟩,_⟩:=I.loc
  rw [z,ho'] at ho; cases ho; rw [hd'] at hd; cases hd
theorem Inv.funs (I:Inv X pins σ H s):s.heap.FunFrames X.base X.outer:=by
  have all:∀ (l:List Env),(∀ b ∈ frs l,b ∈ X.fs)→X.s₀.heap.FunFrames X.base l→s.heap.FunFrames X.base l:=by
    intro l
    induction l with
    | nil=>intro _ _; trivial
    | cons env r ih =>
      intro hs hl
      obtain ⟨hk,⟨L,o,hf,hn,ho,hd⟩,hr⟩:=hl
      have hL:L ∈ X.fs:=hs L (by unfold frs; rw [List.filterMap_cons,hf]; exact List.mem_cons_self)
      obtain ⟨sl,e⟩:=I.base.slot L o ho (I.ok.frf L hL) hL fun z=>I.ok.exfs L z hL
      exact ⟨hk,⟨L,_,hf,hn,e,hd⟩,ih (fun b hb=>hs b (by unfold frs; rw [List.filterMap_cons,hf]; exact List.mem_cons_of_mem _ hb)) hr⟩
  exact all X.outer (fun _ hb=>hb) I.ok.funs
theorem Inv.stack (I:Inv X pins σ H s):s.heap.FunFrames X.base X.stack:=by
  rcases I.ok.stk with e | ⟨e,hf⟩
  · rw [e]; exact I.funs
  · rw [e]
    obtain ⟨m,hn,_⟩:=I.loc
    refine .cons (by rw [I.ok.kind]; decide) hf hn ?_ I.funs
    exact Heap.get?_none_of_le (Nat.le_trans I.ok.bsz I.ok.above)
theorem Inv.stkSub (I:Inv X pins σ H s):∀ b ∈ frs X.stack,b ∈ X.env.locals :: X.fs:=fun b hb=>by
  rcases I.ok.stk with e | ⟨e,hf⟩
  · rw [e] at hb; exact List.mem_cons_of_mem _ hb
  · rw [e] at hb
    unfold frs at hb
    rw [List.filterMap_cons,hf] at hb
    exact hb
theorem Inv.stkFree (I:Inv X pins σ H s):∀ b ∈ frs X.stack,H b = none:=fun b hb=>by
  rcases List.mem_cons.mp (I.stkSub b hb) with e | hb
  · rw [e]; exact I.free
  · obtain ⟨_,o,ho,_⟩:=I.ok.funs.mem hb
    exact I.base.free b o ho (I.ok.frf b hb) fun z=>I.ok.exfs b z hb
theorem Inv.step {g':Array GenState} {t':Nat} {d':Drawn} {ch:List Addr} (I:Inv X pins σ H s)
    (hch:∀ b ∈ ch,(b ∈ X.ex ∨ X.s₀.heap.objs.size ≤ b)∧b ≠ X.env.locals∧(∀ x c,X.env.cells.lookup x = some c→c ≠ b)∧∀ p ∈ X.pn ++ pins,p.1 ≠ b)
    (keep:∀ b o,b ≠ X.env.locals→b ∉ X.fs→b ∉ ch→s.heap.get? b = some o→H b = none→h'.get? b = some o)
    (slot:∀ b o,b ≠ X.env.locals→b ∈ X.fs→b ∉ ch→s.heap.get? b = some o→H b = none→∃ sl,h'.get? b = some { o with slots:=sl }) (free:∀ b o,b ∉ ch→s.heap.get? b = some o→H b = none→H' b = none)
    (there:∀ b o,b ∉ ch→s.heap.get? b = some o→∃ o',h'.get? b = some o')
    (tups:∀ b xs,H b = some (.tup xs)→H' b = some (.tup xs)) (frzs:∀ b o u,H b = some (.frz o u)→H' b = some (.frz o u)) (tbls:∀ b ps,H b = some (.tbl ps)→∃ more,H' b = some (.tbl (ps ++ more)))
    (ns:∀ m,s.heap.Ns X.env.locals m→h'.Ns X.env.locals m) (hok:HOk X.prog X.w H' h') (hg:AllBare g') :
    Inv X pins σ H' { s with heap:=h',gens:=g',drawn:=d',toks:=t' }:=by
  have neL:∀ b o,X.s₀.heap.get? b = some o→b ≠ X.env.locals:=fun b o e=>Nat.ne_of_lt (Nat.lt_of_lt_of_le (Heap.lt_size e) I.ok.above)
  have neC:∀ b o,X.s₀.heap.get? b = some o→b ∉ X.ex→b ∉ ch:=fun b o e hx hb=>by
    rcases (hch b hb).1 with z | z
    · exact hx z
    · exact absurd (Nat.lt_of_lt_of_le (Heap.lt_size e) z) (Nat.lt_irrefl _)
  have cellK:∀ x c,X.env.cells.lookup x = some c→∀ v,s.heap.IsCell c v→h'.IsCell c v:=fun x c e v ⟨o,ho,hd⟩=>by
    have nch:c ∉ ch:=fun z=>(hch c z).2.2.1 x c e rfl
    by_cases hc:c ∈ X.fs
    · obtain ⟨sl,q⟩:=slot c o (I.cne x c e) hc nch ho (I.freeC x c e)
      exact ⟨_,q,hd⟩
    · exact ⟨o,keep c o (I.cne x c e) hc nch ho (I.freeC x c e),hd⟩
  refine ⟨I.ok,I.os,hg,⟨fun b o e n hb hx => ?_,fun b o e n hb hx => ?_,fun b o e n hx => ?_,fun b o e hx => ?_,fun b xs e=>tups b xs (I.base.tups b xs e),fun b o xs e=>frzs b o xs (I.base.frzs b o xs e),fun b ps e => ?_⟩, ?_,fun x c e => ?_, ?_,fun x c e => ?_,fun p hp => ?_,hok,I.len⟩
  · exact keep b o (neL b o e) hb (neC b o e hx) (I.base.keep b o e n hb hx) (I.base.free b o e n hx)
  · obtain ⟨sl,e1⟩:=I.base.slot b o e n hb hx
    obtain ⟨sl',e2⟩:=slot b _ (neL b o e) hb (neC b o e hx) e1 (I.base.free b o e n hx)
    exact ⟨sl',e2⟩
  · obtain ⟨o',e1⟩:=I.base.there b o e hx
    exact free b o' (neC b o e hx) e1 (I.base.free b o e n hx)
  · obtain ⟨o',e1⟩:=I.base.there b o e hx
    exact there b o' (neC b o e hx) e1
  · obtain ⟨m1,e1⟩:=I.base.tbls b ps e
    obtain ⟨m2,e2⟩:=tbls b _ e1
    exact ⟨m1 ++ m2,by rw [e2,Array.append_assoc]⟩
  · obtain ⟨m,hn,hl⟩:=I.loc
    refine ⟨m,ns m hn,fun i x v e1 e2 e3 => ?_⟩
    obtain ⟨u,r,l⟩:=hl i x v e1 e2 e3
    refine ⟨u,r, ?_⟩
    rcases l with l | ⟨k,c,e,z⟩
    · exact .inl l
    · exact .inr ⟨k,c,e,cellK x c e _ z⟩
  · obtain ⟨v,z⟩:=I.cell x c e
    exact ⟨v,cellK x c e v z⟩
  · obtain ⟨m,⟨o,_,_,ho,_⟩,_⟩:=I.loc
    exact free _ o (fun z=>(hch _ z).2.1 rfl) ho I.free
  · obtain ⟨v,o,ho,hd⟩:=I.cell x c e
    exact free c o (fun z=>(hch c z).2.2.1 x c e rfl) ho (I.freeC x c e)
  · obtain ⟨e,n,ne,nf,d⟩:=I.pin p hp
    have nch:p.1 ∉ ch:=fun z=>(hch p.1 z).2.2.2 p hp rfl
    exact ⟨keep p.1 p.2 ne nf nch e n,free p.1 p.2 nch e n,ne,nf,d⟩
theorem Inv.un {t':Nat} (I:Inv X pins σ H s) (u:Un X.fs [] H H' s.heap h') (hok:HOk X.prog X.w H' h'):Inv X pins σ H' { s with heap:=h',toks:=t' }:=by
  obtain ⟨m,⟨o,es,ep,ho,r⟩,_⟩:=id I.loc
  obtain ⟨sl,hL⟩:=u.any ho I.free (by simp)
  exact I.step (g':=s.gens) (d':=s.drawn) (ch:=[]) (fun _ z=>nomatch z) (fun b o _ hb _ e n=>u.keep b o e n hb (by simp)) (fun b o _ hb _ e n=>u.slot b o e n hb (by simp)) (fun b o _ e n=>u.free b o e n (by simp)) (fun b o _ e=>u.there b o e (by simp)) u.tups u.frzs u.tbls (fun m' hm=>by
    obtain ⟨o',es',ep',ho',r'⟩:=hm
    rw [ho] at ho'; cases ho'
    exact ⟨_,es',ep',hL,r'⟩) hok I.bare
theorem Inv.call {g':Array GenState} {t':Nat} {d':Drawn} {ch:List Addr} (I:Inv X pins σ H s) (u:Un (frs X.stack) ch H H' s.heap h') (hok:HOk X.prog X.w H' h') (hg:AllBare g')
    (hch:∀ b ∈ ch,(b ∈ X.ex ∨ X.s₀.heap.objs.size ≤ b)∧b ≠ X.env.locals∧(∀ x c,X.env.cells.lookup x = some c→c ≠ b)∧∀ p ∈ X.pn ++ pins,p.1 ≠ b) :
    Inv X pins σ H' { s with heap:=h',gens:=g',drawn:=d',toks:=t' }:=by
  obtain ⟨m,⟨o,es,ep,ho,r⟩,_⟩:=id I.loc
  obtain ⟨sl,hL⟩:=u.any ho I.free fun z=>(hch _ z).2.1 rfl
  exact I.step (ch:=ch) hch (fun b o hL hb hc e n=>u.keep b o e n (fun z=>(List.mem_cons.mp (I.stkSub b z)).elim hL hb) hc) (fun b o _ _ hc e n=>u.any e n hc) (fun b o hc e n=>u.free b o e n hc) (fun b o hc e=>u.there b o e hc) u.tups u.frzs u.tbls (fun m' hm=>by
    obtain ⟨o',es',ep',ho',r'⟩:=hm
    rw [ho] at ho'; cases ho'
    exact ⟨_,es',ep',hL,r'⟩) hok hg
theorem Inv.turned {t':Nat} {it:Addr} (I:Inv X pins σ H s) (k:∀ b o,b ≠ it→s.heap.get? b = some o→h'.get? b = some o) (hn:H it = none) (hL:it ≠ X.env.locals)
    (h1:it ∈ X.ex ∨ X.s₀.heap.objs.size ≤ it) (h2:∀ x c,X.env.cells.lookup x = some c→c ≠ it) (h3:∀ p ∈ X.pn ++ pins,p.1 ≠ it):Inv X pins σ H { s with heap:=h',toks:=t' }:=by
  have nit:∀ b u,H b = some u→b ≠ it:=fun b u e z=>by rw [z,hn] at e; cases e
  refine I.step (g':=s.gens) (d':=s.drawn) (ch:=[it]) (fun b hb => ?_) (fun b o _ _ hc e _=>k b o (fun z=>hc (by simp [z])) e) (fun b o _ _ hc e _=>⟨o.slots,k b o (fun z=>hc (by simp [z])) e⟩) (fun _ _ _ _ n=>n)
    (fun b o hc e=>⟨o,k b o (fun z=>hc (by simp [z])) e⟩) (fun _ _ e=>e) (fun _ _ _ e=>e) (fun b ps e=>⟨#[],by rw [e]; simp⟩) (fun m hm => ?_) (fun b u e => ?_) I.bare
  · have e:b = it:=by simpa using hb
    subst e
    exact ⟨h1,hL,h2,h3⟩
  · obtain ⟨o,es,ep,ho,r⟩:=hm
    exact ⟨o,es,ep,k _ o (Ne.symm hL) ho,r⟩
  · refine (I.hok b u e).stay (fun c v hc q=>k c v ?_ q) (fun _ q=>q) fun _ _ q=>q
    rcases hc with z | z
    · rw [z]; exact nit b u e
    · exact nit c _ z
theorem Inv.tok (I:Inv X pins σ H s) (t:Nat):Inv X pins σ H { s with toks:=t }:=I.un (h':=s.heap) (t':=t) Un.refl I.hok
theorem Inv.kept {t':Nat} (I:Inv X pins σ H s) (k:∀ b u,s.heap.get? b = some u→h'.get? b = some u):Inv X pins σ H { s with heap:=h',toks:=t' }:=I.un (Un.kept k) (I.hok.kept k)
theorem Inv.laid {a:Addr} {o:HO} {t':Nat} (I:Inv X pins σ H s) (k:∀ b u,s.heap.get? b = some u→h'.get? b = some u) (hp:s.heap.objs.size ≤ a) (new:ObjOk X.prog X.w (upd H a o) h' a o) :
    Inv X pins σ (upd H a o) { s with heap:=h',toks:=t' }:=I.un (Un.laid k hp (I.hok.fresh hp)) (I.hok.laid k hp new)
theorem Inv.write {x e:Addr} {o:HO} {t':Nat} (I:Inv X pins σ H s) (mu:Mut (H x)) (he:e = x ∨ H e = some (.own x)) (k:∀ b u,b ≠ e→s.heap.get? b = some u→h'.get? b = some u) (heo:∃ u,h'.get? e = some u)
    (new:ObjOk X.prog X.w (upd H x o) h' x o):Inv X pins σ (upd H x o) { s with heap:=h',toks:=t' }:=I.un (Un.write mu he k heo) (I.hok.write mu he k heo new)
theorem Inv.weak {σ':List (Option V)} (I:Inv X pins σ H s) (hl:σ'.length = σ.length) (w:∀ (i:Nat) v,σ'[i]? = some (some v)→σ[i]? = some (some v)):Inv X pins σ' H s :=
  ⟨I.ok,I.os,I.bare,I.base,let ⟨m,hn,hl'⟩:=I.loc; ⟨m,hn,fun i x v e1 e2 e3=>hl' i x v e1 (w i v e2) e3⟩,I.cell,I.free,I.freeC,I.pin,I.hok,hl.trans I.len⟩
theorem Inv.pins_of {pins':List (Addr × Obj)} (I:Inv X pins σ H s) (h:∀ p ∈ pins',s.heap.get? p.1 = some p.2∧H p.1 = none∧p.1 ≠ X.env.locals∧p.1 ∉ X.fs∧∀ v,p.2.data ≠ .cell v):Inv X pins' σ H s :=
  ⟨I.ok,I.os,I.bare,I.base,I.loc,I.cell,I.free,I.freeC,fun p hp=>(List.mem_append.mp hp).elim (fun z=>I.pin p (List.mem_append_left _ z)) (h p),I.hok,I.len⟩
theorem nodup_ix {N:List Str} (hN:N.Nodup) {i j:Nat} {x:Str} (a:N[i]? = some x) (b:N[j]? = some x):i = j:=by
  obtain ⟨h1,e1⟩:=List.getElem?_eq_some_iff.mp a
  obtain ⟨h2,e2⟩:=List.getElem?_eq_some_iff.mp b
  exact (List.getElem_inj hN).mp (e1.trans e2.symm)
theorem store_ok2 {M:Model} {A:Around} {E:Value→Shared→Prop} {i:Nat} {x:Str} {v:V} {u:Value} {Q:Unit→Shared→Prop} (I:Inv X pins σ H s) (hN:X.N.Nodup) (hi:X.N[i]? = some x) (hx:Loc X.env.scope x) (r:RelV v u)
    (h:∀ s',Inv X pins (σ.set i (some v)) H s'→(∃ a,Heap.SameBut a s.heap s'.heap∧(a = X.env.locals ∨ X.env.cells.lookup x = some a))→Q () s') (hf:X.fn x = true ∨ X.env.scope.names.lookup x = some .local:=by first | exact .inl rfl | exact .inr rfl | assumption):wpAny M A (storeName X.env x u) Q E s:=by
  obtain ⟨m,hn,hl⟩:=id I.loc
  have hcls:(X.env.scope.kind == .class || (X.env.scope.kind == .module && X.env.locals != X.env.globals)) = false:=by rw [I.ok.kind]; rfl
  have hiσ:i < σ.length:=by rw [I.len]; exact (List.getElem?_eq_some_iff.mp hi).1
  have cne:=I.cne
  have tracked:∀ {a:Addr} {h':Heap},(∃ o,s.heap.get? a = some o∧H a = none)→Heap.SameBut a s.heap h'→HOk X.prog X.w H h':=fun {a h'} ha hs b ob e=>by
    obtain ⟨_,_,hfree⟩:=ha
    refine (I.hok b ob e).stay (fun c w' hc q=>(hs.2 c ?_).trans q) (fun _ q=>q) fun _ _ q=>q
    rintro rfl
    rcases hc with rfl | hc
    · rw [hfree] at e; cases e
    · rw [hfree] at hc; cases hc
  rcases hx with hk | hk
  · refine wpAny_storeName_local hk hn (fun h' hn' hs => ?_) hcls
    obtain ⟨oL,_,_,hoL,_⟩:=id hn
    refine h _ ⟨I.ok,I.os,I.bare,⟨fun b o e n hb hx => ?_,fun b o e n hb hx => ?_,I.base.free,fun b o e hx => ?_,I.base.tups,I.base.frzs,I.base.tbls⟩,⟨_,hn',fun j y v' e1 e2 e3 => ?_⟩,fun y c e => ?_,I.free,I.freeC,fun p hp => ?_,tracked ⟨oL,hoL,I.free⟩ hs,by simpa using I.len⟩ ⟨_,hs,.inl rfl⟩
    · exact (hs.2 b (Nat.ne_of_lt (Nat.lt_of_lt_of_le (Heap.lt_size e) I.ok.above))).trans (I.base.keep b o e n hb hx)
    · obtain ⟨sl,e1⟩:=I.base.slot b o e n hb hx
      exact ⟨sl,(hs.2 b (Nat.ne_of_lt (Nat.lt_of_lt_of_le (Heap.lt_size e) I.ok.above))).trans e1⟩
    · obtain ⟨o',e1⟩:=I.base.there b o e hx
      exact ⟨o',(hs.2 b (Nat.ne_of_lt (Nat.lt_of_lt_of_le (Heap.lt_size e) I.ok.above))).trans e1⟩
    · by_cases hj:j = i
      · subst hj
        rw [hi] at e1; cases e1
        rw [List.getElem?_set_self hiσ] at e2
        cases e2
        exact ⟨u,r,.inl ⟨hk,by simp⟩⟩
      · rw [List.getElem?_set_ne (Ne.symm hj)] at e2
        obtain ⟨u',r',q⟩:=hl j y v' e1 e2 e3
        refine ⟨u',r', ?_⟩
        rcases q with ⟨k,e⟩ | ⟨k,c,e,z⟩
        · refine .inl ⟨k, ?_⟩
          have:y ≠ x:=fun e=>hj (nodup_ix hN e1 (e ▸ hi))
          simp [this,e]
        · exact .inr ⟨k,c,e,z.sameBut hs (cne y c e)⟩
    · obtain ⟨w',z⟩:=I.cell y c e
      exact ⟨w',z.sameBut hs (cne y c e)⟩
    · obtain ⟨e,n,ne,nf,d⟩:=I.pin p hp
      exact ⟨(hs.2 p.1 ne).trans e,n,ne,nf,d⟩
  · have hfn:X.fn x = true:=by
      rcases hf with z | z
      · exact z
      · rw [z] at hk; cases hk
    obtain ⟨c,hc⟩:=I.ok.has x (.inl hk)
    obtain ⟨w',z⟩:=I.cell x c hc
    refine wpAny_storeName_cell I.ok.kind hk hc z (fun h' hc' hs => ?_)
    obtain ⟨oc,hoc,hocd⟩:=id z
    refine h { s with heap:=h' } ⟨I.ok,I.os,I.bare,⟨fun b o e n hb hx => ?_,fun b o e n hb hx => ?_,I.base.free,fun b o e hx => ?_,I.base.tups,I.base.frzs,I.base.tbls⟩,⟨m,hn.sameBut hs (Ne.symm (cne x c hc)),fun j y v' e1 e2 e3 => ?_⟩,fun y c' e => ?_,I.free,I.freeC,fun p hp => ?_,tracked ⟨oc,hoc,I.freeC x c hc⟩ hs,by simpa using I.len⟩ ⟨c,hs,.inr hc⟩
    · exact (hs.2 b (Nat.ne_of_lt (Nat.lt_of_lt_of_le (Heap.lt_size e) (I.ok.cab x c hfn hc)))).trans (I.base.keep b o e n hb hx)
    · obtain ⟨sl,e1⟩:=I.base.slot b o e n hb hx
      exact ⟨sl,(hs.2 b (Nat.ne_of_lt (Nat.lt_of_lt_of_le (Heap.lt_size e) (I.ok.cab x c hfn hc)))).trans e1⟩
    · obtain ⟨o',e1⟩:=I.base.there b o e hx
      exact ⟨o',(hs.2 b (Nat.ne_of_lt (Nat.lt_of_lt_of_le (Heap.lt_size e) (I.ok.cab x c hfn hc)))).trans e1⟩
    · by_cases hj:j = i
      · subst hj
        rw [hi] at e1; cases e1
        rw [List.getElem?_set_self hiσ] at e2
        cases e2
        exact ⟨u,r,.inr ⟨.inl hk,c,hc,hc'⟩⟩
      · rw [List.getElem?_set_ne (Ne.symm hj)] at e2
        obtain ⟨u',r',q⟩:=hl j y v' e1 e2 e3
        refine ⟨u',r', ?_⟩
        rcases q with q | ⟨k,c',e,z'⟩
        · exact .inl q
        · refine .inr ⟨k,c',e,z'.sameBut hs ?_⟩
          rintro rfl
          exact hj (nodup_ix hN e1 (I.ok.inj _ _ _ e hc ▸ hi))
    · by_cases hcc:c' = c
      · subst hcc; exact ⟨_,hc'⟩
      · obtain ⟨w2,z2⟩:=I.cell y c' e
        exact ⟨w2,z2.sameBut hs hcc⟩
    · obtain ⟨e,n,ne,nf,d⟩:=I.pin p hp
      refine ⟨(hs.2 p.1 ?_).trans e,n,ne,nf,d⟩
      intro q
      rw [q,hoc] at e
      have q':oc = p.2:=Option.some.inj e
      exact d w' (by rw [← q']; exact hocd)
theorem store_ok {M:Model} {A:Around} {E:Value→Shared→Prop} {i:Nat} {x:Str} {v:V} {u:Value} {Q:Unit→Shared→Prop} (I:Inv X pins σ H s) (hN:X.N.Nodup) (hi:X.N[i]? = some x) (hx:Loc X.env.scope x) (r:RelV v u)
    (h:∀ s',Inv X pins (σ.set i (some v)) H s'→Q () s') (hf:X.fn x = true ∨ X.env.scope.names.lookup x = some .local:=by first | exact .inl rfl | exact .inr rfl | assumption):wpAny M A (storeName X.env x u) Q E s :=
  store_ok2 I hN hi hx r (fun s' I' _=>h s' I') hf
theorem Inv.call' {s':Shared} {ch:List Addr} (I:Inv X pins σ H s) (ho:s'.os = s.os) (u:Un (frs X.stack) ch H H' s.heap s'.heap) (hok:HOk X.prog X.w H' s'.heap) (hg:AllBare s'.gens)
    (hch:∀ b ∈ ch,(b ∈ X.ex ∨ X.s₀.heap.objs.size ≤ b)∧b ≠ X.env.locals∧(∀ x c,X.env.cells.lookup x = some c→c ≠ b)∧∀ p ∈ X.pn ++ pins,p.1 ≠ b):Inv X pins σ H' s':=by
  obtain ⟨h',g',d',t',o'⟩:=s'
  have e:o' = s.os:=ho
  subst e
  exact I.call (g':=g') (t':=t') (d':=d') u hok hg hch
end
noncomputable abbrev XK:=Value→Option Addr→Hp→Prop
noncomputable abbrev St:=List (Option V)
noncomputable abbrev VK:=V→Hp→Prop
noncomputable abbrev TE:=St→Hp→VK→Prop
noncomputable abbrev TT:=St→Hp→(Bool→Hp→Prop)→Prop
noncomputable abbrev TA:=St→Hp→(List V→Hp→Prop)→Prop
structure Ends where
  nx:St→Hp→Prop
  rt:VK
  bk:St→Hp→Prop:=fun _ _=>False
  ct:St→Hp→Prop:=fun _ _=>False
noncomputable abbrev TS:=Ends→St→Hp→Prop
noncomputable def EP (X:Cx) (pins:List (Addr × Obj)) (σ:St) (Q:VK) (u:Value) (s':Shared):Prop:=∃ v H',Inv X pins σ H' s'∧RelV v u∧Q v H'
noncomputable def TP (X:Cx) (pins:List (Addr × Obj)) (σ:St) (Q:Bool→Hp→Prop) (b:Bool) (s':Shared):Prop:=∃ H',Inv X pins σ H' s'∧Q b H'
noncomputable def AP (X:Cx) (pins:List (Addr × Obj)) (σ:St) (Q:List V→Hp→Prop) (us:List Value) (s':Shared):Prop:=∃ vs H',Inv X pins σ H' s'∧Vals vs us∧Q vs H'
noncomputable def SP (X:Cx) (pins:List (Addr × Obj)) (D:Ends) (f:Flow) (s':Shared):Prop :=
  match f with
  | .next=>∃ σ' H',Inv X pins σ' H' s'∧D.nx σ' H'
  | .brk=>∃ σ' H',Inv X pins σ' H' s'∧D.bk σ' H'
  | .cont=>∃ σ' H',Inv X pins σ' H' s'∧D.ct σ' H'
  | .ret u=>∃ v σ' H',Inv X pins σ' H' s'∧RelV v u∧D.rt v H'
structure PE (X:Cx) (e:Expr) (t:TE):Prop where
  run :
  ∀ (pins:List (Addr × Obj)) (s:Shared) (σ:St) (H:Hp) (Q:VK),Inv X pins σ H s→t σ H Q→wpAny (model X.prog X.w) X.A (eval e X.env) (EP X pins σ Q) X.xe s
noncomputable instance {X:Cx} {e:Expr} {t:TE}:CoeFun (PE X e t) (fun _ =>
  ∀ (pins:List (Addr × Obj)) (s:Shared) (σ:St) (H:Hp) (Q:VK),Inv X pins σ H s→t σ H Q→wpAny (model X.prog X.w) X.A (eval e X.env) (EP X pins σ Q) X.xe s
  ):=⟨fun h=>h.run⟩
structure PT (X:Cx) (e:Expr) (t:TT):Prop where
  run :
  ∀ (pins:List (Addr × Obj)) (s:Shared) (σ:St) (H:Hp) (Q:Bool→Hp→Prop),Inv X pins σ H s→t σ H Q→wpAny (model X.prog X.w) X.A (isTrue e X.env (eval e X.env)) (TP X pins σ Q) X.xe s
noncomputable instance {X:Cx} {e:Expr} {t:TT}:CoeFun (PT X e t) (fun _ =>
  ∀ (pins:List (Addr × Obj)) (s:Shared) (σ:St) (H:Hp) (Q:Bool→Hp→Prop),Inv X pins σ H s→t σ H Q→wpAny (model X.prog X.w) X.A (isTrue e X.env (eval e X.env)) (TP X pins σ Q) X.xe s
  ):=⟨fun h=>h.run⟩
structure PW (X:Cx) (e:Expr) (t:TT):Prop where
  run :
  ∀ (whole:Sem Value) (pins:List (Addr × Obj)) (s:Shared) (σ:St) (H:Hp) (Q:Bool→Hp→Prop),Inv X pins σ H s→t σ H Q→wpAny (model X.prog X.w) X.A (isTrue e X.env whole) (TP X pins σ Q) X.xe s
noncomputable instance {X:Cx} {e:Expr} {t:TT}:CoeFun (PW X e t) (fun _ =>
  ∀ (whole:Sem Value) (pins:List (Addr × Obj)) (s:Shared) (σ:St) (H:Hp) (Q:Bool→Hp→Prop),Inv X pins σ H s→t σ H Q→wpAny (model X.prog X.w) X.A (isTrue e X.env whole) (TP X pins σ Q) X.xe s
  ):=⟨fun h=>h.run⟩
theorem PW.pt {X:Cx} {e:Expr} {t:TT} (h:PW X e t):PT X e t := .mk (h _)
structure PA (X:Cx) (es:List Expr) (t:TA):Prop where
  run :
  ∀ (pos:Pos) (pins:List (Addr × Obj)) (s:Shared) (σ:St) (H:Hp) (Q:List V→Hp→Prop),Inv X pins σ H s→t σ H Q→wpAny (model X.prog X.w) X.A (spliced (backTo pos (starEach es X.env))) (AP X pins σ Q) X.xe s
noncomputable instance {X:Cx} {es:List Expr} {t:TA}:CoeFun (PA X es t) (fun _ =>
  ∀ (pos:Pos) (pins:List (Addr × Obj)) (s:Shared) (σ:St) (H:Hp) (Q:List V→Hp→Prop),Inv X pins σ H s→t σ H Q→wpAny (model X.prog X.w) X.A (spliced (backTo pos (starEach es X.env))) (AP X pins σ Q) X.xe s
  ):=⟨fun h=>h.run⟩
structure PS (X:Cx) (st:Stmt) (t:TS):Prop where
  run :
  ∀ (pins:List (Addr × Obj)) (s:Shared) (σ:St) (H:Hp) (D:Ends),Inv X pins σ H s→t D σ H→wpAny (model X.prog X.w) X.A (exec st X.env) (SP X pins D) X.xe s
noncomputable instance {X:Cx} {st:Stmt} {t:TS}:CoeFun (PS X st t) (fun _ =>
  ∀ (pins:List (Addr × Obj)) (s:Shared) (σ:St) (H:Hp) (D:Ends),Inv X pins σ H s→t D σ H→wpAny (model X.prog X.w) X.A (exec st X.env) (SP X pins D) X.xe s
  ):=⟨fun h=>h.run⟩
structure PSs (X:Cx) (st:List Stmt) (t:TS):Prop where
  run :
  ∀ (pins:List (Addr × Obj)) (s:Shared) (σ:St) (H:Hp) (D:Ends),Inv X pins σ H s→t D σ H→wpAny (model X.prog X.w) X.A (execs st X.env) (SP X pins D) X.xe s
noncomputable instance {X:Cx} {st:List Stmt} {t:TS}:CoeFun (PSs X st t) (fun _ =>
  ∀ (pins:List (Addr × Obj)) (s:Shared) (σ:St) (H:Hp) (D:Ends),Inv X pins σ H s→t D σ H→wpAny (model X.prog X.w) X.A (execs st X.env) (SP X pins D) X.xe s
  ):=⟨fun h=>h.run⟩
theorem thn {α:Type} {t:Sem α} {Q Q':α→Shared→Prop} {M:Model} {A:Around} {E:Value→Shared→Prop} {s:Shared} (h:wpAny M A t Q E s) (hQ:∀ a s,Q a s→Q' a s):wpAny M A t Q' E s:=wpAny_mono h hQ fun _ _ x=>x
end L2
namespace L2
open PySem PySem.Spec PyProof.Rows
section
variable {X:Cx}
noncomputable def tVar (i:Nat):TE:=fun σ H Q=>∃ v,σ[i]? = some (some v)∧Q v H
noncomputable def tC (v:V):TE:=fun _ H Q=>Q v H
theorem pe_var {i:Nat} {x:Str} {pos:Pos} (hN:X.N[i]? = some x) (hv:Vis X.env.scope x) (hd:(x == ("__debug__" : Str)) = false:=by decide) (hcd:(x == ("__classdict__" : Str)) = false:=by decide):PE X (.Name x pos) (tVar i) := .mk <| by
  intro pins s σ H Q I h
  obtain ⟨v,e,h⟩:=h
  obtain ⟨m,hn,hl⟩:=I.loc
  obtain ⟨u,r,l⟩:=hl i x v hN e hv
  have fin:EP X pins σ Q u s:=⟨v,H,I,r,h⟩
  rcases l with ⟨hk,hm⟩ | ⟨hk,c,hc,hcell⟩
  · exact wpAny_Name (wpAny_loadName_local I.ok.kind hk hn hm fin) hd
  · rcases hk with hk | hk
    · exact wpAny_Name (wpAny_loadName_cell I.ok.kind hk hc hcell fin) hd
    · exact wpAny_Name (wpAny_loadName_free I.ok.kind hk hc hcell fin hcd) hd
theorem pe_int {i j pos}:PE X (.Constant (.int i) j pos) (tC (.int i)) := .mk <| fun _ _ _ H _ I h=>wpAny_Constant_int ⟨.int i,H,I.tok _,⟨_,rfl⟩,h⟩
theorem pe_bl {b j pos}:PE X (.Constant (.bool b) j pos) (tC (.bl b)) := .mk <| fun _ _ _ H _ I h=>Constant_bool ⟨.bl b,H,I,rfl,h⟩
theorem pe_non {j pos}:PE X (.Constant .none j pos) (tC .non) := .mk <| fun _ _ _ H _ I h=>Constant_none ⟨.non,H,I,rfl,h⟩
theorem pe_str {x j pos}:PE X (.Constant (.str x) j pos) (tC (.str x)) := .mk <| fun _ _ _ H _ I h=>Calls.Constant_str ⟨.str x,H,I.tok _,⟨_,rfl⟩,h⟩
noncomputable def Gl (X:Cx) (x:Str):Prop:=X.env.kindOf x = some .globalImplicit
theorem ld_glob {E:Value→Shared→Prop} {pins:List (Addr × Obj)} {s:Shared} {σ:St} {H:Hp} {x:Str} {u:Value} {pos:Pos} {Q:Value→Shared→Prop} (I:Inv X pins σ H s) (hg:Gl X x) (hm:X.mg x = some u) (h:Q u s)
    (hd:(x == ("__debug__" : Str)) = false:=by decide):wpAny (model X.prog X.w) X.A (eval (.Name x pos) X.env) Q E s :=
  Calls.Name_function_global I.ok.kind hg (Calls.loadGlobal_global (by rw [I.ok.glob]; exact I.mod.glob.keeps I.bk) hm h) hd
theorem ld_blt {E:Value→Shared→Prop} {pins:List (Addr × Obj)} {s:Shared} {σ:St} {H:Hp} {x:Str} {u:Value} {pos:Pos} {Q:Value→Shared→Prop} (I:Inv X pins σ H s) (hg:Gl X x) (hm:X.mg x = none) (hv:bootBuiltins x = some u) (h:Q u s)
    (hn:x ≠ "__name__" := by decide) (hd:(x == ("__debug__" : Str)) = false:=by decide):wpAny (model X.prog X.w) X.A (eval (.Name x pos) X.env) Q E s:=by
  obtain ⟨mb,h1,h2⟩:=I.mod.blt
  exact Calls.Name_function_global I.ok.kind hg (Calls.loadGlobal_builtin (by rw [I.ok.glob]; exact I.mod.glob.keeps I.bk) hm (by rw [I.ok.blt]; exact h1.keeps I.bk) ((h2 x hn).trans hv) h) hd
theorem pe_bltn {x:Str} {v:V} {u:Value} {pos:Pos} (hg:Gl X x) (hm:X.mg x = none) (hv:bootBuiltins x = some u) (r:RelV v u) (hn:x ≠ "__name__" := by decide) (hd:(x == ("__debug__" : Str)) = false:=by decide):PE X (.Name x pos) (tC v) := .mk <| fun _ _ _ H _ I h=>ld_blt I hg hm hv ⟨v,H,I,r,h⟩ hn hd
variable {a b:Expr} {ta tb:TE} {pos:Pos}
noncomputable def tB (t:TE):TT:=fun σ H Q=>t σ H fun x H1=>∃ c,x = .bl c∧Q c H1
theorem pt_val {e:Expr} {t:TE} (h:PE X e t) (he:∀ whole,isTrue e X.env whole = (do let v ← whole; standAt e.pos; holding [v] (truthy v)):=by intro _; rfl):PT X e (tB t) := .mk <| by
  intro pins s σ H Q I hw
  refine isTrue_plain (thn (h pins s σ H _ I hw) fun v s1 ⟨x,H1,I1,r1,q1⟩ => ?_) (he _)
  obtain ⟨d,rfl,q⟩:=q1
  cases r1
  exact wpAny_truthy_bool ⟨H1,I1,q⟩
variable {tA tB':TT} {rest:List Expr}
noncomputable def tAnd (t u:TT):TT:=fun σ H Q=>t σ H fun c H1=>if c = true then u σ H1 Q else Q false H1
noncomputable def tOr (t u:TT):TT:=fun σ H Q=>t σ H fun c H1=>if c = true then Q true H1 else u σ H1 Q
noncomputable def tNot (t:TT):TT:=fun σ H Q=>t σ H fun c H1=>Q (!c) H1
theorem pw_and1 (ha:PT X a tA):PW X (.BoolOp .And [a] pos) tA := .mk <| by
  intro wh pins s σ H Q I h
  refine isTrue_and (thn (ha pins s σ H Q I h) fun c s1 e => ?_)
  cases c with
  | true=>exact isTrue_and_nil e
  | false=>exact e
theorem pw_or1 (ha:PT X a tA):PW X (.BoolOp .Or [a] pos) tA := .mk <| by
  intro wh pins s σ H Q I h
  refine isTrue_or (thn (ha pins s σ H Q I h) fun c s1 e => ?_)
  cases c with
  | false=>exact isTrue_or_nil e
  | true=>exact e
theorem pw_and (ha:PT X a tA) (hb:PW X (.BoolOp .And (b :: rest) pos) tB'):PW X (.BoolOp .And (a :: b :: rest) pos) (tAnd tA tB') := .mk <| by
  intro wh pins s σ H Q I h
  refine isTrue_and (thn (ha pins s σ H _ I h) fun c s1 ⟨H1,I1,q1⟩ => ?_)
  cases c with
  | true=>exact hb wh pins s1 σ H1 Q I1 q1
  | false=>exact ⟨H1,I1,q1⟩
theorem pw_or (ha:PT X a tA) (hb:PW X (.BoolOp .Or (b :: rest) pos) tB'):PW X (.BoolOp .Or (a :: b :: rest) pos) (tOr tA tB') := .mk <| by
  intro wh pins s σ H Q I h
  refine isTrue_or (thn (ha pins s σ H _ I h) fun c s1 ⟨H1,I1,q1⟩ => ?_)
  cases c with
  | true=>exact ⟨H1,I1,q1⟩
  | false=>exact hb wh pins s1 σ H1 Q I1 q1
theorem pt_not (ha:PT X a tA):PT X (.UnaryOp .Not a pos) (tNot tA) := .mk <| by
  intro pins s σ H Q I h
  exact isTrue_not (ha pins s σ H (fun c H1=>Q (!c) H1) I h)
noncomputable def tAndV (ta tb:TE):TE:=fun σ H Q=>ta σ H fun x H1=>∃ c,x = .bl c∧if c = true then tb σ H1 Q else Q (.bl false) H1
noncomputable def tNotV (ta:TE):TE:=fun σ H Q=>ta σ H fun x H1=>∃ c,x = .bl c∧Q (.bl (!c)) H1
theorem pe_one {op} {t:TE} (h:PE X a t):PE X (.BoolOp op [a] pos) t := .mk <| fun pins s σ H Q I hw=>BoolOp_one (h pins s σ H Q I hw)
theorem pe_and (ha:PE X a ta) (hb:PE X (.BoolOp .And (b :: rest) pos) tb):PE X (.BoolOp .And (a :: b :: rest) pos) (tAndV ta tb) := .mk <| by
  intro pins s σ H Q I h
  refine BoolOp_and (thn (ha pins s σ H _ I h) fun v s1 ⟨x,H1,I1,r1,q1⟩ => ?_)
  obtain ⟨c,rfl,q1⟩:=q1
  cases r1
  refine wpAny_truthy_bool ?_
  cases c with
  | true=>exact hb pins s1 σ H1 Q I1 q1
  | false=>exact ⟨.bl false,H1,I1,rfl,q1⟩
theorem pe_not (ha:PE X a ta):PE X (.UnaryOp .Not a pos) (tNotV ta) := .mk <| by
  intro pins s σ H Q I h
  refine UnaryOp_ (thn (ha pins s σ H _ I h) fun v s1 ⟨x,H1,I1,r1,q1⟩ => ?_)
  obtain ⟨c,rfl,q1⟩:=q1
  cases r1
  exact not_of (wpAny_truthy_bool ⟨.bl (!c),H1,I1,rfl,q1⟩)
noncomputable def tIf (t:TT) (ta tb:TE):TE:=fun σ H Q=>t σ H fun c H1=>if c = true then ta σ H1 Q else tb σ H1 Q
theorem pe_ifExp {c:Expr} (hc:PT X c tA) (ha:PE X a ta) (hb:PE X b tb):PE X (.IfExp c a b pos) (tIf tA ta tb) := .mk <| by
  intro pins s σ H Q I h
  refine wpAny_IfExp (thn (hc pins s σ H _ I h) fun d s1 ⟨H1,I1,q1⟩ => ?_)
  cases d with
  | true=>exact ha pins s1 σ H1 Q I1 q1
  | false=>exact hb pins s1 σ H1 Q I1 q1
end
end L2
namespace L2
open PySem PySem.Spec PyProof.Rows
noncomputable def SqL (K:PySem.W.Frag) (H:Hp) (a:Addr) (xs:List V):Prop :=
  Rd H a (.lst xs) ∨
    ∃ (o:Obj) (its:Array Value) (n:Nat),K.lookup a = some o∧o.cls = .type "list" ∧ o.dict = none∧o.data = .seq its n∧its.size ≤ sizeLine∧Vals xs its.toList
noncomputable def SqT (K:PySem.W.Frag) (H:Hp) (a:Addr) (xs:List V):Prop :=
  Rd H a (.tup xs) ∨
    ∃ (o:Obj) (its:Array Value) (n:Nat),K.lookup a = some o∧o.cls = .type "tuple" ∧ o.data = .seq its n∧its.size ≤ sizeLine∧Vals xs its.toList
noncomputable def absV:Value→Option V
  | .none=>some .non
  | .bool b=>some (.bl b)
  | .int i _=>some (.int i)
  | .str x _=>some (.str x)
  | .bytes b _=>some (.byt b)
  | .float b _=>some (.flt b)
  | .ref a=>some (.ref a)
  | .type n=>some (.ty n)
  | _=>none
theorem RelV.abs {x:V} {u:Value} (r:RelV x u):absV u = some x:=by
  cases x with
  | non=>cases r; rfl
  | bl _=>cases r; rfl
  | int _=>obtain ⟨t,rfl⟩:=r; rfl
  | str _=>obtain ⟨t,rfl⟩:=r; rfl
  | byt _=>obtain ⟨t,rfl⟩:=r; rfl
  | flt _=>obtain ⟨t,rfl⟩:=r; rfl
  | ref _=>cases r; rfl
  | ty _=>cases r; rfl
theorem RelV.inj {x y:V} {u:Value} (r:RelV x u) (q:RelV y u):x = y:=Option.some.inj (r.abs.symm.trans q.abs)
theorem Vals.inj:∀ {xs ys:List V} {us:List Value},Vals xs us→Vals ys us→xs = ys
  | _,_,_,.nil,.nil=>rfl
  | _,_,_,.cons r t,.cons r' t'=>by rw [r.inj r',Vals.inj t t']
section
variable {X:Cx} {pins:List (Addr × Obj)} {σ:St} {H:Hp} {s:Shared} {a:Addr} {xs ys:List V}
theorem SqL.of {K:PySem.W.Frag} (h:H a = some (.lst xs)):SqL K H a xs := .inl (.inl h)
theorem SqT.of {K:PySem.W.Frag} (h:H a = some (.tup xs)):SqT K H a xs := .inl (.inl h)
theorem Inv.list (I:Inv X pins σ H s) (h:SqL X.K H a xs):∃ its:List Value,Vals xs its∧PlainL s.heap a its.toArray∧xs.length ≤ sizeLine:=by
  rcases h with h | ⟨o,its,n,hk,hc,hd,hs,hz,r⟩
  · obtain ⟨z,its,n,r,e⟩:=h.ok I.hok
    exact ⟨its,r,⟨_,n,e,rfl,rfl,rfl⟩,z⟩
  · refine ⟨its.toList,r,⟨o,n,I.kIn a o hk,hc,hd,by simpa using hs⟩, ?_⟩
    have e:=r.length
    simp only [Array.length_toList] at e
    omega
theorem Inv.tuple (I:Inv X pins σ H s) (h:SqT X.K H a xs):∃ its:List Value,Vals xs its∧IsTup s.heap a its.toArray∧xs.length ≤ sizeLine:=by
  rcases h with h | ⟨o,its,n,hk,hc,hs,hz,r⟩
  · obtain ⟨z,its,r,p⟩:=h.ok I.hok
    exact ⟨its,r,p,z⟩
  · refine ⟨its.toList,r,⟨o,I.kIn a o hk,hc,n,by simpa using hs⟩, ?_⟩
    have e:=r.length
    simp only [Array.length_toList] at e
    omega
theorem Inv.list_inj (I:Inv X pins σ H s) (h:SqL X.K H a xs) (h':SqL X.K H a ys):xs = ys:=by
  obtain ⟨its,r,⟨o,n,e,_,_,d⟩,_⟩:=I.list h
  obtain ⟨its',r',⟨o',n',e',_,_,d'⟩,_⟩:=I.list h'
  rw [e] at e'; cases e'
  rw [d] at d'
  injection d' with d1 _
  have:its = its':=by simpa using congrArg Array.toList d1
  subst this
  exact r.inj r'
end
noncomputable abbrev Cx.wish (X:Cx) (E:Value→Shared→Prop):Cx:={ X with xe:=E }
noncomputable abbrev Cx.nox (X:Cx):Cx:=X.wish fun _ _=>False
theorem Cx.Ok.wish {X:Cx} (ok:X.Ok) (E:Value→Shared→Prop):(X.wish E).Ok :=
  ⟨ok.mod,ok.kind,ok.glob,ok.blt,ok.above,ok.inj,ok.has,ok.cab,ok.hd,ok.frames,ok.stk,ok.exf,ok.bs,ok.bsz,ok.noex,ok.exfs,ok.funs,ok.frf⟩
theorem Cx.Ok.unwish {X:Cx} {E:Value→Shared→Prop} (ok:(X.wish E).Ok):X.Ok :=
  ⟨ok.mod,ok.kind,ok.glob,ok.blt,ok.above,ok.inj,ok.has,ok.cab,ok.hd,ok.frames,ok.stk,ok.exf,ok.bs,ok.bsz,ok.noex,ok.exfs,ok.funs,ok.frf⟩
section
variable {X:Cx} {pins:List (Addr × Obj)} {σ:St} {H:Hp} {s:Shared} {E:Value→Shared→Prop}
theorem Inv.wish (I:Inv X pins σ H s) (E:Value→Shared→Prop):Inv (X.wish E) pins σ H s:=⟨I.ok.wish E,I.os,I.bare,I.base,I.loc,I.cell,I.free,I.freeC,I.pin,I.hok,I.len⟩
theorem Inv.unwish (I:Inv (X.wish E) pins σ H s):Inv X pins σ H s:=⟨I.ok.unwish,I.os,I.bare,I.base,I.loc,I.cell,I.free,I.freeC,I.pin,I.hok,I.len⟩
theorem SP.unwish {D:Ends} {f:Flow} {s':Shared} (h:SP (X.wish E) pins D f s'):SP X pins D f s':=by
  cases f with
  | next=>obtain ⟨σ',H',I,q⟩:=h; exact ⟨σ',H',I.unwish,q⟩
  | brk=>obtain ⟨σ',H',I,q⟩:=h; exact ⟨σ',H',I.unwish,q⟩
  | cont=>obtain ⟨σ',H',I,q⟩:=h; exact ⟨σ',H',I.unwish,q⟩
  | ret u=>obtain ⟨v,σ',H',I,r,q⟩:=h; exact ⟨v,σ',H',I.unwish,r,q⟩
theorem PSs.nox {st:List Stmt} {t:TS} (h:PSs X.nox st t):PSs X st t := .mk <| fun pins s σ H D I hw =>
  wpAny_mono (h pins s σ H D (I.wish _) hw) (fun _ _ q=>q.unwish) fun _ _ z=>False.elim z
end
section
variable {X:Cx} {st:Stmt} {rest:List Stmt} {t u:TS} {e:Expr} {te:TE} {pos:Pos}
noncomputable def tNext:TS:=fun D σ H=>D.nx σ H
noncomputable def tSeq (t u:TS):TS:=fun D σ H=>t { D with nx:=u D } σ H
theorem pss_nil:PSs X [] tNext := .mk <| fun _ _ σ H _ I h=>wpAny_execs_nil ⟨σ,H,I,h⟩
theorem pss_cons (h1:PS X st t) (h2:PSs X rest u):PSs X (st :: rest) (tSeq t u) := .mk <| by
  intro pins s σ H D I h
  refine wpAny_execs_cons (thn (h1 pins s σ H { D with nx:=u D } I h) fun f s1 q => ?_)
  cases f with
  | next =>
    obtain ⟨σ',H',I',q⟩:=q
    exact h2 pins s1 σ' H' D I' q
  | ret v=>exact q
  | brk=>exact q
  | cont=>exact q
theorem pss_one (h1:PS X st t):PSs X [st] t := .mk <| by
  intro pins s σ H D I h
  refine wpAny_execs_cons (thn (h1 pins s σ H D I h) fun f s1 q => ?_)
  cases f with
  | next=>exact wpAny_execs_nil q
  | ret v=>exact q
  | brk=>exact q
  | cont=>exact q
theorem Inv.quiet {pins:List (Addr × Obj)} {σ:St} {H:Hp} {s:Shared} (I:Inv X pins σ H s):interactive X.env = false:=by simp [interactive,I.ok.kind]
noncomputable def tDrop (te:TE):TS:=fun D σ H=>te σ H fun _ H1=>D.nx σ H1
theorem ps_expr (he:PE X e te) (hs:swapsWith e none pos.line X.env = pure false:=by rfl):PS X (.Expr e pos) (tDrop te) := .mk <| by
  intro pins s σ H D I h
  exact wpAny_Expr_any (thn (he pins s σ H _ I h) fun v s1 ⟨x,H1,I1,r1,q1⟩=>⟨σ,H1,I1,q1⟩) I.quiet hs
noncomputable def tRet (te:TE):TS:=fun D σ H=>te σ H D.rt
theorem ps_ret (he:PE X e te):PS X (.Return (some e) pos) (tRet te) := .mk <| by
  intro pins s σ H D I h
  exact wpAny_Return_some (thn (he pins s σ H _ I h) fun v s1 ⟨x,H1,I1,r1,q1⟩=>⟨x,σ,H1,I1,r1,q1⟩)
noncomputable def tIfS (c:TT) (t u:TS):TS:=fun D σ H=>c σ H fun b H1=>if b = true then t D σ H1 else u D σ H1
theorem ps_if {c:Expr} {a b:List Stmt} {tc:TT} (hc:PT X c tc) (ha:PSs X a t) (hb:PSs X b u):PS X (.If c a b pos) (tIfS tc t u) := .mk <| by
  intro pins s σ H D I h
  refine wpAny_If (thn (hc pins s σ H _ I h) fun d s1 ⟨H1,I1,q1⟩ => ?_)
  cases d with
  | true=>exact ha pins s1 σ H1 D I1 q1
  | false=>exact hb pins s1 σ H1 D I1 q1
end
noncomputable abbrev TG:=V→St→Hp→(St→Hp→Prop)→Prop
noncomputable abbrev TGs:=List V→St→Hp→(St→Hp→Prop)→Prop
structure PG (X:Cx) (target:Expr) (t:TG):Prop where
  run :
  ∀ (pins:List (Addr × Obj)) (s:Shared) (σ:St) (H:Hp) (v:V) (u:Value) (Q:St→Hp→Prop),Inv X pins σ H s→RelV v u→t v σ H Q →
    wpAny (model X.prog X.w) X.A (assign target X.env u) (fun _ s'=>∃ σ' H',Inv X pins σ' H' s'∧Q σ' H') X.xe s
noncomputable instance {X:Cx} {target:Expr} {t:TG}:CoeFun (PG X target t) (fun _ =>
  ∀ (pins:List (Addr × Obj)) (s:Shared) (σ:St) (H:Hp) (v:V) (u:Value) (Q:St→Hp→Prop),Inv X pins σ H s→RelV v u→t v σ H Q →
    wpAny (model X.prog X.w) X.A (assign target X.env u) (fun _ s'=>∃ σ' H',Inv X pins σ' H' s'∧Q σ' H') X.xe s
  ):=⟨fun h=>h.run⟩
structure PGs (X:Cx) (ts:List Expr) (t:TGs):Prop where
  run :
  ∀ (pins:List (Addr × Obj)) (s:Shared) (σ:St) (H:Hp) (vs:List V) (us:List Value) (Q:St→Hp→Prop),Inv X pins σ H s→Vals vs us→t vs σ H Q →
    wpAny (model X.prog X.w) X.A (assignInOrder ((assignEach ts X.env).map (·.2)) us) (fun _ s'=>∃ σ' H',Inv X pins σ' H' s'∧Q σ' H') X.xe s
noncomputable instance {X:Cx} {ts:List Expr} {t:TGs}:CoeFun (PGs X ts t) (fun _ =>
  ∀ (pins:List (Addr × Obj)) (s:Shared) (σ:St) (H:Hp) (vs:List V) (us:List Value) (Q:St→Hp→Prop),Inv X pins σ H s→Vals vs us→t vs σ H Q →
    wpAny (model X.prog X.w) X.A (assignInOrder ((assignEach ts X.env).map (·.2)) us) (fun _ s'=>∃ σ' H',Inv X pins σ' H' s'∧Q σ' H') X.xe s
  ):=⟨fun h=>h.run⟩
section
variable {X:Cx} {pos:Pos}
noncomputable def gName (i:Nat):TG:=fun v σ H Q=>Q (σ.set i (some v)) H
theorem pg_name {i:Nat} {x:Str} (hN:X.N.Nodup) (hi:X.N[i]? = some x) (hx:Loc X.env.scope x) (hf:X.fn x = true ∨ X.env.scope.names.lookup x = some .local:=by first | exact .inl rfl | exact .inr rfl | assumption):PG X (.Name x pos) (gName i) := .mk <| by
  intro pins s σ H v u Q I r h
  exact wpAny_assign_Name (store_ok I hN hi hx r (fun s' I'=>⟨_,H,I',h⟩) hf)
noncomputable def gNil:TGs:=fun vs σ H Q=>vs = []∧Q σ H
noncomputable def gCons (t:TG) (u:TGs):TGs:=fun vs σ H Q=>∃ v r,vs = v :: r∧t v σ H fun σ' H'=>u r σ' H' Q
theorem pgs_nil:PGs X [] gNil := .mk <| by
  intro pins s σ H vs us Q I r h
  obtain ⟨e,h⟩:=h
  subst e
  cases r
  exact assignInOrder_nil ⟨σ,H,I,h⟩
theorem pgs_cons {e:Expr} {es:List Expr} {t:TG} {u:TGs} (h1:PG X e t) (h2:PGs X es u)
    (hs:(assignEach (e :: es) X.env).map (·.2) = assign e X.env :: (assignEach es X.env).map (·.2):=by rfl):PGs X (e :: es) (gCons t u) := .mk <| by
  intro pins s σ H vs us Q I r h
  obtain ⟨v,vr,e1,h⟩:=h
  subst e1
  cases r with
  | cons r rr =>
    rw [hs]
    refine assignInOrder_cons (thn (h1 pins s σ H _ _ _ I r h) fun _ s1 ⟨σ1,H1,I1,q1⟩ => ?_)
    exact h2 pins s1 σ1 H1 _ _ Q I1 rr q1
noncomputable def gTup (K:PySem.W.Frag) (n:Nat) (t:TGs):TG:=fun v σ H Q=>∃ a xs,v = .ref a∧SqT K H a xs∧xs.length = n∧t xs σ H Q
theorem pg_tup {es:List Expr} {k:Nat} {t:TGs} {n:Nat} (hc:X.calm = true) (h:PGs X es t)
    (hn:(assignEach es X.env).length = n:=by rfl) (hst:(assignEach es X.env).findIdx? (·.1) = none:=by rfl):PG X (.Tuple es k pos) (gTup X.K n t) := .mk <| by
  intro pins s σ H v u Q I r hw
  obtain ⟨a,xs,e1,hq,hl,hw⟩:=hw
  subst e1
  cases r
  obtain ⟨its,rv,ht,hz⟩:=I.tuple hq
  refine assign_Tuple_tuple (I.ok.hd hc) ht (by simp [hn, ← hl,rv.length]) hst fun h' hx => ?_
  have I1:Inv X pins σ H { s with heap:=h' }:=I.kept (t':=s.toks) fun b o e=>hx b o (Nat.ne_of_lt (Heap.lt_size e)) e
  exact h pins _ σ H xs _ Q I1 (by simpa using rv) hw
noncomputable def tAsg (te:TE) (g:TG):TS:=fun D σ H=>te σ H fun x H1=>g x σ H1 D.nx
theorem ps_asg {tg e:Expr} {te:TE} {g:TG} (he:PE X e te) (hg:PG X tg g) (hs:swapsWithSole [tg] e pos.line X.env = pure false:=by rfl) (hw:swappedStores [tg] e X.env = pure none:=by rfl)
    (h1:(assignEach [tg] X.env).map (·.2) = [assign tg X.env]:=by rfl):PS X (.Assign [tg] e pos) (tAsg te g) := .mk <| by
  intro pins s σ H D I h
  refine wpAny_Assign_stores (thn (he pins s σ H _ I h) fun v s1 ⟨x,H1,I1,r1,q1⟩ => ?_) hs hw
  rw [h1]
  exact thn (hg pins s1 σ H1 x v _ I1 r1 q1) fun _ s2 q=>q
theorem ps_set {i:Nat} {x:Str} {e:Expr} {te:TE} {pos':Pos} (hN:X.N.Nodup) (hi:X.N[i]? = some x) (hx:Loc X.env.scope x) (he:PE X e te) (hs:swapsWith e (some (.Name x pos')) pos.line X.env = pure false:=by rfl) (hf:X.fn x = true ∨ X.env.scope.names.lookup x = some .local:=by first | exact .inl rfl | exact .inr rfl | assumption) :
    PS X (.Assign [.Name x pos'] e pos) (tAsg te (gName i)) := .mk <| by
  intro pins s σ H D I h
  refine wpAny_Assign_Name (thn (he pins s σ H _ I h) fun v s1 ⟨y,H1,I1,r1,q1⟩ => ?_) hs
  exact store_ok I1 hN hi hx r1 (fun s2 I2=>⟨_,H1,I2,q1⟩) hf
noncomputable def tPar (i j:Nat) (ta:TA):TS:=fun D σ H=>ta σ H fun vs H1=>∃ v w,vs = [v,w]∧D.nx ((σ.set i (some v)).set j (some w)) H1
theorem ps_par {i j:Nat} {x y:Str} {a b:Expr} {ta:TA} {px py pt:Pos} {kt k2 pt2} (hc:X.calm = true) (hN:X.N.Nodup) (hi:X.N[i]? = some x) (hj:X.N[j]? = some y) (hij:i ≠ j)
    (hx:X.env.scope.names.lookup x = some .local) (hy:X.env.scope.names.lookup y = some .local) (ha:PA X [a,b] ta)
    (hw:swappedStores [.Tuple [.Name x px,.Name y py] kt pt] (.Tuple [a,b] k2 pt2) X.env = pure (some [x,y]))
    (hs:swapsWithSole [.Tuple [.Name x px,.Name y py] kt pt] (.Tuple [a,b] k2 pt2) pos.line X.env = pure false:=by rfl) :
    PS X (.Assign [.Tuple [.Name x px,.Name y py] kt pt] (.Tuple [a,b] k2 pt2) pos) (tPar i j ta) := .mk <| by
  intro pins s σ H D I h
  rw [exec_Assign_arm]
  refine wpAny_bind (wpAny_standAt ?_)
  rw [hs]
  refine wpAny_bind (wpAny_pure ?_)
  rw [if_neg (by decide)]
  refine wpAny_bind (Tuple_ (thn (ha _ pins s σ H _ I h) fun us s1 ⟨vs,H1,I1,r1,q1⟩ => ?_))
  obtain ⟨v,w,e1,q1⟩:=q1
  subst e1
  obtain ⟨u1,u2,rfl,rv,rw'⟩:∃ u1 u2,us = [u1,u2]∧RelV v u1∧RelV w u2:=by
    cases r1 with
    | cons p q =>
      cases q with
      | cons p' q' =>
        cases q'
        exact ⟨_,_,rfl,p,p'⟩
  refine wpAny_newObj_type ?_ (by show 2 ≤ sizeLine; decide)
  have I2:Inv X pins σ H1 { s1 with heap:=s1.heap.push { cls := .type "tuple",data := .seq [u1,u2].toArray } }:=I1.kept (t':=s1.toks) fun b o e=>Heap.get?_push_of_some _ e
  rw [hw]
  refine wpAny_bind (wpAny_pure ?_)
  show wpAny (model X.prog X.w) X.A (do rule "assign.swapped-stores"; let items ← unpackItems (.ref s1.heap.objs.size) 2 none; assignInOrder [fun v=>bindName X.env y v,fun v=>bindName X.env x v] items.reverse; pure Flow.next) _ _ _
  refine wpAny_bind (wpAny_rule (wpAny_bind (unpackItems_tuple (items := #[u1,u2]) (I.ok.hd hc) (IsTup.new s1.heap _) fun h' hx' => ?_)))
  have I3:=I2.kept (h':=h') (t':=s1.toks) fun b o e=>hx' b o (Nat.ne_of_lt (Heap.lt_size e)) e
  show wpAny _ _ (assignInOrder [fun v=>bindName X.env y v,fun v=>bindName X.env x v] [u2,u1] >>= fun _=>pure Flow.next) _ _ _
  refine wpAny_bind (assignInOrder_cons (wpAny_bindName (store_ok I3 hN hj (.inl hy) rw' (fun s2 I4 => ?_) (.inr hy))))
  refine assignInOrder_cons (wpAny_bindName (store_ok I4 hN hi (.inl hx) rv (fun s3 I5=>assignInOrder_nil (wpAny_pure ?_)) (.inr hx)))
  rw [List.set_comm _ _ (Ne.symm hij)] at I5
  exact ⟨_,H1,I5,q1⟩
end
section
variable {X:Cx} {pos:Pos}
end
structure It where
  go:Nat→Hp→Prop
  yld:Nat→Hp→V→Hp→Prop
  stop:Nat→Hp→Prop
noncomputable def FpOk (X:Cx) (pins:List (Addr × Obj)) (H:Hp) (b:Addr):Prop :=
  H b = none∧b ≠ X.env.locals∧b ∉ X.fs∧(b ∈ X.ex ∨ X.s₀.heap.objs.size ≤ b)∧(∀ x c,X.env.cells.lookup x = some c→c ≠ b)∧∀ p ∈ X.pn ++ pins,p.1 ≠ b
theorem Inv.fpOk {X:Cx} {pins:List (Addr × Obj)} {σ:St} {H H':Hp} {s:Shared} {b:Addr} (I:Inv X pins σ H s) (hb:s.heap.objs.size ≤ b) (hn:H' b = none):FpOk X pins H' b:=by
  refine ⟨hn,Nat.ne_of_gt (Nat.lt_of_lt_of_le I.lt hb),I.nofs hb,.inr (Nat.le_trans I.sz hb),fun x c e z => ?_,fun p hp z => ?_⟩
  · obtain ⟨v,q⟩:=I.cell x c e
    exact absurd (Nat.lt_of_lt_of_le q.lt (by rw [z]; exact hb)) (Nat.lt_irrefl _)
  · exact absurd (Nat.lt_of_lt_of_le (Heap.lt_size (I.pin p hp).1) (by rw [z]; exact hb)) (Nat.lt_irrefl _)
structure Turn (P:Program) (w:World) (K:PySem.W.Frag) (tg:Expr) (J:It) (fp:List Addr) (it:Addr) (tn:Nat→Heap→Prop):Prop where
  mem:it ∈ fp
  obj:∀ i h,tn i h→∀ b ∈ fp,∃ o,h.get? b = some o∧∀ v,o.data ≠ .cell v
  keep:∀ i h h',tn i h→(∀ b ∈ fp,∀ o,h.get? b = some o→h'.get? b = some o)→tn i h'
  item:∀ (X:Cx),X.prog = P→X.w = w→X.K = K→X.calm = true→∀ (i:Nat) (pins:List (Addr × Obj)) (s:Shared) (σ:St) (H:Hp) (E:Value→Shared→Prop),Inv X pins σ H s→(∀ b ∈ fp,FpOk X pins H b)→tn i s.heap→J.go i H →
    wpAny (model P w) X.A (pyNext (.ref it)) (fun r s1=>∃ u,r = some u ∧
      wpAny (model P w) X.A (letOwnedTupleGo tg (.ref it) u) (fun _ s2=>∃ x H',Inv X pins σ H' s2∧RelV x u∧J.yld i H x H'∧tn (i + 1) s2.heap∧∀ b ∈ fp,H' b = none) E s1) E s
  done:∀ (X:Cx),X.prog = P→X.w = w→X.K = K→X.calm = true→∀ (i:Nat) (pins:List (Addr × Obj)) (s:Shared) (σ:St) (H:Hp) (E:Value→Shared→Prop),Inv X pins σ H s→(∀ b ∈ fp,FpOk X pins H b)→tn i s.heap→J.stop i H →
    wpAny (model P w) X.A (pyNext (.ref it)) (fun r s1=>r = none∧Inv X pins σ H s1) E s
  self:∀ (A:Around) (i:Nat) (s:Shared) (Q:Value→Shared→Prop) (E:Value→Shared→Prop),tn i s.heap→Q (.ref it) s→wpAny (model P w) A (pyIter (.ref it)) Q E s
noncomputable abbrev TI:=St→Hp→(It→Hp→Prop)→Prop
noncomputable def PIE (X:Cx) (pins:List (Addr × Obj)) (σ:St) (tg:Expr) (R:It→Hp→Prop) (itv:Value) (s2:Shared):Prop :=
  ∃ (it:Addr) (fp:List Addr) (tn:Nat→Heap→Prop) (J:It) (H':Hp),itv = .ref it∧Inv X pins σ H' s2∧Turn X.prog X.w X.K tg J fp it tn∧tn 0 s2.heap∧(∀ b ∈ fp,FpOk X pins H' b)∧R J H'
structure PI (X:Cx) (tg iter:Expr) (wi:TI):Prop where
  run :
  ∀ (pins:List (Addr × Obj)) (s:Shared) (σ:St) (H:Hp) (R:It→Hp→Prop),Inv X pins σ H s→wi σ H R →
    wpAny (model X.prog X.w) X.A (eval iter X.env) (fun v s1=>wpAny (model X.prog X.w) X.A (pyIter v) (PIE X pins σ tg R) X.xe s1) X.xe s
noncomputable instance {X:Cx} {tg iter:Expr} {wi:TI}:CoeFun (PI X tg iter wi) (fun _ =>
  ∀ (pins:List (Addr × Obj)) (s:Shared) (σ:St) (H:Hp) (R:It→Hp→Prop),Inv X pins σ H s→wi σ H R →
    wpAny (model X.prog X.w) X.A (eval iter X.env) (fun v s1=>wpAny (model X.prog X.w) X.A (pyIter v) (PIE X pins σ tg R) X.xe s1) X.xe s
  ):=⟨fun h=>h.run⟩
theorem go_of {M:Model} {A:Around} {E:Value→Shared→Prop} {s:Shared} {tg:Expr} {it:Addr} {u:Value} {o:Obj} {n:String} {vs:Array Value} {Q:Unit→Shared→Prop} (ho:s.heap.get? it = some o) (hc:o.cls = .type n) (hd:o.data = .fields vs)
    (hn:["enumerate", "zip", "dict_itemiterator", "dict_reverseitemiterator", "odict_iterator", "itertools.zip_longest", "itertools.pairwise"].contains n = false) (hQ:Q () s):wpAny M A (letOwnedTupleGo tg (.ref it) u) Q E s:=by
  unfold letOwnedTupleGo
  cases tg <;> first
    | exact wpAny_pure hQ
    | (cases u <;> first
        | exact wpAny_pure hQ
        | (refine wpAny_bind (wpAny_load ho ?_)
           rw [hc,hd]
           show wpAny M A (if (["enumerate", "zip", "dict_itemiterator", "dict_reverseitemiterator", "odict_iterator", "itertools.zip_longest", "itertools.pairwise"].contains n && vs[0]? == some (rawInt _)) = true then _ else _) Q E s
           rw [if_neg (by intro h; rw [hn,Bool.false_and] at h; cases h)]
           exact wpAny_pure hQ))
noncomputable def Itl (K:PySem.W.Frag) (a:Addr):It :=
  ⟨fun i H=>∃ xs x,SqL K H a xs∧xs[i]? = some x,fun i H x H'=>H' = H∧∀ xs,SqL K H a xs→xs[i]? = some x,fun i H=>∃ xs,SqL K H a xs∧xs.length ≤ i⟩
noncomputable def Itr (lo:Int) (n:Nat):It:=⟨fun i _=>i < n,fun i H x H'=>H' = H∧x = .int (lo + i),fun i _=>n ≤ i⟩
theorem turn_list {P:Program} {w:World} {K:PySem.W.Frag} {tg:Expr} (a it:Addr):Turn P w K tg (Itl K a) [it] it (fun i h=>h.IsListIter it a i) where
  mem:=by simp
  obj:=fun i h st b hb=>by
    have e:b = it:=by simpa using hb
    subst e
    obtain ⟨o,e,c,d⟩:=st
    exact ⟨o,e,fun v z=>by rw [d] at z; cases z⟩
  keep:=fun i h h' st k=>st.at fun o e=>k it (by simp) o e
  item:=by
    intro X hP hw hK hc i pins s σ H E I hf st hg
    subst hP hw hK
    obtain ⟨xs,x,hq,hx⟩:=hg
    obtain ⟨its,rv,p,hz⟩:=I.list hq
    obtain ⟨u,hu,ru⟩:=rv.get hx
    obtain ⟨f0,f1,f2,f3,f4,f5⟩:=hf it (by simp)
    refine wpAny_pyNext_list_item st p.isList (x:=u) (by simpa using hu) fun h' st' sb => ?_
    have I1:Inv X pins σ H { s with heap:=h' }:=I.turned (t':=s.toks) (fun b o hb e=>(sb.2 b hb).trans e) f0 f1 f3 f4 f5
    obtain ⟨o,e,c,d⟩:=id st'
    exact ⟨u,rfl,go_of (s:={ s with heap:=h' }) e c d (by decide) ⟨x,H,I1,ru,⟨rfl,fun ys hy=>by rw [I.list_inj hy hq]; exact hx⟩,st',fun b hb=>(hf b hb).1⟩⟩
  done:=by
    intro X hP hw hK hc i pins s σ H E I hf st hg
    subst hP hw hK
    obtain ⟨xs,hq,hx⟩:=hg
    obtain ⟨its,rv,p,hz⟩:=I.list hq
    obtain ⟨f0,f1,f2,f3,f4,f5⟩:=hf it (by simp)
    have hl:=rv.length
    exact wpAny_pyNext_list_end (I.ok.hd hc) st p.isList (by simp; omega) fun h' eb=>⟨rfl,I.turned (t':=s.toks) (fun b o hb e=>eb b o hb e) f0 f1 f3 f4 f5⟩
  self:=fun _ _ _ _ _ st h=>wpAny_pyIter_listiter st h
theorem turn_range {P:Program} {w:World} {K:PySem.W.Frag} {tg:Expr} (it:Addr) (lo:Int) (n:Nat):Turn P w K tg (Itr lo n) [it] it (fun i h=>IsRangeIter h it (lo + (i:Nat) * 1) ((n:Int) - (i:Nat)) 1) where
  mem:=by simp
  obj:=fun i h st b hb=>by
    have e:b = it:=by simpa using hb
    subst e
    exact ⟨_,st,fun v z=>by
      have z':Data.fields _ = Data.cell v:=z
      cases z'⟩
  keep:=fun i h h' st k=>k it (by simp) _ st
  item:=by
    intro X hP hw hK hc i pins s σ H E I hf st hg
    subst hP hw hK
    obtain ⟨f0,f1,f2,f3,f4,f5⟩:=hf it (by simp)
    have W:=Walks.range (prog:=X.prog) (w:=X.w) (I.ok.hd hc) it lo 1 n
    refine W.item i s _ _ hg st fun v h' tk hv st' kk => ?_
    obtain ⟨t,rfl⟩:=hv
    have I1:Inv X pins σ H { s with heap:=h',toks:=tk }:=I.turned (fun b o hb e=>kk b o (by simpa using hb) e) f0 f1 f3 f4 f5
    refine ⟨_,rfl,go_of (s:={ s with heap:=h',toks:=tk }) (n := "range_iterator") st' rfl rfl (by decide) ⟨.int (lo + i),H,I1,⟨t, ?_⟩,⟨rfl,rfl⟩,st',fun b hb=>(hf b hb).1⟩⟩
    rw [Int.mul_one]
  done:=by
    intro X hP hw hK hc i pins s σ H E I hf st hg
    subst hP hw hK
    obtain ⟨f0,f1,f2,f3,f4,f5⟩:=hf it (by simp)
    exact wpAny_pyNext_range_end (I.ok.hd hc) st (by have:n ≤ i:=hg; omega) fun h' eb=>⟨rfl,I.turned (t':=s.toks) (fun b o hb e=>eb b o hb e) f0 f1 f3 f4 f5⟩
  self:=fun _ _ _ _ _ st h=>wpAny_pyIter_rangeiter st h
end L2
namespace L2
open PySem PySem.Spec PyProof.Rows
section
variable {X:Cx} {tg:Expr}
noncomputable def iList (K:PySem.W.Frag) (tl:TE):TI:=fun σ H R=>tl σ H fun x H1=>∃ a,x = .ref a∧(∃ xs,SqL K H1 a xs)∧R (Itl K a) H1
theorem pi_list {l:Expr} {tl:TE} (hl:PE X l tl):PI X tg l (iList X.K tl) := .mk <| by
  intro pins s σ H R I h
  refine thn (hl pins s σ H _ I h) fun v s1 ⟨x,H1,I1,r1,q1⟩ => ?_
  obtain ⟨a,e,⟨xs,hq⟩,q⟩:=q1
  subst e
  cases r1
  obtain ⟨its,rv,p,hz⟩:=I1.list hq
  refine wpAny_pyIter_list p.isList ?_
  refine ⟨s1.heap.objs.size,[s1.heap.objs.size],_,_,H1,rfl,I1.kept (t':=s1.toks) fun b o e=>Heap.get?_push_of_some _ e,turn_list a _,⟨_,Heap.get?_push_size _ rfl,rfl,rfl⟩,fun b hb => ?_,q⟩
  have e:b = s1.heap.objs.size:=by simpa using hb
  subst e
  exact I1.fpOk (Nat.le_refl _) (I1.hok.fresh (Nat.le_refl _))
theorem range_it {pins:List (Addr × Obj)} {σ:St} {H:Hp} {s:Shared} {R:It→Hp→Prop} {E:Value→Shared→Prop} {lo hi:Int} {t u v:Tok} {tk:Nat} (I:Inv X pins σ H s) (h1 : -(2 ^ 62) ≤ lo) (h2:lo < 2 ^ 62) (h3 : -(2 ^ 62) ≤ hi) (h4:hi < 2 ^ 62)
    (q:R (Itr lo (hi - lo).toNat) H):wpAny (model X.prog X.w) X.A (pyIter (.ref s.heap.objs.size)) (PIE X pins σ tg R) E { s with heap:=s.heap.push { cls := .type "range",data := .fields #[.int lo t,.int hi u,.int 1 v] },toks:=tk }:=by
  refine wpAny_pyIter_range (IsRange.new ..) (small_one h1 h2 h3 h4) ?_
  have I1:Inv X pins σ H { s with heap:=s.heap.push { cls := .type "range",data := .fields #[.int lo t,.int hi u,.int 1 v] },toks:=tk }:=I.kept fun b o e=>Heap.get?_push_of_some _ e
  refine ⟨(s.heap.push { cls := .type "range",data := .fields #[.int lo t,.int hi u,.int 1 v] }).objs.size,[(s.heap.push { cls := .type "range",data := .fields #[.int lo t,.int hi u,.int 1 v] }).objs.size],_,_,H,rfl,
    I1.kept (t':=tk) fun b o e=>Heap.get?_push_of_some _ e,turn_range _ lo (hi - lo).toNat, ?_,fun b hb => ?_,q⟩
  · have e1:lo + ((0:Nat):Int) * 1 = lo:=by simp
    have e2:(((hi - lo).toNat:Nat):Int) - ((0:Nat):Int) = Builtin.Range.rangeSize lo hi 1:=by rw [rangeSize_one]; split <;> omega
    show IsRangeIter _ _ (lo + ((0:Nat):Int) * 1) ((((hi - lo).toNat:Nat):Int) - ((0:Nat):Int)) 1
    rw [e1,e2]
    exact Heap.get?_push_size _ rfl
  · have e:b = (s.heap.push { cls := .type "range",data := .fields #[.int lo t,.int hi u,.int 1 v] }).objs.size:=by simpa using hb
    subst e
    exact I1.fpOk (Nat.le_refl _) (I1.hok.fresh (Nat.le_refl _))
noncomputable def iRng1 (ta:TA):TI:=fun σ H R=>ta σ H fun vs H1=>∃ j:Int,vs = [.int j] ∧ -(2 ^ 62) ≤ j∧j < 2 ^ 62∧R (Itr 0 j.toNat) H1
theorem pi_range1 {a:Expr} {ta:TA} {p pos:Pos} (hg:Gl X "range") (hm:X.mg "range" = none) (ha:PA X [a] ta) (hs:starEach [a] X.env = [(false,eval a X.env)]:=by rfl):PI X tg (.Call (.Name "range" p) [a] [] pos) (iRng1 ta) := .mk <| by
  intro pins s σ H R I h
  refine Call_ (ld_blt I hg hm boot_range (PyProof.Rows.callWith_type1 (thn (ha pos pins s σ H _ I h) fun us s1 ⟨vs,H1,I1,r1,q1⟩ => ?_) hs rfl))
  obtain ⟨j,e,q1,q2,q⟩:=q1
  subst e
  cases r1 with
  | cons r rr =>
    cases rr
    obtain ⟨t,rfl⟩:=r
    exact call_range_1 (range_it I1 (by omega) (by omega) q1 q2 (by simpa using q))
noncomputable def tFor (wi:TI) (g:TG) (tb:TS):TS:=fun D σ H=>wi σ H fun J H1=>∃ W:Nat→Nat→St→Hp→Prop,(∃ m,W 0 m σ H1)∧∀ i m σ H,W i m σ H →
  (J.stop i H∧D.nx σ H) ∨ (J.go i H∧∃ N:St→Hp→Prop,(∀ σ' H',N σ' H'→∃ m',m' < m∧W (i + 1) m' σ' H')∧∀ x H',J.yld i H x H'→g x σ H' fun σ2 H2=>tb { D with nx:=N,ct:=N,bk:=D.nx } σ2 H2)
noncomputable def pinsAt (fp:List Addr) (h:Heap):List (Addr × Obj):=fp.filterMap fun b=>(h.get? b).map fun o=>(b,o)
theorem mem_pinsAt {fp:List Addr} {h:Heap} {b:Addr} {o:Obj} (hb:b ∈ fp) (e:h.get? b = some o):(b,o) ∈ pinsAt fp h:=List.mem_filterMap.mpr ⟨b,hb,by rw [e]; rfl⟩
theorem of_pinsAt {fp:List Addr} {h:Heap} {p:Addr × Obj} (hp:p ∈ pinsAt fp h):p.1 ∈ fp∧h.get? p.1 = some p.2:=by
  obtain ⟨b,hb,e⟩:=List.mem_filterMap.mp hp
  cases q:h.get? b with
  | none=>rw [q] at e; cases e
  | some o =>
    rw [q] at e
    have e':(b,o) = p:=Option.some.inj e
    subst e'
    exact ⟨hb,q⟩
theorem Inv.pinned {pins:List (Addr × Obj)} {σ:St} {H:Hp} {s:Shared} {fp:List Addr} (I:Inv X pins σ H s) (hf:∀ b ∈ fp,FpOk X pins H b) (ho:∀ b ∈ fp,∃ o,s.heap.get? b = some o∧∀ v,o.data ≠ .cell v):Inv X (pins ++ pinsAt fp s.heap) σ H s :=
  I.pins_of fun p hp=>(List.mem_append.mp hp).elim (fun z=>I.pin p (List.mem_append_right _ z)) fun z=>by
    obtain ⟨hb,e⟩:=of_pinsAt z
    obtain ⟨f0,f1,f2,_⟩:=hf p.1 hb
    obtain ⟨o,e',d⟩:=ho p.1 hb
    rw [e] at e'; cases e'
    exact ⟨e,f0,f1,f2,d⟩
theorem Inv.unpinned {pins pl:List (Addr × Obj)} {σ:St} {H:Hp} {s:Shared} (I:Inv X (pins ++ pl) σ H s):Inv X pins σ H s:=I.pins_of fun p hp=>I.pin p (List.mem_append_right _ (List.mem_append_left _ hp))
theorem ps_for {iter:Expr} {body:List Stmt} {wi:TI} {g:TG} {tb:TS} {pos:Pos} (hp:PassesOwn (model X.prog X.w) X.A X.env X.xe) (hc:X.calm = true) (hi:PI X tg iter wi) (hg:PG X tg g) (hb:PSs X body tb)
    (hs:∀ x,foldedSetIterable iter X.env x = pure x:=by intro _; rfl):PS X (.For tg iter body [] pos) (tFor wi g tb) := .mk <| by
  intro pins s σ H D I h
  refine wpAny_For (thn (hi pins s σ H _ I h) fun v s1 h1=>thn h1 fun itv s2 h2 => ?_) hs
  obtain ⟨it,fp,tn,J,H2,e,I2,T,st2,f2,W,⟨m0,w0⟩,turn⟩:=h2
  subst e
  have stat:∀ {H':Hp},(∀ b ∈ fp,H' b = none)→∀ b ∈ fp,FpOk X pins H' b:=fun hn b hb=>⟨hn b hb,(f2 b hb).2⟩
  refine codeAny_forLoop_any (fun n s'=>∃ i σ' H',Inv X pins σ' H' s'∧tn i s'.heap∧(∀ b ∈ fp,H' b = none)∧W i n σ' H') ?_ m0 ⟨0,σ,H2,I2,st2,fun b hb=>(f2 b hb).1,w0⟩
  rintro n s3 ⟨i,σ3,H3,I3,st3,fr3,w3⟩
  rcases turn i n σ3 H3 w3 with ⟨stop,qn⟩ | ⟨go,N,hN,step⟩
  · refine wpAny_passesOwn hp (thn (T.done X rfl rfl rfl hc i pins s3 σ3 H3 X.xe I3 (stat fr3) st3 stop) fun r s4 ⟨hr,I4⟩ => ?_)
    subst hr
    exact wpAny_execs_nil ⟨σ3,H3,I4,qn⟩
  · refine wpAny_passesOwn hp (thn (T.item X rfl rfl rfl hc i pins s3 σ3 H3 X.xe I3 (stat fr3) st3 go) fun r s4 ⟨u,hr,h4⟩ => ?_)
    subst hr
    refine wpAny_passesOwn hp (thn h4 fun _ s5 ⟨x,H5,I5,r5,y5,st5,fr5⟩ => ?_)
    have I5':=I5.pinned (stat fr5) (T.obj _ _ st5)
    refine wpAny_passesOwn hp (thn (hg _ s5 σ3 H5 x u _ I5' r5 (step x H5 y5)) fun _ s6 ⟨σ6,H6,I6,q6⟩ => ?_)
    refine wpAny_passesOwn hp (thn (hb _ s6 σ6 H6 _ I6 q6) fun f s7 q7 => ?_)
    have again:∀ {σ7:St} {H7:Hp},Inv X (pins ++ pinsAt fp s5.heap) σ7 H7 s7→N σ7 H7→∃ m,m < n∧∃ i σ' H',Inv X pins σ' H' s7∧tn i s7.heap∧(∀ b ∈ fp,H' b = none)∧W i m σ' H':=fun {σ7 H7} I7 n7=>by
      obtain ⟨m',hm,w7⟩:=hN σ7 H7 n7
      refine ⟨m',hm,i + 1,σ7,H7,I7.unpinned,T.keep _ _ _ st5 fun b hb o e=>(I7.pin (b,o) (List.mem_append_right _ (List.mem_append_right _ (mem_pinsAt hb e)))).1,fun b hb => ?_,w7⟩
      obtain ⟨o,e,d⟩:=T.obj _ _ st5 b hb
      exact (I7.pin (b,o) (List.mem_append_right _ (List.mem_append_right _ (mem_pinsAt hb e)))).2.1
    cases f with
    | next=>obtain ⟨σ7,H7,I7,n7⟩:=q7; exact again I7 n7
    | cont=>obtain ⟨σ7,H7,I7,n7⟩:=q7; exact again I7 n7
    | brk=>obtain ⟨σ7,H7,I7,q7⟩:=q7; exact ⟨σ7,H7,I7.unpinned,q7⟩
    | ret v=>obtain ⟨x7,σ7,H7,I7,r7,q7⟩:=q7; exact ⟨x7,σ7,H7,I7.unpinned,r7,q7⟩
end
theorem for_list {K:PySem.W.Frag} {a:Addr} {xs:List V} {g:TG} {tb:TS} {D:Ends} {σ:St} {H:Hp} (Pv:Nat→St→Hp→Prop) (h0:Pv 0 σ H) (hl:∀ i σ H,i ≤ xs.length→Pv i σ H→SqL K H a xs)
    (hs:∀ i x σ H,xs[i]? = some x→Pv i σ H→g x σ H fun σ2 H2=>tb { D with nx:=Pv (i + 1),ct:=Pv (i + 1),bk:=D.nx } σ2 H2) (hd:∀ σ H,Pv xs.length σ H→D.nx σ H) :
    ∃ W:Nat→Nat→St→Hp→Prop,(∃ m,W 0 m σ H)∧∀ i m σ H,W i m σ H →
      ((Itl K a).stop i H∧D.nx σ H) ∨ ((Itl K a).go i H∧∃ N:St→Hp→Prop,(∀ σ' H',N σ' H'→∃ m',m' < m∧W (i + 1) m' σ' H')∧∀ x H',(Itl K a).yld i H x H'→g x σ H' fun σ2 H2=>tb { D with nx:=N,ct:=N,bk:=D.nx } σ2 H2):=by
  refine ⟨fun i m σ H=>m = xs.length - i∧i ≤ xs.length∧Pv i σ H,⟨xs.length,by simp,Nat.zero_le _,h0⟩, ?_⟩
  rintro i m σ H ⟨rfl,hi,p⟩
  have q:=hl i σ H hi p
  by_cases hlt:i < xs.length
  · refine .inr ⟨⟨xs,xs[i],q,by simp [hlt]⟩,Pv (i + 1),fun σ' H' p'=>⟨xs.length - (i + 1),by omega,rfl,hlt,p'⟩,fun x H' y => ?_⟩
    obtain ⟨e,y⟩:=y
    subst e
    exact hs i x σ _ (y xs q) p
  · have e:i = xs.length:=by omega
    subst e
    exact .inl ⟨⟨xs,q,Nat.le_refl _⟩,hd σ H p⟩
theorem for_range {lo:Int} {n:Nat} {g:TG} {tb:TS} {D:Ends} {σ:St} {H:Hp} (Pv:Nat→St→Hp→Prop) (h0:Pv 0 σ H)
    (hs:∀ i σ H,i < n→Pv i σ H→g (.int (lo + i)) σ H fun σ2 H2=>tb { D with nx:=Pv (i + 1),ct:=Pv (i + 1),bk:=D.nx } σ2 H2) (hd:∀ σ H,Pv n σ H→D.nx σ H) :
    ∃ W:Nat→Nat→St→Hp→Prop,(∃ m,W 0 m σ H)∧∀ i m σ H,W i m σ H →
      ((Itr lo n).stop i H∧D.nx σ H) ∨ ((Itr lo n).go i H∧∃ N:St→Hp→Prop,(∀ σ' H',N σ' H'→∃ m',m' < m∧W (i + 1) m' σ' H')∧∀ x H',(Itr lo n).yld i H x H'→g x σ H' fun σ2 H2=>tb { D with nx:=N,ct:=N,bk:=D.nx } σ2 H2):=by
  refine ⟨fun i m σ H=>m = n - i∧i ≤ n∧Pv i σ H,⟨n,by simp,Nat.zero_le _,h0⟩, ?_⟩
  rintro i m σ H ⟨rfl,hi,p⟩
  by_cases hlt:i < n
  · refine .inr ⟨hlt,Pv (i + 1),fun σ' H' p'=>⟨n - (i + 1),by omega,rfl,hlt,p'⟩,fun x H' y => ?_⟩
    obtain ⟨e,y⟩:=y
    subst e y
    exact hs i σ _ hlt p
  · have e:i = n:=by omega
    subst e
    exact .inl ⟨Nat.le_refl _,hd σ H p⟩
end L2
namespace L2
open PySem PySem.Spec PyProof.Rows
noncomputable abbrev R2:=V→V→Hp→VK→Prop
noncomputable def OpR (X:Cx) (f:Value→Value→Sem Value) (r:R2):Prop :=
  ∀ (pins:List (Addr × Obj)) (s:Shared) (σ:St) (H:Hp) (x y:V) (v u:Value) (Q:VK),Inv X pins σ H s→RelV x v→RelV y u→r x y H Q →
    wpAny (model X.prog X.w) X.A (f v u) (EP X pins σ Q) X.xe s
noncomputable def UnR (X:Cx) (f:Value→Sem Value) (r:V→Hp→VK→Prop):Prop :=
  ∀ (pins:List (Addr × Obj)) (s:Shared) (σ:St) (H:Hp) (x:V) (v:Value) (Q:VK),Inv X pins σ H s→RelV x v→r x H Q →
    wpAny (model X.prog X.w) X.A (f v) (EP X pins σ Q) X.xe s
noncomputable def CallR (X:Cx) (f:Value) (r:List V→Hp→VK→Prop):Prop :=
  ∀ (pins:List (Addr × Obj)) (s:Shared) (σ:St) (H:Hp) (xs:List V) (us:List Value) (Q:VK),Inv X pins σ H s→Vals xs us→r xs H Q →
    wpAny (model X.prog X.w) X.A (call f us) (EP X pins σ Q) X.xe s
noncomputable def tOp (r:R2) (ta tb:TE):TE:=fun σ H Q=>ta σ H fun x H1=>tb σ H1 fun y H2=>r x y H2 Q
noncomputable def tUn (r:V→Hp→VK→Prop) (ta:TE):TE:=fun σ H Q=>ta σ H fun x H1=>r x H1 Q
noncomputable def rI (C:Int→Int→Prop) (g:Int→Int→V):R2:=fun x y H Q=>∃ i j,x = .int i∧y = .int j∧C i j∧Q (g i j) H
noncomputable def rI0 (g:Int→Int→V):R2:=fun x y H Q=>∃ i j,x = .int i∧y = .int j∧Q (g i j) H
noncomputable def rU (g:Int→V):V→Hp→VK→Prop:=fun x H Q=>∃ i,x = .int i∧Q (g i) H
section
variable {X:Cx} {a b c:Expr} {ta tb tc:TE} {pos:Pos}
theorem binT (ha:PE X a ta) (hb:PE X b tb) {pins:List (Addr × Obj)} {s:Shared} {σ:St} {H:Hp} {R:V→V→Hp→Prop} (I:Inv X pins σ H s)
    (h:ta σ H fun x H1=>tb σ H1 fun y H2=>R x y H2) {Q:Value→Shared→Prop} {f:Value→Value→Sem Value}
    (hf:∀ v u s2 x y H2,Inv X pins σ H2 s2→RelV x v→RelV y u→R x y H2→wpAny (model X.prog X.w) X.A (f v u) Q X.xe s2) :
    wpAny (model X.prog X.w) X.A (eval a X.env) (fun v s₁=>wpAny (model X.prog X.w) X.A (eval b X.env) (fun u s₂=>wpAny (model X.prog X.w) X.A (f v u) Q X.xe s₂) X.xe s₁) X.xe s:=by
  refine thn (ha pins s σ H _ I h) fun v s1 ⟨x,H1,I1,r1,q1⟩ => ?_
  refine thn (hb pins s1 σ H1 _ I1 q1) fun u s2 ⟨y,H2,I2,r2,q2⟩ => ?_
  exact hf v u s2 x y H2 I2 r1 r2 q2
theorem pe_op {op:Operator} {r:R2} (ho:OpR X (binaryOp op) r) (ha:PE X a ta) (hb:PE X b tb):PE X (.BinOp a op b pos) (tOp r ta tb) := .mk <| by
  intro pins s σ H Q I h
  exact wpAny_BinOp (binT ha hb I h fun v u s2 x y H2 I2 rx ry q=>ho pins s2 σ H2 x y v u Q I2 rx ry q)
theorem pe_un {op:UnaryOp} {r:V→Hp→VK→Prop} (ho:UnR X (unaryOp op) r) (ha:PE X a ta):PE X (.UnaryOp op a pos) (tUn r ta) := .mk <| by
  intro pins s σ H Q I h
  exact UnaryOp_ (thn (ha pins s σ H _ I h) fun v s1 ⟨x,H1,I1,r1,q1⟩=>ho pins s1 σ H1 x v Q I1 r1 q1)
theorem opI {f:Value→Value→Sem Value} {C:Int→Int→Prop} {g:Int→Int→Int}
    (rule:∀ (i j:Int) (t u:Tok) (s:Shared) (Q:Value→Shared→Prop) (E:Value→Shared→Prop),C i j→Q (.int (g i j) s.toks) { s with toks:=s.toks + 1 }→wpAny (model X.prog X.w) X.A (f (.int i t) (.int j u)) Q E s) :
    OpR X f (rI C fun i j=>.int (g i j)):=by
  intro pins s σ H x y v u Q I rx ry h
  obtain ⟨i,j,rfl,rfl,hc,q⟩:=h
  obtain ⟨t,rfl⟩:=rx
  obtain ⟨t',rfl⟩:=ry
  exact rule i j t t' s _ _ hc ⟨.int (g i j),H,I.tok _,⟨_,rfl⟩,q⟩
theorem opI0 {f:Value→Value→Sem Value} {g:Int→Int→Int}
    (rule:∀ (i j:Int) (t u:Tok) (s:Shared) (Q:Value→Shared→Prop) (E:Value→Shared→Prop),Q (.int (g i j) s.toks) { s with toks:=s.toks + 1 }→wpAny (model X.prog X.w) X.A (f (.int i t) (.int j u)) Q E s) :
    OpR X f (rI0 fun i j=>.int (g i j)):=by
  intro pins s σ H x y v u Q I rx ry h
  obtain ⟨i,j,rfl,rfl,q⟩:=h
  obtain ⟨t,rfl⟩:=rx
  obtain ⟨t',rfl⟩:=ry
  exact rule i j t t' s _ _ ⟨.int (g i j),H,I.tok _,⟨_,rfl⟩,q⟩
theorem opB0 {f:Value→Value→Sem Value} {g:Int→Int→Bool}
    (rule:∀ (i j:Int) (t u:Tok) (s:Shared) (Q:Value→Shared→Prop) (E:Value→Shared→Prop),Q (.bool (g i j)) s→wpAny (model X.prog X.w) X.A (f (.int i t) (.int j u)) Q E s) :
    OpR X f (rI0 fun i j=>.bl (g i j)):=by
  intro pins s σ H x y v u Q I rx ry h
  obtain ⟨i,j,rfl,rfl,q⟩:=h
  obtain ⟨t,rfl⟩:=rx
  obtain ⟨t',rfl⟩:=ry
  exact rule i j t t' s _ _ ⟨.bl (g i j),H,I,rfl,q⟩
noncomputable def CDiv (i j:Int):Prop:=0 < j∧j < 1073741824
noncomputable def CPow (i j:Int):Prop:=0 ≤ j∧j ≤ 1000000∧i.natAbs < 2 ^ 64
noncomputable def CMul (i j:Int):Prop:=(-(2 ^ 64) < i∧i < 2 ^ 64) ∨ (-(2 ^ 64) < j∧j < 2 ^ 64)
theorem CMul.ok {i j:Int} (h:CMul i j):IntMulOk i j:=by
  rcases h with ⟨h1,h2⟩ | ⟨h1,h2⟩
  · exact .of_left (intBits_le_64 h1 h2)
  · exact .of_right (intBits_le_64 h1 h2)
theorem op_add:OpR X (binaryOp .Add) (rI0 fun i j=>.int (i + j)):=opI0 fun _ _ _ _ _ _ _ q=>add_int q
theorem op_sub:OpR X (binaryOp .Sub) (rI0 fun i j=>.int (i - j)):=opI0 fun _ _ _ _ _ _ _ q=>sub_int q
theorem op_mul:OpR X (binaryOp .Mult) (rI CMul fun i j=>.int (i * j)):=opI fun _ _ _ _ _ _ _ hc q=>mul_int q hc.ok
theorem op_fdiv:OpR X (binaryOp .FloorDiv) (rI CDiv fun i j=>.int (i / j)):=opI fun i j _ _ _ _ _ hc q=>by
  have h1:(0:Int) < j:=hc.1
  have h2:j < 1073741824:=hc.2
  exact floordiv_int (by omega) (by rw [Int.fdiv_eq_ediv_of_nonneg i (by omega)]; exact q) (.inl (PyProof.noPylong_small (by omega)))
theorem op_mod:OpR X (binaryOp .Mod) (rI (fun _ j=>0 < j) fun i j=>.int (i % j)):=opI fun i j _ _ _ _ _ hc q=>by
  have h1:(0:Int) < j:=hc
  exact mod_int' (by omega) (by rw [Int.fmod_eq_emod_of_nonneg i (by omega)]; exact q)
theorem op_pow:OpR X (binaryOp .Pow) (rI CPow fun i j=>.int (i ^ j.toNat)):=opI fun _ _ _ _ _ _ _ hc q=>pow_int_small hc.1 hc.2.1 hc.2.2 q
theorem unI {f:Value→Sem Value} {g:Int→Int}
    (rule:∀ (i:Int) (t:Tok) (s:Shared) (Q:Value→Shared→Prop) (E:Value→Shared→Prop),Q (.int (g i) s.toks) { s with toks:=s.toks + 1 }→wpAny (model X.prog X.w) X.A (f (.int i t)) Q E s) :
    UnR X f (rU fun i=>.int (g i)):=by
  intro pins s σ H x v Q I rx h
  obtain ⟨i,rfl,q⟩:=h
  obtain ⟨t,rfl⟩:=rx
  exact rule i t s _ _ ⟨.int (g i),H,I.tok _,⟨_,rfl⟩,q⟩
theorem un_neg:UnR X (unaryOp .USub) (rU fun i=>.int (-i)):=unI fun _ _ _ _ _ q=>neg_int q
end
noncomputable def scal:V→V→Bool
  | .non,.non=>true | .non,.int _=>true | .int _,.non=>true | .non,.bl _=>true | .bl _,.non=>true | .non,.str _=>true | .str _,.non=>true
  | .int _,.int _=>true | .bl _,.bl _=>true | .str _,.str _=>true | .byt _,.byt _=>true
  | .int _,.str _=>true | .str _,.int _=>true | .bl _,.str _=>true | .str _,.bl _=>true
  | _,_=>false
noncomputable def rEq:R2:=fun x y H Q=>scal x y = true∧Q (.bl (decide (x = y))) H
noncomputable def rNe:R2:=fun x y H Q=>scal x y = true∧Q (.bl (!decide (x = y))) H
theorem dec_int {i j:Int}:decide (V.int i = V.int j) = (i == j):=by
  rw [Bool.eq_iff_iff]
  simp
theorem dec_bl {i j:Bool}:decide (V.bl i = V.bl j) = (i == j):=by
  rw [Bool.eq_iff_iff]
  simp
theorem dec_str {i j:Str}:decide (V.str i = V.str j) = (i == j):=by
  rw [Bool.eq_iff_iff]
  simp
theorem dec_byt {i j:Array UInt8}:decide (V.byt i = V.byt j) = (i.toList == j.toList):=by
  rw [Bool.eq_iff_iff]
  cases i
  cases j
  simp
section
variable {X:Cx} {a b c:Expr} {ta tb tc:TE} {pos:Pos}
theorem fin_bl {pins:List (Addr × Obj)} {σ:St} {H:Hp} {s:Shared} {Q:VK} {k k':Bool} (I:Inv X pins σ H s) (q:Q (.bl k) H) (e:k = k'):EP X pins σ Q (.bool k') s:=by
  subst e
  exact ⟨.bl k,H,I,rfl,q⟩
theorem op_eq:OpR X (compareOp .Eq) rEq:=by
  intro pins s σ H x y v u Q I rx ry h
  obtain ⟨hs,q⟩:=h
  cases x with
  | non =>
    cases rx
    cases y with
    | non=>cases ry; exact PySem.EqNone.eq_none_none (fin_bl I q (by simp))
    | bl j=>cases ry; exact PySem.EqNone.eq_none_bool (fin_bl I q (by simp))
    | int j=>obtain ⟨t',rfl⟩:=ry; exact PySem.EqNone.eq_none_int (fin_bl I q (by simp))
    | str j=>obtain ⟨t',rfl⟩:=ry; exact PySem.EqNone.eq_none_str (fin_bl I q (by simp))
    | _=>exact absurd (show false = true from hs) Bool.false_ne_true
  | bl i =>
    cases rx
    cases y with
    | non=>cases ry; exact PySem.EqNone.eq_bool_none (fin_bl I q (by simp))
    | bl j=>cases ry; exact eq_bool (fin_bl I q dec_bl)
    | str j=>obtain ⟨t',rfl⟩:=ry; exact PySem.EqMixed.eq_bool_str (fin_bl I q (by simp))
    | _=>exact absurd (show false = true from hs) Bool.false_ne_true
  | int i =>
    obtain ⟨t,rfl⟩:=rx
    cases y with
    | non=>cases ry; exact PySem.EqNone.eq_int_none (fin_bl I q (by simp))
    | int j=>obtain ⟨t',rfl⟩:=ry; exact eq_int (fin_bl I q dec_int)
    | str j=>obtain ⟨t',rfl⟩:=ry; exact PySem.EqMixed.eq_int_str (fin_bl I q (by simp))
    | _=>exact absurd (show false = true from hs) Bool.false_ne_true
  | str i =>
    obtain ⟨t,rfl⟩:=rx
    cases y with
    | non=>cases ry; exact PySem.EqNone.eq_str_none (fin_bl I q (by simp))
    | bl j=>cases ry; exact PySem.EqMixed.eq_str_bool (fin_bl I q (by simp))
    | int j=>obtain ⟨t',rfl⟩:=ry; exact PySem.EqMixed.eq_str_int (fin_bl I q (by simp))
    | str j=>obtain ⟨t',rfl⟩:=ry; exact eq_str (fin_bl I q dec_str)
    | _=>exact absurd (show false = true from hs) Bool.false_ne_true
  | byt i =>
    obtain ⟨t,rfl⟩:=rx
    cases y with
    | byt j=>obtain ⟨t',rfl⟩:=ry; exact PySem.W.eq_bytes (fin_bl I q dec_byt)
    | _=>exact absurd (show false = true from hs) Bool.false_ne_true
  | _=>cases y <;> exact absurd (show false = true from hs) Bool.false_ne_true
theorem op_ne:OpR X (compareOp .NotEq) rNe:=by
  intro pins s σ H x y v u Q I rx ry h
  obtain ⟨hs,q⟩:=h
  cases x with
  | non =>
    cases rx
    cases y with
    | non=>cases ry; exact PySem.EqNone.ne_none_none (fin_bl I q (by simp))
    | bl j=>cases ry; exact PySem.EqNone.ne_none_bool (fin_bl I q (by simp))
    | int j=>obtain ⟨t',rfl⟩:=ry; exact PySem.EqNone.ne_none_int (fin_bl I q (by simp))
    | str j=>obtain ⟨t',rfl⟩:=ry; exact PySem.EqNone.ne_none_str (fin_bl I q (by simp))
    | _=>exact absurd (show false = true from hs) Bool.false_ne_true
  | bl i =>
    cases rx
    cases y with
    | non=>cases ry; exact PySem.EqNone.ne_bool_none (fin_bl I q (by simp))
    | bl j=>cases ry; exact ne_bool (fin_bl I q (congrArg not dec_bl))
    | str j=>obtain ⟨t',rfl⟩:=ry; exact PySem.EqMixed.ne_bool_str (fin_bl I q (by simp))
    | _=>exact absurd (show false = true from hs) Bool.false_ne_true
  | int i =>
    obtain ⟨t,rfl⟩:=rx
    cases y with
    | non=>cases ry; exact PySem.EqNone.ne_int_none (fin_bl I q (by simp))
    | int j=>obtain ⟨t',rfl⟩:=ry; exact ne_int (fin_bl I q (congrArg not dec_int))
    | str j=>obtain ⟨t',rfl⟩:=ry; exact PySem.EqMixed.ne_int_str (fin_bl I q (by simp))
    | _=>exact absurd (show false = true from hs) Bool.false_ne_true
  | str i =>
    obtain ⟨t,rfl⟩:=rx
    cases y with
    | non=>cases ry; exact PySem.EqNone.ne_str_none (fin_bl I q (by simp))
    | bl j=>cases ry; exact PySem.EqMixed.ne_str_bool (fin_bl I q (by simp))
    | int j=>obtain ⟨t',rfl⟩:=ry; exact PySem.EqMixed.ne_str_int (fin_bl I q (by simp))
    | str j=>obtain ⟨t',rfl⟩:=ry; exact ne_str (fin_bl I q (congrArg not dec_str))
    | _=>exact absurd (show false = true from hs) Bool.false_ne_true
  | byt i =>
    obtain ⟨t,rfl⟩:=rx
    cases y with
    | byt j=>obtain ⟨t',rfl⟩:=ry; exact PySem.W.ne_bytes (fin_bl I q (congrArg not dec_byt))
    | _=>exact absurd (show false = true from hs) Bool.false_ne_true
  | _=>cases y <;> exact absurd (show false = true from hs) Bool.false_ne_true
theorem op_lt:OpR X (compareOp .Lt) (rI0 fun i j=>.bl (decide (i < j))):=opB0 fun _ _ _ _ _ _ _ q=>lt_int q
theorem op_isN:OpR X (compareOp .Is) (fun x y H Q=>y = .non∧Q (.bl (decide (x = .non))) H):=by
  intro pins s σ H x y v u Q I rx ry h
  obtain ⟨rfl,q⟩:=h
  cases ry
  refine is_none_gen (fin_bl I q ?_)
  cases x <;> first
    | (cases rx; rfl)
    | (obtain ⟨t,rfl⟩:=rx; rfl)
theorem op_notN:OpR X (compareOp .IsNot) (fun x y H Q=>y = .non∧Q (.bl (!decide (x = .non))) H):=by
  intro pins s σ H x y v u Q I rx ry h
  obtain ⟨rfl,q⟩:=h
  cases ry
  refine isnot_none_gen (fin_bl I q ?_)
  cases x <;> first
    | (cases rx; rfl)
    | (obtain ⟨t,rfl⟩:=rx; rfl)
theorem nomark (b:Expr) {op:CmpOp} (h:op ≠ .In:=by decide) (h2:op ≠ .NotIn:=by decide):behindInMarks op b = false:=by
  have e1:(op == CmpOp.In) = false:=by cases op <;> first | rfl | exact absurd rfl h
  have e2:(op == CmpOp.NotIn) = false:=by cases op <;> first | rfl | exact absurd rfl h2
  cases b <;> simp [behindInMarks,e1,e2]
theorem pe_cmpR {op:CmpOp} {r:R2} (ho:OpR X (compareOp op) r) (ha:PE X a ta) (hb:PE X b tb) (hm:behindInMarks op b = false):PE X (.Compare a [op] [b] pos) (tOp r ta tb) := .mk <| by
  intro pins s σ H Q I h
  exact wpAny_Compare1 (binT ha hb I h fun v u s2 x y H2 I2 rx ry q=>ho pins s2 σ H2 x y v u Q I2 rx ry q) hm
noncomputable def tTest (t:TE):TT:=fun σ H Q=>t σ H fun x H'=>∃ k,x = .bl k∧Q k H'
theorem pt_cmpR {op:CmpOp} {r:R2} (ho:OpR X (compareOp op) r) (ha:PE X a ta) (hb:PE X b tb) (hm:behindInMarks op b = false):PT X (.Compare a [op] [b] pos) (tTest (tOp r ta tb)) := .mk <| by
  intro pins s σ H Q I h
  refine wpAny_isTrue_Compare1 (thn (ha pins s σ H _ I h) fun v s1 ⟨x,H1,I1,r1,q1⟩=>thn (hb pins s1 σ H1 _ I1 q1) fun u s2 ⟨y,H2,I2,r2,q2⟩ =>
    thn (ho pins s2 σ H2 x y v u _ I2 r1 r2 q2) fun c s3 ⟨z,H3,I3,r3,k,e,q3⟩ => ?_) hm
  subst e
  cases r3
  exact wpAny_truthy_bool ⟨H3,I3,q3⟩
noncomputable def tChain (r r':R2) (ta tb tc:TE):TE:=fun σ H Q=>ta σ H fun x H1=>tb σ H1 fun y H2=>r x y H2 fun z H3=>∃ k,z = .bl k ∧
  (if k = true then tc σ H3 fun w' H4=>r' y w' H4 Q else Q (.bl false) H3)
theorem pt_chain {op op':CmpOp} {r r':R2} (ho:OpR X (compareOp op) r) (ho':OpR X (compareOp op') r') (ha:PE X a ta) (hb:PE X b tb) (hc:PE X c tc)
    (hm:lastMarks [op,op'] [b,c] = false:=by with_unfolding_all rfl):PT X (.Compare a [op,op'] [b,c] pos) (tTest (tChain r r' ta tb tc)) := .mk <| by
  intro pins s σ H Q I h
  refine isTrue_chain (thn (ha pins s σ H _ I h) fun v s1 ⟨x,H1,I1,r1,q1⟩=>test_link (thn (hb pins s1 σ H1 _ I1 q1) fun u s2 ⟨y,H2,I2,r2,q2⟩ =>
    thn (ho pins s2 σ H2 x y v u _ I2 r1 r2 q2) fun d s3 ⟨z,H3,I3,r3,k,e,q3⟩ => ?_)) hm
  subst e
  cases r3
  refine wpAny_truthy_bool ?_
  cases k with
  | false =>
    obtain ⟨k',e',q'⟩:=q3
    cases e'
    exact ite_ff ⟨H3,I3,q'⟩
  | true =>
    refine ite_tt (test_last (thn (hc pins s3 σ H3 _ I3 q3) fun w' s4 ⟨z',H4,I4,r4,q4⟩=>thn (ho' pins s4 σ H4 y z' u w' _ I4 r2 r4 q4) fun d' s5 ⟨z2,H5,I5,r5,k2,e2,q5⟩ => ?_))
    subst e2
    cases r5
    exact wpAny_truthy_bool ⟨H5,I5,q5⟩
theorem line63:(sizeLine:Nat) < 2 ^ 63:=by rw [sizeLine_eq]; decide
theorem op_add_str:OpR X (binaryOp .Add) (fun x y H Q=>∃ i j,x = .str i∧y = .str j∧i.length + j.length ≤ sizeLine∧Q (.str (i ++ j)) H):=by
  intro pins s σ H x y v u Q I rx ry h
  obtain ⟨i,j,rfl,rfl,hz,q⟩:=h
  obtain ⟨t,rfl⟩:=rx
  obtain ⟨t',rfl⟩:=ry
  exact add_str (fun t' tk=>⟨.str (i ++ j),H,I.tok _,⟨_,rfl⟩,q⟩) hz
theorem vals1 {x:V} {us:List Value} (r:Vals [x] us):∃ u,us = [u]∧RelV x u:=by
  cases r with
  | cons r1 r2=>cases r2; exact ⟨_,rfl,r1⟩
theorem vals2 {x y:V} {us:List Value} (r:Vals [x,y] us):∃ u w',us = [u,w']∧RelV x u∧RelV y w':=by
  cases r with
  | cons r1 r2 =>
    cases r2 with
    | cons r3 r4=>cases r4; exact ⟨_,_,rfl,r1,r3⟩
end
end L2
namespace L2
open PySem PySem.Spec PyProof.Rows
structure ObjM (h:Heap) (x dx C:Addr) (mA:Str→Option Value):Prop where
  obj:h.get? x = some (PySem.W.instObj C dx)
  ns:h.Ns1 dx mA
  ne:dx ≠ x
theorem lookIn_ns {h:Heap} {dx:Addr} {mA:Str→Option Value} (n:h.Ns1 dx mA):∃ od,h.get? dx = some od∧∀ name,PySem.W.lookIn name od = some (mA name):=by
  obtain ⟨o,es,ep,ho,hd,hk,_,hm⟩:=n
  refine ⟨o,ho,fun name => ?_⟩
  have e:=hm name
  unfold nsFind findBy at e
  rw [← Array.find?_toList] at e
  unfold PySem.W.lookIn
  rw [hd]
  dsimp only
  split
  · rename_i y q
    rw [q] at e
    exact congrArg some e
  · rename_i q
    rw [q] at e
    have a:es.toList.any (·.refKey) = false:=by
      rw [List.any_eq_false]
      intro y hy
      obtain ⟨z,t,hkey⟩:=hk y (Array.mem_toList_iff.mp hy)
      simp [DictEntry.refKey,hkey]
    have a':¬ es.toList.any (·.refKey) = true:=by rw [a]; exact Bool.false_ne_true
    rw [if_neg a']
    exact congrArg some e
theorem ObjM.look {h:Heap} {x dx C:Addr} {mA:Str→Option Value} (I:ObjM h x dx C mA):∃ od,PySem.W.InstAt h x (PySem.W.instObj C dx) C (some od)∧∀ name,PySem.W.lookIn name od = some (mA name) :=
  let ⟨od,ho,hl⟩:=lookIn_ns I.ns
  ⟨od,⟨I.obj,rfl,rfl,ho⟩,hl⟩
section
variable {prog:Program} {w:World} {A:Around} {E:Value→Shared→Prop} {s:Shared} {K:PySem.W.Frag} {x dx C f:Addr} {mA:Str→Option Value} {name:Str} {v:Value}
theorem get_map {expr:Bool} {Q:Value→Shared→Prop} (X:K.In s.heap) (I:ObjM s.heap x dx C mA) (hg:PySem.W.plainGet K C name = true) (hh:PySem.W.hasDictIn K C = true)
    (ha:PySem.W.findIn K (.ref C) name = some none) (hv:mA name = some v) (hv':PySem.W.handedIn v = true) (h:Q v { s with toks:=s.toks + 1 }) :
    wpAny (model prog w) A (getAttr (.ref x) name expr) Q E s:=by
  obtain ⟨od,J,hl⟩:=I.look
  exact PySem.W.get_value X J (PySem.W.plainGet_of hg).1 (PySem.W.findObj_own hh ha rfl (by rw [hl,hv])) hv' h
theorem get_meth {pl:Sem Bool} {Q:Value × List Value→Shared→Prop} (X:K.In s.heap) (I:ObjM s.heap x dx C mA) (hg:PySem.W.plainGet K C name = true)
    (hf:PySem.W.findIn K (.ref C) name = some (some (.ref f))) (ht:PySem.W.isFn K (.ref f) = true) (hv:mA name = none) (h:Q (.ref f,[.ref x]) s) :
    wpAny (model prog w) A (getMethod (.ref x) name pl) Q E s:=by
  obtain ⟨od,J,hl⟩:=I.look
  exact PySem.W.method_fn X J (PySem.W.plainGet_of hg).1 (PySem.W.plainGet_of hg).2 hf (beq_iff_eq.mp ht) (by show (PySem.W.lookIn name od).map (·.isSome) = some false; rw [hl,hv]; rfl) h
theorem set_map {ns:List Str} {Q:Unit→Shared→Prop} (X:K.In s.heap) (I:ObjM s.heap x dx C mA)
    (hs:PySem.W.findIn K (.ref C) "__setattr__" = some (some (.builtin "object.__setattr__"))) (hp:PySem.W.plainOver K C = true) (ht:PySem.W.takerIn K C name = some none) (hh:PySem.W.hasDictIn K C = true)
    (hw:PySem.Within mA ns) (hsz:ns.length ≤ sizeLine)
    (h:∀ h',ObjM h' x dx C (fun y=>if y = name then some v else mA y)→Heap.SameBut dx s.heap h'→Q () { s with heap:=h',toks:=s.toks + 2 }) :
    wpAny (model prog w) A (setAttr (.ref x) name v) Q E s:=by
  obtain ⟨od,J,hl⟩:=I.look
  refine PySem.W.set_plain X J hs (PySem.W.osa_open (s:={ s with toks:=s.toks + 1 }) (r:=none) X J hp ht fun b => ?_)
  obtain ⟨cd,hc,hd'⟩:=PySem.W.any_some hh
  have hx:s.heap.get? x = some ⟨.ref C,some dx,.plain, #[]⟩:=I.obj
  refine wpAny_bind (wpAny_pure (wpAny_bind (wpAny_bind (wpAny_loadPart hx (wpAny_bind (PySem.W.Looks.here (s:={ s with toks:=s.toks + 1 }) (PySem.W.looks_clsIn X hc) ?_))))))
  rw [hd']
  refine wpAny_pure (a:=some dx) (wpAny_bind (wpAny_pure (wpAny_bind ?_)))
  refine wpAny_nsSet1 (s:={ s with toks:=s.toks + 1 }) I.ns fun h' hn2 hs2 => ?_
  obtain ⟨oD,esD,epD,hoD,hdD,hcD⟩:=hn2.count (PySem.Within.cons name v hw)
  refine wpAny_bind (wpAny_lookBehind hoD (by rw [hdD]; exact pastItsLine_dict (Nat.le_trans hcD (by rw [List.length_cons]; omega))) ?_)
  exact wpAny_pure (h _ ⟨(hs2.2 _ (Ne.symm I.ne)).trans I.obj,hn2,I.ne⟩ hs2)
theorem make_map {R:Result→Shared→Prop} {vs:List Value} {kw:List (Str × Value)} (X:K.In s.heap) (hm:PySem.W.makesIn K C = true)
    (hi:PySem.W.findIn K (.ref C) "__init__" = some (some (.ref f))) (hf:PySem.W.typeIn K (.ref f) = some (.type "function"))
    (h:codeAny (model prog w) (A.under (.builtin "type.__call__" ⟨.ref C :: vs,kw⟩)) (.call (.ref f) ⟨.ref (s.heap.objs.size + 1) :: vs,kw⟩) (PySem.W.InitBack (s.heap.objs.size + 1) R)
      { s with heap:=(s.heap.push PySem.W.emptyDict).push (PySem.W.instObj C s.heap.objs.size) }) :
    codeAny (model prog w) A (.call (.ref C) ⟨vs,kw⟩) R s:=by
  obtain ⟨hh,g,d,t,os⟩:=s
  exact PySem.W.make_core (PySem.W.makes_of X hm) (PySem.W.looks_findIn X hi) (fun self=>PySem.W.bind_fn X self hf) (.inl rfl) h
end
noncomputable def putF (f:Str) (v:V):List (Str × V)→List (Str × V)
  | []=>[(f,v)]
  | (g,x) :: r=>if g = f then (g,v) :: r else (g,x) :: putF f v r
theorem lookup_putF (f g:Str) (v:V):∀ fs:List (Str × V),(putF f v fs).lookup g = if g = f then some v else fs.lookup g
  | []=>by
    show List.lookup g [(f,v)] = _
    by_cases h:g = f
    · have hb:(g == f) = true:=beq_iff_eq.mpr h
      simp only [List.lookup,hb,if_pos h]
    · have hb:(g == f) = false:=beq_eq_false_iff_ne.mpr h
      simp only [List.lookup,hb,if_neg h]
  | (k,x) :: r=>by
    have ih:=lookup_putF f g v r
    rw [show putF f v ((k,x) :: r) = (if k = f then (k,v) :: r else (k,x) :: putF f v r) from rfl]
    by_cases hk:k = f
    · rw [if_pos hk]
      by_cases h:g = k
      · have hb:(g == k) = true:=beq_iff_eq.mpr h
        simp only [List.lookup,hb,if_pos (h.trans hk)]
      · have hb:(g == k) = false:=beq_eq_false_iff_ne.mpr h
        simp only [List.lookup,hb,if_neg (fun e:g = f=>h (e.trans hk.symm))]
    · rw [if_neg hk]
      by_cases h:g = k
      · have hb:(g == k) = true:=beq_iff_eq.mpr h
        simp only [List.lookup,hb,if_neg (fun e:g = f=>hk (h.symm.trans e))]
      · have hb:(g == k) = false:=beq_eq_false_iff_ne.mpr h
        simp only [List.lookup,hb]
        exact ih
theorem keys_putF (f:Str) (v:V):∀ fs:List (Str × V),f ∈ (putF f v fs).map (·.1)∧∀ g,g ∈ fs.map (·.1)→g ∈ (putF f v fs).map (·.1)
  | []=>⟨by simp [putF],fun g h=>by simp at h⟩
  | (k,x) :: r=>by
    obtain ⟨i1,i2⟩:=keys_putF f v r
    rw [show putF f v ((k,x) :: r) = (if k = f then (k,v) :: r else (k,x) :: putF f v r) from rfl]
    by_cases hk:k = f
    · rw [if_pos hk]
      subst hk
      exact ⟨by simp,fun g h=>by simpa using h⟩
    · rw [if_neg hk]
      refine ⟨?_,fun g h => ?_⟩
      · rw [List.map_cons]
        exact List.mem_cons_of_mem _ i1
      · rw [List.map_cons] at h ⊢
        rcases List.mem_cons.mp h with e | e
        · exact List.mem_cons.mpr (.inl e)
        · exact List.mem_cons_of_mem _ (i2 g e)
theorem length_putF (f:Str) (v:V):∀ fs:List (Str × V),(putF f v fs).length ≤ fs.length + 1
  | []=>by simp [putF]
  | (k,x) :: r=>by
    have ih:=length_putF f v r
    rw [show putF f v ((k,x) :: r) = (if k = f then (k,v) :: r else (k,x) :: putF f v r) from rfl]
    by_cases hk:k = f
    · rw [if_pos hk,List.length_cons,List.length_cons]; omega
    · rw [if_neg hk,List.length_cons,List.length_cons]; omega
theorem RelO.some_of {v:V} {o:Option Value} (r:RelO (some v) o):∃ u,o = some u∧RelV v u:=by
  cases o with
  | none=>exact (show False from r).elim
  | some u=>exact ⟨u,rfl,r⟩
theorem RelO.none_of {o:Option Value} (r:RelO none o):o = none:=by
  cases o with
  | none=>rfl
  | some u=>exact (show False from r).elim
theorem handed_of {v:V} {u:Value} (r:RelV v u):PySem.W.handedIn u = true:=by
  cases v with
  | non=>cases (show u = Value.none from r); rfl
  | bl b=>cases (show u = Value.bool b from r); rfl
  | int i=>obtain ⟨t,e⟩:=(show ∃ t,u = Value.int i t from r); cases e; rfl
  | str x=>obtain ⟨t,e⟩:=(show ∃ t,u = Value.str x t from r); cases e; rfl
  | byt b=>obtain ⟨t,e⟩:=(show ∃ t,u = Value.bytes b t from r); cases e; rfl
  | flt b=>obtain ⟨t,e⟩:=(show ∃ t,u = Value.float b t from r); cases e; rfl
  | ref a=>cases (show u = Value.ref a from r); rfl
  | ty n=>cases (show u = Value.type n from r); rfl
section
variable {P:Program} {w:World} {H H':Hp} {h h':Heap} {a C dx:Addr} {fs fs':List (Str × V)}
theorem ins_get (hok:HOk P w H h) (e:H a = some (.ins C dx fs)):∃ mA,ObjM h a dx C mA∧(∀ f,RelO (fs.lookup f) (mA f))∧PySem.Within mA (fs.map (·.1))∧fs.length ≤ 1000∧H dx = some (.own a):=by
  obtain ⟨d,z,ne,ob,mA,n,r,q⟩:=(show ObjOk P w H h a (.ins C dx fs) from hok a _ e)
  exact ⟨mA,⟨ob,n,ne⟩,r,q,z,d⟩
end
structure Cls (K:PySem.W.Frag) (C:Addr):Prop where
  pg:PySem.W.plainGet K C Str.empty = true
  hd:PySem.W.hasDictIn K C = true
  po:PySem.W.plainOver K C = true
  sa:PySem.W.findIn K (.ref C) "__setattr__" = some (some (.builtin "object.__setattr__"))
theorem Cls.get {K:PySem.W.Frag} {C:Addr} (c:Cls K C) (f:Str):PySem.W.plainGet K C f = true:=c.pg
noncomputable def NoAttr (K:PySem.W.Frag) (C:Addr) (f:Str):Prop:=PySem.W.findIn K (.ref C) f = some none
theorem NoAttr.taker {K:PySem.W.Frag} {C:Addr} {f:Str} (n:NoAttr K C f):PySem.W.takerIn K C f = some none:=by
  unfold PySem.W.takerIn
  rw [show PySem.W.findIn K (.ref C) f = some none from n]
  rfl
structure Meth (K:PySem.W.Frag) (C:Addr) (m:Str) (f:Addr):Prop where
  at_:PySem.W.findIn K (.ref C) m = some (some (.ref f))
  fn:PySem.W.isFn K (.ref f) = true
  kp:PySem.W.keepIn K (.ref f) = true
section
variable {X:Cx} {pins:List (Addr × Obj)} {σ:St} {H:Hp} {s:Shared} {a C dx:Addr} {fs:List (Str × V)} {f:Str} {v:V} {A:Around} {E:Value→Shared→Prop}
theorem getattr_ok {b:Bool} {Q:Value→Shared→Prop} (I:Inv X pins σ H s) (e:H a = some (.ins C dx fs)) (c:Cls X.K C) (n:NoAttr X.K C f) (l:fs.lookup f = some v)
    (h:∀ u s',Inv X pins σ H s'→RelV v u→Q u s'):wpAny (model X.prog X.w) A (getAttr (.ref a) f b) Q E s:=by
  obtain ⟨mA,O,r,_,_,_⟩:=ins_get I.hok e
  obtain ⟨u,hu,ru⟩:=RelO.some_of (v:=v) (o:=mA f) (by rw [← l]; exact r f)
  exact get_map I.kIn O (c.get f) c.hd n hu (handed_of ru) (h u _ (I.tok _) ru)
theorem getmeth_ok {m:Str} {g:Addr} {pl:Sem Bool} {Q:Value × List Value→Shared→Prop} (I:Inv X pins σ H s) (e:H a = some (.ins C dx fs)) (c:Cls X.K C) (k:Meth X.K C m g) (l:fs.lookup m = none)
    (h:Q (.ref g,[.ref a]) s):wpAny (model X.prog X.w) A (getMethod (.ref a) m pl) Q E s:=by
  obtain ⟨mA,O,r,_,_,_⟩:=ins_get I.hok e
  have hn:mA m = none:=RelO.none_of (by rw [← l]; exact r m)
  exact get_meth I.kIn O (c.get m) k.at_ k.fn hn h
theorem setattr_ok {y:V} {u:Value} {Q:Unit→Shared→Prop} (I:Inv X pins σ H s) (e:H a = some (.ins C dx fs)) (c:Cls X.K C) (n:NoAttr X.K C f) (hl:fs.length < 1000) (ry:RelV y u)
    (h:∀ s',Inv X pins σ (upd H a (.ins C dx (putF f y fs))) s'→Q () s'):wpAny (model X.prog X.w) A (setAttr (.ref a) f u) Q E s:=by
  obtain ⟨mA,O,r,wi,_,ho⟩:=ins_get I.hok e
  have hz:(fs.map (·.1)).length ≤ sizeLine:=by rw [List.length_map,sizeLine_eq]; omega
  refine set_map I.kIn O c.sa c.po n.taker c.hd wi hz fun h' O' sb=>h _ ?_
  have hd:∃ o,h'.get? dx = some o:=let ⟨o,_,_,e',_⟩:=O'.ns; ⟨o,e'⟩
  refine I.write (x:=a) (e:=dx) (by rw [e]; exact True.intro) (.inr ho) (fun b q hb z=>(sb.2 b hb).trans z) hd ?_
  refine ⟨by rw [upd_ne O.ne]; exact ho, ?_,O.ne,O'.obj,_,O'.ns,fun g => ?_,fun g hg => ?_⟩
  · have:=length_putF f y fs; omega
  · show RelO ((putF f y fs).lookup g) (if g = f then some u else mA g)
    rw [lookup_putF]
    by_cases q:g = f
    · rw [if_pos q,if_pos q]; exact ry
    · rw [if_neg q,if_neg q]; exact r g
  · by_cases q:g = f
    · rw [q]; exact (keys_putF f y fs).1
    · refine (keys_putF f y fs).2 g (wi g fun z=>hg ?_)
      show (if g = f then some u else mA g) = none
      rw [if_neg q]; exact z
theorem Inv.made (I:Inv X pins σ H s):Inv X pins σ (upd (upd H s.heap.objs.size (.own (s.heap.objs.size + 1))) (s.heap.objs.size + 1) (.ins C s.heap.objs.size []))
    { s with heap:=(s.heap.push PySem.W.emptyDict).push (PySem.W.instObj C s.heap.objs.size) }:=by
  have e1:(s.heap.push PySem.W.emptyDict).get? s.heap.objs.size = some PySem.W.emptyDict:=Heap.get?_push_size s.heap rfl
  have e2:((s.heap.push PySem.W.emptyDict).push (PySem.W.instObj C s.heap.objs.size)).get? (s.heap.objs.size + 1) = some (PySem.W.instObj C s.heap.objs.size):=by
    have:=Heap.get?_push_size (s.heap.push PySem.W.emptyDict) (o:=PySem.W.instObj C s.heap.objs.size) rfl
    rwa [Heap.size_push] at this
  have e3:(s.heap.push PySem.W.emptyDict).Ns s.heap.objs.size (fun _=>none):=⟨PySem.W.emptyDict, #[],_,e1,rfl,(fun e he=>absurd he (by simp)),fun _=>rfl⟩
  have I1:=I.laid (a:=s.heap.objs.size) (o := .own (s.heap.objs.size + 1)) (h':=s.heap.push PySem.W.emptyDict) (t':=s.toks) (fun b u q=>Heap.get?_push_of_some _ q) (Nat.le_refl _) ⟨_,e1⟩
  refine I1.laid (a:=s.heap.objs.size + 1) (o := .ins C s.heap.objs.size []) (t':=s.toks) (fun b u q=>Heap.get?_push_of_some _ q) (Nat.le_of_eq (Heap.size_push _ _)) ?_
  have ne:s.heap.objs.size ≠ s.heap.objs.size + 1:=Nat.ne_of_lt (Nat.lt_succ_self _)
  refine ⟨by rw [upd_ne ne,upd_same],Nat.zero_le _,ne,e2,fun _=>none,(Heap.Ns1.of_empty e3).at fun o q=>Heap.get?_push_of_some _ q,fun _=>True.intro,fun y hy=>absurd rfl hy⟩
theorem attr_of {prog:Program} {w:World} {env:Env} {e:Expr} {f:Str} {pos:Pos} {s:Shared} {Q:Value→Shared→Prop} (hb:attributeBase e f env (eval e env) = eval e env)
    (h:wpAny (model prog w) A (eval e env) (fun o s₁=>wpAny (model prog w) A (getAttr o f true) Q E s₁) E s):wpAny (model prog w) A (eval (.Attribute e f pos) env) Q E s :=
  Attribute_any_ h (by rw [arm_eval_Attribute,hb])
end
noncomputable def tFld (K:PySem.W.Frag) (ta:TE) (f:Str):TE:=fun σ H Q=>ta σ H fun x H1=>∃ a C dx fs v,x = .ref a∧H1 a = some (.ins C dx fs)∧Cls K C∧NoAttr K C f∧fs.lookup f = some v∧Q v H1
noncomputable def sFld (K:PySem.W.Frag) (ta tv:TE) (f:Str):TS:=fun D σ H=>tv σ H fun y H1=>ta σ H1 fun x H2=>∃ a C dx fs,x = .ref a∧H2 a = some (.ins C dx fs)∧Cls K C∧NoAttr K C f∧fs.length < 1000 ∧
  D.nx σ (upd H2 a (.ins C dx (putF f y fs)))
section
variable {X:Cx} {o e value:Expr} {f:Str} {pos pos' tpos:Pos} {ta tv:TE}
theorem pe_fld (he:PE X e ta) (hb:attributeBase e f X.env (eval e X.env) = eval e X.env):PE X (.Attribute e f pos) (tFld X.K ta f) := .mk <| by
  intro pins s σ H Q I h
  refine attr_of hb (thn (he pins s σ H _ I h) fun u s1 ⟨x,H1,I1,rx,a,C,dx,fs,v,ex,ea,c,n,l,q⟩ => ?_)
  subst ex
  obtain rfl:u = Value.ref a:=rx
  exact getattr_ok I1 ea c n l fun u' s2 I2 ru=>⟨v,H1,I2,ru,q⟩
theorem ps_fld (ha:PE X o ta) (hv:PE X value tv) (hs:swapsWith value (some (.Attribute o f pos')) pos.line X.env = pure false):PS X (.Assign [.Attribute o f pos'] value pos) (sFld X.K ta tv f) := .mk <| by
  intro pins s σ H D I h
  refine plainObj_wpAny_Assign_Attribute (thn (hv pins s σ H _ I h) fun u s1 ⟨y,H1,I1,ry,q⟩=>thn (ha pins s1 σ H1 _ I1 q) fun ov s2 ⟨x,H2,I2,rx,a,C,dx,fs,ex,ea,c,n,l,q2⟩ => ?_) hs
  subst ex
  obtain rfl:ov = Value.ref a:=rx
  exact setattr_ok I2 ea c n l ry fun s3 I3=>⟨σ,_,I3,q2⟩
end
section
variable {X:Cx} {pins:List (Addr × Obj)} {σ:St} {H:Hp} {s:Shared} {A:Around} {E:Value→Shared→Prop} {Q:Value→Shared→Prop} {c:Value} {b:Bool}
end
end L2
namespace L2
open PySem PySem.Spec PyProof.Rows
structure Room (k:Nat) (A:Around):Prop where
  hd:A.handled = none
  dp:A.depth + 3 * k + 5 < recursionLimit
  un:A.units + 16 * k + 200 < cLine
theorem Room.mono {j k:Nat} {A:Around} (r:Room k A) (h:j ≤ k):Room j A:=⟨r.hd,by have:=r.dp; omega,by have:=r.un; omega⟩
theorem Room.deeper {k:Nat} {A:Around} (r:Room (k + 1) A) (env:Env):Room k (A.deeper env) :=
  ⟨r.hd,by have:=r.dp; show A.depth + 1 + 3 * k + 5 < _; omega,by have:=r.un; show A.units + 3 + 16 * k + 200 < _; omega⟩
theorem make_depth {A:Around} {C:Addr} {us:List Value} {kw:List (Str × Value)}:(A.under (.builtin "type.__call__" ⟨.ref C :: us,kw⟩)).depth = A.depth + 1:=by
  first | rfl | simp [Around.under,Code.weight,Code.isCreation,Code.isGuard,Code.isCaller,Code.frames,Code.isFrame,guardIds]
theorem make_units {A:Around} {C:Addr} {us:List Value} {kw:List (Str × Value)}:(A.under (.builtin "type.__call__" ⟨.ref C :: us,kw⟩)).units = A.units + 1:=by
  first | rfl | simp [Around.under,Code.cUnits,Code.frames,Code.isFrame]
theorem Room.make {k:Nat} {A:Around} (r:Room (k + 1) A) (C:Addr) (us:List Value) (kw:List (Str × Value)):Room k (A.under (.builtin "type.__call__" ⟨.ref C :: us,kw⟩)) :=
  ⟨r.hd,by have:=r.dp; rw [make_depth]; omega,by have:=r.un; rw [make_units]; omega⟩
theorem Room.depth {k:Nat} {A:Around} (r:Room k A):A.depth < recursionLimit:=by have:=r.dp; omega
theorem Room.units {k:Nat} {A:Around} (r:Room k A):A.units + 64 < cLine:=by have:=r.un; omega
noncomputable def tNil:TA:=fun _ H Q=>Q [] H
noncomputable def tCons (ta:TE) (tr:TA):TA:=fun σ H Q=>ta σ H fun x H1=>tr σ H1 fun xs H2=>Q (x :: xs) H2
section
variable {X:Cx} {e:Expr} {es:List Expr} {te:TE} {t:TA} {pos:Pos}
theorem pa_nil:PA X [] tNil := .mk <| fun _ _ _ _ H Q I h=>Calls.spliced_nil ⟨[],H,I,.nil,h⟩
theorem pa_cons (ha:PE X e te) (hr:PA X es t) (hs:starEach (e :: es) X.env = (false,eval e X.env) :: starEach es X.env:=by rfl):PA X (e :: es) (tCons te t) := .mk <| by
  intro pos pins s σ H Q I h
  rw [hs]
  show wpAny _ _ (spliced ((false,eval e X.env) :: backTo pos (starEach es X.env))) _ _ s
  refine Calls.spliced_cons (thn (ha pins s σ H _ I h) fun u s1 ⟨x,H1,I1,r1,q1⟩ => ?_)
  exact thn (hr pos pins s1 σ H1 _ I1 q1) fun us s2 ⟨xs,H2,I2,r2,q2⟩=>⟨x :: xs,H2,I2,.cons r1 r2,q2⟩
noncomputable def tTup (t:TA):TE:=fun σ H Q=>t σ H fun xs H1=>xs.length ≤ sizeLine∧∀ p,H1 p = none→Q (.ref p) (upd H1 p (.tup xs))
noncomputable def tLst (t:TA):TE:=fun σ H Q=>t σ H fun xs H1=>xs.length ≤ sizeLine∧∀ p,H1 p = none→Q (.ref p) (upd H1 p (.lst xs))
theorem pe_tup {x1} (h:PA X es t):PE X (.Tuple es x1 pos) (tTup t) := .mk <| by
  intro pins s σ H Q I hq
  refine wpAny_Tuple_spliced (thn (h pos pins s σ H _ I hq) fun us s1 ⟨xs,H1,I1,r,z,q⟩=>⟨by rw [← r.length]; exact z, ?_⟩)
  have hf:H1 s1.heap.objs.size = none:=I1.hok.fresh (Nat.le_refl _)
  refine ⟨.ref s1.heap.objs.size,upd H1 s1.heap.objs.size (.tup xs),I1.laid (t':=s1.toks) (fun b u e=>Heap.get?_push_of_some _ e) (Nat.le_refl _) ?_,rfl,q _ hf⟩
  exact ⟨z,us,r,⟨_,Heap.get?_push_size _ rfl,rfl,_,rfl⟩⟩
theorem pe_lst (h:PA X es t):PE X (.List es pos) (tLst t) := .mk <| by
  intro pins s σ H Q I hq
  refine wpAny_List_spliced (thn (h pos pins s σ H _ I hq) fun us s1 ⟨xs,H1,I1,r,z,q⟩=>⟨by rw [← r.length]; exact z, ?_⟩)
  have hf:H1 s1.heap.objs.size = none:=I1.hok.fresh (Nat.le_refl _)
  refine ⟨.ref s1.heap.objs.size,upd H1 s1.heap.objs.size (.lst xs),I1.laid (t':=s1.toks) (fun b u e=>Heap.get?_push_of_some _ e) (Nat.le_refl _) ?_,rfl,q _ hf⟩
  exact ⟨z,us,0,r,Heap.get?_push_size _ rfl⟩
end
noncomputable abbrev Sp:=List V→Hp→VK→XK→Prop
noncomputable abbrev CXT:=List Env→Hp→Shared→XK→Value→Shared→Prop
structure Env0 (P:Program) (w:World) (K:PySem.W.Frag) (mg:Str→Option Value) (base:Heap) (A:Around) (outer:List Env) (s:Shared) (H:Hp):Prop where
  frames:A.frames = some outer
  mod:Mod K mg base
  bs:∀ b o,base.get? b = some o→s.heap.get? b = some o∧H b = none
  bsz:base.objs.size ≤ s.heap.objs.size
  funs:s.heap.FunFrames base outer
  frf:∀ b ∈ frs outer,H b = none
  hok:HOk P w H s.heap
  bare:AllBare s.gens
noncomputable def CE (outer:List Env) (P:Program) (w:World) (H:Hp) (s:Shared) (Q:VK) (u:Value) (s':Shared):Prop :=
  ∃ v H',s'.os = s.os∧AllBare s'.gens∧Un (frs outer) [] H H' s.heap s'.heap∧HOk P w H' s'.heap∧RelV v u∧Q v H'
noncomputable def CR (CX:CXT) (outer:List Env) (P:Program) (w:World) (H:Hp) (s:Shared) (Q:VK) (E:XK) (r:Result) (s':Shared):Prop :=
  match r with
  | .ok (.ret u)=>CE outer P w H s Q u s'
  | .ok _=>False
  | .error e=>CX outer H s E e s'
structure FnOk (P:Program) (w:World) (K:PySem.W.Frag) (mg:Str→Option Value) (base:Heap) (CX:CXT) (k:Nat) (f:Addr) (fd:FuncData) (ps:List Str) (sp:Sp):Prop where
  len:∀ vs H Q E,sp vs H Q E→vs.length = ps.length
  run:∀ (A:Around) (outer:List Env) (s:Shared) (H:Hp) (args:Args) (us:List Value) (vs:List V) (Q:VK) (E:XK),Room k A→Env0 P w K mg base A outer s H→BindsTo s fd args (ps.zip us)→Vals vs us→sp vs H Q E →
    codeAny (model P w) A (.call (.ref f) args) (CR CX outer P w H s Q E) s
theorem FnOk.imp {P:Program} {w:World} {K:PySem.W.Frag} {mg:Str→Option Value} {base:Heap} {CX:CXT} {k:Nat} {f:Addr} {fd:FuncData} {ps:List Str} {sp sp':Sp} (F:FnOk P w K mg base CX k f fd ps sp)
    (h:∀ vs H Q E,sp' vs H Q E→sp vs H Q E):FnOk P w K mg base CX k f fd ps sp' :=
  ⟨fun vs H Q E q=>F.len vs H Q E (h _ _ _ _ q),fun A outer s H args us vs Q E hr he hb hv hs=>F.run A outer s H args us vs Q E hr he hb hv (h _ _ _ _ hs)⟩
theorem Env0.make {P:Program} {w:World} {K:PySem.W.Frag} {mg:Str→Option Value} {base:Heap} {A:Around} {outer:List Env} {s:Shared} {H:Hp} (e:Env0 P w K mg base A outer s H) (C:Addr) (us:List Value) (kw:List (Str × Value)) :
    Env0 P w K mg base (A.under (.builtin "type.__call__" ⟨.ref C :: us,kw⟩)) outer s H:=⟨by first | exact e.frames | (simpa [Around.under,Code.envs,Code.isFrame,pushEnvs] using e.frames),e.mod,e.bs,e.bsz,e.funs,e.frf,e.hok,e.bare⟩
section
variable {X:Cx} {pins:List (Addr × Obj)} {σ:St} {H:Hp} {s s':Shared}
theorem Inv.env0 (I:Inv X pins σ H s):Env0 X.prog X.w X.K X.mg X.base X.A X.stack s H :=
  ⟨I.ok.frames,I.ok.mod,I.bs,Nat.le_trans I.ok.bsz I.sz,I.stack,I.stkFree,I.hok,I.bare⟩
theorem Inv.after {Q:VK} {u:Value} (I:Inv X pins σ H s) (h:CE X.stack X.prog X.w H s Q u s'):EP X pins σ Q u s':=by
  obtain ⟨v,H',os,bare,un,hok,r,q⟩:=h
  obtain ⟨hh,g,d,t,os'⟩:=s'
  obtain rfl:os' = s.os:=os
  exact ⟨v,H',I.call (h':=hh) (g':=g) (d':=d) (t':=t) (ch:=[]) un hok bare (fun b z=>absurd z (by simp)),r,q⟩
end
noncomputable def tCall (sp:Sp) (dvs:List V) (E:XK) (t:TA):TE:=fun σ H Q=>t σ H fun vs H1=>sp (vs ++ dvs) H1 Q E
noncomputable def tMeth (C:Addr) (m:Str) (sp:Sp) (dvs:List V) (E:XK) (ta:TE) (t:TA):TE:=fun σ H Q=>ta σ H fun x H1=>∃ a dx fs,x = .ref a∧H1 a = some (.ins C dx fs)∧fs.lookup m = none ∧
  t σ H1 fun vs H2=>sp (x :: (vs ++ dvs)) H2 Q E
noncomputable def tMake (C:Addr) (sp:Sp) (dvs:List V) (E:XK) (t:TA):TE:=fun σ H Q=>t σ H fun vs H1=>∀ x dx,H1 x = none→H1 dx = none→dx ≠ x →
  sp (.ref x :: (vs ++ dvs)) (upd (upd H1 dx (.own x)) x (.ins C dx [])) (fun v H2=>v = .non∧Q (.ref x) H2) E
noncomputable def Binds (K:PySem.W.Frag) (fd:FuncData) (ps:List Str) (ds:List Value):Prop :=
  ∀ (s:Shared) (us:List Value),K.In s.heap→(us ++ ds).length = ps.length→BindsTo s fd ⟨us,[]⟩ (ps.zip (us ++ ds))
theorem Binds.all {K:PySem.W.Frag} {fd:FuncData} {ps:List Str} (h:∀ us:List Value,us.length = ps.length→bindArgs fd ⟨us,[]⟩ = pure (ps.zip us)):Binds K fd ps []:=fun s us _ hl=>by
  rw [List.append_nil] at hl ⊢
  exact .of_eq (h us hl)
noncomputable def Passes (CX:CXT) (X:Cx) (E:XK):Prop:=∀ (pins:List (Addr × Obj)) (σ:St) (H:Hp) (s:Shared) (e:Value) (s':Shared),Inv X pins σ H s→CX X.stack H s E e s'→X.xe e s'
section
variable {X:Cx} {CX:CXT} {k:Nat} {f C:Addr} {fd:FuncData} {ps:List Str} {sp:Sp} {dvs:List V} {ds:List Value} {E:XK} {x m:Str} {p pos apos:Pos} {e o:Expr} {es:List Expr} {ta:TE} {t:TA}
theorem run_fn {pins:List (Addr × Obj)} {σ:St} {H:Hp} {s:Shared} {Q:VK} {us:List Value} {vs:List V} (F:FnOk X.prog X.w X.K X.mg X.base CX k f fd ps sp) (hr:Room k X.A) (hb:Binds X.K fd ps ds) (hd:Vals dvs ds) (hx:Passes CX X E)
    (I:Inv X pins σ H s) (r:Vals vs us) (h:sp (vs ++ dvs) H Q E):wpAny (model X.prog X.w) X.A (call (.ref f) us) (EP X pins σ Q) X.xe s:=by
  have r2:Vals (vs ++ dvs) (us ++ ds):=r.append hd
  have hl:(us ++ ds).length = ps.length:=by rw [← r2.length]; exact F.len _ _ _ _ h
  refine wpAny_call (codeAny_mono (F.run X.A X.stack s H ⟨us,[]⟩ (us ++ ds) (vs ++ dvs) Q E hr I.env0 (hb s us I.kIn hl) r2 h) fun r s' hq => ?_)
  cases r with
  | error e=>exact hx pins σ H s e s' I hq
  | ok fl =>
    cases fl with
    | ret u=>exact I.after hq
    | next=>exact False.elim hq
    | brk=>exact False.elim hq
    | cont=>exact False.elim hq
theorem pe_call (F:FnOk X.prog X.w X.K X.mg X.base CX k f fd ps sp) (hr:Room k X.A) (hg:Gl X x) (hm:X.mg x = some (.ref f)) (hk:PySem.W.keepIn X.K (.ref f) = true) (hb:Binds X.K fd ps ds) (hd:Vals dvs ds) (hx:Passes CX X E)
    (ha:PA X (e :: es) t) (hdb:(x == ("__debug__" : Str)) = false:=by decide) (he:starEach (e :: es) X.env = (false,eval e X.env) :: starEach es X.env:=by rfl) (hpl:(backTo pos (starEach es X.env)).any (·.1) = false:=by rfl) :
    PE X (.Call (.Name x p) (e :: es) [] pos) (tCall sp dvs E t) := .mk <| by
  intro pins s σ H Q I h
  refine wpAny_Call_Name_kw (ld_glob I hg hm ?_ hdb)
  refine PySem.W.callWith_K (h₀:=X.base) I.ok.mod.kin hk (thn (ha pos pins s σ H _ I h) fun us s1 ⟨vs,H1,I1,r,q⟩=>⟨I1.kIn, ?_⟩) he hpl
  exact run_fn F hr hb hd hx I1 r q
theorem pe_call0 (F:FnOk X.prog X.w X.K X.mg X.base CX k f fd ps sp) (hr:Room k X.A) (hg:Gl X x) (hm:X.mg x = some (.ref f)) (hk:PySem.W.keepIn X.K (.ref f) = true) (hb:Binds X.K fd ps ds) (hd:Vals dvs ds) (hx:Passes CX X E)
    (hdb:(x == ("__debug__" : Str)) = false:=by decide):PE X (.Call (.Name x p) [] [] pos) (tCall sp dvs E tNil) := .mk <| by
  intro pins s σ H Q I h
  refine wpAny_Call_Name_kw (ld_glob I hg hm ?_ hdb)
  exact PySem.W.callWith_K0 I.kIn hk (run_fn (us:=[]) F hr hb hd hx I .nil h)
theorem pe_meth {pl:Sem Bool} (he:PE X o ta) (c:Cls X.K C) (hm:Meth X.K C m f) (F:FnOk X.prog X.w X.K X.mg X.base CX k f fd ps sp) (hr:Room k X.A) (hb:Binds X.K fd ps ds) (hd:Vals dvs ds) (hx:Passes CX X E) (ha:PA X (e :: es) t)
    (hst:starEach (e :: es) X.env = (false,eval e X.env) :: starEach es X.env:=by rfl) (hpl:(backTo pos (starEach es X.env)).any (·.1) = false:=by rfl)
    (ht:eval (.Call (.Attribute o m apos) (e :: es) [] pos) X.env = (do
      let ov ← eval o X.env
      standAt apos.atName
      let (f,first) ← holding [ov] (getMethod ov m pl)
      callWith pos f first (backTo pos (starEach (e :: es) X.env)) (backToKw pos (keywordEach [] X.env))):=by rfl) :
    PE X (.Call (.Attribute o m apos) (e :: es) [] pos) (tMeth C m sp dvs E ta t) := .mk <| by
  intro pins s σ H Q I h
  refine PySem.W.methodCall_KW (pl:=pl) (thn (he pins s σ H _ I h) fun u s1 ⟨x,H1,I1,rx,a,dx,fs,ex,ea,l,q⟩ => ?_) ht
  subst ex
  obtain rfl:u = Value.ref a:=rx
  refine getmeth_ok I1 ea c hm l ?_
  refine PySem.W.callWith_K (first:=[.ref a]) (h₀:=X.base) I.ok.mod.kin hm.kp (thn (ha pos pins s1 σ H1 _ I1 q) fun us s2 ⟨vs,H2,I2,r,q2⟩=>⟨I2.kIn, ?_⟩) hst hpl
  exact run_fn (us := .ref a :: us) (vs := .ref a :: vs) F hr hb hd hx I2 (.cons rfl r) q2
theorem pe_meth0 {pl:Sem Bool} (he:PE X o ta) (c:Cls X.K C) (hm:Meth X.K C m f) (F:FnOk X.prog X.w X.K X.mg X.base CX k f fd ps sp) (hr:Room k X.A) (hb:Binds X.K fd ps ds) (hd:Vals dvs ds) (hx:Passes CX X E)
    (ht:eval (.Call (.Attribute o m apos) [] [] pos) X.env = (do
      let ov ← eval o X.env
      standAt apos.atName
      let (f,first) ← holding [ov] (getMethod ov m pl)
      callWith pos f first (backTo pos (starEach [] X.env)) (backToKw pos (keywordEach [] X.env))):=by rfl) :
    PE X (.Call (.Attribute o m apos) [] [] pos) (tMeth C m sp dvs E ta tNil) := .mk <| by
  intro pins s σ H Q I h
  refine PySem.W.methodCall_KW (pl:=pl) (thn (he pins s σ H _ I h) fun u s1 ⟨x,H1,I1,rx,a,dx,fs,ex,ea,l,q⟩ => ?_) ht
  subst ex
  obtain rfl:u = Value.ref a:=rx
  refine getmeth_ok I1 ea c hm l ?_
  exact PySem.W.callWith_K0 (first:=[.ref a]) I1.kIn hm.kp (run_fn (us:=[.ref a]) (vs:=[.ref a]) F hr hb hd hx I1 (.cons rfl .nil) q)
structure Mk (K:PySem.W.Frag) (C f:Addr):Prop where
  makes:PySem.W.makesIn K C = true
  init:PySem.W.findIn K (.ref C) "__init__" = some (some (.ref f))
  fn:PySem.W.isFn K (.ref f) = true
  kp:PySem.W.keepIn K (.ref C) = true
theorem run_make {pins:List (Addr × Obj)} {σ:St} {H:Hp} {s:Shared} {Q:VK} {us:List Value} {vs:List V} (M:Mk X.K C f) (F:FnOk X.prog X.w X.K X.mg X.base CX k f fd ps sp) (hr:Room (k + 1) X.A) (hb:Binds X.K fd ps ds) (hd:Vals dvs ds)
    (hx:Passes CX X E) (I:Inv X pins σ H s) (r:Vals vs us)
    (h:∀ x dx,H x = none→H dx = none→dx ≠ x→sp (.ref x :: (vs ++ dvs)) (upd (upd H dx (.own x)) x (.ins C dx [])) (fun v H2=>v = .non∧Q (.ref x) H2) E) :
    wpAny (model X.prog X.w) X.A (call (.ref C) us) (EP X pins σ Q) X.xe s:=by
  have hq:=h (s.heap.objs.size + 1) s.heap.objs.size (I.hok.fresh (Nat.le_succ _)) (I.hok.fresh (Nat.le_refl _)) (Nat.ne_of_lt (Nat.lt_succ_self _))
  have I2:=Inv.made (C:=C) I
  have r2:Vals (V.ref (s.heap.objs.size + 1) :: (vs ++ dvs)) (Value.ref (s.heap.objs.size + 1) :: (us ++ ds)) := .cons rfl (r.append hd)
  have hl:(Value.ref (s.heap.objs.size + 1) :: us ++ ds).length = ps.length:=by
    have e:=r2.length
    rw [F.len _ _ _ _ hq] at e
    exact e.symm
  refine wpAny_call (make_map (f:=f) I.kIn M.makes M.init (beq_iff_eq.mp M.fn) (codeAny_mono (F.run _ X.stack _ _ ⟨Value.ref (s.heap.objs.size + 1) :: us,[]⟩ (Value.ref (s.heap.objs.size + 1) :: (us ++ ds)) _ _ E (hr.make C us [])
    (I2.env0.make C us []) (hb _ (Value.ref (s.heap.objs.size + 1) :: us) I2.kIn hl) r2 hq) fun r s' hq' => ?_))
  cases r with
  | error e=>exact hx pins σ _ _ e s' I2 hq'
  | ok fl =>
    cases fl with
    | ret u =>
      obtain ⟨v,H',I3,rv,ev,q3⟩:=I2.after hq'
      subst ev
      exact ⟨rv,⟨V.ref (s.heap.objs.size + 1),H',I3,rfl,q3⟩⟩
    | next=>exact False.elim hq'
    | brk=>exact False.elim hq'
    | cont=>exact False.elim hq'
theorem pe_make (M:Mk X.K C f) (F:FnOk X.prog X.w X.K X.mg X.base CX k f fd ps sp) (hr:Room (k + 1) X.A) (hg:Gl X x) (hm:X.mg x = some (.ref C)) (hb:Binds X.K fd ps ds) (hd:Vals dvs ds) (hx:Passes CX X E)
    (ha:PA X (e :: es) t) (hdb:(x == ("__debug__" : Str)) = false:=by decide) (he:starEach (e :: es) X.env = (false,eval e X.env) :: starEach es X.env:=by rfl) (hpl:(backTo pos (starEach es X.env)).any (·.1) = false:=by rfl) :
    PE X (.Call (.Name x p) (e :: es) [] pos) (tMake C sp dvs E t) := .mk <| by
  intro pins s σ H Q I h
  refine wpAny_Call_Name_kw (ld_glob I hg hm ?_ hdb)
  refine PySem.W.callWith_K (h₀:=X.base) I.ok.mod.kin M.kp (thn (ha pos pins s σ H _ I h) fun us s1 ⟨vs,H1,I1,r,q⟩=>⟨I1.kIn, ?_⟩) he hpl
  exact run_make M F hr hb hd hx I1 r q
end
section
variable {X:Cx} {CX:CXT} {k:Nat} {f C:Addr} {fd:FuncData} {ps ks:List Str} {sp:Sp} {E:XK} {x m:Str} {p pos apos kpos:Pos} {e o:Expr} {es:List Expr} {kws:List Keyword} {te ta:TE} {t tk:TA} {nm:Option Str}
variable {g:List Value→List Value→List Value} {gV:List V→List V→List V}
end
structure FnScope (N P:List Str) (sc:Scope):Prop where
  kind:sc.kind = .function
  co:sc.isCoroutine = false
  gen:sc.isGenerator = false
  nd:N.Nodup
  pre:N.take P.length = P
  par:∀ x ∈ P,sc.names.lookup x = some .local ∨ sc.names.lookup x = some .cell
  nofree:∀ y ∈ sc.names,y.2 ≠ .free
theorem bindL_out {kindOf:Str→Option NameKind} {x:Str}:∀ {binds:List (Str × Value)} {m:Str→Option Value},(∀ v,(x,v) ∉ binds)→bindL kindOf binds m x = m x
  | [],_,_=>rfl
  | (n,v) :: r,m,h=>by
    unfold bindL
    rw [bindL_out fun w hw=>h w (List.mem_cons_of_mem _ hw)]
    split
    · have:x ≠ n:=by rintro rfl; exact h v List.mem_cons_self
      simp [this]
    · rfl
theorem bindC_out {kindOf:Str→Option NameKind} {x:Str}:∀ {binds:List (Str × Value)} {m:Str→Option Value},(∀ v,(x,v) ∉ binds)→bindC kindOf binds m x = m x
  | [],_,_=>rfl
  | (n,v) :: r,m,h=>by
    unfold bindC
    rw [bindC_out fun w hw=>h w (List.mem_cons_of_mem _ hw)]
    split
    · rfl
    · have:x ≠ n:=by rintro rfl; exact h v List.mem_cons_self
      simp [this]
theorem bindL_get {kindOf:Str→Option NameKind} {x:Str} {v:Value}:∀ {P:List Str} {vs:List Value} {i:Nat} {m:Str→Option Value},P.Nodup→P[i]? = some x→vs[i]? = some v→kindOf x = some .local →
    bindL kindOf (P.zip vs) m x = some v
  | [],_,_,_,_,h,_,_=>by simp at h
  | _ :: _,[],_,_,_,_,h,_=>by simp at h
  | p :: P,w :: vs,0,m,nd,h1,h2,hk=>by
    simp at h1 h2; subst h1; subst h2
    show bindL kindOf ((p,w) :: P.zip vs) m p = _
    unfold bindL
    rw [bindL_out fun v hv=>(List.nodup_cons.mp nd).1 (List.of_mem_zip hv).1,if_pos hk]
    simp
  | p :: P,w :: vs,i + 1,m,nd,h1,h2,hk=>by
    show bindL kindOf ((p,w) :: P.zip vs) m x = _
    unfold bindL
    exact bindL_get (i:=i) (List.nodup_cons.mp nd).2 (by simpa using h1) (by simpa using h2) hk
theorem bindC_get {kindOf:Str→Option NameKind} {x:Str} {v:Value}:∀ {P:List Str} {vs:List Value} {i:Nat} {m:Str→Option Value},P.Nodup→P[i]? = some x→vs[i]? = some v→kindOf x ≠ some .local →
    bindC kindOf (P.zip vs) m x = some v
  | [],_,_,_,_,h,_,_=>by simp at h
  | _ :: _,[],_,_,_,_,h,_=>by simp at h
  | p :: P,w :: vs,0,m,nd,h1,h2,hk=>by
    simp at h1 h2; subst h1; subst h2
    show bindC kindOf ((p,w) :: P.zip vs) m p = _
    unfold bindC
    rw [bindC_out fun v hv=>(List.nodup_cons.mp nd).1 (List.of_mem_zip hv).1,if_neg hk]
    simp
  | p :: P,w :: vs,i + 1,m,nd,h1,h2,hk=>by
    show bindC kindOf ((p,w) :: P.zip vs) m x = _
    unfold bindC
    exact bindC_get (i:=i) (List.nodup_cons.mp nd).2 (by simpa using h1) (by simpa using h2) hk
noncomputable def start (N:List Str) (vs:List V):St:=vs.map some ++ List.replicate (N.length - vs.length) none
noncomputable def cxOf (CX:CXT) (P:Program) (w:World) (K:PySem.W.Frag) (mg:Str→Option Value) (base:Heap) (N:List Str) (qual:Str) (scope:Scope) (f:Addr) (cd:Value) (A:Around) (outer:List Env) (s:Shared) (H:Hp) (E:XK):Cx where
  prog:=P
  w:=w
  K:=K
  mg:=mg
  base:=base
  A:=A.deeper (envOfC qual scope s.heap.objs.size f cd)
  N:=N
  s₀:=s
  H₀:=H
  env:=envOfC qual scope s.heap.objs.size f cd
  outer:=outer
  stack:=envOfC qual scope s.heap.objs.size f cd :: outer
  ex:=[]
  calm:=true
  fn:=fun _=>true
  pn:=[]
  xe:=fun e s'=>wpAny (model P w) (A.deeper (envOfC qual scope s.heap.objs.size f cd)) (leaving (envOfC qual scope s.heap.objs.size f cd) e) (fun _ s''=>CX outer H s E e s'') (fun e' s''=>CX outer H s E e' s'') s'
theorem cell_has {sc:Scope} {n:Nat} {x:Str} (h:sc.names.lookup x = some .cell):∃ c,(cellsFrom n sc.names []).lookup x = some c:=by
  have q:=PySem.W.cellsFrom_some sc.names n [] (.inl h)
  exact Option.isSome_iff_exists.mp q
theorem inv_start {CX:CXT} {P:Program} {w:World} {K:PySem.W.Frag} {mg:Str→Option Value} {base:Heap} {N ps:List Str} {qual:Str} {scope:Scope} {f:Addr} {cd:Value} {A:Around} {outer:List Env} {s s1:Shared} {H:Hp} {E:XK} {us:List Value} {vs:List V}
    (S:FnScope N ps scope) (hd:A.handled = none) (e0:Env0 P w K mg base A outer s H) (hl:vs.length = ps.length) (r:Vals vs us)
    (x:InCallC s s.heap.objs.size (bindL (envOfC qual scope s.heap.objs.size f cd).kindOf (ps.zip us) fun _=>none) (cellsFrom (s.heap.objs.size + 1) scope.names []) (bindC (envOfC qual scope s.heap.objs.size f cd).kindOf (ps.zip us) fun _=>none) s1) :
    Inv (cxOf CX P w K mg base N qual scope f cd A outer s H E) [] (start N vs) H s1:=by
  have hpl:ps.length ≤ N.length:=by have:=congrArg List.length S.pre; rw [List.length_take] at this; omega
  obtain ⟨h1,tk,rfl,hk⟩:=x.done
  have noA:∀ b:Addr,b ∉ (cxOf CX P w K mg base N qual scope f cd A outer s H E).ex:=fun b z=>absurd (show b ∈ ([]:List Addr) from z) (by simp)
  refine ⟨⟨e0.mod,S.kind,rfl,rfl,Nat.le_refl _,fun y z c h1 h2 => ?_,fun y hy => ?_,fun y c _ h => ?_,fun _=>hd,Around.frames_deeper e0.frames,.inr ⟨rfl,rfl⟩,fun b z=>absurd z (noA b),e0.bs,e0.bsz,fun b _ _=>noA b,fun b z=>absurd z (noA b),e0.funs,e0.frf⟩,
    rfl,e0.bare,Un.kept hk,⟨_,x.toInCall.ns,fun i y v h1 h2 h3 => ?_⟩,fun y c h=>⟨_,x.cell y c h⟩,e0.hok.fresh (Nat.le_refl _),fun y c h => ?_,fun p hp=>absurd (show p ∈ ([]:List (Addr × Obj)) from hp) (by simp),e0.hok.kept hk, ?_⟩
  · exact name_of_addr x.apart (PySem.mem_of_lookup h1) (PySem.mem_of_lookup h2)
  · have hy:scope.names.lookup y = some .cell ∨ scope.names.lookup y = some .free:=hy
    rcases hy with hy | hy
    · exact cell_has hy
    · exact absurd rfl (S.nofree _ (PySem.mem_of_lookup hy))
  · exact Nat.le_of_lt (x.above y c (PySem.mem_of_lookup h))
  · have hi:i < vs.length:=by
      unfold start at h2
      by_cases hi:i < vs.length
      · exact hi
      · rw [List.getElem?_append_right (by simpa using hi)] at h2
        rw [List.getElem?_replicate] at h2
        split at h2 <;> cases h2
    have ha:vs[i]? = some v:=by
      unfold start at h2
      rw [List.getElem?_append_left (by simpa using hi),List.getElem?_map] at h2
      cases e:vs[i]? with
      | none=>rw [e] at h2; cases h2
      | some a=>rw [e] at h2; cases h2; rfl
    obtain ⟨u,hu,rv⟩:=r.get ha
    have hp:ps[i]? = some y:=by
      rw [← S.pre,List.getElem?_take_of_lt (by omega)]; exact h1
    have ndP:ps.Nodup:=by rw [← S.pre]; exact S.nd.sublist (List.take_sublist _ _)
    refine ⟨u,rv, ?_⟩
    rcases S.par y (List.mem_of_getElem? hp) with k | k
    · exact .inl ⟨k,bindL_get ndP hp hu k⟩
    · obtain ⟨c,e⟩:=cell_has (n:=s.heap.objs.size + 1) k
      refine .inr ⟨.inl k,c,e, ?_⟩
      have q:=x.cell y c e
      rw [bindC_get ndP hp hu (by show scope.names.lookup y ≠ _; rw [k]; decide)] at q
      exact q
  · exact e0.hok.fresh (Nat.le_of_lt (x.above y c (PySem.mem_of_lookup h)))
  · unfold start
    show _ = N.length
    rw [List.length_append,List.length_map,List.length_replicate]
    omega
theorem fn_of {CX:CXT} {P:Program} {w:World} {K:PySem.W.Frag} {mg:Str→Option Value} {base:Heap} {k:Nat} {f:Addr} {name qual:Str} {params:Arguments} {body:List Stmt} {scope:Scope} {dV kV doc pm cdv ct oc:Value} {an od:Option Addr}
    {osl:Array (Option Value)} {N ps:List Str} {sp:Sp} (lk:K.lookup f = some ⟨oc,od,.func (PySem.W.fnOf name qual params body scope dV kV doc pm an cdv ct),osl⟩) (hcd:PySem.W.codeIn K cdv qual = true) (S:FnScope N ps scope)
    (len:∀ vs H Q E,sp vs H Q E→vs.length = ps.length)
    (hbody:∀ (A:Around) (outer:List Env) (s:Shared) (H:Hp) (vs:List V) (Q:VK) (E:XK),Room k (A.deeper (envOfC qual scope s.heap.objs.size f cdv))→sp vs H Q E →
      ∃ t,PSs (cxOf CX P w K mg base N qual scope f cdv A outer s H E) body t∧t { nx:=fun _ H'=>Q .non H',rt:=Q } (start N vs) H) :
    FnOk P w K mg base CX (k + 1) f (PySem.W.fnOf name qual params body scope dV kV doc pm an cdv ct) ps sp:=by
  refine ⟨len,fun A outer s H args us vs Q E hr e0 hb r hsp => ?_⟩
  have hl:=len _ _ _ _ hsp
  have KX:K.In s.heap:=e0.mod.kin.keeps fun b o e=>(e0.bs b o e).1
  have lim:s.heap.NoLimit:=e0.mod.nolimit.keeps fun b o e=>(e0.bs b o e).1
  have hkind:∀ y ∈ ps.zip us,scope.names.lookup y.1 = some .local ∨ (scope.names.lookup y.1 = some .cell∧((cellsFrom (s.heap.objs.size + 1) scope.names []).lookup y.1).isSome = true):=fun ⟨n,v⟩ hy=>by
    rcases S.par n (List.of_mem_zip hy).1 with q | q
    · exact .inl q
    · exact .inr ⟨q,PySem.W.cellsFrom_some _ _ _ (.inl q)⟩
  refine codeAny_call_function hr.depth (KX _ _ lk) rfl S.co S.gen rfl (PySem.W.codeRec_of KX hcd) (hb _ _ _ _ ?_)
  refine wpAny_newFunctionEnv_cells S.kind hkind fun env he s1 x => ?_
  subst he
  refine ⟨lim.keeps x.toInCall.keep,codeAny_func ?_⟩
  obtain ⟨t,ht,hq⟩:=hbody A outer s H vs Q E (hr.deeper _) hsp
  have I:Inv (cxOf CX P w K mg base N qual scope f cdv A outer s H E) [] (start N vs) H s1:=inv_start S hr.hd e0 hl r x
  refine wpAny_mono (ht [] s1 (start N vs) H _ I hq) (fun fl s' hs => ?_) fun e s' hs=>hs
  have fin:∀ {σ':St} {H':Hp} {v:V} {u:Value},Inv (cxOf CX P w K mg base N qual scope f cdv A outer s H E) [] σ' H' s'→RelV v u→Q v H'→CE outer P w H s Q u s' :=
    fun {σ' H' v u} J rv q=>⟨v,H',J.os,J.bare,J.base,J.hok,rv,q⟩
  cases fl with
  | ret u =>
    obtain ⟨v,σ',H',J,rv,q⟩:=hs
    exact fin J rv q
  | next =>
    obtain ⟨σ',H',J,q⟩:=hs
    exact fin (v:=V.non) (u:=Value.none) J rfl q
  | brk =>
    obtain ⟨_,_,_,q⟩:=hs
    exact False.elim q
  | cont =>
    obtain ⟨_,_,_,q⟩:=hs
    exact False.elim q
end L2
namespace L2
open PySem PySem.Spec PyProof.Rows
section
variable {X:Cx} {x:Str} {p pos:Pos} {e:Expr} {es:List Expr} {t:TA} {id T:String} {r:List V→Hp→VK→Prop}
noncomputable def tCB (r:List V→Hp→VK→Prop) (t:TA):TE:=fun σ H Q=>t σ H fun vs H1=>r vs H1 Q
theorem pe_callB (hc:CallR X (.builtin id) r) (hg:Gl X x) (hm:X.mg x = none) (hv:bootBuiltins x = some (.builtin id)) (ha:PA X (e :: es) t) (hn:x ≠ "__name__" := by decide) (hdb:(x == ("__debug__" : Str)) = false:=by decide)
    (he:starEach (e :: es) X.env = (false,eval e X.env) :: starEach es X.env:=by rfl) (hpl:(backTo pos (starEach es X.env)).any (·.1) = false:=by rfl):PE X (.Call (.Name x p) (e :: es) [] pos) (tCB r t) := .mk <| by
  intro pins s σ H Q I h
  refine wpAny_Call_Name_kw (ld_blt I hg hm hv ?_ hn hdb)
  exact PyProof.Rows.callWith_builtin1 (thn (ha pos pins s σ H _ I h) fun us s1 ⟨vs,H1,I1,r1,q1⟩=>hc pins s1 σ H1 vs us Q I1 r1 q1) he hpl
theorem pe_callTy (hc:CallR X (.type T) r) (hg:Gl X x) (hm:X.mg x = none) (hv:bootBuiltins x = some (.type T)) (ha:PA X (e :: es) t) (hn:x ≠ "__name__" := by decide) (hdb:(x == ("__debug__" : Str)) = false:=by decide)
    (he:starEach (e :: es) X.env = (false,eval e X.env) :: starEach es X.env:=by rfl) (hpl:(backTo pos (starEach es X.env)).any (·.1) = false:=by rfl):PE X (.Call (.Name x p) (e :: es) [] pos) (tCB r t) := .mk <| by
  intro pins s σ H Q I h
  refine wpAny_Call_Name_kw (ld_blt I hg hm hv ?_ hn hdb)
  exact PyProof.Rows.callWith_type1 (thn (ha pos pins s σ H _ I h) fun us s1 ⟨vs,H1,I1,r1,q1⟩=>hc pins s1 σ H1 vs us Q I1 r1 q1) he hpl
end
end L2
namespace HT
open PySem PyProof.Rows
section
open PySem.SeqAt
open PySem.AutoSeq1 (wpAny_loadPart')
open PySem.MeetsSeq PySem.MeetsSeq2 PySem.MeetsSeq3
end
section
variable {prog:Program} {w:World} {A:Around} {E:Value→Shared→Prop} {s:Shared}
noncomputable def sIx (n d:Nat):Option Int→Nat
  | none=>d
  | some v=>if v < 0 then (v + (n:Int)).toNat else min v.toNat n
theorem sIx_nat (n d k:Nat):sIx n d (some (k:Int)) = min k n:=by
  show (if (k:Int) < 0 then ((k:Int) + (n:Int)).toNat else min (k:Int).toNat n) = min k n
  rw [if_neg (by omega),Int.toNat_natCast]
theorem sIx_le (n d:Nat) (hd:d ≤ n) (o:Option Int):sIx n d o ≤ n:=by
  cases o with
  | none=>exact hd
  | some v =>
    show (if v < 0 then (v + (n:Int)).toNat else min v.toNat n) ≤ n
    by_cases hv:v < 0
    · rw [if_pos hv]; omega
    · rw [if_neg hv]; exact Nat.min_le_right _ _
theorem clip_eq (v:Int) (n d:Nat):(if v < 0 then max (v + (n:Int)) 0 else min v (n:Int)) = ((sIx n d (some v):Nat):Int):=by
  show (if v < 0 then max (v + (n:Int)) 0 else min v (n:Int)) = (((if v < 0 then (v + (n:Int)).toNat else min v.toNat n):Nat):Int)
  by_cases hv:v < 0
  · simp only [if_pos hv]; omega
  · simp only [if_neg hv]; omega
theorem adjust_gen (lo hi:Option Int) (n:Nat):Builtin.Slice.sliceAdjust lo hi 1 (n:Int) = (((sIx n 0 lo:Nat):Int),((sIx n n hi:Nat):Int)):=by
  have h1:¬ ((1:Int) < 0):=by omega
  unfold Builtin.Slice.sliceAdjust
  simp only [h1,if_false]
  refine Prod.ext ?_ ?_
  · cases lo with
    | none=>rfl
    | some v=>exact clip_eq v n 0
  · cases hi with
    | none=>rfl
    | some v=>exact clip_eq v n n
theorem places_gen (i j:Nat):Builtin.Slice.slicePlaces (i:Int) (j:Int) 1 = j - i:=by
  unfold Builtin.Slice.slicePlaces
  have h1:(1:Int) > 0:=by omega
  simp only [h1,if_true,Int.ediv_one]
  split <;> omega
theorem slicePart_ {v:Value} {o:Option Int} {Q:Option Int→Shared→Prop} (p:IsPart v o) (h:Q o s):wpAny (model prog w) A (Builtin.Slice.slicePartIndex v) Q E s:=by
  cases p with
  | none=>exact slicePart_none h
  | int i t=>exact slicePart_int h
theorem sliceApplied_gen {sl:Addr} {vl vu:Value} {lo hi:Option Int} {n:Nat} {Q:Int × Int × Nat→Shared→Prop} (hs:s.heap.IsSliceOf sl vl vu .none) (pl:IsPart vl lo) (pu:IsPart vu hi)
    (h:Q (((sIx n 0 lo:Nat):Int),1,sIx n n hi - sIx n 0 lo) s):wpAny (model prog w) A (Builtin.Slice.sliceApplied (.ref sl) (pure (n:Int))) Q E s:=by
  obtain ⟨os,hos,hcs,hds⟩:=id hs
  unfold Builtin.Slice.sliceApplied Builtin.Slice.sliceFields
  refine wpAny_bind (wpAny_bind (wpAny_field hos hds (x:=vl) rfl (wpAny_bind (wpAny_field hos hds (x:=vu) rfl (wpAny_bind (wpAny_field hos hds (x := .none) rfl (wpAny_pure ?_)))))))
  refine wpAny_bind (slicePart_none ?_)
  show wpAny _ _ (if ((1:Int) == 0) = true then _ else _) _ _ s
  rw [if_neg (by decide)]
  refine wpAny_bind (slicePart_ pl (wpAny_bind (slicePart_ pu (wpAny_bind (wpAny_pure ?_)))))
  show wpAny _ _ (match Builtin.Slice.sliceAdjust lo hi 1 (n:Int) with | (lo,hi)=>pure (lo,(1:Int),Builtin.Slice.slicePlaces lo hi 1)) _ _ s
  rw [adjust_gen lo hi n]
  show wpAny _ _ (pure (((sIx n 0 lo:Nat):Int),(1:Int),Builtin.Slice.slicePlaces ((sIx n 0 lo:Nat):Int) ((sIx n n hi:Nat):Int) 1)) _ _ s
  rw [places_gen]
  exact wpAny_pure h
theorem pick_gen (xs:Array Value) (i k:Nat):((List.range k).filterMap fun (m:Nat)=>xs[((i:Int) + (m:Int) * 1).toNat]?).toArray = ((xs.toList.drop i).take k).toArray:=by
  have e:(fun (m:Nat)=>xs[((i:Int) + (m:Int) * 1).toNat]?) = fun m=>xs[i + m]?:=by
    funext m
    have:((i:Int) + (m:Int) * 1).toNat = i + m:=by omega
    rw [this]
  rw [e]
  have:=pick_run xs i k
  rw [List.filterMap_map] at this
  have e2:((fun x=>xs[x]?) ∘ fun x=>i + x) = fun m=>xs[i + m]?:=rfl
  rw [e2] at this
  rw [this]
theorem getItem_tuple_cut {t sl:Addr} {items:Array Value} {vl vu:Value} {lo hi:Option Int} {Q:Value→Shared→Prop} (ht:IsTup s.heap t items) (hs:s.heap.IsSliceOf sl vl vu .none) (pl:IsPart vl lo) (pu:IsPart vu hi)
    (hw:¬ (sIx items.size 0 lo = 0∧sIx items.size items.size hi = items.size))
    (h:Q (.ref s.heap.objs.size) { s with heap:=s.heap.push { cls := .type "tuple",data := .seq ((items.toList.drop (sIx items.size 0 lo)).take (sIx items.size items.size hi - sIx items.size 0 lo)).toArray } })
    (hsz:items.size ≤ sizeLine):wpAny (model prog w) A (getItem (.ref t) (.ref sl)) Q E s:=by
  have htake:sizeOk (.seq ((items.toList.drop (sIx items.size 0 lo)).take (sIx items.size items.size hi - sIx items.size 0 lo)).toArray):=by
    show ((items.toList.drop (sIx items.size 0 lo)).take (sIx items.size items.size hi - sIx items.size 0 lo)).toArray.size ≤ sizeLine
    rw [List.size_toArray,List.length_take,List.length_drop,Array.length_toList]
    omega
  have hj:sIx items.size items.size hi ≤ items.size:=sIx_le _ _ (Nat.le_refl _) hi
  obtain ⟨os,hos,hcs,hds⟩:=id hs
  have hTs:s.TypeIs (.ref sl) "slice" := ⟨os,hos,hcs⟩
  unfold getItem
  try with_reducible refine wpAny_holding ?_
  first | refine wpAny_bind (wpAny_pure ?_) | skip
  refine wpAny_bind (wpAny_sequenceKey ht.typeIs (by decide) ?_)
  refine wpAny_bind (wpAny_callSpecial?_slot (name:=Str.ofString "__getitem__") ht.typeIs PyProof.Rows.slot_tuple_getitem
    (wpAny_call_entry PyProof.Rows.slot_tuple_getitem ht.typeIs entry_tuple_getitem ?_ (args_tuple_getitem _ _)))
  show wpAny _ _ (Builtin.Tuple.tupleItemsOf (.ref t) >>= _) _ _ s
  refine wpAny_bind (tupleItemsOf_ ht ?_)
  refine wpAny_bind (wpAny_typeOf hTs ?_)
  rw [if_pos (by decide)]
  refine wpAny_bind (sliceApplied_gen hs pl pu ?_)
  have hno:¬ ((((sIx items.size 0 lo:Nat):Int) == 0 && (1:Int) == 1 && (sIx items.size items.size hi - sIx items.size 0 lo) == items.size) = true):=by
    intro q
    rw [Bool.and_eq_true,Bool.and_eq_true] at q
    have q1:((sIx items.size 0 lo:Nat):Int) = 0:=eq_of_beq q.1.1
    have q2:sIx items.size items.size hi - sIx items.size 0 lo = items.size:=eq_of_beq q.2
    exact hw ⟨by omega,by omega⟩
  show wpAny _ _ (if (((sIx items.size 0 lo:Nat):Int) == 0 && (1:Int) == 1 && (sIx items.size items.size hi - sIx items.size 0 lo) == items.size) = true then _ else _) _ _ s
  rw [if_neg hno,pick_gen]
  first
    | exact wpAny_bind (m:=Builtin.Tuple.tupleExact _) (wpAny_newObj_type (wpAny_pure ⟨_,rfl,wpAny_pure h⟩) htake)
    | exact wpAny_bind (m:=Builtin.Tuple.tupleExact _) (wpAny_newObj_type (wpAny_bind (wpAny_pure (wpAny_pure ⟨_,rfl,wpAny_pure h⟩))) htake)
    | exact wpAny_bind (wpAny_bind (m:=Builtin.Tuple.tupleExact _) (wpAny_newObj_type (wpAny_pure (wpAny_pure ⟨_,rfl,wpAny_pure h⟩)) htake))
    | exact wpAny_bind (wpAny_bind (m:=Builtin.Tuple.tupleExact _) (wpAny_newObj_type (wpAny_pure ⟨_,rfl,wpAny_pure h⟩) htake))
end
end HT
namespace L2
open PySem PySem.Spec PyProof.Rows
noncomputable abbrev TO:=St→Hp→(Option Int→Hp→Prop)→Prop
noncomputable def PO (X:Cx) (e:Option Expr) (t:TO):Prop :=
  ∀ (pins:List (Addr × Obj)) (s:Shared) (σ:St) (H:Hp) (Q:Option Int→Hp→Prop),Inv X pins σ H s→t σ H Q →
    wpAny (model X.prog X.w) X.A (evalPart e X.env) (fun u s'=>∃ o H',Inv X pins σ H' s'∧IsPart u o∧Q o H') X.xe s
noncomputable def tNoPart:TO:=fun _ H Q=>Q none H
noncomputable def tPart (t:TE):TO:=fun σ H Q=>t σ H fun x H1=>∃ i,x = .int i∧Q (some i) H1
section
variable {X:Cx} {e:Expr} {te:TE} {lo hi:Option Expr} {tl th:TO} {pos p2:Pos}
theorem po_none:PO X none tNoPart:=by
  intro pins s σ H Q I h
  rw [evalPart_none]
  exact wpAny_pure ⟨none,H,I,.none,h⟩
theorem po_some (h:PE X e te):PO X (some e) (tPart te):=by
  intro pins s σ H Q I hw
  rw [evalPart_some]
  refine thn (h pins s σ H _ I hw) fun u s1 ⟨x,H1,I1,r1,q1⟩ => ?_
  obtain ⟨i,rfl,q⟩:=q1
  obtain ⟨t,rfl⟩:=r1
  exact ⟨some i,H1,I1,.int i t,q⟩
noncomputable def SlR (X:Cx) (r:V→Option Int→Option Int→Hp→VK→Prop):Prop :=
  ∀ (pins:List (Addr × Obj)) (s:Shared) (σ:St) (H:Hp) (x:V) (v vl vu:Value) (lo hi:Option Int) (sl:Addr) (Q:VK),Inv X pins σ H s→RelV x v→s.heap.IsSliceOf sl vl vu .none→IsPart vl lo→IsPart vu hi→r x lo hi H Q →
    ∃ T id,typeLookup (.type T) "__getitem__" = pure (some (.builtin id))∧s.TypeIs v T∧wpAny (model X.prog X.w) X.A (getItem v (.ref sl)) (EP X pins σ Q) X.xe s
noncomputable def tSl (r:V→Option Int→Option Int→Hp→VK→Prop) (te:TE) (tl th:TO):TE:=fun σ H Q=>te σ H fun x H1=>tl σ H1 fun l H2=>th σ H2 fun u H3=>r x l u H3 Q
theorem pe_slice {r:V→Option Int→Option Int→Hp→VK→Prop} (hr:SlR X r) (he:PE X e te) (hl:PO X lo tl) (hu:PO X hi th):PE X (.Subscript e (.Slice lo hi none p2) pos) (tSl r te tl th) := .mk <| by
  intro pins s σ H Q I h
  refine Subscript_ (thn (he pins s σ H _ I h) fun v s1 ⟨x,H1,I1,r1,q1⟩ => ?_)
  refine wpAny_Slice (thn (hl pins s1 σ H1 _ I1 q1) fun vl s2 ⟨l,H2,I2,pl,q2⟩=>thn (hu pins s2 σ H2 _ I2 q2) fun vu s3 ⟨u,H3,I3,pu,q3⟩ => ?_)
  rw [evalPart_none]
  refine wpAny_pure ?_
  have I4:Inv X pins σ H3 { s3 with heap:=s3.heap.push { cls := .type "slice",data := .fields #[vl,vu,.none] } }:=I3.kept (t':=s3.toks) fun b ob q=>Heap.get?_push_of_some _ q
  obtain ⟨T,id,hT,ht,hg⟩:=hr pins { s3 with heap:=s3.heap.push { cls := .type "slice",data := .fields #[vl,vu,.none] } } σ H3 x v vl vu l u s3.heap.objs.size Q I4 r1 (Heap.IsSliceOf.new ..) pl pu q3
  show wpAny (model X.prog X.w) X.A (subscriptTail e (.Slice lo hi none p2) v (.ref s3.heap.objs.size)) (EP X pins σ Q) X.xe { s3 with heap:=s3.heap.push { cls := .type "slice",data := .fields #[vl,vu,.none] } }
  exact tail_any (ops:=[.ref s3.heap.objs.size,v]) ht hT hg (by with_unfolding_all rfl)
noncomputable def cutV (xs:List V) (lo hi:Option Int):List V:=(xs.drop (HT.sIx xs.length 0 lo)).take (HT.sIx xs.length xs.length hi - HT.sIx xs.length 0 lo)
theorem cutV_length (xs:List V) (lo hi:Option Int):(cutV xs lo hi).length ≤ xs.length:=by
  unfold cutV
  rw [List.length_take,List.length_drop]
  omega
noncomputable def rSlT (K:PySem.W.Frag):V→Option Int→Option Int→Hp→VK→Prop:=fun x lo hi H Q=>∃ a xs,x = .ref a∧SqT K H a xs ∧
  ¬ (HT.sIx xs.length 0 lo = 0∧HT.sIx xs.length xs.length hi = xs.length)∧∀ p,H p = none→Q (.ref p) (upd H p (.tup (cutV xs lo hi)))
theorem sl_tup:SlR X (rSlT X.K):=by
  intro pins s σ H x v vl vu lo hi sl Q I rx hs pl pu h
  obtain ⟨a,xs,rfl,hx,hw,q⟩:=h
  cases rx
  obtain ⟨its,r,ht,hz⟩:=I.tuple hx
  have hlen:its.toArray.size = xs.length:=by rw [List.size_toArray]; exact r.length.symm
  refine ⟨"tuple",_,PyProof.Rows.slot_tuple_getitem.lookup,ht.typeIs, ?_⟩
  refine HT.getItem_tuple_cut ht hs pl pu (by rw [hlen]; exact hw) ?_ (by rw [hlen]; exact hz)
  rw [hlen]
  refine ⟨.ref s.heap.objs.size,_,I.laid (t':=s.toks) (o := .tup (cutV xs lo hi)) (fun b ob q=>Heap.get?_push_of_some _ q) (Nat.le_refl _) ?_,rfl,q _ (I.hok.fresh (Nat.le_refl _))⟩
  exact ⟨Nat.le_trans (cutV_length xs lo hi) hz,_,(r.drop (HT.sIx xs.length 0 lo)).take (HT.sIx xs.length xs.length hi - HT.sIx xs.length 0 lo),IsTup.new _ _⟩
end
end L2
namespace L2
open PySem PySem.Spec PyProof.Rows
noncomputable def ixN (n:Nat) (i:Int):Option Nat:=if 0 ≤ i then (if i < n then some i.toNat else none) else if -(n:Int) ≤ i then some (i + n).toNat else none
noncomputable def atI {α:Type} (xs:List α) (i:Int):Option α:=(ixN xs.length i).bind fun j=>xs[j]?
theorem ixN_seq {n:Nat} {i:Int} {j:Nat} (h:ixN n i = some j):seqIndex? i n = some j∧j < n ∧ -(n:Int) ≤ i∧i < n:=by
  unfold ixN at h
  by_cases h0:0 ≤ i
  · rw [if_pos h0] at h
    by_cases h1:i < n
    · rw [if_pos h1] at h
      have e:i.toNat = j:=Option.some.inj h
      exact ⟨by rw [seqIndex_of h0 h1,e],by omega,by omega,h1⟩
    · rw [if_neg h1] at h; cases h
  · rw [if_neg h0] at h
    by_cases h1 : -(n:Int) ≤ i
    · rw [if_pos h1] at h
      have e:(i + n).toNat = j:=Option.some.inj h
      exact ⟨by rw [seqIndex_neg (by omega) h1,e],by omega,h1,by omega⟩
    · rw [if_neg h1] at h; cases h
theorem atI_get {α:Type} {xs:List α} {i:Int} {v:α} (h:atI xs i = some v):∃ j,seqIndex? i xs.length = some j∧xs[j]? = some v∧j < xs.length ∧ -(xs.length:Int) ≤ i∧i < xs.length:=by
  unfold atI at h
  cases e:ixN xs.length i with
  | none=>rw [e] at h; cases h
  | some j =>
    rw [e] at h
    obtain ⟨h1,h2,h3,h4⟩:=ixN_seq e
    exact ⟨j,h1,h,h2,h3,h4⟩
theorem atI_nat {α:Type} {xs:List α} {j:Nat} {v:α} (h:xs[j]? = some v):atI xs (j:Int) = some v:=by
  have hj:j < xs.length:=(List.getElem?_eq_some_iff.mp h).1
  have e:ixN xs.length (j:Int) = some j:=by
    unfold ixN
    rw [if_pos (by omega),if_pos (by omega)]; simp
  unfold atI; rw [e]; exact h
noncomputable def PlainIx (b:Expr):Prop:=∀ o i,subscripted b false o i = operate [o,i] (getItem o i)
noncomputable def IxR (X:Cx) (r:R2):Prop :=
  ∀ (value slice:Expr) (pins:List (Addr × Obj)) (s:Shared) (σ:St) (H:Hp) (x y:V) (v u:Value) (Q:VK),Inv X pins σ H s→RelV x v→RelV y u→r x y H Q →
    subscripted slice false v u = operate [v,u] (getItem v u)→wpAny (model X.prog X.w) X.A (subscriptTail value slice v u) (EP X pins σ Q) X.xe s
noncomputable def MtR (X:Cx) (id:String) (r:V→List V→Hp→VK→Prop):Prop :=
  ∀ (pins:List (Addr × Obj)) (s:Shared) (σ:St) (H:Hp) (x:V) (xs:List V) (v:Value) (us:List Value) (Q:VK),Inv X pins σ H s→RelV x v→Vals xs us→r x xs H Q →
    wpAny (model X.prog X.w) X.A (call (.builtin id) (v :: us)) (EP X pins σ Q) X.xe s
section
variable {X:Cx} {a b:Expr} {ta tb:TE} {pos:Pos}
theorem pe_ix {r:R2} (hr:IxR X r) (ha:PE X a ta) (hb:PE X b tb) (hs:PlainIx b):PE X (.Subscript a b pos) (tOp r ta tb) := .mk <| by
  intro pins s σ H Q I h
  exact Subscript_ (binT ha hb I h fun v u s2 x y H2 I2 rx ry q=>hr a b pins s2 σ H2 x y v u Q I2 rx ry q (hs _ _))
noncomputable def rIxL (K:PySem.W.Frag):R2:=fun x y H Q=>∃ p xs i v,x = .ref p∧y = .int i∧SqL K H p xs∧atI xs i = some v∧Q v H
noncomputable def rIxT (K:PySem.W.Frag):R2:=fun x y H Q=>∃ p xs i v,x = .ref p∧y = .int i∧SqT K H p xs∧atI xs i = some v∧Q v H
noncomputable def rIxS:R2:=fun x y H Q=>∃ z i c,x = .str z∧y = .int i∧z.length ≤ sizeLine∧atI z.cps.toList i = some c∧Q (.str ⟨#[c]⟩) H
theorem ix_list:IxR X (rIxL X.K):=by
  intro value slice pins s σ H x y v u Q I rx ry h hs
  obtain ⟨p,xs,i,z,rfl,rfl,hq,he,q⟩:=h
  cases rx
  obtain ⟨t,rfl⟩:=ry
  obtain ⟨its,r,pl,hz⟩:=I.list hq
  obtain ⟨j,h1,h2,h3,h4,h5⟩:=atI_get he
  obtain ⟨w,ew,rw'⟩:=r.get h2
  have hl:=r.length
  have hn:=line63
  have fin:EP X pins σ Q w s:=⟨z,H,I,rw',q⟩
  by_cases h0:0 ≤ i
  · have hj:i.toNat = j:=by
      rw [seqIndex_of h0 h5] at h1
      exact Option.some.inj h1
    exact item_listR pl.isList h0 (by omega) (by rw [hj]; simpa using ew) fin hs
  · have hj:(i + (its.toArray.size:Int)).toNat = j:=by
      rw [seqIndex_neg (by omega) h4] at h1
      rw [List.size_toArray, ← hl]
      exact Option.some.inj h1
    exact subscriptTail_builtinR (x:=w) pl.isList.typeIs slot_list_getitem.lookup
      (wpAny_getItem_list_neg (Q:=fun r s'=>r = w∧EP X pins σ Q r s') pl.isList (by omega) (by rw [List.size_toArray] <;> omega) (by omega) (by rw [hj]; simpa using ew) ⟨rfl,fin⟩) hs
theorem ix_tup:IxR X (rIxT X.K):=by
  intro value slice pins s σ H x y v u Q I rx ry h hs
  obtain ⟨p,xs,i,z,rfl,rfl,hq,he,q⟩:=h
  cases rx
  obtain ⟨t,rfl⟩:=ry
  obtain ⟨its,r,pl,hz⟩:=I.tuple hq
  obtain ⟨j,h1,h2,h3,h4,h5⟩:=atI_get he
  obtain ⟨w,ew,rw'⟩:=r.get h2
  have hl:=r.length
  have hn:=line63
  have fin:EP X pins σ Q w s:=⟨z,H,I,rw',q⟩
  exact subscriptTail_builtinR (x:=w) pl.typeIs slot_tuple_getitem.lookup
    (getItem_tuple (j:=j) (Q:=fun r s'=>r = w∧EP X pins σ Q r s') pl (by omega) (by omega) (by rw [List.size_toArray, ← hl]; exact h1) (by simpa using ew) ⟨rfl,fin⟩) hs
theorem ix_str:IxR X rIxS:=by
  intro value slice pins s σ H x y v u Q I rx ry h hs
  obtain ⟨z,i,c,rfl,rfl,hz,he,q⟩:=h
  obtain ⟨t,rfl⟩:=rx
  obtain ⟨t',rfl⟩:=ry
  obtain ⟨j,h1,h2,h3,h4,h5⟩:=atI_get he
  have hl:z.cps.toList.length = z.length:=by simp [Str.length]
  rw [hl] at h1 h4 h5
  have hn:=line63
  exact tail_any (typeIs_str s z t) slot_str_getitem.lookup (getItem_str (c:=c) (by
    have e1:decide (i < -(2 ^ 63:Int)) = false:=decide_eq_false (by omega)
    have e2:decide (i ≥ 2 ^ 63) = false:=decide_eq_false (by omega)
    rw [e1,e2,Bool.or_false]) (by rw [h1]; simpa using h2) ⟨.str ⟨#[c]⟩,H,I.tok _,⟨_,rfl⟩,q⟩) hs
theorem slice_bounds (lo hi:Option Int) (n:Nat):(sliceBounds lo hi none n).1 = ((HT.sIx n 0 lo:Nat):Int)∧(sliceBounds lo hi none n).2.1 = ((HT.sIx n n hi:Nat):Int)∧(sliceBounds lo hi none n).2.2 = 1:=by
  refine ⟨?_, ?_,rfl⟩
  · cases lo with
    | none=>simp [sliceBounds,HT.sIx]
    | some i =>
      simp only [sliceBounds,HT.sIx,Option.getD_none,show (1:Int) > 0 by decide,if_true]
      by_cases h:i < 0
      · simp only [h,if_true] <;> omega
      · simp only [h,if_false] <;> omega
  · cases hi with
    | none=>simp [sliceBounds,HT.sIx]
    | some i =>
      simp only [sliceBounds,HT.sIx,Option.getD_none,show (1:Int) > 0 by decide,if_true]
      by_cases h:i < 0
      · simp only [h,if_true] <;> omega
      · simp only [h,if_false] <;> omega
theorem slicePick_cut (its:List Value) (lo hi:Option Int):slicePick its.toArray lo hi none = ((its.drop (HT.sIx its.length 0 lo)).take (HT.sIx its.length its.length hi - HT.sIx its.length 0 lo)).toArray:=by
  obtain ⟨h1,h2,h3⟩:=slice_bounds lo hi its.toArray.size
  unfold slicePick
  rw [h1,h2,h3]
  simp only [sliceRange_one,pick_run,List.size_toArray] <;> rfl
noncomputable def rSlL (K:PySem.W.Frag):V→Option Int→Option Int→Hp→VK→Prop:=fun x lo hi H Q=>∃ a xs,x = .ref a∧SqL K H a xs∧∀ p,H p = none→Q (.ref p) (upd H p (.lst (cutV xs lo hi)))
theorem sl_list:SlR X (rSlL X.K):=by
  intro pins s σ H x v vl vu lo hi sl Q I rx hs pl pu h
  obtain ⟨a,xs,rfl,hx,q⟩:=h
  cases rx
  obtain ⟨its,r,ht,hz⟩:=I.list hx
  have hlen:=r.length
  refine ⟨"list",_,slot_list_getitem.lookup,ht.isList.typeIs, ?_⟩
  refine wpAny_getItem_list_slice ht.isList hs pl pu .none (by simp) ?_ (by rw [List.size_toArray] <;> omega)
  rw [slicePick_cut, ← hlen]
  refine ⟨.ref s.heap.objs.size,_,I.laid (t':=s.toks) (o := .lst (cutV xs lo hi)) (fun b ob q=>Heap.get?_push_of_some _ q) (Nat.le_refl _) ?_,rfl,q _ (I.hok.fresh (Nat.le_refl _))⟩
  exact ⟨Nat.le_trans (cutV_length xs lo hi) hz,_,0,(r.drop (HT.sIx xs.length 0 lo)).take (HT.sIx xs.length xs.length hi - HT.sIx xs.length 0 lo),Heap.get?_push_size _ rfl⟩
theorem call_len_seq:CallR X (.builtin "len") (fun xs H Q=>∃ p ys,xs = [.ref p]∧(SqL X.K H p ys ∨ SqT X.K H p ys)∧Q (.int ys.length) H):=by
  intro pins s σ H xs us Q I r h
  obtain ⟨p,ys,rfl,hq,q⟩:=h
  obtain ⟨u,rfl,rx⟩:=vals1 r
  cases rx
  have hn:=line63
  rcases hq with hq | hq
  · obtain ⟨its,r',pl,hz⟩:=I.list hq
    have hlen:=r'.length
    exact Calls.call_len_list pl.isList (by simp only [List.size_toArray] <;> omega) ⟨.int ys.length,H,I.tok _,⟨s.toks + 1,by rw [List.size_toArray,hlen]⟩,q⟩
  · obtain ⟨its,r',pl,hz⟩:=I.tuple hq
    have hlen:=r'.length
    exact len_tuple pl (by simp only [List.size_toArray] <;> omega) ⟨.int ys.length,H,I.tok _,⟨s.toks + 1,by rw [List.size_toArray,hlen]⟩,q⟩
theorem call_tuple_of:CallR X (.type "tuple") (fun xs H Q=>∃ p ys,xs = [.ref p]∧((SqL X.K H p ys∧∀ l,H l = none→Q (.ref l) (upd H l (.tup ys))) ∨ (SqT X.K H p ys∧Q (.ref p) H))):=by
  intro pins s σ H xs us Q I r h
  obtain ⟨p,ys,rfl,h⟩:=h
  obtain ⟨u,rfl,rx⟩:=vals1 r
  cases rx
  rcases h with ⟨hq,q⟩ | ⟨hq,q⟩
  · obtain ⟨its,r',pl,hz⟩:=I.list hq
    have hlen:=r'.length
    refine call_tuple_list pl.isList (fun h' kp => ?_) (by simp only [List.size_toArray] <;> omega)
    have I1:Inv X pins σ H { s with heap:=h' }:=I.kept (t':=s.toks) kp
    have I2:Inv X pins σ (upd H h'.objs.size (.tup ys)) { s with heap:=h'.push { cls := .type "tuple",data := .seq its.toArray } } :=
      I1.laid (t':=s.toks) (fun b o e=>Heap.get?_push_of_some _ e) (Nat.le_refl _) (show ObjOk X.prog X.w _ _ _ (.tup ys) from ⟨hz,its,r',IsTup.new _ _⟩)
    exact ⟨.ref h'.objs.size,_,I2,rfl,q _ (I1.hok.fresh (Nat.le_refl _))⟩
  · obtain ⟨its,r',pl,hz⟩:=I.tuple hq
    exact call_tuple_same pl ⟨.ref p,H,I,rfl,q⟩
noncomputable def tyV (K:PySem.W.Frag) (T:String) (x:V) (H:Hp):Prop:=match x with
  | .str _=>T = "str"
  | .int _=>T = "int"
  | .ref p=>(T = "list" ∧ ∃ xs,SqL K H p xs) ∨ (T = "tuple" ∧ ∃ o,K.lookup p = some o∧o.cls = .type "tuple" ∧ o.dict = none) ∨
      (T = "dict" ∧ ((∃ kvs,H p = some (.dK kvs)) ∨ ∃ kvs,H p = some (.dT kvs))) ∨ (T = "set" ∧ ∃ S n,H p = some (.set S n))
  | _=>False
theorem tyV_is {pins:List (Addr × Obj)} {σ:St} {H:Hp} {s:Shared} {T:String} {x:V} {v:Value} (I:Inv X pins σ H s) (r:RelV x v) (ty:tyV X.K T x H) :
    s.TypeIs v T∧∀ a,v = .ref a→∃ ob,s.heap.get? a = some ob∧ob.dict = none:=by
  cases x with
  | str z =>
    obtain ⟨t,rfl⟩:=r
    cases (show T = "str" from ty)
    exact ⟨typeIs_str s z t,fun _ e=>nomatch e⟩
  | int i =>
    obtain ⟨t,rfl⟩:=r
    cases (show T = "int" from ty)
    exact ⟨typeIs_int s i t,fun _ e=>nomatch e⟩
  | ref p =>
    cases r
    rcases ty with ⟨rfl,xs,hq⟩ | ⟨rfl,o,hk,hc,hd⟩ | ⟨rfl,hk⟩ | ⟨rfl,S,n,hk⟩
    · obtain ⟨its,_,pl,_⟩:=I.list hq
      refine ⟨pl.isList.typeIs,fun a e => ?_⟩
      cases e
      obtain ⟨o,n,e,c,hd,_⟩:=pl
      exact ⟨o,e,hd⟩
    · refine ⟨⟨o,I.kIn p o hk,hc⟩,fun a e => ?_⟩
      cases e
      exact ⟨o,I.kIn _ o hk,hd⟩
    · have z:∃ o,s.heap.get? p = some o∧o.ExactDict:=by
        rcases hk with ⟨kvs,hk⟩ | ⟨kvs,hk⟩
        · obtain ⟨_,_,_,_,o,_,_,e,ex,_⟩:=I.hok p _ hk
          exact ⟨o,e,ex⟩
        · obtain ⟨_,_,_,_,o,_,_,e,ex,_⟩:=I.hok p _ hk
          exact ⟨o,e,ex⟩
      obtain ⟨o,e,ex⟩:=z
      refine ⟨⟨o,e,ex.1⟩,fun a e2 => ?_⟩
      cases e2
      exact ⟨o,e,ex.2.1⟩
    · obtain ⟨o,_,_,_,e,ex,_⟩:=I.hok p _ hk
      refine ⟨⟨o,e,ex.1⟩,fun a e2 => ?_⟩
      cases e2
      exact ⟨o,e,ex.2.1⟩
  | _=>exact False.elim ty
noncomputable def tBM0 (K:PySem.W.Frag) (T:String) (r:V→List V→Hp→VK→Prop) (to:TE):TE:=fun σ H Q=>to σ H fun x H1=>tyV K T x H1∧r x [] H1 Q
noncomputable def tBM (K:PySem.W.Frag) (T:String) (r:V→List V→Hp→VK→Prop) (to:TE) (t:TA):TE:=fun σ H Q=>to σ H fun x H1=>tyV K T x H1∧t σ H1 fun xs H2=>r x xs H2 Q
variable {o e:Expr} {es:List Expr} {to:TE} {t:TA} {name:Str} {apos cpos:Pos} {T id:String} {r:V→List V→Hp→VK→Prop}
theorem pe_bm0 (pa:PlainAttrs T) (slot:Slot T name id) (hty:typeOf (.builtin id) = pure (.type "method_descriptor")) (hm:MtR X id r) (ho:PE X o to)
    (hbase:attributeBase o name X.env (eval o X.env) = eval o X.env:=by rfl) (hline:(apos.endLine == cpos.line) = true:=by rfl):PE X (.Call (.Attribute o name apos) [] [] cpos) (tBM0 X.K T r to) := .mk <| by
  intro pins s σ H Q I h
  refine wpAny_Call_method0_late hbase hline (thn (ho pins s σ H _ I h) fun v s1 ⟨x,H1,I1,r1,ty,q1⟩ => ?_)
  obtain ⟨h1,h2⟩:=tyV_is I1 r1 ty
  exact ⟨T,id,pa,slot,hty,h1,h2,Calls.callWith_builtin rfl (PySem.evalArgs_none (hm pins s1 σ H1 x [] v [] Q I1 r1 .nil q1))⟩
theorem pe_bm (pa:PlainAttrs T) (slot:Slot T name id) (hty:typeOf (.builtin id) = pure (.type "method_descriptor")) (hm:MtR X id r) (ho:PE X o to) (ha:PA X (e :: es) t)
    (hbase:attributeBase o name X.env (eval o X.env) = eval o X.env:=by rfl)
    (hfew:((backTo cpos (starEach (e :: es) X.env)).all (fun x => !x.1) && (backToKw cpos (keywordEach [] X.env)).all (fun x=>x.1.isSome)
      && decide ((e :: es).length + ([]:List Keyword).length + (if ([]:List Keyword).isEmpty then 0 else 1) < 30)) = true:=by rfl)
    (hline:(apos.endLine == cpos.line) = true:=by rfl) (hs:starEach (e :: es) X.env = (false,eval e X.env) :: starEach es X.env:=by rfl) (hplain:(backTo cpos (starEach es X.env)).any (·.1) = false:=by rfl) :
    PE X (.Call (.Attribute o name apos) (e :: es) [] cpos) (tBM X.K T r to t) := .mk <| by
  intro pins s σ H Q I h
  refine wpAny_Call_method_late hbase hfew hline rfl (thn (ho pins s σ H _ I h) fun v s1 ⟨x,H1,I1,r1,ty,q1⟩ => ?_)
  obtain ⟨h1,h2⟩:=tyV_is I1 r1 ty
  refine ⟨T,id,pa,slot,hty,h1,h2, ?_⟩
  have hA:=ha cpos pins s1 σ H1 _ I1 q1
  rw [hs] at hA ⊢
  refine Calls.callWith_builtin (by show (false || (backTo cpos (starEach es X.env)).any (·.1)) = false; rw [hplain] <;> rfl) (Calls.evalArgs_plain ?_)
  exact thn hA fun us s2 ⟨vs,H2,I2,r2,q2⟩=>hm pins s2 σ H2 x vs v us Q I2 r1 r2 q2
/- xs.append(e),list.index on a module's tuple .. are MtR facts of 06m -/
end
end L2
namespace L2
open PySem PySem.Spec PyProof.Rows
noncomputable def MtM (X:Cx) (id:String) (r:V→List V→Hp→VK→Prop):Prop :=
  ∀ (pins:List (Addr × Obj)) (s:Shared) (σ:St) (H:Hp) (x:V) (xs:List V) (v:Value) (us:List Value) (Q:VK),Inv X pins σ H s→RelV x v→Vals xs us→r x xs H Q →
    wpAny (model X.prog X.w) X.A (call (.builtin id) (v :: us)) (EP X pins σ Q) X.xe s
theorem Vals.one:∀ {x:V} {us:List Value},Vals [x] us→∃ u,us = [u]∧RelV x u
  | _,_,.cons r .nil=>⟨_,rfl,r⟩
theorem Vals.two:∀ {x y:V} {us:List Value},Vals [x,y] us→∃ u v,us = [u,v]∧RelV x u∧RelV y v
  | _,_,_,.cons r (.cons q .nil)=>⟨_,_,rfl,r,q⟩
theorem Vals.zero:∀ {us:List Value},Vals [] us→us = []
  | _,.nil=>rfl
section
variable {X:Cx} {pins:List (Addr × Obj)} {σ:St} {H:Hp} {s:Shared} {l b:Addr} {xs ys zs:List V}
theorem Inv.lset {its its':List Value} {n:Nat} {f:Array Value→Array Value} {t':Nat} (I:Inv X pins σ H s) (hH:H l = some (.lst xs))
    (e:s.heap.get? l = some { cls := .type "list",data := .seq its.toArray n }) (hf:f its.toArray = its'.toArray) (hv:Vals ys its') (hz:ys.length ≤ sizeLine) :
    Inv X pins σ (upd H l (.lst ys)) { s with heap:=s.heap.update l (Obj.mapSeq f),toks:=t' }:=by
  have q:=PySem.IsL.update e f
  rw [hf] at q
  refine I.write (x:=l) (e:=l) (by rw [hH]; exact trivial) (.inl rfl) (fun b' u hb hu=>(Heap.get?_update_other s.heap (Obj.mapSeq f) (Ne.symm hb)).trans hu) ⟨_,q⟩ ?_
  exact ⟨hz,its',_,hv,q⟩
theorem Inv.lnew {its:List Value} {t':Nat} (I:Inv X pins σ H s) (hv:Vals ys its) (hz:ys.length ≤ sizeLine) :
    Inv X pins σ (upd H s.heap.objs.size (.lst ys)) { s with heap:=s.heap.push { cls := .type "list",data := .seq its.toArray },toks:=t' } :=
  I.laid (fun _ _ q=>Heap.get?_push_of_some _ q) (Nat.le_refl _) ⟨hz,its,0,hv,Heap.get?_push_size _ rfl⟩
theorem Inv.fresh (I:Inv X pins σ H s):H s.heap.objs.size = none:=I.hok.fresh (Nat.le_refl _)
theorem Inv.lstM (I:Inv X pins σ H s) (hH:H l = some (.lst xs)):xs.length ≤ sizeLine∧∃ (its:List Value) (n:Nat),Vals xs its∧xs.length = its.length∧s.heap.get? l = some { cls := .type "list",data := .seq its.toArray n }:=by
  obtain ⟨z,its,n,r,e⟩:=I.hok l _ hH
  exact ⟨z,its,n,r,r.length,e⟩
end
section
variable {X:Cx}
noncomputable def rAppend:V→List V→Hp→VK→Prop:=fun x vs H Q=>∃ l xs y,x = .ref l∧vs = [y]∧H l = some (.lst xs)∧xs.length < sizeLine∧Q .non (upd H l (.lst (xs ++ [y])))
theorem mt_append:MtM X "list.append" rAppend:=by
  intro pins s σ H x vs v us Q I rx rv h
  obtain ⟨l,xs,y,rfl,rfl,hH,hz,q⟩:=h
  cases rx
  obtain ⟨u,rfl,ru⟩:=rv.one
  obtain ⟨z,its,n,r,hl,e⟩:=I.lstM hH
  refine call_meets F.slot_list_append ⟨_,e,rfl⟩ F.entry_list_append (F.args_list_append_2 _ _) (PySem.list_append l its.toArray n u (by rw [List.size_toArray]; omega)) ⟨e, ?_⟩
  refine ⟨.non,_,I.lset (its':=its ++ [u]) hH e (by simp) (r.append (.cons ru .nil)) ?_,rfl,q⟩
  rw [List.length_append,List.length_singleton]
  omega
noncomputable def rClear:V→List V→Hp→VK→Prop:=fun x vs H Q=>∃ l xs,x = .ref l∧vs = []∧H l = some (.lst xs)∧Q .non (upd H l (.lst []))
theorem mt_clear:MtM X "list.clear" rClear:=by
  intro pins s σ H x vs v us Q I rx rv h
  obtain ⟨l,xs,rfl,rfl,hH,q⟩:=h
  cases rx
  have hus:=rv.zero
  subst hus
  obtain ⟨z,its,n,r,hl,e⟩:=I.lstM hH
  refine call_meets F.slot_list_clear ⟨_,e,rfl⟩ F.entry_list_clear (F.args_list_clear_1 _) (AutoSeq1.list_clear_list_0 l its.toArray n (by rw [List.size_toArray]; omega)) ⟨e, ?_⟩
  exact ⟨.non,_,I.lset (its':=[]) (ys:=[]) hH e rfl .nil (Nat.zero_le _),rfl,q⟩
noncomputable def rCat:R2:=fun x y H Q=>∃ l b xs zs,x = .ref l∧y = .ref b∧H l = some (.lst xs)∧H b = some (.lst zs)∧xs.length + zs.length ≤ sizeLine∧∀ p,H p = none→Q (.ref p) (upd H p (.lst (xs ++ zs)))
theorem op_cat:OpR X (binaryOp .Add) rCat:=by
  intro pins s σ H x y v u Q I rx ry h
  obtain ⟨l,b,xs,zs,rfl,rfl,hH,hB,hz,q⟩:=h
  cases rx
  cases ry
  obtain ⟨z,its,n,r,hl,e⟩:=I.lstM hH
  obtain ⟨z2,its2,n2,r2,hl2,e2⟩:=I.lstM hB
  refine PySem.P.add_list e e2 ?_ (by rw [List.size_toArray,List.size_toArray]; omega)
  have ea:its.toArray ++ its2.toArray = (its ++ its2).toArray:=by simp
  rw [ea]
  exact ⟨.ref _,_,I.lnew (t':=s.toks) (r.append r2) (by rw [List.length_append]; omega),rfl,q _ I.fresh⟩
end
section
variable {prog:Program} {w:World} {A:Around} {E:Value→Shared→Prop} {s:Shared}
end
section
variable {X:Cx}
end
end L2
namespace Att
open PySem PySem.W PySem.Calls PyProof.Rows
theorem ints_of_wellAll {P:Params} {h:Heap}:∀ (ns:List Int) (vs:List Value),WellAll P h vs (ns.map WData.int)→IntsAre vs ns:=by
  intro ns
  induction ns with
  | nil =>
    intro vs w
    rw [List.map_nil] at w
    cases w
    exact .nil
  | cons n ns ih =>
    intro vs w
    rw [List.map_cons] at w
    cases w with
    | cons a b =>
      cases a
      exact .cons _ _ (ih _ b)
theorem script_of {l:OpenLaw} {n:Nat} (hn:l.most = some n) {P:Params} {h:Heap} {args:List WData} {vals:List Value}
    (hpre:l.row.toRowW.claim.pre args = true) (hwl:WellAll P h vals args) :
    ∃ a vs ns,vals = [Value.ref a]∧args = [WData.list (ns.map WData.int)]∧h.get? a = some { cls := .type "list",data := .seq vs.toArray }∧IntsAre vs ns∧ns.length ≤ n:=by
  have hsh:WShape.hasAll [] args [.list .int] = true:=(pre_splitW hpre).1
  have hc:l.pre.holds [] { args:=args } = true:=(pre_splitW hpre).2
  obtain ⟨d,r,rfl,h1,h2⟩:=hasAllW_cons hsh
  obtain rfl:=hasAllW_nil h2
  obtain ⟨xs,rfl,h3⟩:=hasW_list h1
  obtain ⟨ns,rfl⟩:=items_int h3
  have hlen:ns.length ≤ n:=by
    unfold OpenLaw.pre at hc
    have h4:(WTm.not (.lt (.lit (.int (n:Int))) (.len (.arg 0)))).holds [] { args:=[.list (ns.map .int)] } = true:=by
      have h4:=(holds_andW hc).1
      rw [hn] at h4
      exact h4
    have h5:=condW_of h4 (w_not (w_lt w_lit (w_len_list (w_arg rfl))))
    rw [List.length_map] at h5
    refine Nat.le_of_not_lt fun q => ?_
    have q':(n:Int) < ((ns.length:Nat):Int):=by omega
    first
      | (rw [decide_eq_true q'] at h5; exact absurd h5 (by decide))
      | (simp at h5; omega)
  cases hwl with
  | cons w1 w2 =>
    cases w2
    cases w1 with
    | list ho hall=>exact ⟨_,_,ns,rfl,rfl,ho,ints_of_wellAll ns _ hall,hlen⟩
theorem post_true (l:OpenLaw) (args:List WData):l.row.toRowW.claim.post args (.bool true) args = true :=
  postW_of (r:=l.row.toRowW) (X:=(true == true))
    (show WShape.has [] (.bool true) .bool = true by first | rfl | decide | simp [WShape.has,WShape.arms,WShape.armsAll])
    (show (WTm.eq .res (.lit (.bool true))).value [] { args:=args,res:=some (.bool true),after:=args } = some (.bool (true == true)) from w_eq_bool (w_res rfl) w_lit) rfl
theorem attach_call {l:OpenLaw} {n:Nat} {q:Program} {loose:List Str} {XP:(Str→Option Value)→Heap→Prop} {YP:World→Heap→Prop} {d:DefRec}
    (hn:l.most = some n) (hdf:d.params.defaults = [])
    (call:∀ (w:World) (s₀ s₁:Shared) (mg mb:Str→Option Value) (fa:Addr) (o:Obj) (pm cd doc:Value) (a:Addr) (vs:List Value) (ns:List Int),
      Ground q loose [] XP w s₀ mg mb s₁.heap→YP w s₁.heap →
      s₁.heap.get? fa = some o→o.data = .func (docDef d.name d.params d.body d.scope pm cd doc)→s₁.heap.CodeRec cd d.name→mg d.name = some (.ref fa) →
      s₁.heap.get? a = some { cls := .type "list",data := .seq vs.toArray }→IntsAre vs ns→ns.length ≤ n→s₁.gens = #[] →
      codeAny (model l.prog w) callerA (.call (.ref fa) ⟨[.ref a],[]⟩) (fun r s'=>r = .ok (.ret (.bool true))∧OldK s₁.heap s'.heap∧s'.os = s₁.os∧AllBare s'.gens) s₁) :
    WalkO q loose XP YP l.row.toRowW d [] (fun f vs=>PySem.call f vs):=by
  intro w s₀ s₁ mg mb G Y fa o pm cd doc dV kV ho hd hcd hD hmg hg args vals as hpre hlay hrd hwl hlo
  obtain rfl:dV = .none:=Dflts.none hD hdf
  obtain rfl:kV = .none:=Dflts.noKw hD
  obtain ⟨a,vs,ns,rfl,rfl,hobj,hints,hlen⟩:=script_of hn hpre hwl
  refine enter_call (codeAny_mono (call w s₀ s₁ mg mb fa o pm cd doc a vs ns G Y ho (fd_plain hd) hcd hmg hobj hints hlen hg) fun r s' hq => ?_)
  obtain ⟨rfl,h2,h3,h4⟩:=hq
  exact ⟨.inl ⟨.bool true,.bool true,[],rfl,fun _=>rfl,.bool true,post_true l _,fun _=>⟨List.Pairwise.nil,fun _ hm=>(nomatch hm)⟩⟩,h2,h3,h4⟩
section
variable {prog:Program} {w:World} {A:Around} {E:Value→Shared→Prop} {s:Shared} {K:Frag}
end
end Att
namespace L2
open PySem PySem.Spec PyProof.Rows
theorem vals_ints:∀ {vs:List Value} {ns:List Int},IntsAre vs ns→Vals (ns.map V.int) vs
  | _,_,.nil=>.nil
  | _,_,.cons n t h=>.cons ⟨t,rfl⟩ (vals_ints h)
noncomputable def Only (H:Hp):Prop:=∀ b,H b = none ∨ ∃ o xs,H b = some (.frz o (.lst xs))
theorem law_call {P:Program} {w:World} {K:PySem.W.Frag} {mg mb:Str→Option Value} {CX:CXT} {k:Nat} {fa a:Addr} {fd:FuncData} {x:Str} {sp:Sp} {s₁:Shared} {vs:List Value} {ns:List Int}
    (KX:K.In s₁.heap) (hns:s₁.heap.Ns mainGlobals mg) (hb:s₁.heap.Ns builtinsNs mb) (hbb:∀ x:Str,x ≠ "__name__" → mb x = bootBuiltins x) (hlim:s₁.heap.NoLimit) (hg:s₁.gens = #[])
    (ha:s₁.heap.get? a = some { cls := .type "list",data := .seq vs.toArray }) (hi:IntsAre vs ns) (hl:ns.length ≤ sizeLine) (hr:Room k callerA)
    (F:∀ base:Heap,K.In base→base.Ns mainGlobals mg→FnOk P w K mg base CX k fa fd [x] sp) (hbind:∀ (s:Shared) (u:Value),BindsTo s fd ⟨[u],[]⟩ [(x,u)])
    (hsp:∀ H:Hp,Only H→SqL K H a (ns.map V.int)→sp [.ref a] H (fun v _=>v = .bl true) fun _ _ _=>False)
    (hCX:∀ H e s',CX [] H s₁ (fun _ _ _=>False) e s'→False) :
    codeAny (model P w) callerA (.call (.ref fa) ⟨[.ref a],[]⟩) (fun r s'=>r = .ok (.ret (.bool true))∧OldK s₁.heap s'.heap∧s'.os = s₁.os∧AllBare s'.gens) s₁:=by
  have rv:=vals_ints hi
  have lenV:=hi.length
  have core:∀ H:Hp,Only H→SqL K H a (ns.map V.int)→HOk P w H s₁.heap→(∀ b,H b ≠ none→b = a)→(H a ≠ none→K.lookup a = none) →
      codeAny (model P w) callerA (.call (.ref fa) ⟨[.ref a],[]⟩) (fun r s'=>r = .ok (.ret (.bool true))∧OldK s₁.heap s'.heap∧s'.os = s₁.os∧AllBare s'.gens) s₁:=by
    intro H hO hS hok hA hK
    have base_of:∀ {b:Addr} {o:Obj},s₁.heap.get? b = some o→H b = none→(hidT s₁.heap H).get? b = some o:=fun e n=>hidT_get e n
    have noA:∀ {b:Addr} {o:Obj} {es:Array DictEntry} {ep:Nat},s₁.heap.get? b = some o→o.data = .dict es ep→H b = none:=fun {b o es ep} e d=>by
      cases q:H b with
      | none=>rfl
      | some u =>
        have e':b = a:=hA b (by rw [q]; simp)
        subst e'
        rw [ha] at e; cases e
        have d':Data.seq vs.toArray _ = Data.dict es ep:=d
        cases d'
    have nsK:∀ {b:Addr} {m:Str→Option Value},s₁.heap.Ns b m→(hidT s₁.heap H).Ns b m:=fun {b m} ⟨o,es,ep,e,d,r⟩=>⟨o,es,ep,base_of e (noA e d),d,r⟩
    have hKb:K.In (hidT s₁.heap H):=fun b o e=>base_of (KX b o e) (by
      cases q:H b with
      | none=>rfl
      | some u =>
        have e':b = a:=hA b (by rw [q]; simp)
        subst e'
        rw [hK (by rw [q]; simp)] at e; cases e)
    have hM:Mod K mg (hidT s₁.heap H):=⟨hKb,nsK hns,⟨mb,nsK hb,hbb⟩,let ⟨mc,h1,h2⟩:=hlim; ⟨mc,nsK h1,h2⟩⟩
    have e0:Env0 P w K mg (hidT s₁.heap H) callerA [] s₁ H:=⟨rfl,hM,fun b o e=>of_hidT e,Nat.le_of_eq (hidT_size _ _),trivial,fun b hb=>absurd (show b ∈ ([]:List Addr) from hb) (by simp),hok,.of_eq hg⟩
    refine codeAny_mono ((F _ hKb (nsK hns)).run callerA [] s₁ H ⟨[.ref a],[]⟩ [.ref a] [.ref a] _ _ hr e0 (hbind s₁ (.ref a)) (.cons rfl .nil) (hsp H hO hS)) fun r s' h => ?_
    cases r with
    | error e=>exact (hCX H e s' h).elim
    | ok fl =>
      cases fl with
      | next=>exact False.elim h
      | brk=>exact False.elim h
      | cont=>exact False.elim h
      | ret u =>
        obtain ⟨v,H',os,bare,un,hok',r',q⟩:=h
        have q':v = .bl true:=q
        subst q'
        obtain rfl:u = Value.bool true:=r'
        refine ⟨rfl,OldK.of_keep fun b o e => ?_,os,bare⟩
        cases q:H b with
        | none=>exact un.keep b o e q (by intro z; exact absurd (show b ∈ ([]:List Addr) from z) (by simp)) (by simp)
        | some u =>
          rcases hO b with z | ⟨ob,xs,z⟩
          · rw [q] at z; cases z
          · have z2:=un.frzs b ob _ z
            obtain ⟨e1,_⟩:=hok b _ z
            obtain ⟨e2,_⟩:=hok' b _ z2
            rw [e] at e1; cases e1
            exact e2
  cases hk:K.lookup a with
  | some o =>
    have e:=KX a o hk
    rw [ha] at e
    cases e
    refine core (fun _=>none) (fun _=>.inl rfl) (.inr ⟨_,vs.toArray,_,hk,rfl,rfl,rfl,by rw [List.size_toArray,lenV]; exact hl,by simpa using rv⟩) (fun b u z=>by have z':(none:Option HO) = some u:=z; cases z') (fun b z=>absurd rfl z) fun z=>absurd rfl z
  | none =>
    refine core (fun b=>if b = a then some (.frz { cls := .type "list",data := .seq vs.toArray } (.lst (ns.map V.int))) else none) (fun b => ?_) (.inl (.inr ⟨{ cls := .type "list",data := .seq vs.toArray },if_pos rfl⟩)) (fun b u z => ?_) (fun b z => ?_) fun _=>hk
    · by_cases hb:b = a
      · exact .inr ⟨_,_,if_pos hb⟩
      · exact .inl (if_neg hb)
    · by_cases hb:b = a
      · have z':=(if_pos hb).symm.trans z
        cases z'
        subst hb
        exact ⟨ha,by rw [List.length_map]; exact hl,vs,_,rv,ha⟩
      · have z':=(if_neg hb).symm.trans z
        cases z'
    · by_cases hb:b = a
      · exact hb
      · exact absurd (if_neg hb) z
end L2
namespace L2
open PySem PySem.Spec PyProof.Rows
theorem walk_of {l:PySem.W.OpenLaw} {n k:Nat} {q:Program} {loose:List Str} {XP:(Str→Option Value)→Heap→Prop} {YP:World→Heap→Prop} {d:DefRec} {K:Params→PySem.W.Frag} {CX:World→CXT} {sp:World→Sp} {x:Str}
    (hn:l.most = some n) (hn2:n ≤ sizeLine) (hdf:d.params.defaults = []) (hr:Room k callerA)
    (hY:∀ (w:World) (h:Heap),YP w h→(K w.params).In h)
    (F:∀ (w:World) (mg:Str→Option Value) (fa:Addr) (h:Heap),(K w.params).In h→h.Ns mainGlobals mg→mg d.name = some (.ref fa) →
      ∃ fd:FuncData,(∀ (s:Shared) (u:Value),BindsTo s fd ⟨[u],[]⟩ [(x,u)]) ∧
        ∀ base:Heap,(K w.params).In base→base.Ns mainGlobals mg→FnOk l.prog w (K w.params) mg base (CX w) k fa fd [x] (sp w))
    (hsp:∀ (w:World) (H:Hp) (a:Addr) (ns:List Int),ns.length ≤ n→Only H→SqL (K w.params) H a (ns.map V.int)→sp w [.ref a] H (fun v _=>v = .bl true) fun _ _ _=>False)
    (hCX:∀ (w:World) (H:Hp) (s:Shared) (e:Value) (s':Shared),CX w [] H s (fun _ _ _=>False) e s'→False) :
    PySem.W.WalkO q loose XP YP l.row.toRowW d [] (fun f vs=>PySem.call f vs):=by
  refine Att.attach_call hn hdf fun w s₀ s₁ mg mb fa o pm cd doc a vs ns G Y ho hd hcd hmg hobj hints hlen hg => ?_
  have KX:=hY w _ Y
  obtain ⟨fd,hb,hF⟩:=F w mg fa _ KX G.T.g hmg
  exact law_call KX G.T.g G.T.b G.T.builtins G.T.nolimit hg hobj hints (Nat.le_trans hlen hn2) hr hF hb (fun H hO hS=>hsp w H a ns hlen hO hS) fun H e s'=>hCX w H s₁ e s'
end L2
/- THE LAST THEOREM (shape; LID,My.* are yours):
   My.Adr: a structure of the addresses that your layer names (classes,functions); My.Txt K t: a structure (Prop) of the equations over K;
   My.txt_mk:{K} {implicit addresses ..} (e1:nsIn K mainGlobals "law" = some (some (.ref f))) (e2:K.lookup f = some ⟨oc,od,.func (fnOf "law" "law" params body scope dV kV doc pm an cdv ct),sl⟩) (e3:codeIn K cdv "law" = true) .. : ∃ t,My.Txt K t
set_option maxRecDepth 100000 in
set_option maxHeartbeats 0 in
theorem PySem.Challenge.cw_LID_holds : PySem.Challenge.rw_LID.Holds := by
  w_on; o_law; k_head; (case hw=>w_witness2)
  k_fill
  refine L2.walk_of (l:=PySem.Challenge.rw_LID) (n:=63) (k:=40) (x := "script") (CX:=fun w=>..) (sp:=fun _=>My.sp_law) rfl (by decide) rfl ⟨rfl,by decide,by decide⟩ (fun w h Y=>PySem.W.kIn_of Y) ?F ?S ?C
  case F =>
    intro w mg fa h KX G hmg
    have T:∃ t,My.Txt (L2.KOf KX) t:=by
      dsimp only [L2.KOf]                          -- K must stand as «<heap const> w.params» for k_is
      refine' My.txt_mk ?e1 ?e2 ?e3 ..
      (case e1=>PySem.W.k_is)                    -- in the order: a name -> its address -> its object -> its parts
      (case e2=>PySem.W.k_is)
      ..
    obtain ⟨t,T⟩:=T
    have e0:=hmg.symm.trans (PySem.W.mg_of KX G T.law)
    cases e0                                       -- fa is the law's own address
    exact ⟨_,fun s u=>.of_eq rfl,fun base kb nb=>My.law_fn T kb nb⟩     -- if «.of_eq rfl» comes too early: refine' ⟨_, ?b,fun base kb nb=>My.law_fn T kb nb⟩; exact fun s u=>.of_eq rfl
  case S=>exact fun w H a ns hl hO hS=>..
  case C=>exact ..
(the tactic k_is has no namespace: write k_is) -/
namespace L2
open PySem PySem.Spec PyProof.Rows
noncomputable def inClass (s:Stmt) (j:Nat):Stmt:=match s with
  | .ClassDef _ _ _ body _ _ _ _ _ _ _=>body.getD j (.Pass ⟨0,0,0,0⟩)
  | _=>.Pass ⟨0,0,0,0⟩
noncomputable def defArgs (s:Stmt):Arguments:=match s with
  | .FunctionDef _ a _ _ _ _ _ _ _ _=>a
  | _=>{ posonlyargs:=[],args:=[],vararg:=none,kwonlyargs:=[],kw_defaults:=[],kwarg:=none,defaults:=[] }
noncomputable def defBody (s:Stmt):List Stmt:=match s with
  | .FunctionDef _ _ b _ _ _ _ _ _ _=>b
  | _=>[]
noncomputable def defScope (s:Stmt):Scope:=match s with
  | .FunctionDef _ _ _ _ _ _ sc _ _ _=>sc
  | _=>{ kind := .function,names:=[],isGenerator:=false,isCoroutine:=false }
noncomputable abbrev E0:XK:=fun _ _ _=>False
structure Fun (K:PySem.W.Frag) (x qual:Str) (st:Stmt) (f:Addr) (fd:FuncData):Prop where
  ex:∃ (oc:Value) (od:Option Addr) (kV doc pm:Value) (an:Option Addr) (cdv ct:Value) (osl:Array (Option Value)),
    fd = PySem.W.fnOf x qual (defArgs st) (defBody st) (defScope st) .none kV doc pm an cdv ct∧K.lookup f = some ⟨oc,od,.func fd,osl⟩∧PySem.W.codeIn K cdv qual = true
  kp:PySem.W.keepIn K (.ref f) = true
section
variable {P:Program} {w:World} {K:PySem.W.Frag} {mg:Str→Option Value} {base:Heap}
theorem Fun.binds {x qual:Str} {st:Stmt} {f:Addr} {fd:FuncData} {ps:List Str} (F:Fun K x qual st f fd)
    (h:∀ (kV doc pm:Value) (an:Option Addr) (cdv ct:Value) (us:List Value),us.length = ps.length→bindArgs (PySem.W.fnOf x qual (defArgs st) (defBody st) (defScope st) .none kV doc pm an cdv ct) ⟨us,[]⟩ = pure (ps.zip us)):Binds K fd ps []:=by
  obtain ⟨oc,od,kV,doc,pm,an,cdv,ct,osl,rfl,lk,hcd⟩:=F.ex
  exact .all (h kV doc pm an cdv ct)
theorem fun_mk {x qual:Str} {st:Stmt} {f:Addr} {oc:Value} {od an:Option Addr} {osl:Array (Option Value)} {kV doc pm cdv ct:Value} (l:K.lookup f = some ⟨oc,od,.func (PySem.W.fnOf x qual (defArgs st) (defBody st) (defScope st) .none kV doc pm an cdv ct),osl⟩)
    (c:PySem.W.codeIn K cdv qual = true) (k:PySem.W.keepIn K (.ref f) = true):Fun K x qual st f (PySem.W.fnOf x qual (defArgs st) (defBody st) (defScope st) .none kV doc pm an cdv ct):=⟨⟨oc,od,kV,doc,pm,an,cdv,ct,osl,rfl,l,c⟩,k⟩
end
theorem hu_of {A:Around} {k:Nat} (hr:Room k A):A.units + 1 < cLine:=Nat.lt_of_le_of_lt (Nat.add_le_add_left (by decide:1 ≤ 64) _) hr.units
theorem small1000 {n:Nat} (h:n ≤ 1000):n < sizeLine:=Nat.lt_of_le_of_lt h (by decide)
section
variable {X:Cx}
theorem pv (i:Nat) {x:Str} {pos:Pos} (hN:X.N[i]? = some x:=by rfl) (hv:Vis X.env.scope x:=by first | exact Or.inl rfl | exact Or.inr (Or.inl rfl) | exact Or.inr (Or.inr rfl)) (hd:(x == ("__debug__" : Str)) = false:=by decide)
    (hcd:(x == ("__classdict__" : Str)) = false:=by decide):PE X (.Name x pos) (tVar i):=pe_var hN hv hd hcd
end
theorem iteF {A B:Prop} (h:B):if false = true then A else B:=by
  rw [if_neg Bool.false_ne_true]
  exact h
theorem iteT {A B:Prop} (h:A):if true = true then A else B:=by
  rw [if_pos rfl]
  exact h
theorem iteNS {c A B:Prop} [Decidable c] (hc:c) (h:B):if (!decide c) = true then A else B:=by
  rw [decide_eq_true hc]
  exact iteF h
noncomputable def Same (H H':Hp):Prop:=∀ b o,H b = some o→H' b = some o
theorem Same.refl (H:Hp):Same H H:=fun _ _ h=>h
theorem Same.trans {H H1 H2:Hp} (a:Same H H1) (b:Same H1 H2):Same H H2:=fun c o h=>b c o (a c o h)
theorem Same.free {H H':Hp} (e:Same H H') {l:Addr} (h:H' l = Option.none):H l = Option.none:=by
  cases q:H l with
  | none=>rfl
  | some o =>
    rw [e l o q] at h
    cases h
theorem Same.seq {K:PySem.W.Frag} {H H':Hp} {a:Addr} {xs:List V} (e:Same H H') (h:SqL K H a xs):SqL K H' a xs:=by
  rcases h with (h | ⟨o,h⟩) | h
  · exact .inl (.inl (e _ _ h))
  · exact .inl (.inr ⟨o,e _ _ h⟩)
  · exact .inr h
end L2
namespace L2
open PySem PySem.Spec PyProof.Rows
section
variable {X:Cx} {pins:List (Addr × Obj)} {σ:St} {H:Hp} {s:Shared} {h':Heap}
theorem Inv.turnLay {t':Nat} {ch:List Addr} {T:Addr} {o:HO} (I:Inv X pins σ H s) (hf:∀ b ∈ ch,FpOk X pins H b)
    (k:∀ b u,b ∉ ch→s.heap.get? b = some u→h'.get? b = some u) (hT:s.heap.objs.size ≤ T)
    (new:ObjOk X.prog X.w (upd H T o) h' T o):Inv X pins σ (upd H T o) { s with heap:=h',toks:=t' }:=by
  have hn:H T = none:=I.hok.fresh hT
  have nT:∀ b u,s.heap.get? b = some u→b ≠ T:=fun b u e=>Nat.ne_of_lt (Nat.lt_of_lt_of_le (Heap.lt_size e) hT)
  have nch:∀ b u,H b = some u→b ∉ ch:=fun b u e hb=>by rw [(hf b hb).1] at e; cases e
  have nTH:∀ b u,H b = some u→b ≠ T:=fun b u e=>ne_of_none e hn
  refine I.step (g':=s.gens) (d':=s.drawn) (ch:=ch) (fun b hb => ?_) (fun b o _ _ hc e _=>k b o hc e) (fun b o _ _ hc e _=>⟨o.slots,k b o hc e⟩)
    (fun b u hc e n=>by rw [upd_ne (nT b u e)]; exact n) (fun b u hc e=>⟨u,k b u hc e⟩) (fun b xs e=>by rw [upd_ne (nTH b _ e)]; exact e) (fun b o' u e=>by rw [upd_ne (nTH b _ e)]; exact e)
    (fun b ps e=>⟨#[],by rw [upd_ne (nTH b _ e),e]; simp⟩) (fun m hm => ?_) (fun b u e => ?_) I.bare
  · obtain ⟨f0,f1,f2,f3,f4,f5⟩:=hf b hb
    exact ⟨f3,f1,f4,f5⟩
  · obtain ⟨ob,es,ep,ho,r⟩:=hm
    exact ⟨ob,es,ep,k _ ob (fun z=>(hf _ z).2.1 rfl) ho,r⟩
  · by_cases hb:b = T
    · subst hb; rw [upd_same] at e; cases e; exact new
    · rw [upd_ne hb] at e
      refine (I.hok b u e).stay (fun c v hc q=>k c v ?_ q) (fun c q=>by rw [upd_ne (nTH c _ q)]; exact q) fun c xs q=>by rw [upd_ne (nTH c _ q)]; exact q
      rcases hc with z | z
      · rw [z]; exact nch b u e
      · exact nch c _ z
theorem Inv.turnedL {t':Nat} {ch:List Addr} (I:Inv X pins σ H s) (hf:∀ b ∈ ch,FpOk X pins H b)
    (k:∀ b u,b ∉ ch→s.heap.get? b = some u→h'.get? b = some u):Inv X pins σ H { s with heap:=h',toks:=t' }:=by
  have nch:∀ b u,H b = some u→b ∉ ch:=fun b u e hb=>by rw [(hf b hb).1] at e; cases e
  refine I.step (g':=s.gens) (d':=s.drawn) (ch:=ch) (fun b hb => ?_) (fun b o _ _ hc e _=>k b o hc e) (fun b o _ _ hc e _=>⟨o.slots,k b o hc e⟩)
    (fun b u hc e n=>n) (fun b u hc e=>⟨u,k b u hc e⟩) (fun b xs e=>e) (fun b o' u e=>e)
    (fun b ps e=>⟨#[],by rw [e]; simp⟩) (fun m hm => ?_) (fun b u e => ?_) I.bare
  · obtain ⟨f0,f1,f2,f3,f4,f5⟩:=hf b hb
    exact ⟨f3,f1,f4,f5⟩
  · obtain ⟨ob,es,ep,ho,r⟩:=hm
    exact ⟨ob,es,ep,k _ ob (fun z=>(hf _ z).2.1 rfl) ho,r⟩
  · refine (I.hok b u e).stay (fun c v hc q=>k c v ?_ q) (fun c q=>q) fun c xs q=>q
    rcases hc with z | z
    · rw [z]; exact nch b u e
    · exact nch c _ z
end
section
variable {X:Cx} {tg:Expr}
end
noncomputable def Ite (K:PySem.W.Frag) (a:Addr):It :=
  ⟨fun i H=>∃ xs x,SqL K H a xs∧xs[i]? = some x,fun i H v H'=>∃ T y,v = .ref T∧H T = none∧H' = upd H T (.tup [.int i,y])∧∀ xs,SqL K H a xs→xs[i]? = some y,fun i H=>∃ xs,SqL K H a xs∧xs.length ≤ i⟩
theorem turn_enum {P:Program} {w:World} {K:PySem.W.Frag} {elts:List Expr} {kk:Nat} {tp:Pos} (a e it:Addr) (hne:e ≠ it) :
    Turn P w K (.Tuple elts kk tp) (Ite K a) [e,it] e (fun i h=>(∃ old,IsEnum h e it (i:Nat) old)∧h.IsListIter it a i) where
  mem:=by simp
  obj:=fun i h st b hb=>by
    obtain ⟨⟨old,he⟩,o,e',c,d⟩:=st
    have:b = e ∨ b = it:=by simpa using hb
    rcases this with rfl | rfl
    · exact ⟨_,he,fun v z=>nomatch z⟩
    · exact ⟨o,e',fun v z=>by rw [d] at z; cases z⟩
  keep:=fun i h h' st k=>⟨let ⟨old,he⟩:=st.1; ⟨old,k e (by simp) _ he⟩,st.2.at fun o q=>k it (by simp) o q⟩
  item:=by
    intro X hP hw hK hc i pins s σ H E I hf st hg
    subst hP hw hK
    obtain ⟨⟨old,he⟩,hit⟩:=st
    obtain ⟨xs,x,hq,hx⟩:=hg
    obtain ⟨its,rv,p,hz⟩:=I.list hq
    obtain ⟨u,hu,ru⟩:=rv.get hx
    have helt:e < s.heap.objs.size:=Heap.lt_size he
    refine wpAny_pyNext_enum_item he hit p.isList (x:=u) (by simpa using hu) hne fun h1 heo hit1 ht1 hz1 hk1 => ?_
    refine ⟨_,rfl,wpAny_letOwnedTupleGo_enum heo fun h2 he2 hs2 => ?_⟩
    have hT2:h2.get? s.heap.objs.size = some { cls := .type "tuple",data := .seq #[.int i s.toks,u] }:=(hs2.2 _ (Nat.ne_of_gt helt)).trans ht1
    have I2:Inv X pins σ (upd H s.heap.objs.size (.tup [.int i,x])) { s with heap:=h2,toks:=s.toks + 1 }:=by
      refine I.turnLay (ch:=[e,it]) hf (fun b o hb q => ?_) (Nat.le_refl _) ?_
      · have n1:b ≠ e:=fun z=>hb (by simp [z])
        have n2:b ≠ it:=fun z=>hb (by simp [z])
        exact (hs2.2 b n1).trans (hk1 b o n1 n2 q)
      · exact ⟨by show 2 ≤ sizeLine; decide,[.int i s.toks,u],.cons ⟨_,rfl⟩ (.cons ru .nil),⟨_,hT2,rfl,_,rfl⟩⟩
    have hn:H s.heap.objs.size = none:=I.hok.fresh (Nat.le_refl _)
    refine ⟨.ref s.heap.objs.size,_,I2,rfl,⟨_,x,rfl,hn,rfl,fun ys hy=>by rw [I.list_inj hy hq]; exact hx⟩,⟨⟨u,by simpa using he2⟩,hit1.at fun o q=>(hs2.2 it (Ne.symm hne)).trans q⟩,fun b hb => ?_⟩
    have hb':b < s.heap.objs.size:=by
      have:b = e ∨ b = it:=by simpa using hb
      rcases this with rfl | rfl
      · exact helt
      · obtain ⟨o,q,_⟩:=hit; exact Heap.lt_size q
    rw [upd_ne (Nat.ne_of_lt hb')]
    exact (hf b hb).1
  done:=by
    intro X hP hw hK hc i pins s σ H E I hf st hg
    subst hP hw hK
    obtain ⟨⟨old,he⟩,hit⟩:=st
    obtain ⟨xs,hq,hx⟩:=hg
    obtain ⟨its,rv,p,hz⟩:=I.list hq
    have hl:=rv.length
    exact wpAny_pyNext_enum_end (I.ok.hd hc) he hit p.isList (by simp; omega) fun h' eb=>⟨rfl,I.turnedL (t':=s.toks) hf fun b o hb q=>eb b o (fun z=>hb (by simp [z])) q⟩
  self:=fun A i s Q E st h=>by
    obtain ⟨⟨old,he⟩,hit⟩:=st
    have hT:s.TypeIs (.ref e) "enumerate" := ⟨_,he,rfl⟩
    refine wpAny_pyIter_slot hT F.slot_enumerate_iter (wpAny_call_entry F.slot_enumerate_iter hT F.entry_enumerate_iter ?_ (F.args_enumerate_iter_1 _))
    show wpAny _ _ (ret (.ref e)) _ _ s
    exact wpAny_pure ⟨_,rfl, "enumerate",_,hT,F.slot_enumerate_next.lookup,h⟩
end L2
namespace L2
open PySem PySem.Spec PyProof.Rows
section
variable {X:Cx}
noncomputable def iEnum (K:PySem.W.Frag) (ta:TA):TI:=fun σ H R=>ta σ H fun vs H1=>∃ a,vs = [.ref a]∧(∃ xs,SqL K H1 a xs)∧R (Ite K a) H1
theorem pi_enum {elts:List Expr} {kk:Nat} {tp:Pos} {a:Expr} {ta:TA} {p pos:Pos} (hg:Gl X "enumerate") (hm:X.mg "enumerate" = none) (hb:bootBuiltins "enumerate" = some (.type "enumerate")) (ha:PA X [a] ta) (hs:starEach [a] X.env = [(false,eval a X.env)]:=by rfl) :
    PI X (.Tuple elts kk tp) (.Call (.Name "enumerate" p) [a] [] pos) (iEnum X.K ta) := .mk <| by
  intro pins s σ H R I h
  refine Call_ (ld_blt I hg hm hb (PyProof.Rows.callWith_type1 (thn (ha pos pins s σ H _ I h) fun us s1 ⟨vs,H1,I1,r1,q1⟩ => ?_) hs rfl))
  obtain ⟨b,e,⟨xs,hq⟩,q⟩:=q1
  subst e
  cases r1 with
  | cons r rr =>
    cases rr
    cases r
    obtain ⟨its,rv,pl,hz⟩:=I1.list hq
    refine call_enumerate_list pl.isList fun h' he hi hsz hk => ?_
    have I2:Inv X pins σ H1 { s1 with heap:=h' }:=I1.kept (t':=s1.toks) hk
    have T:=turn_enum (P:=X.prog) (w:=X.w) (K:=X.K) (elts:=elts) (kk:=kk) (tp:=tp) b (s1.heap.objs.size + 1) s1.heap.objs.size (Nat.succ_ne_self _)
    have t0:(∃ old,IsEnum h' (s1.heap.objs.size + 1) s1.heap.objs.size ((0:Nat):Int) old)∧h'.IsListIter s1.heap.objs.size b 0:=⟨⟨.none,by simpa using he⟩,hi⟩
    refine T.self X.A 0 _ _ _ t0 ⟨_,_,_,_,H1,rfl,I2,T,t0,fun c hc => ?_,q⟩
    have hc':s1.heap.objs.size ≤ c:=by
      have:c = s1.heap.objs.size + 1 ∨ c = s1.heap.objs.size:=by simpa using hc
      rcases this with rfl | rfl
      · exact Nat.le_succ _
      · exact Nat.le_refl _
    exact I1.fpOk hc' (I1.hok.fresh hc')
end
theorem for_enum {K:PySem.W.Frag} {a:Addr} {xs:List V} {g:TG} {tb:TS} {D:Ends} {σ:St} {H:Hp} (Pv:Nat→St→Hp→Prop) (h0:Pv 0 σ H) (hl:∀ i σ H,i ≤ xs.length→Pv i σ H→SqL K H a xs)
    (hs:∀ i x T σ H,xs[i]? = some x→Pv i σ H→H T = none→g (.ref T) σ (upd H T (.tup [.int i,x])) fun σ2 H2=>tb { D with nx:=Pv (i + 1),ct:=Pv (i + 1),bk:=D.nx } σ2 H2) (hd:∀ σ H,Pv xs.length σ H→D.nx σ H) :
    ∃ W:Nat→Nat→St→Hp→Prop,(∃ m,W 0 m σ H)∧∀ i m σ H,W i m σ H →
      ((Ite K a).stop i H∧D.nx σ H) ∨ ((Ite K a).go i H∧∃ N:St→Hp→Prop,(∀ σ' H',N σ' H'→∃ m',m' < m∧W (i + 1) m' σ' H')∧∀ x H',(Ite K a).yld i H x H'→g x σ H' fun σ2 H2=>tb { D with nx:=N,ct:=N,bk:=D.nx } σ2 H2):=by
  refine ⟨fun i m σ H=>m = xs.length - i∧i ≤ xs.length∧Pv i σ H,⟨xs.length,by simp,Nat.zero_le _,h0⟩, ?_⟩
  rintro i m σ H ⟨rfl,hi,p⟩
  have q:=hl i σ H hi p
  by_cases hlt:i < xs.length
  · refine .inr ⟨⟨xs,xs[i],q,by simp [hlt]⟩,Pv (i + 1),fun σ' H' p'=>⟨xs.length - (i + 1),by omega,rfl,hlt,p'⟩,fun x H' y => ?_⟩
    obtain ⟨T,z,rfl,hT,rfl,y⟩:=y
    exact hs i z T σ H (y xs q) p hT
  · have e:i = xs.length:=by omega
    subst e
    exact .inl ⟨⟨xs,q,Nat.le_refl _⟩,hd σ H p⟩
noncomputable def clStep (env:Env) (cs:List (Str × Addr)) (p:Str × NameKind):List (Str × Addr):=if p.2 = .free then (match env.cells.lookup p.1 with | some c=>(p.1,c) :: cs | none=>cs) else cs
noncomputable def clOf (scope:Scope) (env:Env):List (Str × Addr):=scope.names.foldl (clStep env) []
noncomputable def compOk (scope:Scope) (env:Env):Bool :=
  scope.names.all (fun p=>p.2 != .cell) && scope.names.all (fun p=>p.2 != .local || scope.names.lookup p.1 == some .local) && scope.names.all (fun p=>p.2 != .free || (env.scope.names.lookup p.1 == some .cell || env.scope.names.lookup p.1 == some .free))
theorem closure_go {env:Env}:∀ (ns:List (Str × NameKind)) (cs:List (Str × Addr)),(∀ p ∈ ns,p.2 = .free→∃ c,env.cells.lookup p.1 = some c) →
    (forIn (m:=Sem) ns cs fun (p:Str × NameKind) (cs:List (Str × Addr))=>(if (p.2 == .free) = true then do
        let c ← cellOf env p.1
        pure (ForInStep.yield ((p.1,c) :: cs)) else pure (ForInStep.yield cs))) = pure (ns.foldl (clStep env) cs)
  | [],cs,_=>rfl
  | p :: ns,cs,h=>by
    rw [List.forIn_cons,List.foldl_cons]
    have ih:=closure_go (env:=env) ns
    have hr:∀ q ∈ ns,q.2 = .free→∃ c,env.cells.lookup q.1 = some c:=fun q hq=>h q (List.mem_cons_of_mem _ hq)
    by_cases hk:p.2 = .free
    · obtain ⟨c,e⟩:=h p List.mem_cons_self hk
      have e1:(p.2 == NameKind.free) = true:=by simp [hk]
      have e2:clStep env cs p = (p.1,c) :: cs:=by unfold clStep; rw [if_pos hk,e]
      have e3:cellOf env p.1 = pure c:=by unfold cellOf; rw [e]
      rw [if_pos e1,e3,e2]
      exact ih _ hr
    · have e1:¬ ((p.2 == NameKind.free) = true):=by simp [hk]
      have e2:clStep env cs p = cs:=by unfold clStep; rw [if_neg hk]
      rw [if_neg e1,e2]
      exact ih _ hr
theorem closure_is {scope:Scope} {env:Env} (h:∀ p ∈ scope.names,p.2 = .free→∃ c,env.cells.lookup p.1 = some c):closureFor scope env = pure (clOf scope env):=by
  have e:=closure_go (env:=env) scope.names [] h
  have e2:=congrArg (fun (z:Sem (List (Str × Addr)))=>z >>= fun s=>pure s) e
  exact e2
theorem cl_in {env:Env} {x:Str} {c:Addr}:∀ (ns:List (Str × NameKind)) (cs:List (Str × Addr)),(∀ y d,cs.lookup y = some d→env.cells.lookup y = some d)→(ns.foldl (clStep env) cs).lookup x = some c→env.cells.lookup x = some c
  | [],cs,h,e=>h x c e
  | p :: ns,cs,h,e=>by
    refine cl_in ns (clStep env cs p) (fun y d q => ?_) e
    unfold clStep at q
    split at q
    · split at q
      · rename_i c' ec
        rw [List.lookup_cons] at q
        split at q
        · rename_i he
          have:y = p.1:=by simpa using he
          subst this; rw [← q]; exact ec
        · exact h y d q
      · exact h y d q
    · exact h y d q
theorem cl_mono {env:Env} {x:Str} {c:Addr} (hx:env.cells.lookup x = some c):∀ (ns:List (Str × NameKind)) (cs:List (Str × Addr)),cs.lookup x = some c→(ns.foldl (clStep env) cs).lookup x = some c
  | [],cs,e=>e
  | p :: ns,cs,e=>by
    refine cl_mono hx ns (clStep env cs p) ?_
    unfold clStep
    split
    · split
      · rename_i c' ec
        rw [List.lookup_cons]
        split
        · rename_i he
          have:x = p.1:=by simpa using he
          subst this; rw [hx] at ec; exact ec.symm
        · exact e
      · exact e
    · exact e
theorem cl_has {env:Env} {x:Str} {c:Addr} (hx:env.cells.lookup x = some c):∀ (ns:List (Str × NameKind)) (cs:List (Str × Addr)),(x,NameKind.free) ∈ ns→(ns.foldl (clStep env) cs).lookup x = some c
  | [],cs,e=>by simp at e
  | p :: ns,cs,e=>by
    rcases List.mem_cons.mp e with e | e
    · subst e
      refine cl_mono hx ns _ ?_
      unfold clStep
      rw [if_pos rfl,hx]
      simp
    · exact cl_has hx ns _ e
theorem compOk_cell {scope:Scope} {env:Env} (h:compOk scope env = true):∀ p ∈ scope.names,p.2 ≠ .cell:=fun p hp=>by
  unfold compOk at h
  simp only [Bool.and_eq_true,List.all_eq_true] at h
  simpa using h.1.1 p hp
theorem compOk_local {scope:Scope} {env:Env} (h:compOk scope env = true):∀ p ∈ scope.names,p.2 = .local→scope.names.lookup p.1 = some .local:=fun p hp e=>by
  unfold compOk at h
  simp only [Bool.and_eq_true,List.all_eq_true] at h
  have:=h.1.2 p hp
  rw [e] at this
  simpa using this
theorem compOk_free {scope:Scope} {env:Env} (h:compOk scope env = true):∀ p ∈ scope.names,p.2 = .free→env.kindOf p.1 = some .cell ∨ env.kindOf p.1 = some .free:=fun p hp e=>by
  unfold compOk at h
  simp only [Bool.and_eq_true,List.all_eq_true] at h
  have:=h.2 p hp
  rw [e] at this
  simpa [Env.kindOf] using this
theorem lookup_relabel {env:Env}:∀ {names:List (Str × NameKind)} {x:Str} {k:NameKind},
    (names.map fun (n,k)=>if (k == NameKind.free && env.scope.kind == .function && env.kindOf n == some .cell) then (n,NameKind.cell) else (n,k)).lookup x = some k →
      names.lookup x = some k ∨ (names.lookup x = some .free∧k = .cell)
  | [],_,_,h=>by simp at h
  | (n,j) :: r,x,k,h=>by
    have ih:=@lookup_relabel env r x k
    rw [List.map_cons] at h
    by_cases hx:(x == n) = true
    · rw [List.lookup_cons,hx]
      by_cases hc:(j == NameKind.free && env.scope.kind == .function && env.kindOf n == some .cell) = true
      · simp only [hc,if_true] at h
        rw [List.lookup_cons,hx] at h
        have hj:j = .free:=by
          simp only [Bool.and_eq_true] at hc
          simpa using hc.1.1
        exact .inr ⟨by simp [hj],(Option.some.inj h).symm⟩
      · simp only [hc,if_false] at h
        have h':List.lookup x ((n,j) :: List.map (fun x=>if (x.snd == NameKind.free && env.scope.kind == ScopeKind.function && env.kindOf x.fst == some NameKind.cell) = true then (x.fst,NameKind.cell) else (x.fst,x.snd)) r) = some k:=by simpa using h
        rw [List.lookup_cons,hx] at h'
        exact .inl h'
    · have hx':(x == n) = false:=by simpa using hx
      rw [List.lookup_cons,hx']
      apply ih
      by_cases hc:(j == NameKind.free && env.scope.kind == .function && env.kindOf n == some .cell) = true
      · simp only [hc,if_true] at h
        rw [List.lookup_cons,hx'] at h
        exact h
      · have h':List.lookup x ((n,j) :: List.map (fun x=>if (x.snd == NameKind.free && env.scope.kind == ScopeKind.function && env.kindOf x.fst == some NameKind.cell) = true then (x.fst,NameKind.cell) else (x.fst,x.snd)) r) = some k:=by simpa [hc] using h
        rw [List.lookup_cons,hx'] at h'
        exact h'
theorem relabel_free {env:Env}:∀ {names:List (Str × NameKind)} {x:Str},names.lookup x = some .free →
    ∃ k,(names.map fun (n,k)=>if (k == NameKind.free && env.scope.kind == .function && env.kindOf n == some .cell) then (n,NameKind.cell) else (n,k)).lookup x = some k∧(k = .cell ∨ k = .free)
  | [],_,h=>by simp at h
  | (n,j) :: r,x,h=>by
    have ih:=@relabel_free env r x
    by_cases hx:(x == n) = true
    · rw [List.lookup_cons,hx] at h
      have hj:j = .free:=Option.some.inj h
      subst hj
      by_cases hc:(env.scope.kind == .function && env.kindOf n == some .cell) = true
      · refine ⟨.cell, ?_,.inl rfl⟩
        show List.lookup x ((if (NameKind.free == NameKind.free && env.scope.kind == .function && env.kindOf n == some .cell) = true then (n,NameKind.cell) else (n,NameKind.free)) :: _) = _
        rw [if_pos (by simpa using hc),List.lookup_cons,hx]
      · refine ⟨.free, ?_,.inr rfl⟩
        show List.lookup x ((if (NameKind.free == NameKind.free && env.scope.kind == .function && env.kindOf n == some .cell) = true then (n,NameKind.cell) else (n,NameKind.free)) :: _) = _
        rw [if_neg (by simpa using hc),List.lookup_cons,hx]
    · have hx':(x == n) = false:=by simpa using hx
      rw [List.lookup_cons,hx'] at h
      obtain ⟨k,e,hk⟩:=ih h
      refine ⟨k, ?_,hk⟩
      rw [List.map_cons]
      by_cases hc:(j == NameKind.free && env.scope.kind == .function && env.kindOf n == some .cell) = true
      · simp only [hc,if_true,List.lookup_cons,hx']
        exact e
      · show List.lookup x ((if (j == NameKind.free && env.scope.kind == .function && env.kindOf n == some .cell) = true then (n,NameKind.cell) else (n,j)) :: _) = _
        rw [if_neg hc,List.lookup_cons,hx']
        exact e
noncomputable def Cx.comp (X:Cx) (scope:Scope) (C:Addr) (s₀:Shared) (H₀:Hp) (fp:List Addr) (N':List Str) (E':Value→Shared→Prop):Cx :=
  { X with N:=N',s₀:=s₀,H₀:=H₀,env:=compEnvC scope (clOf scope X.env) C X.env,outer:=X.stack,ex:=fp,fn:=fun _=>false,pn:=[],xe:=E' }
noncomputable def caps (cap:List Nat) (σ:St):St:=cap.map fun j=>(σ[j]?).join
noncomputable def capOk (X:Cx) (scope:Scope) (N':List Str) (nt:Nat) (cap:List Nat):Bool :=
  (N'.length == nt + cap.length) && ((List.range cap.length).all fun j=>match cap[j]?,N'[nt + j]? with
    | some i,some x=>X.N[i]? == some x && scope.names.lookup x == some .free
    | _,_=>false)
section
variable {X:Cx}
theorem capOk_get {scope:Scope} {N':List Str} {nt:Nat} {cap:List Nat} (h:capOk X scope N' nt cap = true):N'.length = nt + cap.length∧∀ j i,cap[j]? = some i→∃ x,N'[nt + j]? = some x∧X.N[i]? = some x∧scope.names.lookup x = some .free:=by
  unfold capOk at h
  simp only [Bool.and_eq_true,List.all_eq_true,beq_iff_eq] at h
  refine ⟨h.1,fun j i e => ?_⟩
  have hj:j < cap.length:=(List.getElem?_eq_some_iff.mp e).1
  have q:=h.2 j (List.mem_range.mpr hj)
  rw [e] at q
  cases q2:N'[nt + j]? with
  | none=>rw [q2] at q; simp at q
  | some x =>
    rw [q2] at q
    simp only [Bool.and_eq_true,beq_iff_eq] at q
    exact ⟨x,rfl,q.1,q.2⟩
theorem comp_start {pins:List (Addr × Obj)} {σ:St} {H:Hp} {s3:Shared} {scope:Scope} {fp:List Addr} {N':List Str} {nt:Nat} {cap:List Nat} {h4:Heap} {t4:Nat} {E':Value→Shared→Prop} {m:Str→Option Value}
    (I:Inv X pins σ H s3) (hk:scope.kind = .function) (hb:compOk scope X.env = true) (hc:capOk X scope N' nt cap = true) (hf:∀ b ∈ fp,FpOk X pins H b) (hfl:∀ b ∈ fp,b < s3.heap.objs.size)
    (hn:h4.Ns s3.heap.objs.size m) (kp:∀ b o,s3.heap.get? b = some o→h4.get? b = some o) :
    Inv (X.comp scope s3.heap.objs.size s3 H fp N' E') [] (List.replicate nt none ++ caps cap σ) H { s3 with heap:=h4,toks:=t4 }:=by
  obtain ⟨hlen,hcap⟩:=capOk_get hc
  have cin:∀ x c,(clOf scope X.env).lookup x = some c→X.env.cells.lookup x = some c:=fun x c e=>cl_in scope.names [] (fun y d q=>by simp at q) e
  have kin:∀ x,((X.comp scope s3.heap.objs.size s3 H fp N' E').env.kindOf x = some .cell ∨ (X.comp scope s3.heap.objs.size s3 H fp N' E').env.kindOf x = some .free)→scope.names.lookup x = some .free:=fun x hx=>by
    have one:∀ k,(k = NameKind.cell ∨ k = NameKind.free)→(X.comp scope s3.heap.objs.size s3 H fp N' E').env.kindOf x = some k→scope.names.lookup x = some .free:=fun k hk' e=>by
      rcases lookup_relabel (env:=X.env) (names:=scope.names) (x:=x) (k:=k) e with z | z
      · rcases hk' with rfl | rfl
        · exact absurd rfl (compOk_cell hb _ (PySem.mem_of_lookup z))
        · exact z
      · exact z.1
    rcases hx with hx | hx
    · exact one _ (.inl rfl) hx
    · exact one _ (.inr rfl) hx
  have has:∀ x,scope.names.lookup x = some .free→∃ c,X.env.cells.lookup x = some c∧(clOf scope X.env).lookup x = some c:=fun x hx=>by
    have hm:=PySem.mem_of_lookup hx
    obtain ⟨c,e⟩:=I.ok.has x (compOk_free hb _ hm rfl)
    exact ⟨c,e,cl_has e _ _ hm⟩
  refine ⟨⟨I.ok.mod,hk,I.ok.glob,I.ok.blt,Nat.le_refl _,fun x y c e1 e2=>I.ok.inj x y c (cin x c e1) (cin y c e2),fun x hx => ?_,fun x c z _=>absurd z Bool.false_ne_true,I.ok.hd,I.ok.frames,.inl rfl,fun b hb'=>⟨Nat.ne_of_lt (hfl b hb'),fun x c e=>(hf b hb').2.2.2.2.1 x c (cin x c e)⟩,
    I.bs,Nat.le_trans I.ok.bsz I.sz,fun b o e hb' => ?_,fun b hb' hs => ?_,I.stack,I.stkFree⟩,rfl,I.bare,Un.kept kp,⟨m,hn,fun i x v h1 h2 h3 => ?_⟩,fun x c e => ?_,I.hok.fresh (Nat.le_refl _),fun x c e=>I.freeC x c (cin x c e),fun p hp=>absurd hp (by simp [Cx.comp]),I.hok.kept kp, ?_⟩
  · obtain ⟨c,_,e⟩:=has x (kin x hx)
    exact ⟨c,e⟩
  · rcases (hf b hb').2.2.2.1 with z | z
    · exact I.ok.noex b o e z
    · exact absurd (Nat.lt_of_lt_of_le (Heap.lt_size e) (Nat.le_trans I.ok.bsz z)) (Nat.lt_irrefl _)
  · rcases List.mem_cons.mp (I.stkSub b hs) with z | z
    · exact (hf b hb').2.1 z
    · exact (hf b hb').2.2.1 z
  · have hge:nt ≤ i:=by
      by_cases hlt:i < nt
      · rw [List.getElem?_append_left (by simpa using hlt),List.getElem?_replicate] at h2
        split at h2 <;> cases h2
      · omega
    obtain ⟨j,rfl⟩:∃ j,i = nt + j:=⟨i - nt,by omega⟩
    rw [List.getElem?_append_right (by simp),List.length_replicate,Nat.add_sub_cancel_left] at h2
    unfold caps at h2
    rw [List.getElem?_map] at h2
    cases ej:cap[j]? with
    | none=>rw [ej] at h2; cases h2
    | some i' =>
      rw [ej] at h2
      have h2':(σ[i']?).join = some v:=Option.some.inj h2
      obtain ⟨x',e1,e2,e3⟩:=hcap j i' ej
      have:x' = x:=by
        have h1':N'[nt + j]? = some x:=h1
        rw [e1] at h1'; exact Option.some.inj h1'
      subst this
      have hσ:σ[i']? = some (some v):=by
        cases q:σ[i']? with
        | none=>rw [q] at h2'; cases h2'
        | some o=>rw [q] at h2'; exact congrArg some h2'
      have hkx:=compOk_free hb _ (PySem.mem_of_lookup e3) rfl
      obtain ⟨m',hn',hl'⟩:=I.loc
      obtain ⟨u,ru,lk⟩:=hl' i' x' v e2 hσ (hkx.elim (fun z=>.inr (.inl z)) fun z=>.inr (.inr z))
      refine ⟨u,ru,.inr ⟨?_, ?_⟩⟩
      · obtain ⟨k,ek,hk'⟩:=relabel_free (env:=X.env) e3
        rcases hk' with rfl | rfl
        · exact .inl ek
        · exact .inr ek
      · rcases lk with ⟨kl,_⟩ | ⟨_,c,ec,icell⟩
        · rcases hkx with z | z <;> (rw [kl] at z; cases z)
        · exact ⟨c,cl_has ec _ _ (PySem.mem_of_lookup e3),icell.keeps kp⟩
  · obtain ⟨v,z⟩:=I.cell x c (cin x c e)
    exact ⟨v,z.keeps kp⟩
  · show (List.replicate nt none ++ caps cap σ).length = N'.length
    rw [hlen]
    simp [caps]
end
end L2
namespace L2
open PySem PySem.Spec PyProof.Rows
section
variable {prog:Program} {w:World} {A:Around} {E:Value→Shared→Prop} {R:Result→Shared→Prop} {s:Shared}
theorem compLoop_gen {elt target iter:Expr} {ifs:List Expr} {scope:Scope} {pos:Pos} {it acc:Value} {env:Env} (I:Nat→Shared→Prop)
    (turn:∀ n s,I n s→wpAny (model prog w) A (pyNext it) (fun r s₁=>match r with
      | none=>R (.ok .next) s₁
      | some v=>wpAny (model prog w) A (letOwnedTupleGo target it v) (fun _ s₁'=>wpAny (model prog w) A (assign target env v) (fun _ s₂ =>
          wpAny (model prog w) A (forIn ifs true fun c r=>if r = true then do let ok ← isTrue c env (eval c env); pure (ForInStep.yield ok) else pure (ForInStep.yield r)) (fun ok s₃ =>
            if ok = true then wpAny (model prog w) A (eval elt env) (fun x s₄ =>
              wpAny (model prog w) A (call (.builtin "list.append") [acc,x]) (fun _ s₅=>∃ m,m < n∧I m s₅) (notedBy (model prog w) A env fun e s'=>R (.error e) s') s₄) (notedBy (model prog w) A env fun e s'=>R (.error e) s') s₃
            else ∃ m,m < n∧I m s₃) (notedBy (model prog w) A env fun e s'=>R (.error e) s') s₂) (notedBy (model prog w) A env fun e s'=>R (.error e) s') s₁') (notedBy (model prog w) A env fun e s'=>R (.error e) s') s₁) (notedBy (model prog w) A env fun e s'=>R (.error e) s') s)
    (n:Nat) (h:I n s):codeAny (model prog w) A (.compLoop (.ListComp elt [⟨target,iter,ifs,0⟩] scope pos) 0 it acc env) R s:=by
  refine codeAny_loop rfl I (fun n s hI => ?_) n h
  show wpAny _ A ((compTurn (.ListComp elt [⟨target,iter,ifs,0⟩] scope pos) 0 it acc env).onRaise (fun x=>do noteFrame x env; theTreesLotGoes x)) _ _ s
  refine wpAny_noted ?_
  rw [compTurn_list]
  refine wpAny_bind (wpAny_standAt (wpAny_bind (wpAny_mono (turn n s hI) (fun r s₁ h₁ => ?_) fun _ _ h'=>h')))
  cases r with
  | none=>exact wpAny_pure h₁
  | some v =>
    refine wpAny_bind (wpAny_mono h₁ (fun _ s₁' h₁' => ?_) fun _ _ h'=>h')
    refine wpAny_bind (wpAny_mono h₁' (fun _ s₂ h₂=>wpAny_bind (wpAny_mono h₂ (fun ok s₃ h₃ => ?_) fun _ _ h'=>h')) fun _ _ h'=>h')
    cases ok with
    | false=>exact wpAny_pure ⟨rfl,h₃⟩
    | true =>
      exact wpAny_bind (wpAny_bind (wpAny_mono h₃ (fun x s₄ h₄=>wpAny_bind (wpAny_mono h₄ (fun _ s₅ h₅=>wpAny_pure (wpAny_pure ⟨rfl,h₅⟩)) fun _ _ h'=>h')) fun _ _ h'=>h'))
end
structure PIf (X:Cx) (ifs:List Expr) (t:TT):Prop where
  run :
  ∀ (pins:List (Addr × Obj)) (s:Shared) (σ:St) (H:Hp) (Q:Bool→Hp→Prop),Inv X pins σ H s→t σ H Q →
    wpAny (model X.prog X.w) X.A (forIn ifs true fun c r=>if r = true then do let ok ← isTrue c X.env (eval c X.env); pure (ForInStep.yield ok) else pure (ForInStep.yield r)) (TP X pins σ Q) X.xe s
noncomputable instance {X:Cx} {ifs:List Expr} {t:TT}:CoeFun (PIf X ifs t) (fun _ =>
  ∀ (pins:List (Addr × Obj)) (s:Shared) (σ:St) (H:Hp) (Q:Bool→Hp→Prop),Inv X pins σ H s→t σ H Q →
    wpAny (model X.prog X.w) X.A (forIn ifs true fun c r=>if r = true then do let ok ← isTrue c X.env (eval c X.env); pure (ForInStep.yield ok) else pure (ForInStep.yield r)) (TP X pins σ Q) X.xe s
  ):=⟨fun h=>h.run⟩
noncomputable def tYes:TT:=fun _ H Q=>Q true H
noncomputable def CompW (J:It) (D:Addr) (nt:Nat) (cap:List Nat) (g:TG) (ti:TT) (te:TE) (σ:St) (H1:Hp) (Q:VK):Prop:=∃ W:Nat→Nat→List V→Hp→Prop,(∃ m,W 0 m [] (upd H1 D (.lst []))) ∧
  ∀ i m ys H2,W i m ys H2→H2 D = some (.lst ys)∧((J.stop i H2∧Q (.ref D) H2) ∨ (J.go i H2∧ys.length < sizeLine∧∀ x H3,J.yld i H2 x H3→g x (List.replicate nt none ++ caps cap σ) H3 fun σ4 H4=>ti σ4 H4 fun b H5 =>
    if b = true then te σ4 H5 fun y H6=>H6 D = some (.lst ys)∧∃ m',m' < m∧W (i + 1) m' (ys ++ [y]) (upd H6 D (.lst (ys ++ [y]))) else ∃ m',m' < m∧W (i + 1) m' ys H5))
noncomputable def tComp (wi:TI) (nt:Nat) (cap:List Nat) (g:TG) (ti:TT) (te:TE):TE:=fun σ H Q=>wi σ H fun J H1=>∀ D,H1 D = none→CompW J D nt cap g ti te σ H1 Q
noncomputable def GKeeps (nt:Nat) (g:TG):Prop:=∀ (x:V) (c:St) (H:Hp) (Q:St→Hp→Prop),g x (List.replicate nt none ++ c) H Q →
  g x (List.replicate nt none ++ c) H fun σ' H'=>Q σ' H'∧∀ (j:Nat) v,(List.replicate nt none ++ c)[j]? = some (some v)→σ'[j]? = some (some v)
theorem gk1:GKeeps 1 (gName 0):=fun x c H Q h=>⟨h,fun j v e=>by
  cases j with
  | zero=>simp at e
  | succ j=>simpa using e⟩
theorem gk2 {K:PySem.W.Frag}:GKeeps 2 (gTup K 2 (gCons (gName 0) (gCons (gName 1) gNil))):=fun x c H Q h=>by
  obtain ⟨a,xs,e1,hq,hl,v,r,e2,v',r',e3,e4,h⟩:=h
  refine ⟨a,xs,e1,hq,hl,v,r,e2,v',r',e3,e4,h,fun j v e => ?_⟩
  match j,e with
  | 0,e=>simp [List.replicate] at e
  | 1,e=>simp [List.replicate] at e
  | j + 2,e=>simpa [List.replicate,List.set] using e
section
variable {X:Cx}
theorem pif_nil:PIf X [] tYes := .mk <| fun _ _ _ H _ I h=>wpAny_tests_nil ⟨H,I,h⟩
theorem pif_one {c:Expr} {t:TT} (h:PT X c t):PIf X [c] t := .mk <| fun pins s σ H Q I hw=>wpAny_tests_one (h pins s σ H Q I hw)
theorem comp_back {pins pins':List (Addr × Obj)} {σ σ':St} {H H':Hp} {s3 s':Shared} {scope:Scope} {fp:List Addr} {N':List Str} {E':Value→Shared→Prop}
    (I3:Inv X pins σ H s3) (hf:∀ b ∈ fp,FpOk X pins H b) (I':Inv (X.comp scope s3.heap.objs.size s3 H fp N' E') pins' σ' H' s'):Inv X pins σ H' s':=by
  refine I3.call' (ch:=fp) I'.os I'.base I'.hok I'.bare fun b hb => ?_
  obtain ⟨f0,f1,f2,f3,f4,f5⟩:=hf b hb
  exact ⟨f3,f1,f4,f5⟩
theorem comp_core {elt tg iter:Expr} {ifs:List Expr} {scope:Scope} {pos:Pos} {N':List Str} {nt:Nat} {cap:List Nat} {wi:TI} {g:TG} {ti:TT} {te:TE}
    (EK:Addr→Shared→Hp→List Addr→(Value→Shared→Prop)→Prop)
    (hE:∀ (pins:List (Addr × Obj)) (σ:St) (s3:Shared) (H3:Hp) (fp:List Addr) (Q:VK) (D:Addr),Inv X pins σ H3 s3→(∀ b ∈ fp,FpOk X pins H3 b) →
      EK s3.heap.objs.size s3 H3 fp (notedBy (model X.prog X.w) X.A (compEnvC scope (clOf scope X.env) s3.heap.objs.size X.env) fun e s'=>compPost (model X.prog X.w) X.A X.xe none (EP X pins σ Q) (.ref D) s3.heap.objs.size (.error e) s'))
    (hc:X.calm = true) (hi:PI X tg iter wi)
    (hg:∀ C s₀ H₀ fp E',EK C s₀ H₀ fp E'→PG (X.comp scope C s₀ H₀ fp N' E') tg g)
    (hif:∀ C s₀ H₀ fp E',EK C s₀ H₀ fp E'→PIf (X.comp scope C s₀ H₀ fp N' E') ifs ti)
    (he:∀ C s₀ H₀ fp E',EK C s₀ H₀ fp E'→PE (X.comp scope C s₀ H₀ fp N' E') elt te)
    (hk:scope.kind = .function) (hb:compOk scope X.env = true) (hcap:capOk X scope N' nt cap = true)
    (hgk:GKeeps nt g) (hs:∀ x,foldedSetIterable iter X.env x = pure x):PE X (.ListComp elt [⟨tg,iter,ifs,0⟩] scope pos) (tComp wi nt cap g ti te) := .mk <| by
  intro pins s σ H Q I h
  rw [eval_ListComp]
  have hclos:closureFor scope X.env = pure (clOf scope X.env):=closure_is fun p hp e=>I.ok.has p.1 (compOk_free hb p hp e)
  refine wpAny_comprehension_free (use:=none) rfl hs hclos hk (compOk_local hb) (thn (hi pins s σ H _ I h) fun v s1 h1=>thn h1 fun itv s2 h2 => ?_)
  obtain ⟨it,fp,tn,J,H2,e,I2,T,st2,f2,q2⟩:=h2
  subst e
  refine wpAny_newObj_type (wpAny_newFunctionEnv (compOk_cell hb) (by intro y hy; simp at hy) (fun h₁ hns₁ hsb₁ => ?_) hk)
  have I3:=I2.lnew (ys:=[]) (its:=[]) (t':=s2.toks) .nil (Nat.zero_le _)
  have hfl:∀ b ∈ fp,b < s2.heap.objs.size:=fun b hb'=>let ⟨o,e,_⟩:=T.obj 0 _ st2 b hb'; Heap.lt_size e
  obtain ⟨W,⟨m0,w0⟩,turn⟩:=q2 s2.heap.objs.size (I2.hok.fresh (Nat.le_refl _))
  have nD:∀ b ∈ fp,b ≠ s2.heap.objs.size:=fun b hb'=>Nat.ne_of_lt (hfl b hb')
  have f3:∀ b ∈ fp,FpOk X pins (upd H2 s2.heap.objs.size (.lst [])) b:=fun b hb'=>⟨by rw [upd_ne (nD b hb')]; exact (f2 b hb').1,(f2 b hb').2⟩
  obtain ⟨s3,hs3⟩:∃ s3:Shared,s3 = { s2 with heap:=s2.heap.push { cls := .type "list",data := .seq ([]:List Value).toArray },toks:=s2.toks }:=⟨_,rfl⟩
  have hs3':s3.heap = s2.heap.push { cls := .type "list",data := .seq ([]:List Value).toArray }:=by rw [hs3]
  rw [← hs3] at I3
  have hsz:s3.heap.objs.size = s2.heap.objs.size + 1:=by rw [hs3',Heap.size_push]
  have hfl3:∀ b ∈ fp,b < s3.heap.objs.size:=fun b hb'=>by rw [hsz]; exact Nat.lt_succ_of_lt (hfl b hb')
  have hC:(s2.heap.push { cls:=Value.type "list",dict:=none,data:=Data.seq ([]:List Value).toArray }).objs.size = s3.heap.objs.size:=by rw [hs3']
  dsimp only at hns₁ hsb₁ ⊢
  rw [hC] at hns₁ hsb₁ ⊢
  rw [← hs3'] at hsb₁
  have kp:∀ b o,s3.heap.get? b = some o→h₁.get? b = some o:=fun b o e=>hsb₁.extBut b o (Nat.ne_of_lt (Heap.lt_size e)) (Heap.get?_push_of_some _ e)
  have hEE:=hE pins σ s3 _ fp Q s2.heap.objs.size I3 f3
  generalize hE':(notedBy (model X.prog X.w) X.A (compEnvC scope (clOf scope X.env) s3.heap.objs.size X.env) fun e s'=>compPost (model X.prog X.w) X.A X.xe none (EP X pins σ Q) (.ref s2.heap.objs.size) s3.heap.objs.size (.error e) s') = E' at hEE
  have I4:=comp_start (t4:=s2.toks + ([]:List (Str × Value)).length) (E':=E') I3 hk hb hcap f3 hfl3 hns₁ kp
  have st4:tn 0 h₁:=T.keep 0 _ _ st2 fun b hb' o e=>kp b o (by rw [hs3']; exact Heap.get?_push_of_some _ e)
  obtain ⟨s4,hs4⟩:∃ s4:Shared,s4 = { s3 with heap:=h₁,toks:=s2.toks + ([]:List (Str × Value)).length }:=⟨_,rfl⟩
  rw [← hs4] at I4
  have st4':tn 0 s4.heap:=by rw [hs4]; exact st4
  have cin:∀ x c,(clOf scope X.env).lookup x = some c→X.env.cells.lookup x = some c:=fun x c e=>cl_in scope.names [] (fun y d q=>by simp at q) e
  have stat:∀ {H':Hp},(∀ b ∈ fp,H' b = none)→∀ b ∈ fp,FpOk (X.comp scope s3.heap.objs.size s3 (upd H2 s2.heap.objs.size (.lst [])) fp N' E') [] H' b:=fun hn b hb'=>by
    refine ⟨hn b hb',Nat.ne_of_lt (hfl3 b hb'),fun z => ?_,.inl hb',fun x c e=>(f3 b hb').2.2.2.2.1 x c (cin x c e),fun p hp=>absurd hp (by simp [Cx.comp])⟩
    rcases List.mem_cons.mp (I3.stkSub b z) with z | z
    · exact (f3 b hb').2.1 z
    · exact (f3 b hb').2.2.1 z
  have loop:codeAny (model X.prog X.w) X.A (.compLoop (.ListComp elt [⟨tg,iter,ifs,0⟩] scope pos) 0 (.ref it) (.ref s2.heap.objs.size) (compEnvC scope (clOf scope X.env) s3.heap.objs.size X.env))
      (compPost (model X.prog X.w) X.A X.xe none (EP X pins σ Q) (.ref s2.heap.objs.size) s3.heap.objs.size) s4:=by
    refine compLoop_gen (fun n s'=>∃ i ys H',Inv (X.comp scope s3.heap.objs.size s3 (upd H2 s2.heap.objs.size (.lst [])) fp N' E') [] (List.replicate nt none ++ caps cap σ) H' s'∧tn i s'.heap∧(∀ b ∈ fp,H' b = none)∧W i n ys H') ?_ m0
      ⟨0,[],_,I4,st4',fun b hb'=>(f3 b hb').1,w0⟩
    rintro n s5 ⟨i,ys,H5,I5,st5,fr5,w5⟩
    rw [hE']
    obtain ⟨hD5,alt⟩:=turn i n ys H5 w5
    rcases alt with ⟨stop,qn⟩ | ⟨go,hyl,step⟩
    · refine thn (T.done (X.comp scope s3.heap.objs.size s3 (upd H2 s2.heap.objs.size (.lst [])) fp N' E') rfl rfl rfl hc i [] s5 _ H5 E' I5 (stat fr5) st5 stop) fun r s6 ⟨hr,I6⟩ => ?_
      subst hr
      obtain ⟨m6,hn6,_⟩:=I6.loc
      refine ⟨m6,hn6,fun h' hsb' => ?_⟩
      have I7:=comp_back I3 f3 I6
      refine ⟨.ref s2.heap.objs.size,H5, ?_,rfl,qn⟩
      refine I7.turnedL (ch:=[s3.heap.objs.size]) (t':=s6.toks) (fun b hb' => ?_) fun b u hb' e=>(hsb'.2 b fun z=>hb' (by simp [z])).trans e
      have eb:b = s3.heap.objs.size:=by simpa using hb'
      subst eb
      exact I3.fpOk (Nat.le_refl _) I6.free
    · refine thn (T.item (X.comp scope s3.heap.objs.size s3 (upd H2 s2.heap.objs.size (.lst [])) fp N' E') rfl rfl rfl hc i [] s5 _ H5 E' I5 (stat fr5) st5 go) fun r s6 ⟨u,hr,h6⟩ => ?_
      subst hr
      refine thn h6 fun _ s7 ⟨x,H7,I7,r7,y7,st7,fr7⟩ => ?_
      have I7':=I7.pinned (stat fr7) (T.obj _ _ st7)
      have again:∀ {σ8:St} {H8:Hp} {ys':List V} {s8:Shared},Inv (X.comp scope s3.heap.objs.size s3 (upd H2 s2.heap.objs.size (.lst [])) fp N' E') ([] ++ pinsAt fp s7.heap) σ8 H8 s8→(∃ m',m' < n∧W (i + 1) m' ys' H8)→(∀ (j:Nat) v,(List.replicate nt none ++ caps cap σ)[j]? = some (some v)→σ8[j]? = some (some v)) →
          ∃ m,m < n∧∃ i ys H',Inv (X.comp scope s3.heap.objs.size s3 (upd H2 s2.heap.objs.size (.lst [])) fp N' E') [] (List.replicate nt none ++ caps cap σ) H' s8∧tn i s8.heap∧(∀ b ∈ fp,H' b = none)∧W i m ys H':=fun {σ8 H8 ys' s8} I8 ⟨m',hm,w8⟩ hσ=>by
        refine ⟨m',hm,i + 1,ys',H8,I8.unpinned.weak (by rw [I8.len,I5.len]) hσ,T.keep _ _ _ st7 fun b hb o e=>(I8.pin (b,o) (List.mem_append_right _ (List.mem_append_right _ (mem_pinsAt hb e)))).1,fun b hb => ?_,w8⟩
        obtain ⟨o,e,d⟩:=T.obj _ _ st7 b hb
        exact (I8.pin (b,o) (List.mem_append_right _ (List.mem_append_right _ (mem_pinsAt hb e)))).2.1
      refine thn (hg _ _ _ _ _ hEE _ s7 _ H7 x u _ I7' r7 (hgk x _ H7 _ (step x H7 y7))) fun _ s8 ⟨σ8,H8,I8,q8,hσ⟩ => ?_
      refine thn (hif _ _ _ _ _ hEE _ s8 σ8 H8 _ I8 q8) fun ok s9 ⟨H9,I9,q9⟩ => ?_
      cases ok with
      | false =>
        rw [if_neg Bool.false_ne_true] at q9 ⊢
        exact again I9 q9 hσ
      | true =>
        rw [if_pos rfl] at q9 ⊢
        refine thn (he _ _ _ _ _ hEE _ s9 σ8 H9 _ I9 q9) fun y s10 ⟨vy,H10,I10,r10,hD10,hm10⟩ => ?_
        exact thn (mt_append (X:=X.comp scope s3.heap.objs.size s3 (upd H2 s2.heap.objs.size (.lst [])) fp N' E') _ s10 σ8 H10 (.ref s2.heap.objs.size) [vy] (.ref s2.heap.objs.size) [y] (fun _ H'=>H' = upd H10 s2.heap.objs.size (.lst (ys ++ [vy]))) I10 rfl (.cons r10 .nil) ⟨_,_,_,rfl,rfl,hD10,hyl,rfl⟩) fun _ s11 ⟨_,H11,I11,_,e11⟩=>by
          subst e11
          exact again I11 hm10 hσ
  have e4:({ s2 with heap:=h₁,toks:=s2.toks + ([]:List (Str × Value)).length }:Shared) = s4:=by rw [hs4,hs3]
  show codeAny _ _ _ _ { s2 with heap:=h₁,toks:=s2.toks + ([]:List (Str × Value)).length }
  rw [e4]
  exact codeAny_compStart_list loop (T.self X.A 0 s4 _ _ st4' loop)
theorem pe_comp {elt tg iter:Expr} {ifs:List Expr} {scope:Scope} {pos:Pos} {wi:TI} {g:TG} {ti:TT} {te:TE} (N':List Str) (nt:Nat) (cap:List Nat)
    (hc:X.calm = true) (hi:PI X tg iter wi) (hgk:GKeeps nt g)
    (hg:∀ C s₀ H₀ fp E',PG (X.comp scope C s₀ H₀ fp N' E') tg g)
    (hif:∀ C s₀ H₀ fp E',PIf (X.comp scope C s₀ H₀ fp N' E') ifs ti)
    (he:∀ C s₀ H₀ fp E',PE (X.comp scope C s₀ H₀ fp N' E') elt te)
    (hk:scope.kind = .function:=by rfl) (hb:compOk scope X.env = true:=by rfl) (hcap:capOk X scope N' nt cap = true:=by rfl)
    (hs:∀ x,foldedSetIterable iter X.env x = pure x:=by intro _; rfl):PE X (.ListComp elt [⟨tg,iter,ifs,0⟩] scope pos) (tComp wi nt cap g ti te) :=
  comp_core (fun _ _ _ _ _=>True) (fun _ _ _ _ _ _ _ _ _=>trivial) hc hi (fun C s₀ H₀ fp E' _=>hg C s₀ H₀ fp E') (fun C s₀ H₀ fp E' _=>hif C s₀ H₀ fp E') (fun C s₀ H₀ fp E' _=>he C s₀ H₀ fp E') hk hb hcap hgk hs
end
theorem comp_range {lo:Int} {n:Nat} {nt:Nat} {cap:List Nat} {g:TG} {te:TE} {σ:St} {H1:Hp} {Q:VK} {D:Addr} (f:Nat→V) (hx:n ≤ sizeLine)
    (step:∀ (i:Nat) H2 (R:VK),i < n→(∀ y,y = f i→R y H2)→g (.int (lo + i)) (List.replicate nt none ++ caps cap σ) H2 fun σ4 H4=>te σ4 H4 R)
    (fin:Q (.ref D) (upd H1 D (.lst ((List.range n).map f)))) :
    CompW (Itr lo n) D nt cap g tYes te σ H1 Q:=by
  refine ⟨fun i m ys H2=>m = n - i∧i ≤ n∧ys = (List.range i).map f∧H2 = upd H1 D (.lst ys),⟨_,rfl,Nat.zero_le _,rfl,rfl⟩, ?_⟩
  rintro i m ys H2 ⟨rfl,hi,rfl,rfl⟩
  refine ⟨upd_same, ?_⟩
  by_cases hlt:i < n
  · refine .inr ⟨hlt,by simp; omega,fun v H3 ⟨e,ev⟩ => ?_⟩
    subst e ev
    have hst:=step i _ (fun y H6=>H6 D = some (.lst ((List.range i).map f))∧∃ m',m' < n - i∧(m' = n - (i + 1)∧i + 1 ≤ n∧(List.range i).map f ++ [y] = (List.range (i + 1)).map f∧upd H6 D (.lst ((List.range i).map f ++ [y])) = upd H1 D (.lst ((List.range i).map f ++ [y])))) hlt
      (fun y ey=>⟨upd_same,_,by omega,rfl,hlt,by rw [List.range_succ,List.map_append,ey]; rfl,upd_upd⟩)
    simp only [tYes,if_true]
    exact hst
  · have e:i = n:=by omega
    subst e
    exact .inl ⟨Nat.le_refl _,fin⟩
end L2
namespace L2
open PySem PySem.Spec PyProof.Rows
section
variable {X:Cx}
theorem strsAre_of:∀ {ys:List Str} {us:List Value},Vals (ys.map V.str) us→StrsAre us ys:=by
  intro ys
  induction ys with
  | nil=>intro us r; cases r; exact .nil
  | cons y ys ih =>
    intro us r
    cases r with
    | cons h t =>
      obtain ⟨k,rfl⟩:=h
      exact .cons y k (ih t)
noncomputable def rJoin (K:PySem.W.Frag):V→List V→Hp→VK→Prop:=fun x xs H Q=>∃ z p ys,x = .str z∧xs = [.ref p]∧SqL K H p (ys.map V.str)∧(ys.map (·.length)).sum + ys.length * z.length ≤ 16777216∧Q (.str (Txt.join z ys)) H
theorem mt_join:MtR X "str.join" (rJoin X.K):=by
  intro pins s σ H x xs v us Q I rx rv h
  obtain ⟨z,p,ys,rfl,rfl,hq,hl,q⟩:=h
  obtain ⟨t,rfl⟩:=rx
  obtain ⟨u,rfl,ru⟩:=rv.one
  cases ru
  obtain ⟨its,r,pl,_⟩:=I.list hq
  exact join_list pl.isList (strsAre_of r) hl fun t' k=>⟨.str (Txt.join z ys),H,I.tok k,⟨t',rfl⟩,q⟩
noncomputable def rUpper:V→List V→Hp→VK→Prop:=fun x xs H Q=>∃ z,x = .str z∧xs = []∧Builtin.Str.tooLong (Txt.upper z).length = false∧Q (.str (Txt.upper z)) H
theorem mt_upper:MtR X "str.upper" rUpper:=by
  intro pins s σ H x xs v us Q I rx rv h
  obtain ⟨z,rfl,rfl,hl,q⟩:=h
  obtain ⟨t,rfl⟩:=rx
  cases rv.zero
  exact SC.upper hl ⟨.str (Txt.upper z),H,I.tok _,⟨_,rfl⟩,q⟩
end
end L2
namespace L2
open PySem PySem.Spec PyProof.Rows
noncomputable def okHO:HO→Prop
  | .dT _=>False
  | .frz _ (.lst _)=>True
  | .frz _ _=>False
  | _=>True
noncomputable def Plain (H:Hp):Prop:=∀ a o,H a = some o→okHO o
theorem Plain.upd {H:Hp} {l:Addr} {o:HO} (p:Plain H) (h:okHO o):Plain (upd H l o):=fun a u e=>by
  by_cases ha:a = l
  · subst ha; rw [upd_same] at e; cases e; exact h
  · rw [upd_ne ha] at e; exact p a u e
theorem Plain.lst {H:Hp} {l:Addr} {xs:List V} (p:Plain H):Plain (L2.upd H l (.lst xs)):=p.upd trivial
theorem Plain.tup {H:Hp} {l:Addr} {xs:List V} (p:Plain H):Plain (L2.upd H l (.tup xs)):=p.upd trivial
theorem Only.plain {H:Hp} (h:Only H):Plain H:=fun a o e=>by
  rcases h a with z | ⟨o',xs,z⟩
  · rw [z] at e; cases e
  · rw [z] at e; cases e; exact trivial
structure Cut (H H' H'':Hp):Prop where
  sub:∀ b o,H'' b = some o→H' b = some o
  old:∀ b o,H b = some o→H'' b = H' b
  ins:∀ a C dx fs,H'' a = some (.ins C dx fs)→H'' dx = some (.own a)
  plain:Plain H''
theorem Cut.un {fs:List Addr} {H H' H'':Hp} {h h':Heap} (c:Cut H H' H'') (u:Un fs [] H H' h h'):Un fs [] H H'' h h' where
  keep:=u.keep
  slot:=u.slot
  free:=fun b o e n hx=>by
    have:=u.free b o e n hx
    cases q:H'' b with
    | none=>rfl
    | some z=>rw [c.sub b z q] at this; cases this
  there:=u.there
  tups:=fun b xs e=>by rw [c.old b _ e]; exact u.tups b xs e
  frzs:=fun b o z e=>by rw [c.old b _ e]; exact u.frzs b o z e
  tbls:=fun b ps e=>by rw [c.old b _ e]; exact u.tbls b ps e
theorem Cut.hok {P:Program} {w:World} {H H' H'':Hp} {h:Heap} (c:Cut H H' H'') (k:HOk P w H' h):HOk P w H'' h:=fun a o e=>by
  have q:=k a o (c.sub a o e)
  cases o with
  | ins C dx fs =>
    obtain ⟨d,r⟩:=q
    exact ⟨c.ins a C dx fs e,r⟩
  | dT kvs=>exact (c.plain a _ e).elim
  | frz ob u =>
    have z:=c.plain a _ e
    cases u with
    | lst xs=>exact q
    | _=>exact z.elim
  | lst xs=>exact q
  | tup xs=>exact q
  | dK kvs=>exact q
  | set S n=>exact q
  | own x=>exact q
  | xd fs=>exact q
  | met f x=>exact q
  | rng lo hi=>exact q
  | tbl ps=>exact q
  | ext φ=>exact q
section
variable {P:Program} {w:World} {K:PySem.W.Frag} {mg:Str→Option Value} {base:Heap} {CX:CXT} {k:Nat} {f:Addr} {fd:FuncData} {ps:List Str}
theorem FnOk.cut {sp:Sp} (F:FnOk P w K mg base CX k f fd ps sp) :
    FnOk P w K mg base CX k f fd ps (fun vs H Q E=>sp vs H (fun v H'=>∃ H'',((∀ a C dx fs,H a = some (.ins C dx fs)→H dx = some (.own a))→Cut H H' H'')∧Q v H'') E) :=
  ⟨fun vs H Q E h=>F.len vs H _ E h,fun A outer s H args us vs Q E hr he hb hv h=>by
    refine codeAny_mono (F.run A outer s H args us vs _ E hr he hb hv h) fun r s' q => ?_
    cases r with
    | error e=>exact q
    | ok fl =>
      cases fl with
      | ret u =>
        obtain ⟨v,H',os,bare,un,hok,rv,H'',hc,q⟩:=q
        have c:=hc fun a C dx fs e=>(he.hok a _ e).1
        exact ⟨v,H'',os,bare,c.un un,c.hok hok,rv,q⟩
      | _=>exact q⟩
noncomputable def pureSp {α:Type} (Pre:α→List V→Prop) (Post:α→V→Prop):Sp:=fun vs H Q _=>Plain H∧∃ a,Pre a vs∧∀ v,Post a v→Q v H
noncomputable def rawSp {α:Type} (Pre:α→List V→Prop) (Post:α→V→Prop):Sp:=fun vs H Q _=>Plain H∧∃ a,Pre a vs∧∀ v H',Post a v→Same H H'→Q v H'
theorem FnOk.pure {α:Type} {Pre:α→List V→Prop} {Post:α→V→Prop} (F:FnOk P w K mg base CX k f fd ps (rawSp Pre Post)):FnOk P w K mg base CX k f fd ps (pureSp Pre Post) :=
  F.cut.imp fun vs H Q E ⟨hp,a,ha,q⟩=>⟨hp,a,ha,fun v H' hv hs=>⟨H,fun hi=>⟨hs,fun b o e=>by rw [e,hs b o e],hi,hp⟩,q v hv⟩⟩
noncomputable def newSp {α:Type} (Pre:α→List V→Prop) (Post:α→HO→Prop):Sp:=fun vs H Q _=>Plain H∧∃ a,Pre a vs∧∀ l o,H l = none→Post a o→Q (.ref l) (upd H l o)
noncomputable def newRaw {α:Type} (Pre:α→List V→Prop) (Post:α→HO→Prop):Sp:=fun vs H Q _=>Plain H∧∃ a,Pre a vs∧∀ l o H',H l = none→H' l = some o→Post a o→Same H H'→Q (.ref l) H'
theorem FnOk.new {α:Type} {Pre:α→List V→Prop} {Post:α→HO→Prop} (hP:∀ a o,Post a o→(∃ xs,o = .lst xs) ∨ ∃ xs,o = .tup xs) (F:FnOk P w K mg base CX k f fd ps (newRaw Pre Post)):FnOk P w K mg base CX k f fd ps (newSp Pre Post) :=
  F.cut.imp fun vs H Q E ⟨hp,a,ha,q⟩=>⟨hp,a,ha,fun l o H' hl hl' ho hs=>⟨upd H l o,fun hi=>by
    have ne:∀ b z,H b = some z→b ≠ l:=fun b z e=>ne_of_none e hl
    refine ⟨fun b z e => ?_,fun b z e=>by rw [upd_ne (ne b z e),e,hs b z e],fun b C dx fs e => ?_,hp.upd ?_⟩
    · by_cases hb:b = l
      · subst hb; rw [upd_same] at e; rw [← e]; exact hl'
      · rw [upd_ne hb] at e; exact hs b z e
    · by_cases hb:b = l
      · subst hb; rw [upd_same] at e
        have e:=Option.some.inj e
        rcases hP a o ho with ⟨xs,z⟩ | ⟨xs,z⟩ <;> (rw [z] at e; cases e)
      · rw [upd_ne hb] at e
        have d:=hi b C dx fs e
        rw [upd_ne (ne dx _ d)]; exact d
    · rcases hP a o ho with ⟨xs,z⟩ | ⟨xs,z⟩ <;> (rw [z]; exact trivial),q l o hl ho⟩⟩
end
theorem Same.upd {H H':Hp} {l:Addr} {o:HO} (s:Same H H') (hl:H l = none):Same H (L2.upd H' l o):=fun b z e=>by
  rw [upd_ne (ne_of_none e hl)]; exact s b z e
theorem same_upd {H:Hp} {l:Addr} {o:HO} (hl:H l = none):Same H (upd H l o):=(Same.refl H).upd hl
theorem ite2d {p:Prop} [Decidable p] {A B:Prop} (h1:p→A) (h2:¬ p→B):if decide p = true then A else B:=by
  by_cases h:p
  · rw [if_pos (decide_eq_true h)]; exact h1 h
  · rw [if_neg (by simpa using h)]; exact h2 h
theorem atI_in {xs:List Nat} {i:Int} (h0:0 ≤ i) (h1:i < xs.length):atI xs i = some (xs.getD i.toNat 0):=by
  obtain ⟨j,rfl⟩:∃ j:Nat,i = j:=⟨i.toNat,by omega⟩
  have hj:j < xs.length:=by omega
  exact atI_nat (by simp [List.getElem?_eq_getElem hj])
theorem len_join0 (ys:List Str):(Txt.join (⟨#[]⟩:Str) ys).length ≤ (ys.map (·.length)).sum:=by
  have e:Txt.join (⟨#[]⟩:Str) ys = Str.join ⟨#[]⟩ ys:=by simpa using join_plain_closes (⟨#[]⟩:Str) ys
  rw [e]
  have:=StrLaws.join_length_le (⟨#[]⟩:Str) ys
  simpa [Str.length] using this
theorem sum_ones {n:Nat} {f:Nat→Str} (h:∀ i,(f i).length = 1):(((List.range n).map f).map (·.length)).sum = n:=by
  induction n with
  | zero=>rfl
  | succ n ih=>rw [List.range_succ,List.map_append,List.map_append,List.sum_append,ih]; simp [h]
theorem cut_int {ns:List Int} {lo hi:Option Int} {i:Nat} {x:V} (h:(cutV (ns.map V.int) lo hi)[i]? = some x):∃ n,x = V.int n:=by
  have hm:=List.mem_of_getElem? h
  unfold cutV at hm
  have hm:=List.mem_of_mem_drop (List.mem_of_mem_take hm)
  obtain ⟨n,_,e⟩:=List.mem_map.mp hm
  exact ⟨n,e.symm⟩
noncomputable def Dig (d:Int):Prop:=0 ≤ d∧d < 10000
theorem dig_mod (x:Int):Dig (x % 10000):=⟨Int.emod_nonneg _ (by decide),Int.emod_lt_of_pos _ (by decide)⟩
end L2
namespace L2
open PySem PySem.Spec PyProof.Rows
structure Fly (new:Addr→Prop) (H:Hp) (x C:Addr) (h:Heap):Prop where
  ob:∃ oe vs,h.get? x = some oe∧oe.cls = .ref C∧oe.dict = none∧oe.data = .fields vs∧1 < vs.size ∧
    (vs[1]? = some .none ∨ ∃ T oT ts,vs[1]? = some (.ref T)∧T ≠ x∧h.get? T = some oT∧oT.data = .fields ts∧3 < ts.size∧new T∧H T = none)
  new:new x
  free:H x = none
theorem Fly.imp {n n':Addr→Prop} {H:Hp} {x C:Addr} {h:Heap} (f:Fly n H x C h) (k:∀ b,n b→n' b):Fly n' H x C h:=by
  obtain ⟨⟨oe,vs,a,b,c,d,e,g⟩,hn,hf⟩:=f
  refine ⟨⟨oe,vs,a,b,c,d,e,g.imp id ?_⟩,k _ hn,hf⟩
  rintro ⟨T,oT,ts,a,b,c,d,e,f,g⟩
  exact ⟨T,oT,ts,a,b,c,d,e,k _ f,g⟩
theorem mapF_dict (o:Obj) (f:Array Value→Array Value):(o.mapFields f).dict = o.dict:=by
  obtain ⟨c,d,dt,sl⟩:=o
  cases dt <;> rfl
section
variable {M:Model} {A:Around} {E:Value→Shared→Prop} {s:Shared}
theorem frameOf_same {env env':Env} (h:env.frame = env'.frame):PySem.frameOf env = PySem.frameOf env':=by
  unfold PySem.frameOf
  rw [h]
theorem noteFrame_same {env env':Env} {e:Value} (h:env.frame = env'.frame):noteFrame e env = noteFrame e env':=by
  unfold noteFrame
  rw [frameOf_same h,h]
structure Kept (x T:Addr) (frames:List Addr) (h h':Heap):Prop where
  keep:∀ b o,b ≠ x→b ≠ T→b ∉ frames→h.get? b = some o→h'.get? b = some o
  slot:∀ b o,b ≠ x→b ≠ T→h.get? b = some o→∃ sl,h'.get? b = some { o with slots:=sl }
theorem entry_fly {base:Heap} {env:Env} {outer:List Env} {L x:Addr} {oe:Obj} {vs:Array Value} {head:Value} {hadNext:Bool} {Q:Unit→Shared→Prop}
    (hfr:A.frames = some (env :: outer)) (hl:s.heap.FunFrames base (env :: outer)) (hf:env.frame = some L)
    (he:s.heap.get? x = some oe) (hd:oe.data = .fields vs) (hz:1 < vs.size)
    (h:∀ h' T,(∃ oe' vs',h'.get? x = some oe'∧oe'.cls = oe.cls∧oe'.dict = oe.dict∧oe'.data = .fields vs'∧1 < vs'.size∧vs'[1]? = some (.ref T))→(∃ oT ts,h'.get? T = some oT∧oT.data = .fields ts∧3 < ts.size)→s.heap.objs.size ≤ T →
      Kept x x (frs (env :: outer)) s.heap h'→Q () { s with heap:=h' }) :
    wpAny M A (do let a ← PySem.frameOf env; let pl ← entryPlaceOf L hadNext; let b ← EntryCells.newEntry head a .none (rawInt L) .none pl; setField (.ref x) 1 b) Q E s:=by
  have xnf:x ∉ (env :: outer).filterMap (·.frame):=fun hm=>by
    obtain ⟨_,o,ho,hnf⟩:=hl.mem hm
    rw [he] at ho
    cases ho
    exact hnf vs hd
  refine wpAny_bind (wpAny_frameOf_fun hfr hl hf fun h1 g1 => ?_)
  refine wpAny_bind (wpAny_entryPlaceOf fun pl hpl => ?_)
  unfold EntryCells.newEntry newFields
  refine wpAny_bind (wpAny_newObj_type ?_ (hpl.sizeOk5 _ _ _ _ _))
  have e1:h1.get? x = some oe:=(g1.2.1 x xnf).trans he
  have lt1:x < h1.objs.size:=Heap.lt_size e1
  have e2:=Heap.get?_push_of_some (h:=h1) { cls := .type "traceback",dict:=none,data := .fields ([head,.ref L,.none,rawInt L,.none] ++ (if pl.isEmpty then List.replicate 6 Value.none else pl)).toArray } e1
  have dm:=Obj.data_mapFields hd (·.setIfInBounds 1 (Value.ref h1.objs.size))
  refine wpAny_setField e2 hd hz (h _ h1.objs.size ⟨_,_,Heap.get?_update_self _ e2 (Obj.isFreed_of_fields dm),Obj.cls_mapFields _ _,mapF_dict _ _,dm,by simpa using hz,by simp [hz]⟩
    ⟨_,_,(Heap.get?_update_other _ _ (Nat.ne_of_lt lt1)).trans (Heap.get?_push_size _ rfl),rfl,by simp only [List.size_toArray,List.length_append,List.length_cons]; omega⟩ (by rw [g1.1]; exact Nat.le_refl _) ⟨fun b o bx _ bf eb => ?_,fun b o bx _ eb => ?_⟩)
  · rw [Heap.get?_update_other _ _ (Ne.symm bx)]
    exact Heap.get?_push_of_some _ ((g1.2.1 b bf).trans eb)
  · obtain ⟨sl,q⟩:=g1.2.2 b o eb
    exact ⟨sl,by rw [Heap.get?_update_other _ _ (Ne.symm bx)]; exact Heap.get?_push_of_some _ q⟩
end
section
variable {X:Cx} {σ:St} {H:Hp} {s:Shared} {x C:Addr}
noncomputable def Cx.new (X:Cx) (b:Addr):Prop:=(∀ o,X.s₀.heap.get? b = some o→b ∈ X.ex)∧∀ p ∈ X.pn,p.1 ≠ b
theorem Inv.stepN {h':Heap} {t':Nat} {ch:List Addr} (I:Inv X [] σ H s) (hch:∀ b ∈ ch,X.new b∧H b = none∧b ≠ X.env.locals∧∀ y c,X.env.cells.lookup y = some c→c ≠ b)
    (keep:∀ b o,b ∉ ch→b ∉ frs X.stack→s.heap.get? b = some o→h'.get? b = some o) (slot:∀ b o,b ∉ ch→s.heap.get? b = some o→∃ sl,h'.get? b = some { o with slots:=sl }) :
    Inv X [] σ H { s with heap:=h',toks:=t' }:=by
  have old:∀ b o,X.s₀.heap.get? b = some o→b ∉ X.ex→b ∉ ch:=fun b o e hx hb=>hx ((hch b hb).1.1 o e)
  have neL:∀ b o,X.s₀.heap.get? b = some o→b ≠ X.env.locals:=fun b o e=>Nat.ne_of_lt (Nat.lt_of_lt_of_le (Heap.lt_size e) I.ok.above)
  have trk:∀ b u,H b = some u→b ∉ ch:=fun b u e hb=>by have:=(hch b hb).2.1; rw [e] at this; cases this
  have trs:∀ b u,H b = some u→b ∉ frs X.stack:=fun b u e hb=>by have:=I.stkFree b hb; rw [e] at this; cases this
  have nfs:∀ b,b ≠ X.env.locals→b ∉ X.fs→b ∉ frs X.stack:=fun b h1 h2 z=>(List.mem_cons.mp (I.stkSub b z)).elim h1 h2
  have cellK:∀ y c,X.env.cells.lookup y = some c→∀ v,s.heap.IsCell c v→h'.IsCell c v:=fun y c e v ⟨o,ho,hd⟩=>by
    obtain ⟨sl,q⟩:=slot c o (fun z=>(hch c z).2.2.2 y c e rfl) ho
    exact ⟨_,q,hd⟩
  refine ⟨I.ok,I.os,I.bare,⟨fun b o e n hb hx => ?_,fun b o e n hb hx => ?_,I.base.free,fun b o e hx => ?_,I.base.tups,I.base.frzs,I.base.tbls⟩, ?_,fun y c e => ?_,I.free,I.freeC,fun p hp => ?_,fun b u e => ?_,I.len⟩
  · exact keep b o (old b o e hx) (nfs b (neL b o e) hb) (I.base.keep b o e n hb hx)
  · obtain ⟨sl,q⟩:=I.base.slot b o e n hb hx
    obtain ⟨sl',q'⟩:=slot b _ (old b o e hx) q
    exact ⟨sl',q'⟩
  · obtain ⟨o',q⟩:=I.base.there b o e hx
    obtain ⟨sl,q'⟩:=slot b o' (old b o e hx) q
    exact ⟨_,q'⟩
  · obtain ⟨m,⟨o,es,ep,ho,r⟩,hl⟩:=I.loc
    obtain ⟨sl,q⟩:=slot _ o (fun z=>(hch _ z).2.2.1 rfl) ho
    refine ⟨m,⟨_,es,ep,q,r⟩,fun i y v e1 e2 e3 => ?_⟩
    obtain ⟨u,ru,lk⟩:=hl i y v e1 e2 e3
    exact ⟨u,ru,lk.imp id fun ⟨k,c,e,z⟩=>⟨k,c,e,cellK y c e _ z⟩⟩
  · obtain ⟨v,z⟩:=I.cell y c e
    exact ⟨v,cellK y c e v z⟩
  · obtain ⟨e,n,ne,nf,d⟩:=I.pin p hp
    have hp':p ∈ X.pn:=by simpa using hp
    exact ⟨keep p.1 p.2 (fun z=>(hch p.1 z).1.2 p hp' rfl) (nfs p.1 ne nf) e,n,ne,nf,d⟩
  · refine (I.hok b u e).stay (fun c v hc q => ?_) (fun _ q=>q) fun _ _ q=>q
    rcases hc with rfl | hc
    · exact keep c v (trk c u e) (trs c u e) q
    · exact keep c v (trk c _ hc) (trs c _ hc) q
theorem Inv.fieldsNe (I:Inv X [] σ H s) {b:Addr} {o:Obj} {vs:Array Value} (e:s.heap.get? b = some o) (d:o.data = .fields vs):b ≠ X.env.locals∧(∀ y c,X.env.cells.lookup y = some c→c ≠ b)∧b ∉ frs X.stack:=by
  refine ⟨fun z => ?_,fun y c ec z => ?_,fun z => ?_⟩
  · obtain ⟨m,⟨o',es,ep,ho,r,_⟩,_⟩:=I.loc
    rw [← z,e] at ho
    cases ho
    rw [d] at r
    cases r
  · obtain ⟨v,o',ho,hd⟩:=I.cell y c ec
    rw [z,e] at ho
    cases ho
    rw [d] at hd
    cases hd
  · obtain ⟨_,o',ho,hnf⟩:=I.stack.mem z
    rw [e] at ho
    cases ho
    exact hnf vs d
theorem Inv.kept2 {h':Heap} {T:Addr} (I:Inv X [] σ H s) (F:Fly X.new H x C s.heap) (hT:T = x ∨ ∃ oe vs oT ts,s.heap.get? x = some oe∧oe.data = .fields vs∧vs[1]? = some (.ref T)∧s.heap.get? T = some oT∧oT.data = .fields ts)
    (k:Kept x T (frs X.stack) s.heap h'):Inv X [] σ H { s with heap:=h' }:=by
  obtain ⟨oe,vs,e,_,_,d,_,tb⟩:=F.ob
  have one:X.new x∧H x = none∧x ≠ X.env.locals∧∀ y c,X.env.cells.lookup y = some c→c ≠ x:=⟨F.new,F.free,(I.fieldsNe e d).1,(I.fieldsNe e d).2.1⟩
  have two:X.new T∧H T = none∧T ≠ X.env.locals∧∀ y c,X.env.cells.lookup y = some c→c ≠ T:=by
    rcases hT with rfl | ⟨oe',vs',oT,ts,e',d',v',eT,dT⟩
    · exact one
    · rw [e] at e'
      cases e'
      rw [d] at d'
      cases d'
      rcases tb with z | ⟨T',oT',ts',v,_,_,_,_,hn,hf⟩
      · rw [z] at v'; cases v'
      · rw [v] at v'
        cases v'
        exact ⟨hn,hf,(I.fieldsNe eT dT).1,(I.fieldsNe eT dT).2.1⟩
  refine I.stepN (ch:=[x,T]) (fun b hb => ?_) (fun b o hb hs q=>k.keep b o (fun z=>hb (by simp [z])) (fun z=>hb (by simp [z])) hs q) fun b o hb q=>k.slot b o (fun z=>hb (by simp [z])) (fun z=>hb (by simp [z])) q
  have:b = x ∨ b = T:=by simpa using hb
  rcases this with rfl | rfl
  · exact one
  · exact two
structure Cx.Top (X:Cx):Prop where
  top:∃ env outer L,X.stack = env :: outer∧env.frame = some L∧X.env.frame = some L
theorem Cx.newAt {X:Cx} {σ:St} {H:Hp} {s:Shared} (I:Inv X [] σ H s) {T:Addr} (h:s.heap.objs.size ≤ T):X.new T:=by
  refine ⟨fun o q => ?_,fun p hp z => ?_⟩
  · exact absurd (Nat.lt_of_lt_of_le (Heap.lt_size q) (Nat.le_trans I.sz h)) (Nat.lt_irrefl _)
  · have:=Heap.lt_size (I.pin p (List.mem_append_left _ hp)).1
    rw [z] at this
    exact absurd (Nat.lt_of_lt_of_le this h) (Nat.lt_irrefl _)
theorem note_fly {E:Value→Shared→Prop} {Q:Unit→Shared→Prop} (I:Inv X [] σ H s) (tp:X.Top) (F:Fly X.new H x C s.heap)
    (h:∀ h',Inv X [] σ H { s with heap:=h' }→Fly X.new H x C h'→(∃ oe vs T,h'.get? x = some oe∧oe.data = .fields vs∧vs[1]? = some (.ref T))→Q () { s with heap:=h' }) :
    wpAny (model X.prog X.w) X.A (noteFrame (.ref x) X.env) Q E s:=by
  obtain ⟨env,outer,L,hst,hf,hfe⟩:=tp.top
  have hfr:X.A.frames = some (env :: outer):=by rw [I.ok.frames,hst]
  have hl:s.heap.FunFrames X.base (env :: outer):=by rw [← hst]; exact I.stack
  obtain ⟨oe,vs,e,ec,ed,d,z,tb⟩:=id F.ob
  rw [noteFrame_same (show X.env.frame = env.frame by rw [hfe,hf])]
  unfold noteFrame
  simp only [hf]
  rcases tb with v | ⟨T,oT,ts,v,nx,eT,dT,zT,hn,hfT⟩
  · refine wpAny_bind (wpAny_field e d v ?_)
    rw [if_neg (by decide)]
    refine entry_fly hfr hl hf e d z fun h' T ⟨oe',vs',a1,a2,a3,a4,a5,a6⟩ ⟨oT,ts,b1,b2,b3⟩ hz k => ?_
    rw [← hst] at k
    refine h h' (I.kept2 F (.inl rfl) k) ⟨⟨oe',vs',a1,a2.trans ec,a3.trans ed,a4,a5,.inr ⟨T,oT,ts,a6, ?_,b1,b2,b3,Cx.newAt I hz,I.hok.fresh hz⟩⟩,F.new,F.free⟩ ⟨_,_,_,a1,a4,a6⟩
    exact Nat.ne_of_gt (Nat.lt_of_lt_of_le (Heap.lt_size e) hz)
  · refine wpAny_bind (wpAny_field e d v ?_)
    rw [if_pos (show (Value.ref T != Value.none) = true from by simp)]
    have v3:ts[3]? = some ts[3]:=by simp [zT]
    refine wpAny_bind (wpAny_field eT dT v3 ?_)
    by_cases hq:(ts[3] == rawInt L) = true
    · rw [if_pos hq]
      exact wpAny_pure (h s.heap I F ⟨_,_,_,e,d,v⟩)
    · rw [if_neg hq]
      refine wpAny_bind (wpAny_setField eT dT zT ?_)
      have oth:∀ b,b ≠ T→(s.heap.update T (Obj.mapFields (·.setIfInBounds 3 Value.none))).get? b = s.heap.get? b:=fun b hb=>Heap.get?_update_other _ _ (Ne.symm hb)
      have e2:(s.heap.update T (Obj.mapFields (·.setIfInBounds 3 Value.none))).get? x = some oe:=(oth x (Ne.symm nx)).trans e
      have hl2:(s.heap.update T (Obj.mapFields (·.setIfInBounds 3 Value.none))).FunFrames X.base (env :: outer):=hl.of_keeps fun b o ho hnf=>⟨o,(oth b fun q=>by rw [q,eT] at ho; cases ho; exact hnf ts dT).trans ho,rfl⟩
      refine entry_fly (s:={ s with heap:=s.heap.update T (Obj.mapFields (·.setIfInBounds 3 Value.none)) }) hfr hl2 hf e2 d z fun h' T' ⟨oe',vs',a1,a2,a3,a4,a5,a6⟩ ⟨oT',ts',b1,b2,b3⟩ hz k => ?_
      rw [← hst] at k
      have hz':s.heap.objs.size ≤ T':=by
        have e3:(s.heap.update T (Obj.mapFields (·.setIfInBounds 3 Value.none))).objs.size = s.heap.objs.size:=Heap.size_after_update ..
        have hz2:(s.heap.update T (Obj.mapFields (·.setIfInBounds 3 Value.none))).objs.size ≤ T':=hz
        omega
      have k':Kept x T (frs X.stack) s.heap h':=⟨fun b o b1 b2 b3 q=>k.keep b o b1 b1 b3 ((oth b b2).trans q),fun b o b1 b2 q=>k.slot b o b1 b1 ((oth b b2).trans q)⟩
      refine h h' (I.kept2 F (.inr ⟨_,_,_,_,e,d,v,eT,dT⟩) k') ⟨⟨oe',vs',a1,a2.trans ec,a3.trans ed,a4,a5,.inr ⟨T',oT',ts',a6, ?_,b1,b2,b3,Cx.newAt I hz',I.hok.fresh hz'⟩⟩,F.new,F.free⟩ ⟨_,_,_,a1,a4,a6⟩
      exact Nat.ne_of_gt (Nat.lt_of_lt_of_le (Heap.lt_size e) hz')
theorem flight_fly {A:Around} {E:Value→Shared→Prop} {Q:Unit→Shared→Prop} {f:Option Addr} (I:Inv X [] σ H s) (F:Fly X.new H x C s.heap) (ht:∃ oe vs T,s.heap.get? x = some oe∧oe.data = .fields vs∧vs[1]? = some (.ref T))
    (h:∀ h',Inv X [] σ H { s with heap:=h' }→Fly X.new H x C h'→(∃ oe vs T,h'.get? x = some oe∧oe.data = .fields vs∧vs[1]? = some (.ref T))→Q () { s with heap:=h' }) :
    wpAny (model X.prog X.w) A (setFlight (.ref x) f) Q E s:=by
  obtain ⟨oe,vs,e,ec,ed,d,z,tb⟩:=id F.ob
  obtain ⟨oe',vs',T,e',d',v⟩:=ht
  rw [e] at e'
  cases e'
  rw [d] at d'
  cases d'
  rcases tb with v' | ⟨T',oT,ts,v',nx,eT,dT,zT,hn,hfT⟩
  · rw [v'] at v; cases v
  rw [v'] at v
  cases v
  unfold setFlight
  refine wpAny_bind (wpAny_field e d v' ?_)
  rw [if_pos (show (Value.ref T != Value.none) = true from by simp)]
  refine wpAny_setField eT dT zT ?_
  have oth:∀ b,b ≠ T→(s.heap.update T (Obj.mapFields (·.setIfInBounds 3 (f.elim Value.none fun f=>rawInt f)))).get? b = s.heap.get? b:=fun b hb=>Heap.get?_update_other _ _ (Ne.symm hb)
  have dm:=Obj.data_mapFields dT (·.setIfInBounds 3 (f.elim Value.none fun f=>rawInt f))
  have e2:=(oth x (Ne.symm nx)).trans e
  refine h _ (I.kept2 F (.inr ⟨_,_,_,_,e,d,v',eT,dT⟩) ⟨fun b o _ b2 _ q=>(oth b b2).trans q,fun b o _ b2 q=>⟨o.slots,(oth b b2).trans q⟩⟩)
    ⟨⟨oe,vs,e2,ec,ed,d,z,.inr ⟨T,_,_,v',nx,Heap.get?_update_self _ eT (Obj.isFreed_of_fields dm),dm,by simpa using zT,hn,hfT⟩⟩,F.new,F.free⟩ ⟨_,_,_,e2,d,v'⟩
end
end L2
namespace L2
open PySem PySem.Spec PyProof.Rows
noncomputable def CX1 (P:Program) (w:World) (base:Heap):CXT:=fun outer H s E e s'=>∃ (x C:Addr) (H':Hp),e = .ref x∧s'.os = s.os∧AllBare s'.gens∧Un (frs outer) [] H H' s.heap s'.heap∧HOk P w H' s'.heap ∧
  Fly (fun b=>s.heap.get? b = none) H' x C s'.heap∧E (.ref C) none H'
noncomputable def Wants (X:Cx) (E:XK):Prop:=∀ (σ:St) (H':Hp) (s':Shared) (x C:Addr),Inv X [] σ H' s'→Fly X.new H' x C s'.heap→E (.ref C) none H'→X.xe (.ref x) s'
theorem newOf {X:Cx} {pins:List (Addr × Obj)} {σ:St} {H:Hp} {s:Shared} (I:Inv X pins σ H s) {b:Addr} (h:s.heap.get? b = none):X.new b:=by
  refine ⟨fun o e => ?_,fun p hp z => ?_⟩
  · by_cases hx:b ∈ X.ex
    · exact hx
    · obtain ⟨o',q⟩:=I.base.there b o e hx
      rw [h] at q
      cases q
  · have:=(I.pin p (List.mem_append_left _ hp)).1
    rw [z,h] at this
    cases this
theorem Inv.nopins {X:Cx} {pins:List (Addr × Obj)} {σ:St} {H:Hp} {s:Shared} (I:Inv X pins σ H s):Inv X [] σ H s:=I.pins_of fun p hp=>absurd hp (by simp)
theorem Wants.passes {X:Cx} {E:XK} (W:Wants X E):Passes (CX1 X.prog X.w X.base) X E:=fun pins σ H s e s' I ⟨x,C,H',ee,os,bare,un,hok,F,q⟩=>by
  subst ee
  have J:Inv X pins σ H' s':=I.call' (ch:=[]) os un hok bare fun b z=>absurd z (by simp)
  exact W σ H' s' x C J.nopins (F.imp fun b hb=>newOf I hb) q
theorem pass1 {P:Program} {w:World} {base:Heap} {X:Cx}:Passes (CX1 P w base) X E0:=fun _ _ _ _ _ _ _ ⟨_,_,_,_,_,_,_,_,_,q⟩=>q.elim
theorem wants_fn {P:Program} {w:World} {K:PySem.W.Frag} {mg:Str→Option Value} {base:Heap} {N:List Str} {qual:Str} {scope:Scope} {f:Addr} {cd:Value} {A:Around} {outer:List Env} {s:Shared} {H:Hp} {E:XK} :
    Wants (cxOf (CX1 P w base) P w K mg base N qual scope f cd A outer s H E) E:=fun σ H' s' x C I F q=>by
  refine wpAny_bind (note_fly I ⟨⟨_,_,_,rfl,rfl,rfl⟩⟩ F fun h1 I1 F1 t1 => ?_)
  refine flight_fly I1 F1 t1 fun h2 I2 F2 _ => ?_
  refine ⟨x,C,H',rfl,I2.os,I2.bare,I2.base,I2.hok,F2.imp fun b hb => ?_,q⟩
  cases e:s.heap.get? b with
  | none=>rfl
  | some o=>exact absurd (hb.1 o e) (by simp [cxOf])
section
variable {P:Program} {w:World} {K:PySem.W.Frag} {mg:Str→Option Value} {base:Heap}
theorem Fun.okX {x qual:Str} {st:Stmt} {f:Addr} {fd:FuncData} {N ps:List Str} {k:Nat} {sp:Sp} (F:Fun K x qual st f fd) (S:FnScope N ps (defScope st)) (len:∀ vs H Q E,sp vs H Q E→vs.length = ps.length)
    (hbody:∀ (cdv:Value) (A:Around) (outer:List Env) (s:Shared) (H:Hp) (vs:List V) (Q:VK) (E:XK),Room k (A.deeper (envOfC qual (defScope st) s.heap.objs.size f cdv))→sp vs H Q E →
      ∃ t,PSs (cxOf (CX1 P w base) P w K mg base N qual (defScope st) f cdv A outer s H E) (defBody st) t∧t { nx:=fun _ H'=>Q .non H',rt:=Q } (start N vs) H):FnOk P w K mg base (CX1 P w base) (k + 1) f fd ps sp:=by
  obtain ⟨oc,od,kV,doc,pm,an,cdv,ct,osl,rfl,lk,hcd⟩:=F.ex
  exact fn_of lk hcd S len fun A outer s H vs Q E hr hsp=>hbody cdv A outer s H vs Q E hr hsp
theorem Fun.okN {x qual:Str} {st:Stmt} {f:Addr} {fd:FuncData} {N ps:List Str} {k:Nat} {sp:Sp} (F:Fun K x qual st f fd) (S:FnScope N ps (defScope st)) (len:∀ vs H Q E,sp vs H Q E→vs.length = ps.length)
    (hbody:∀ (cdv:Value) (A:Around) (outer:List Env) (s:Shared) (H:Hp) (vs:List V) (Q:VK) (E:XK),Room k (A.deeper (envOfC qual (defScope st) s.heap.objs.size f cdv))→sp vs H Q E →
      ∃ t,PSs (cxOf (CX1 P w base) P w K mg base N qual (defScope st) f cdv A outer s H E).nox (defBody st) t∧t { nx:=fun _ H'=>Q .non H',rt:=Q } (start N vs) H):FnOk P w K mg base (CX1 P w base) (k + 1) f fd ps sp :=
  F.okX S len fun cdv A outer s H vs Q E hr hsp=>let ⟨t,h,q⟩:=hbody cdv A outer s H vs Q E hr hsp; ⟨t,h.nox,q⟩
end
abbrev bmV:List Value:=[.type "ValueError",.type "Exception",.type "BaseException",.type "object"]
structure XCls (K:PySem.W.Frag) (C:Addr):Prop where
  ex:PySem.W.excIn K C bmV "ValueError.__new__" = true
  ga:PySem.W.findIn K (.ref C) "__getattribute__" = some (some (.builtin "BaseException.__getattribute__"))
  gn:PySem.W.findIn K (.ref C) "__getattr__" = some none
  be:PySem.W.subIn K (.ref C) (.type "BaseException") = some true
  hd:PySem.W.hasDictIn K C = true
  ca:PySem.W.findIn K (.ref C) "__class__" = some (some (.builtin "object.__class__"))
  mo:PySem.W.mroIn K C (.type "object") = some true
  gs:PySem.W.specialIn K (.builtin "object.__class__") "__get__" = some (some (.builtin "getset_descriptor.__get__"))
  tk:PySem.W.takesIn K (.builtin "object.__class__") = some true
theorem XCls.obj {K:PySem.W.Frag} {C:Addr} {h:Heap} (c:XCls K C) (X:K.In h):∃ bm N nm q bs hdct sn sub ab col dd k0 k1 k2 k3 k5 mN,
    h.get? C = some (excClassObj nm q C N bs bm hdct sn sub ab col dd k0 k1 k2 k3 k5 "ValueError.__new__")∧h.Ns N mN∧mN "__init__" = none∧OwnTail h bmV bm ∧
    ∀ b r,PySem.W.mroIn K C b = some r→(Value.ref C :: bm).contains b = r:=by
  have q:=c.ex
  unfold PySem.W.excIn at q
  split at q
  · rename_i dd cd sl ho
    split at q
    · rename_i C' bm k0 k1 k2 k3 n k5 hm hs
      simp only [Bool.and_eq_true,beq_iff_eq,Bool.not_eq_true'] at q
      obtain ⟨⟨⟨⟨⟨rfl,rfl⟩,hdel⟩,ht⟩,hok⟩,hni⟩:=q
      have hmro:∀ b r,PySem.W.mroIn K C' b = some r→(Value.ref C' :: bm).contains b = r:=fun b r e=>by
        unfold PySem.W.mroIn PySem.W.clsIn at e
        rw [ho] at e
        simp only [Option.bind_some,hm] at e
        simpa using e
      obtain ⟨nm,bs,mro,ns,qn,hd,sn,sub,ab,col,del⟩:=cd
      dsimp only at hm hdel hok hni
      subst hm hdel
      have hsl:sl = #[k0,k1,k2,k3,some (.builtin "ValueError.__new__"),k5]:=by
        obtain ⟨l⟩:=sl
        simp only at hs
        rw [hs]
      subst hsl
      exact ⟨bm,ns,nm,qn,bs,hd,sn,sub,ab,col,dd,k0,k1,k2,k3,k5,_,X _ _ ho,.of_isNs (PySem.W.isNs_of_in X hok),PySem.W.nsMap_none_of_in X hok hni,PySem.W.tail_of_in X ht,hmro⟩
    · cases q
  · cases q
section
variable {X:Cx}
noncomputable def tRaise (C:Addr) (E:XK) (ta:TA):TS:=fun _ σ H=>ta σ H fun vs H1=>vs.length ≤ sizeLine∧E (.ref C) none H1
theorem ps_raise {C:Addr} {E:XK} {n:Str} {e:Expr} {es:List Expr} {ta:TA} {np cpos pos:Pos} (xc:XCls X.K C) (W:Wants X E) (hc:X.calm = true) (hg:Gl X n) (hm:X.mg n = some (.ref C)) (ha:PA X (e :: es) ta)
    (hs:starEach (e :: es) X.env = (false,eval e X.env) :: starEach es X.env:=by rfl) (hp:(backTo cpos (starEach es X.env)).any (·.1) = false:=by rfl) (hdb:(n == ("__debug__" : Str)) = false:=by decide) :
    PS X (.Raise (some (.Call (.Name n np) (e :: es) [] cpos)) none pos) (tRaise C E ta) := .mk <| by
  intro pins s σ H D I h
  obtain ⟨bm,N,nm,q,bs,hdct,sn,sub,ab,col,dd,k0,k1,k2,k3,k5,mN,hC,hN,hni,T,_⟩:=xc.obj I.mod.kin
  refine wpAny_Raise_call_subT (C:=C) (nm:=nm) (q:=q) (N:=N) (bs:=bs) (bm:=bm) (hdct:=hdct) (sn:=sn) (sub:=sub) (ab:=ab) (col:=col) (dd:=dd) (k0:=k0) (k1:=k1) (k2:=k2) (k3:=k3) (k5:=k5)
    PySem.F.excBase_ValueError (mN:=mN) (T.hasType (by decide)) (I.ok.hd hc) (by rw [hs]; show (false || (backTo cpos (starEach es X.env)).any (·.1)) = false; rw [hp]; rfl) hni (ld_glob I hg hm ⟨rfl, ?_⟩ hdb)
  have hA:=ha cpos pins s σ H _ I h
  rw [hs] at hA ⊢
  refine Calls.evalArgs_plain (thn hA fun us s1 ⟨vs,H1,I1,r1,hl,hE⟩=>⟨rfl,by rw [← r1.length]; exact hl,I1.bk _ _ hC,hN.keeps I1.bk,T.keeps I1.bk,fun h' x mk => ?_⟩)
  obtain ⟨t,e1,_,_⟩:=mk.there
  have J:Inv X [] σ H1 { s1 with heap:=h' }:=(I1.kept (t':=s1.toks) mk.keeps).nopins
  refine W σ H1 _ x C J ⟨⟨_,_,e1,rfl,rfl,rfl,by simp,.inl rfl⟩,newOf I1 mk.new, ?_⟩ hE
  cases z:H1 x with
  | none=>rfl
  | some o =>
    have:=(I1.hok x o z)
    have lt:∃ ob,s1.heap.get? x = some ob:=by
      cases o with
      | lst xs=>obtain ⟨_,_,_,_,e⟩:=this; exact ⟨_,e⟩
      | tup xs=>obtain ⟨_,_,_,p⟩:=this; obtain ⟨ob,e,_⟩:=p; exact ⟨_,e⟩
      | dK kvs=>obtain ⟨_,_,_,_,o,_,_,e,_⟩:=this; exact ⟨_,e⟩
      | dT kvs=>obtain ⟨_,_,_,_,o,_,_,e,_⟩:=this; exact ⟨_,e⟩
      | set S n=>obtain ⟨o,_,_,_,e,_⟩:=this; exact ⟨_,e⟩
      | ins C dx fs=>obtain ⟨_,_,_,e,_⟩:=this; exact ⟨_,e⟩
      | own y=>exact this
      | xd fs=>obtain ⟨_,⟨_,_,_,e,_⟩,_⟩:=this; exact ⟨_,e⟩
      | rng lo hi=>obtain ⟨_,_,_,e⟩:=this; exact ⟨_,e⟩
      | frz ob u=>obtain ⟨e,_⟩:=this; exact ⟨_,e⟩
      | tbl ps=>exact ⟨_,(show s1.heap.get? x = some _ from this)⟩
      | met f y=>exact ⟨_,(show s1.heap.get? x = some _ from this)⟩
      | ext φ=>obtain ⟨_,e,_⟩:=this; exact e
    obtain ⟨ob,e⟩:=lt
    rw [mk.new] at e
    cases e
end
end L2
namespace L2
open PySem PySem.Spec PyProof.Rows
section
variable {X:Cx} {pins:List (Addr × Obj)} {σ:St} {H:Hp} {s:Shared} {x C D:Addr}
end
end L2
namespace L2
open PySem PySem.Spec PyProof.Rows
section
variable {X:Cx}
theorem call_isTup:CallR X (.builtin "isinstance") (fun xs H Q=>∃ a ys,xs = [.ref a,.ty "tuple"]∧SqT X.K H a ys∧Q (.bl true) H):=by
  intro pins s σ H xs us Q I rv h
  obtain ⟨a,ys,rfl,ha,q⟩:=h
  obtain ⟨u,u',rfl,ru,rv'⟩:=rv.two
  cases (show u = Value.ref a from ru)
  cases (show u' = Value.type "tuple" from rv')
  obtain ⟨its,r,p,_⟩:=I.tuple ha
  obtain ⟨o,h1,h2,_⟩:=p
  exact PySem.W.kia_one (K:=X.K) PySem.W.kitx_tuple I.kIn ⟨o,h1,h2⟩ (show PySem.W.kitOne X.K (.type "tuple") (.type "tuple") = some true from rfl) (fun z=>nomatch z) fun tk=>⟨.bl true,H,I.tok tk,rfl,q⟩
end
section
variable {X:Cx}
end
theorem walk_ofX {l:PySem.W.OpenLaw} {n k:Nat} {q:Program} {loose:List Str} {XP:(Str→Option Value)→Heap→Prop} {YP:World→Heap→Prop} {d:DefRec} {K:Params→PySem.W.Frag} {sp:World→Sp} {x:Str}
    (hn:l.most = some n) (hn2:n ≤ sizeLine) (hdf:d.params.defaults = []) (hr:Room k callerA) (hY:∀ (w:World) (h:Heap),YP w h→(K w.params).In h)
    (F:∀ (w:World) (mg:Str→Option Value) (fa:Addr) (h:Heap),(K w.params).In h→h.Ns mainGlobals mg→mg d.name = some (.ref fa) →
      ∃ fd:FuncData,(∀ (s:Shared) (u:Value),BindsTo s fd ⟨[u],[]⟩ [(x,u)])∧∀ base:Heap,(K w.params).In base→base.Ns mainGlobals mg→FnOk l.prog w (K w.params) mg base (CX1 l.prog w base) k fa fd [x] (sp w))
    (hsp:∀ (w:World) (H:Hp) (a:Addr) (ns:List Int),ns.length ≤ n→Only H→SqL (K w.params) H a (ns.map V.int)→sp w [.ref a] H (fun v _=>v = .bl true) fun _ _ _=>False) :
    PySem.W.WalkO q loose XP YP l.row.toRowW d [] (fun f vs=>PySem.call f vs):=by
  refine walk_of (x:=x) (K:=K) (CX:=fun _ _ _ _ _ _ _=>False) (sp:=fun w vs H Q E=>sp w vs H Q fun _ _ _=>False) hn hn2 hdf hr hY (fun w mg fa h a b c => ?_) (fun w H a ns h1 h2 h3=>hsp w H a ns h1 h2 h3) fun _ _ _ _ _ z=>z
  obtain ⟨fd,hb,hF⟩:=F w mg fa h a b c
  refine ⟨fd,hb,fun base h1 h2 => ?_⟩
  have G:=hF base h1 h2
  refine ⟨fun vs H Q E h=>G.len vs H Q _ h,fun A outer s H args us vs Q E hr he hbi hv h=>codeAny_mono (G.run A outer s H args us vs Q _ hr he hbi hv h) fun r s' z => ?_⟩
  cases r with
  | error e=>obtain ⟨_,_,_,_,_,_,_,_,_,z⟩:=z; exact z
  | ok fl=>cases fl <;> exact z
end L2
namespace L2
open PySem PySem.Spec PyProof.Rows PySem.NumText
section
variable {P:Program} {w:World} {K:PySem.W.Frag} {mg:Str→Option Value} {base:Heap} {CX:CXT} {k:Nat} {f:Addr} {fd:FuncData} {ps:List Str}
end
section
variable {X:Cx}
end
end L2
namespace L2
open PySem PySem.Spec PyProof.Rows PySem.NumText
section
variable {X:Cx}
end
theorem Same.seqT {K:PySem.W.Frag} {H H':Hp} {a:Addr} {xs:List V} (e:Same H H') (h:SqT K H a xs):SqT K H' a xs:=by
  rcases h with h | h
  · rcases h with h | ⟨o,h⟩
    · exact .inl (.inl (e _ _ h))
    · exact .inl (.inr ⟨o,e _ _ h⟩)
  · exact .inr h
theorem comp_gen {J:It} {n:Nat} {nt:Nat} {cap:List Nat} {g:TG} {te:TE} {σ:St} {H1:Hp} {Q:VK} {D:Addr} (val:Nat→V) (R:Nat→V→Hp→Prop) (hD:H1 D = none) (hP:Plain H1) (hx:n ≤ sizeLine)
    (hJ:∀ i H2,Same H1 H2→(i < n→J.go i H2)∧(J.stop n H2)∧∀ x H3,i < n→J.yld i H2 x H3→H3 = H2∧x = val i)
    (mono:∀ i y H H',R i y H→(∀ b o,b ≠ D→H b = some o→H' b = some o)→(∃ zs,H D = some (.lst zs))→R i y H')
    (step:∀ (i:Nat) H2 (T:VK),i < n→Plain H2→Same H1 H2→(∀ y H6,R i y H6→Same H2 H6→Plain H6→T y H6)→g (val i) (List.replicate nt none ++ caps cap σ) H2 fun σ4 H4=>te σ4 H4 T)
    (fin:∀ ys H2,ys.length = n→(∀ (i:Nat) y,ys[i]? = some y→R i y H2)→H2 D = some (.lst ys)→Same H1 H2→Plain H2→Q (.ref D) H2) :
    CompW J D nt cap g tYes te σ H1 Q:=by
  refine ⟨fun i m ys H2=>m = n - i∧i ≤ n∧ys.length = i∧H2 D = some (.lst ys)∧Same H1 H2∧Plain H2∧∀ (j:Nat) y,ys[j]? = some y→R j y H2,⟨_,rfl,Nat.zero_le _,rfl,upd_same,same_upd hD,hP.lst,fun j y e=>by simp at e⟩, ?_⟩
  rintro i m ys H2 ⟨rfl,hi,hl,hd,hs,hp,hr⟩
  refine ⟨hd, ?_⟩
  obtain ⟨j1,j2,j3⟩:=hJ i H2 hs
  by_cases hlt:i < n
  · refine .inr ⟨j1 hlt,by omega,fun v H3 hy => ?_⟩
    obtain ⟨rfl,rfl⟩:=j3 v H3 hlt hy
    simp only [tYes,if_true]
    refine step i _ _ hlt hp hs fun y H6 hR hs6 hp6=>⟨hs6 _ _ hd,_,by omega,rfl,hlt,by simp [hl],upd_same, ?_,hp6.lst, ?_⟩
    · exact (hs.trans hs6).upd hD
    · intro j z e
      have up:∀ b o,b ≠ D→H6 b = some o→(upd H6 D (.lst (ys ++ [y]))) b = some o:=fun b o hb e=>by rw [upd_ne hb]; exact e
      rcases Nat.lt_or_ge j ys.length with hj | hj
      · rw [List.getElem?_append_left hj] at e
        refine mono j z H6 _ (mono j z _ H6 (hr j z e) (fun b o _ e=>hs6 b o e) ⟨_,hd⟩) up ⟨_,hs6 _ _ hd⟩
      · rw [List.getElem?_append_right hj] at e
        have hj0:j - ys.length = 0:=by
          rcases Nat.eq_zero_or_pos (j - ys.length) with h0 | h0
          · exact h0
          · rw [List.getElem?_eq_none (by simp; omega)] at e; cases e
        rw [hj0] at e
        simp at e
        subst e
        have:j = i:=by omega
        subst this
        exact mono j y H6 _ hR up ⟨_,hs6 _ _ hd⟩
  · have e:i = n:=by omega
    subst e
    exact .inl ⟨j2,fin ys H2 hl hr hd hs hp⟩
theorem itl_ok {K:PySem.W.Frag} {a:Addr} {xs:List V} {H1:Hp} (h:SqL K H1 a xs):∀ i H2,Same H1 H2→(i < xs.length→(Itl K a).go i H2)∧((Itl K a).stop xs.length H2)∧∀ x H3,i < xs.length→(Itl K a).yld i H2 x H3→H3 = H2∧x = xs.getD i .non:=fun i H2 e=>by
  refine ⟨fun hi=>⟨xs,xs[i],e.seq h,by simp [hi]⟩,⟨xs,e.seq h,Nat.le_refl _⟩,fun x H3 hi y=>⟨y.1, ?_⟩⟩
  have:=y.2 xs (e.seq h)
  rw [List.getD_eq_getElem?_getD,this]; rfl
mutual
noncomputable def DV (K:PySem.W.Frag) (H:Hp):PyData→V→Prop
  | .none,v=>v = .non
  | .bool b,v=>v = .bl b
  | .int i,v=>v = .int i
  | .str x,v=>v = .str x
  | .list xs,v=>∃ a vs,v = .ref a∧SqL K H a vs∧DVs K H xs vs
  | .tuple xs,v=>∃ a vs,v = .ref a∧SqT K H a vs∧DVs K H xs vs
  | .dict _,_=>False
noncomputable def DVs (K:PySem.W.Frag) (H:Hp):List PyData→List V→Prop
  | [],vs=>vs = []
  | d :: ds,vs=>∃ v r,vs = v :: r∧DV K H d v∧DVs K H ds r
end
mutual
theorem DV.same {K:PySem.W.Frag} {H H':Hp} (e:Same H H'):∀ (d:PyData) (v:V),DV K H d v→DV K H' d v
  | .none,v,h=>h
  | .bool b,v,h=>h
  | .int i,v,h=>h
  | .str x,v,h=>h
  | .list xs,v,⟨a,vs,h1,h2,h3⟩=>⟨a,vs,h1,e.seq h2,DVs.same e xs vs h3⟩
  | .tuple xs,v,⟨a,vs,h1,h2,h3⟩=>⟨a,vs,h1,e.seqT h2,DVs.same e xs vs h3⟩
  | .dict _,v,h=>h.elim
theorem DVs.same {K:PySem.W.Frag} {H H':Hp} (e:Same H H'):∀ (ds:List PyData) (vs:List V),DVs K H ds vs→DVs K H' ds vs
  | [],vs,h=>h
  | d :: ds,vs,⟨v,r,h1,h2,h3⟩=>⟨v,r,h1,DV.same e d v h2,DVs.same e ds r h3⟩
end
section
variable {X:Cx} {pins:List (Addr × Obj)} {σ:St} {H:Hp} {s:Shared}
mutual
theorem DV.reads (I:Inv X pins σ H s):∀ (d:PyData) (v:V) (u:Value),DV X.K H d v→RelV v u→∃ as,Reads s.heap u d as
  | .none,v,u,h,r=>by cases (show v = V.non from h); cases r; exact ⟨_,.none⟩
  | .bool b,v,u,h,r=>by cases (show v = V.bl b from h); cases r; exact ⟨_,.bool b⟩
  | .int i,v,u,h,r=>by cases (show v = V.int i from h); obtain ⟨t,rfl⟩:=r; exact ⟨_,.int i t⟩
  | .str x,v,u,h,r=>by cases (show v = V.str x from h); obtain ⟨t,rfl⟩:=r; exact ⟨_,.str x t⟩
  | .list xs,v,u,h,r=>by
    obtain ⟨a,vs,rfl,h2,h3⟩:=h
    cases r
    obtain ⟨its,rv,pl,_⟩:=I.list h2
    obtain ⟨o,ho,hc,n,hd⟩:=pl.isList
    obtain ⟨as,ra⟩:=DVs.reads I xs vs its h3 rv
    exact ⟨_,.list ho hc hd (by simpa using ra)⟩
  | .tuple xs,v,u,h,r=>by
    obtain ⟨a,vs,rfl,h2,h3⟩:=h
    cases r
    obtain ⟨its,rv,pl,_⟩:=I.tuple h2
    obtain ⟨o,ho,hc,n,hd⟩:=pl
    obtain ⟨as,ra⟩:=DVs.reads I xs vs its h3 rv
    exact ⟨_,.tuple ho hc hd (by simpa using ra)⟩
  | .dict _,v,u,h,r=>h.elim
theorem DVs.reads (I:Inv X pins σ H s):∀ (ds:List PyData) (vs:List V) (us:List Value),DVs X.K H ds vs→Vals vs us→∃ as,ReadsAll s.heap us ds as
  | [],vs,us,h,r=>by cases (show vs = [] from h); cases r; exact ⟨_,.nil⟩
  | d :: ds,vs,us,h,r=>by
    obtain ⟨v,rest,rfl,h2,h3⟩:=h
    cases r with
    | cons r rr =>
      obtain ⟨as,ra⟩:=DV.reads I d _ _ h2 r
      obtain ⟨bs,rb⟩:=DVs.reads I ds _ _ h3 rr
      exact ⟨_,.cons ra rb⟩
end
end
section
variable {X:Cx}
noncomputable def rEqD (K:PySem.W.Frag):R2:=fun x y H Q=>∃ d e,DV K H d x∧DV K H e y∧SeqAt.shaped d = true∧SeqAt.shaped e = true∧Q (.bl (PyData.eqv d e)) H
noncomputable def rNeD (K:PySem.W.Frag):R2:=fun x y H Q=>∃ d e,DV K H d x∧DV K H e y∧SeqAt.shaped d = true∧SeqAt.shaped e = true∧Q (.bl (!PyData.eqv d e)) H
theorem op_eqD (hu:X.A.units + 64 < cLine):OpR X (compareOp .Eq) (rEqD X.K):=by
  intro pins s σ H x y v u Q I rx ry h
  obtain ⟨d,e,hd,he,sd,se,q⟩:=h
  obtain ⟨as,ra⟩:=DV.reads I d x v hd rx
  obtain ⟨bs,rb⟩:=DV.reads I e y u he ry
  exact SeqAt.compareEq_shaped ra rb sd se hu ⟨.bl _,H,I,rfl,q⟩
theorem op_neD (hu:X.A.units + 64 < cLine):OpR X (compareOp .NotEq) (rNeD X.K):=by
  intro pins s σ H x y v u Q I rx ry h
  obtain ⟨d,e,hd,he,sd,se,q⟩:=h
  obtain ⟨as,ra⟩:=DV.reads I d x v hd rx
  obtain ⟨bs,rb⟩:=DV.reads I e y u he ry
  exact SeqAt.compareNe_shaped ra rb sd se hu ⟨.bl _,H,I,rfl,q⟩
end
noncomputable def genSp {α:Type} (Pre:α→List V→Hp→Prop) (Post:α→V→Hp→Prop) (Exc:α→Addr→Prop):Sp:=fun vs H Q E=>Plain H∧∃ a,Pre a vs H∧(∀ v H',Post a v H'→Same H H'→Plain H'→Q v H')∧(∀ C H',Exc a C→Same H H'→Plain H'→E (.ref C) none H')
end L2
namespace L2
open PySem PySem.Spec PyProof.Rows PySem.NumText
section
variable {X:Cx}
end
end L2
namespace HT
open PySem PySem.Spec PyProof.Rows
section
variable {prog:Program} {w:World} {A:Around} {E:Value→Shared→Prop} {s:Shared}
theorem getItem_tuple_whole {t sl:Addr} {items:Array Value} {vl vu:Value} {lo hi:Option Int} {Q:Value→Shared→Prop} (ht:IsTup s.heap t items) (hs:s.heap.IsSliceOf sl vl vu .none) (pl:IsPart vl lo) (pu:IsPart vu hi)
    (hw:sIx items.size 0 lo = 0∧sIx items.size items.size hi = items.size) (h:Q (.ref t) s):wpAny (model prog w) A (getItem (.ref t) (.ref sl)) Q E s:=by
  obtain ⟨os,hos,hcs,hds⟩:=id hs
  have hTs:s.TypeIs (.ref sl) "slice" := ⟨os,hos,hcs⟩
  unfold getItem
  try with_reducible refine wpAny_holding ?_
  first | refine wpAny_bind (wpAny_pure ?_) | skip
  refine wpAny_bind (wpAny_sequenceKey ht.typeIs (by decide) ?_)
  refine wpAny_bind (wpAny_callSpecial?_slot (name:=Str.ofString "__getitem__") ht.typeIs PyProof.Rows.slot_tuple_getitem
    (wpAny_call_entry PyProof.Rows.slot_tuple_getitem ht.typeIs entry_tuple_getitem ?_ (args_tuple_getitem _ _)))
  show wpAny _ _ (Builtin.Tuple.tupleItemsOf (.ref t) >>= _) _ _ s
  refine wpAny_bind (tupleItemsOf_ ht ?_)
  refine wpAny_bind (wpAny_typeOf hTs ?_)
  rw [if_pos (by decide)]
  refine wpAny_bind (sliceApplied_gen hs pl pu ?_)
  have hyes:((((sIx items.size 0 lo:Nat):Int) == 0 && (1:Int) == 1 && (sIx items.size items.size hi - sIx items.size 0 lo) == items.size) = true):=by
    rw [hw.1,hw.2]
    simp
  show wpAny _ _ (if (((sIx items.size 0 lo:Nat):Int) == 0 && (1:Int) == 1 && (sIx items.size items.size hi - sIx items.size 0 lo) == items.size) = true then _ else _) _ _ s
  rw [if_pos hyes]
  refine wpAny_bind ?_
  unfold Builtin.Tuple.tupleIsExact
  refine wpAny_bind (wpAny_typeOf ht.typeIs (wpAny_pure ?_))
  rw [if_pos (by decide)]
  refine wpAny_bind (wpAny_rule ?_)
  refine wpAny_pure ⟨_,rfl, ?_⟩
  exact wpAny_pure h
end
end HT
namespace L2
open PySem PySem.Spec PyProof.Rows PySem.NumText
section
variable {X:Cx}
noncomputable def rSlG (K:PySem.W.Frag):V→Option Int→Option Int→Hp→VK→Prop:=fun x lo hi H Q=>∃ a xs,x = .ref a∧SqT K H a xs∧∀ p H',SqT K H' p (cutV xs lo hi)→Same H H'→(Plain H→Plain H')→Q (.ref p) H'
theorem sl_tupG:SlR X (rSlG X.K):=by
  intro pins s σ H x v vl vu lo hi sl Q I rx hs pl pu h
  obtain ⟨a,xs,rfl,hx,q⟩:=h
  by_cases hw:HT.sIx xs.length 0 lo = 0∧HT.sIx xs.length xs.length hi = xs.length
  · cases rx
    obtain ⟨its,r,ht,hz⟩:=I.tuple hx
    have hlen:its.toArray.size = xs.length:=by rw [List.size_toArray]; exact r.length.symm
    refine ⟨"tuple",_,PyProof.Rows.slot_tuple_getitem.lookup,ht.typeIs, ?_⟩
    refine HT.getItem_tuple_whole ht hs pl pu (by rw [hlen]; exact hw) ⟨.ref a,H,I,rfl,q _ _ ?_ (Same.refl _) id⟩
    unfold cutV
    rw [hw.1,hw.2]
    simpa using hx
  · exact sl_tup pins s σ H (.ref a) v vl vu lo hi sl Q I rx hs pl pu ⟨a,xs,rfl,hx,hw,fun p hp=>q _ _ (SqT.of upd_same) (same_upd hp) fun z=>z.tup⟩
end
mutual
noncomputable def noL:PyData→Bool
  | .list _=>false
  | .tuple xs=>noLs xs
  | _=>true
noncomputable def noLs:List PyData→Bool
  | []=>true
  | d :: ds=>noL d && noLs ds
end
theorem SqT.mono {K:PySem.W.Frag} {H H':Hp} {a D:Addr} {xs:List V} (k:∀ b o,b ≠ D→H b = some o→H' b = some o) (hd:∃ zs,H D = some (.lst zs)) (h:SqT K H a xs):SqT K H' a xs:=by
  obtain ⟨zs,hd⟩:=hd
  rcases h with h | h
  · rcases h with h | ⟨o,h⟩
    · exact .inl (.inl (k _ _ (ne_of h hd (fun e=>nomatch e)) h))
    · exact .inl (.inr ⟨o,k _ _ (ne_of h hd (fun e=>nomatch e)) h⟩)
  · exact .inr h
mutual
theorem DV.mono {K:PySem.W.Frag} {H H':Hp} {D:Addr} (k:∀ b o,b ≠ D→H b = some o→H' b = some o) (hd:∃ zs,H D = some (.lst zs)):∀ (d:PyData) (v:V),noL d = true→DV K H d v→DV K H' d v
  | .none,v,_,h=>h
  | .bool b,v,_,h=>h
  | .int i,v,_,h=>h
  | .str x,v,_,h=>h
  | .list xs,v,n,_=>by cases n
  | .tuple xs,v,n,⟨a,vs,h1,h2,h3⟩=>⟨a,vs,h1,h2.mono k hd,DVs.mono k hd xs vs n h3⟩
  | .dict _,v,_,h=>h.elim
theorem DVs.mono {K:PySem.W.Frag} {H H':Hp} {D:Addr} (k:∀ b o,b ≠ D→H b = some o→H' b = some o) (hd:∃ zs,H D = some (.lst zs)):∀ (ds:List PyData) (vs:List V),noLs ds = true→DVs K H ds vs→DVs K H' ds vs
  | [],vs,_,h=>h
  | d :: ds,vs,n,⟨v,r,h1,h2,h3⟩=>by
    have n:noL d = true∧noLs ds = true:=by rw [noLs,Bool.and_eq_true] at n; exact n
    exact ⟨v,r,h1,DV.mono k hd d v n.1 h2,DVs.mono k hd ds r n.2 h3⟩
end
theorem DVs.length {K:PySem.W.Frag} {H:Hp}:∀ {ds:List PyData} {vs:List V},DVs K H ds vs→vs.length = ds.length
  | [],vs,h=>by cases (show vs = [] from h); rfl
  | d :: ds,vs,⟨v,r,h1,h2,h3⟩=>by subst h1; simp [DVs.length h3]
theorem DVs.get {K:PySem.W.Frag} {H:Hp}:∀ {ds:List PyData} {vs:List V} {i:Nat} {d:PyData},DVs K H ds vs→ds[i]? = some d→∃ v,vs[i]? = some v∧DV K H d v
  | [],vs,i,d,h,e=>by simp at e
  | d :: ds,vs,0,e',⟨v,r,h1,h2,h3⟩,e=>by subst h1; simp at e; subst e; exact ⟨v,rfl,h2⟩
  | d :: ds,vs,i + 1,e',⟨v,r,h1,h2,h3⟩,e=>by subst h1; simp at e; obtain ⟨u,hu,q⟩:=DVs.get h3 e; exact ⟨u,by simpa using hu,q⟩
theorem DVs.append {K:PySem.W.Frag} {H:Hp}:∀ {ds es:List PyData} {vs us:List V},DVs K H ds vs→DVs K H es us→DVs K H (ds ++ es) (vs ++ us)
  | [],es,vs,us,h,h'=>by cases (show vs = [] from h); exact h'
  | d :: ds,es,vs,us,⟨v,r,h1,h2,h3⟩,h'=>by subst h1; exact ⟨v,r ++ us,rfl,h2,DVs.append h3 h'⟩
theorem DVs.of {α:Type} {K:PySem.W.Frag} {H:Hp} {f:α→PyData}:∀ {xs:List α} {vs:List V},vs.length = xs.length→(∀ (i:Nat) v x,vs[i]? = some v→xs[i]? = some x→DV K H (f x) v)→DVs K H (xs.map f) vs
  | [],vs,hl,h=>by cases vs with | nil=>rfl | cons _ _=>simp at hl
  | x :: xs,vs,hl,h=>by
    cases vs with
    | nil=>simp at hl
    | cons v vs=>exact ⟨v,vs,rfl,h 0 v x rfl rfl,DVs.of (by simpa using hl) fun i u y e1 e2=>h (i + 1) u y (by simpa using e1) (by simpa using e2)⟩
section
variable {X:Cx} {K:PySem.W.Frag}
end
end L2
namespace L2
open PySem PySem.Spec PyProof.Rows PySem.NumText
noncomputable abbrev Stp:=Int × Int × Int
noncomputable def stp (s:Stp):PyData := .tuple [.int s.1,.int s.2.1,.int s.2.2]
noncomputable def plc (ss:List Stp):PyData := .tuple (ss.map stp)
noncomputable abbrev sV (s:Stp):List V:=[.int s.1,.int s.2.1,.int s.2.2]
theorem stp_mk {K:PySem.W.Frag} {H:Hp} {s:Stp} {t:Addr} (h:SqT K H t (sV s)):DV K H (stp s) (.ref t):=⟨t,_,rfl,h,_,_,rfl,rfl,_,_,rfl,rfl,_,_,rfl,rfl,rfl⟩
theorem noL_stp (s:Stp):noL (stp s) = true:=rfl
theorem noLs_stp:∀ ss:List Stp,noLs (ss.map stp) = true
  | []=>rfl
  | s :: ss=>by rw [List.map_cons,noLs,noL_stp,noLs_stp ss]; rfl
theorem noL_plc (ss:List Stp):noL (plc ss) = true:=noLs_stp ss
theorem canLay_stps:∀ ss:List Stp,PyData.canLayAll0 (ss.map stp) = true
  | []=>rfl
  | s :: ss=>by
    rw [List.map_cons,PyData.canLayAll0,canLay_stps ss]
    rfl
theorem depth_stps:∀ ss:List Stp,PyData.depthAll (ss.map stp) ≤ 1
  | []=>Nat.zero_le _
  | s :: ss=>by
    rw [List.map_cons,PyData.depthAll]
    have h1:PyData.depth (stp s) = 1:=rfl
    have h2:=depth_stps ss
    rw [h1]
    omega
theorem plc_lay (ss:List Stp):PyData.canLay0 (plc ss) = true:=canLay_stps ss
theorem plc_shaped (ss:List Stp):SeqAt.shaped (plc ss) = true:=by
  unfold SeqAt.shaped
  rw [plc_lay,Bool.true_and]
  have h:PyData.depth (plc ss) = PyData.depthAll (ss.map stp) + 1:=rfl
  have:=depth_stps ss
  exact decide_eq_true (by omega)
theorem stp_eqv (a b:Stp):PyData.eqv (stp a) (stp b) = decide (a = b):=by
  obtain ⟨a1,a2,a3⟩:=a
  obtain ⟨b1,b2,b3⟩:=b
  have e:PyData.eqv (stp (a1,a2,a3)) (stp (b1,b2,b3)) = (a1 == b1 && (a2 == b2 && (a3 == b3 && true))):=rfl
  rw [e,Bool.eq_iff_iff]
  simp
theorem stps_eqv:∀ a b:List Stp,PyData.eqvAll (a.map stp) (b.map stp) = decide (a = b)
  | [],[]=>rfl
  | [],_ :: _=>rfl
  | _ :: _,[]=>rfl
  | x :: a,y :: b=>by
    rw [List.map_cons,List.map_cons,PyData.eqvAll,stp_eqv,stps_eqv a b,Bool.eq_iff_iff]
    simp
theorem plc_eqv (a b:List Stp):PyData.eqv (plc a) (plc b) = decide (a = b):=stps_eqv a b
end L2
namespace L2
open PySem PySem.Spec PyProof.Rows PySem.NumText
noncomputable def lexD (e r:Nat→Bool) (d:Bool):List Nat→Bool
  | []=>d
  | j :: js=>if e j = true then lexD e r d js else r j
noncomputable def CmpAt (op:CmpOp) (A:Around) (s:Shared) (y x:Value) (b:Bool):Prop :=
  ∀ (prog:Program) (w:World) (E:Value→Shared→Prop) (Q:Value→Shared→Prop),Q (.bool b) s→wpAny (model prog w) A (richCompare op y x) Q E s
section
open PySem.SeqAt
open PySem.AutoSeq1 (wpAny_loadPart')
open PySem.MeetsSeq PySem.MeetsSeq2 PySem.MeetsSeq3
end
noncomputable def lexG {α:Type} [DecidableEq α] (lt:α→α→Bool):List α→List α→Bool
  | [],[]=>false
  | [],_ :: _=>true
  | _ :: _,[]=>false
  | x :: xs,y :: ys=>if x = y then lexG lt xs ys else lt x y
theorem lexD_map (e r:Nat→Bool) (d:Bool):∀ js:List Nat,lexD e r d (js.map Nat.succ) = lexD (fun j=>e (j + 1)) (fun j=>r (j + 1)) d js
  | []=>rfl
  | j :: js=>by
    rw [List.map_cons,lexD,lexD,lexD_map e r d js]
noncomputable abbrev iLt (a b:Int):Bool:=decide (a < b)
noncomputable def sI (s:Stp):List Int:=[s.1,s.2.1,s.2.2]
theorem sI_inj {a b:Stp}:sI a = sI b ↔ a = b:=by
  obtain ⟨a1,a2,a3⟩:=a
  obtain ⟨b1,b2,b3⟩:=b
  simp [sI]
noncomputable abbrev sLt (a b:Stp):Bool:=lexG iLt (sI a) (sI b)
noncomputable abbrev pLt (a b:List Stp):Bool:=lexG sLt a b
section
variable {X:Cx} {pins:List (Addr × Obj)} {σ:St} {H:Hp} {s:Shared} {A:Around}
end
section
variable {X:Cx} {K:PySem.W.Frag}
end
theorem Room.u100 {k:Nat} {A:Around} (r:Room k A):A.units + 100 < cLine:=by have:=r.un; omega
end L2
namespace L2
open PySem PySem.Spec PyProof.Rows PySem.NumText
section
open PySem.SeqAt
open PySem.AutoSeq1 (wpAny_loadPart')
open PySem.MeetsSeq PySem.MeetsSeq2 PySem.MeetsSeq3
theorem tuple_ltAt1 (l b:Addr) (items items2:Array Value) (n n2:Nat) (dd dd2:Option Addr) (sl sl2:Array (Option Value)) (e r:Nat→Bool) :
    Meets (Builtin.«tuple.__lt__» ⟨[.ref l,.ref b],[]⟩)
      (fun A R s=>s.heap.get? l = some { cls := .type "tuple",dict:=dd,data := .seq items n,slots:=sl }∧s.heap.get? b = some { cls := .type "tuple",dict:=dd2,data := .seq items2 n2,slots:=sl2 } ∧
        (∀ j (h1:j < items.size) (h2:j < items2.size),EqAt A.in1 s items[j] items2[j] (e j)) ∧
        (∀ j (h1:j < items.size) (h2:j < items2.size),(∀ i,i < j→e i = true)→e j = false→CmpAt .Lt A.in1 s items[j] items2[j] (r j)) ∧
        R (.ok (.ret (.bool (lexD e r (decide (items.size < items2.size)) (List.range (min items.size items2.size)))))) s) :=
  .of_wp fun prog w A R s h=>by
    obtain ⟨hp,g,d,tk,os⟩:=s; obtain ⟨hl,hb,he,hc,h⟩:=h
    have f2:=AutoSeq1.sub_tuple_tuple
    have hZ:(items.toList.zip items2.toList).length = min items.size items2.size:=by simp
    wp_walk using wpAny_loadPart' hl,wpAny_loadPart' hb,wpAny_forIn_list _ (fun rest b s'=>b.1 = none∧s' = ⟨hp,g,d,tk,os⟩∧∃ i,rest = (items.toList.zip items2.toList).drop i∧(∀ k,k < i→e k = true) ∧
      R (.ok (.ret (.bool (lexD e r (decide (items.size < items2.size)) ((List.range (min items.size items2.size)).drop i))))) ⟨hp,g,d,tk,os⟩) _
    case turn =>
      rintro ⟨y,x⟩ rest b s' ⟨hb',rfl,i,hz,hall,hR⟩
      have hlt:i < (items.toList.zip items2.toList).length:=by
        rcases Nat.lt_or_ge i (items.toList.zip items2.toList).length with h' | h'
        · exact h'
        · rw [List.drop_of_length_le h'] at hz; cases hz
      have hm:i < min items.size items2.size:=hZ ▸ hlt
      have h1:i < items.size:=Nat.lt_of_lt_of_le hm (Nat.min_le_left _ _)
      have h2:i < items2.size:=Nat.lt_of_lt_of_le hm (Nat.min_le_right _ _)
      rw [List.drop_eq_getElem_cons hlt] at hz
      injection hz with hyx hrest
      have hy:y = items[i]:=by have:=congrArg Prod.fst hyx; simpa using this
      have hx:x = items2[i]:=by have:=congrArg Prod.snd hyx; simpa using this
      subst hy hx
      have hd:(List.range (min items.size items2.size)).drop i = i :: (List.range (min items.size items2.size)).drop (i + 1):=by simp [List.drop_eq_getElem_cons,hm]
      rw [hd,lexD] at hR
      refine wpAny_bind (he i h1 h2 prog w _ _ ?_)
      cases hy:e i with
      | true =>
        rw [hy,if_pos rfl] at hR
        wp_walk
        exact ⟨rfl,rfl,i + 1,hrest,fun k hk=>by
          rcases Nat.lt_or_ge k i with h' | h'
          · exact hall k h'
          · have:k = i:=by omega
            rw [this]; exact hy,hR⟩
      | false =>
        rw [hy,if_neg Bool.false_ne_true] at hR
        have hri:=hc i h1 h2 hall hy prog w
        wp_walk using hri
        exact ⟨_,rfl,by simpa using hR⟩
    case fin =>
      rintro ⟨b1,b2⟩ s' ⟨hb',rfl,i,hz,hall,hR⟩
      simp only at hb'
      subst hb'
      have hge:min items.size items2.size ≤ i:=by
        rw [← hZ]
        rcases Nat.lt_or_ge i (items.toList.zip items2.toList).length with h' | h'
        · rw [List.drop_eq_getElem_cons h'] at hz; cases hz
        · exact h'
      rw [List.drop_of_length_le (by simpa using hge),lexD] at hR
      wp_walk
      exact ⟨_,rfl,by simpa [Builtin.Tuple.tupleCompareSizes] using hR⟩
    case h =>
      exact ⟨rfl,rfl,0,rfl,fun k hk=>absurd hk (Nat.not_lt_zero _),h⟩
theorem lt_tupAt1 {prog:Program} {w:World} {A:Around} {E:Value→Shared→Prop} {s:Shared} {l b:Addr} {items items2:Array Value} {e r:Nat→Bool} {Q:Value→Shared→Prop} (hl:IsTup s.heap l items) (hb:IsTup s.heap b items2)
    (he:∀ j (h1:j < items.size) (h2:j < items2.size),EqAt A.in1 s items[j] items2[j] (e j)) (hc:∀ j (h1:j < items.size) (h2:j < items2.size),(∀ i,i < j→e i = true)→e j = false→CmpAt .Lt A.in1 s items[j] items2[j] (r j))
    (hu:A.units < cLine) (h:Q (.bool (lexD e r (decide (items.size < items2.size)) (List.range (min items.size items2.size)))) s):wpAny (model prog w) A (compareOp .Lt (.ref l) (.ref b)) Q E s:=by
  obtain ⟨⟨cls,dd,data,sl⟩,ho,hc1,n,hd⟩:=id hl
  obtain ⟨⟨cls2,dd2,data2,sl2⟩,ho2,hc2,n2,hd2⟩:=id hb
  simp only at hc1 hd hc2 hd2
  subst hc1 hd hc2 hd2
  refine richCompare_meets_room (op := .Lt) ⟨_,ho,rfl⟩ ⟨_,ho2,rfl⟩ PySem.F.slot_tuple_lt PySem.F.entry_tuple_lt (PySem.F.args_tuple_lt_2 _ _) (tuple_ltAt1 l b items items2 n n2 dd dd2 sl sl2 e r) ⟨ho,ho2,he,hc, ?_⟩ hu
  exact (show Value.bool _ ≠ Value.notImplemented∧Q (.bool _) s from ⟨(fun x=>nomatch x),h⟩)
theorem tuple_geAt1 (l b:Addr) (items items2:Array Value) (n n2:Nat) (dd dd2:Option Addr) (sl sl2:Array (Option Value)) (e r:Nat→Bool) :
    Meets (Builtin.«tuple.__ge__» ⟨[.ref l,.ref b],[]⟩)
      (fun A R s=>s.heap.get? l = some { cls := .type "tuple",dict:=dd,data := .seq items n,slots:=sl }∧s.heap.get? b = some { cls := .type "tuple",dict:=dd2,data := .seq items2 n2,slots:=sl2 } ∧
        (∀ j (h1:j < items.size) (h2:j < items2.size),EqAt A.in1 s items[j] items2[j] (e j)) ∧
        (∀ j (h1:j < items.size) (h2:j < items2.size),(∀ i,i < j→e i = true)→e j = false→CmpAt .GtE A.in1 s items[j] items2[j] (r j)) ∧
        R (.ok (.ret (.bool (lexD e r (decide (items2.size ≤ items.size)) (List.range (min items.size items2.size)))))) s) :=
  .of_wp fun prog w A R s h=>by
    obtain ⟨hp,g,d,tk,os⟩:=s; obtain ⟨hl,hb,he,hc,h⟩:=h
    have f2:=AutoSeq1.sub_tuple_tuple
    have hZ:(items.toList.zip items2.toList).length = min items.size items2.size:=by simp
    wp_walk using wpAny_loadPart' hl,wpAny_loadPart' hb,wpAny_forIn_list _ (fun rest b s'=>b.1 = none∧s' = ⟨hp,g,d,tk,os⟩∧∃ i,rest = (items.toList.zip items2.toList).drop i∧(∀ k,k < i→e k = true) ∧
      R (.ok (.ret (.bool (lexD e r (decide (items2.size ≤ items.size)) ((List.range (min items.size items2.size)).drop i))))) ⟨hp,g,d,tk,os⟩) _
    case turn =>
      rintro ⟨y,x⟩ rest b s' ⟨hb',rfl,i,hz,hall,hR⟩
      have hlt:i < (items.toList.zip items2.toList).length:=by
        rcases Nat.lt_or_ge i (items.toList.zip items2.toList).length with h' | h'
        · exact h'
        · rw [List.drop_of_length_le h'] at hz; cases hz
      have hm:i < min items.size items2.size:=hZ ▸ hlt
      have h1:i < items.size:=Nat.lt_of_lt_of_le hm (Nat.min_le_left _ _)
      have h2:i < items2.size:=Nat.lt_of_lt_of_le hm (Nat.min_le_right _ _)
      rw [List.drop_eq_getElem_cons hlt] at hz
      injection hz with hyx hrest
      have hy:y = items[i]:=by have:=congrArg Prod.fst hyx; simpa using this
      have hx:x = items2[i]:=by have:=congrArg Prod.snd hyx; simpa using this
      subst hy hx
      have hd:(List.range (min items.size items2.size)).drop i = i :: (List.range (min items.size items2.size)).drop (i + 1):=by simp [List.drop_eq_getElem_cons,hm]
      rw [hd,lexD] at hR
      refine wpAny_bind (he i h1 h2 prog w _ _ ?_)
      cases hy:e i with
      | true =>
        rw [hy,if_pos rfl] at hR
        wp_walk
        exact ⟨rfl,rfl,i + 1,hrest,fun k hk=>by
          rcases Nat.lt_or_ge k i with h' | h'
          · exact hall k h'
          · have:k = i:=by omega
            rw [this]; exact hy,hR⟩
      | false =>
        rw [hy,if_neg Bool.false_ne_true] at hR
        have hri:=hc i h1 h2 hall hy prog w
        wp_walk using hri
        exact ⟨_,rfl,by simpa using hR⟩
    case fin =>
      rintro ⟨b1,b2⟩ s' ⟨hb',rfl,i,hz,hall,hR⟩
      simp only at hb'
      subst hb'
      have hge:min items.size items2.size ≤ i:=by
        rw [← hZ]
        rcases Nat.lt_or_ge i (items.toList.zip items2.toList).length with h' | h'
        · rw [List.drop_eq_getElem_cons h'] at hz; cases hz
        · exact h'
      rw [List.drop_of_length_le (by simpa using hge),lexD] at hR
      wp_walk
      exact ⟨_,rfl,by simpa [Builtin.Tuple.tupleCompareSizes] using hR⟩
    case h =>
      exact ⟨rfl,rfl,0,rfl,fun k hk=>absurd hk (Nat.not_lt_zero _),h⟩
theorem ge_tupAt1 {prog:Program} {w:World} {A:Around} {E:Value→Shared→Prop} {s:Shared} {l b:Addr} {items items2:Array Value} {e r:Nat→Bool} {Q:Value→Shared→Prop} (hl:IsTup s.heap l items) (hb:IsTup s.heap b items2)
    (he:∀ j (h1:j < items.size) (h2:j < items2.size),EqAt A.in1 s items[j] items2[j] (e j)) (hc:∀ j (h1:j < items.size) (h2:j < items2.size),(∀ i,i < j→e i = true)→e j = false→CmpAt .GtE A.in1 s items[j] items2[j] (r j))
    (hu:A.units < cLine) (h:Q (.bool (lexD e r (decide (items2.size ≤ items.size)) (List.range (min items.size items2.size)))) s):wpAny (model prog w) A (compareOp .GtE (.ref l) (.ref b)) Q E s:=by
  obtain ⟨⟨cls,dd,data,sl⟩,ho,hc1,n,hd⟩:=id hl
  obtain ⟨⟨cls2,dd2,data2,sl2⟩,ho2,hc2,n2,hd2⟩:=id hb
  simp only at hc1 hd hc2 hd2
  subst hc1 hd hc2 hd2
  refine richCompare_meets_room (op := .GtE) ⟨_,ho,rfl⟩ ⟨_,ho2,rfl⟩ PySem.F.slot_tuple_ge PySem.F.entry_tuple_ge (PySem.F.args_tuple_ge_2 _ _) (tuple_geAt1 l b items items2 n n2 dd dd2 sl sl2 e r) ⟨ho,ho2,he,hc, ?_⟩ hu
  exact (show Value.bool _ ≠ Value.notImplemented∧Q (.bool _) s from ⟨(fun x=>nomatch x),h⟩)
theorem tuple_gtAt1 (l b:Addr) (items items2:Array Value) (n n2:Nat) (dd dd2:Option Addr) (sl sl2:Array (Option Value)) (e r:Nat→Bool) :
    Meets (Builtin.«tuple.__gt__» ⟨[.ref l,.ref b],[]⟩)
      (fun A R s=>s.heap.get? l = some { cls := .type "tuple",dict:=dd,data := .seq items n,slots:=sl }∧s.heap.get? b = some { cls := .type "tuple",dict:=dd2,data := .seq items2 n2,slots:=sl2 } ∧
        (∀ j (h1:j < items.size) (h2:j < items2.size),EqAt A.in1 s items[j] items2[j] (e j)) ∧
        (∀ j (h1:j < items.size) (h2:j < items2.size),(∀ i,i < j→e i = true)→e j = false→CmpAt .Gt A.in1 s items[j] items2[j] (r j)) ∧
        R (.ok (.ret (.bool (lexD e r (decide (items2.size < items.size)) (List.range (min items.size items2.size)))))) s) :=
  .of_wp fun prog w A R s h=>by
    obtain ⟨hp,g,d,tk,os⟩:=s; obtain ⟨hl,hb,he,hc,h⟩:=h
    have f2:=AutoSeq1.sub_tuple_tuple
    have hZ:(items.toList.zip items2.toList).length = min items.size items2.size:=by simp
    wp_walk using wpAny_loadPart' hl,wpAny_loadPart' hb,wpAny_forIn_list _ (fun rest b s'=>b.1 = none∧s' = ⟨hp,g,d,tk,os⟩∧∃ i,rest = (items.toList.zip items2.toList).drop i∧(∀ k,k < i→e k = true) ∧
      R (.ok (.ret (.bool (lexD e r (decide (items2.size < items.size)) ((List.range (min items.size items2.size)).drop i))))) ⟨hp,g,d,tk,os⟩) _
    case turn =>
      rintro ⟨y,x⟩ rest b s' ⟨hb',rfl,i,hz,hall,hR⟩
      have hlt:i < (items.toList.zip items2.toList).length:=by
        rcases Nat.lt_or_ge i (items.toList.zip items2.toList).length with h' | h'
        · exact h'
        · rw [List.drop_of_length_le h'] at hz; cases hz
      have hm:i < min items.size items2.size:=hZ ▸ hlt
      have h1:i < items.size:=Nat.lt_of_lt_of_le hm (Nat.min_le_left _ _)
      have h2:i < items2.size:=Nat.lt_of_lt_of_le hm (Nat.min_le_right _ _)
      rw [List.drop_eq_getElem_cons hlt] at hz
      injection hz with hyx hrest
      have hy:y = items[i]:=by have:=congrArg Prod.fst hyx; simpa using this
      have hx:x = items2[i]:=by have:=congrArg Prod.snd hyx; simpa using this
      subst hy hx
      have hd:(List.range (min items.size items2.size)).drop i = i :: (List.range (min items.size items2.size)).drop (i + 1):=by simp [List.drop_eq_getElem_cons,hm]
      rw [hd,lexD] at hR
      refine wpAny_bind (he i h1 h2 prog w _ _ ?_)
      cases hy:e i with
      | true =>
        rw [hy,if_pos rfl] at hR
        wp_walk
        exact ⟨rfl,rfl,i + 1,hrest,fun k hk=>by
          rcases Nat.lt_or_ge k i with h' | h'
          · exact hall k h'
          · have:k = i:=by omega
            rw [this]; exact hy,hR⟩
      | false =>
        rw [hy,if_neg Bool.false_ne_true] at hR
        have hri:=hc i h1 h2 hall hy prog w
        wp_walk using hri
        exact ⟨_,rfl,by simpa using hR⟩
    case fin =>
      rintro ⟨b1,b2⟩ s' ⟨hb',rfl,i,hz,hall,hR⟩
      simp only at hb'
      subst hb'
      have hge:min items.size items2.size ≤ i:=by
        rw [← hZ]
        rcases Nat.lt_or_ge i (items.toList.zip items2.toList).length with h' | h'
        · rw [List.drop_eq_getElem_cons h'] at hz; cases hz
        · exact h'
      rw [List.drop_of_length_le (by simpa using hge),lexD] at hR
      wp_walk
      exact ⟨_,rfl,by simpa [Builtin.Tuple.tupleCompareSizes] using hR⟩
    case h =>
      exact ⟨rfl,rfl,0,rfl,fun k hk=>absurd hk (Nat.not_lt_zero _),h⟩
theorem gt_tupAt1 {prog:Program} {w:World} {A:Around} {E:Value→Shared→Prop} {s:Shared} {l b:Addr} {items items2:Array Value} {e r:Nat→Bool} {Q:Value→Shared→Prop} (hl:IsTup s.heap l items) (hb:IsTup s.heap b items2)
    (he:∀ j (h1:j < items.size) (h2:j < items2.size),EqAt A.in1 s items[j] items2[j] (e j)) (hc:∀ j (h1:j < items.size) (h2:j < items2.size),(∀ i,i < j→e i = true)→e j = false→CmpAt .Gt A.in1 s items[j] items2[j] (r j))
    (hu:A.units < cLine) (h:Q (.bool (lexD e r (decide (items2.size < items.size)) (List.range (min items.size items2.size)))) s):wpAny (model prog w) A (compareOp .Gt (.ref l) (.ref b)) Q E s:=by
  obtain ⟨⟨cls,dd,data,sl⟩,ho,hc1,n,hd⟩:=id hl
  obtain ⟨⟨cls2,dd2,data2,sl2⟩,ho2,hc2,n2,hd2⟩:=id hb
  simp only at hc1 hd hc2 hd2
  subst hc1 hd hc2 hd2
  refine richCompare_meets_room (op := .Gt) ⟨_,ho,rfl⟩ ⟨_,ho2,rfl⟩ PySem.F.slot_tuple_gt PySem.F.entry_tuple_gt (PySem.F.args_tuple_gt_2 _ _) (tuple_gtAt1 l b items items2 n n2 dd dd2 sl sl2 e r) ⟨ho,ho2,he,hc, ?_⟩ hu
  exact (show Value.bool _ ≠ Value.notImplemented∧Q (.bool _) s from ⟨(fun x=>nomatch x),h⟩)
end
mutual
noncomputable def ltD:PyData→PyData→Option Bool
  | .int a,.int b=>some (decide (a < b))
  | .str a,.str b=>some (decide (a.cps.toList < b.cps.toList))
  | .tuple xs,.tuple ys=>ltDs xs ys
  | _,_=>none
noncomputable def ltDs:List PyData→List PyData→Option Bool
  | [],[]=>some false
  | [],_ :: _=>some true
  | _ :: _,[]=>some false
  | x :: xs,y :: ys=>if PyData.eqv x y = true then ltDs xs ys else ltD x y
end
theorem lexD_ltDs {e r:Nat→Bool}:∀ {xs ys:List PyData} {b:Bool},ltDs xs ys = some b→(∀ (j:Nat) x y,xs[j]? = some x→ys[j]? = some y→e j = PyData.eqv x y) →
    (∀ (j:Nat) x y c,xs[j]? = some x→ys[j]? = some y→(∀ i,i < j→e i = true)→e j = false→ltD x y = some c→r j = c) →
    lexD e r (decide (xs.length < ys.length)) (List.range (min xs.length ys.length)) = b:=by
  intro xs
  induction xs generalizing e r with
  | nil =>
    intro ys b h _ _
    cases ys with
    | nil=>cases h; rfl
    | cons y ys=>cases h; rw [List.length_nil,Nat.zero_min]; exact decide_eq_true (Nat.succ_pos _)
  | cons x xs ih =>
    intro ys b h he hr
    cases ys with
    | nil=>cases h; rw [List.length_nil,Nat.min_zero]; exact decide_eq_false (Nat.not_lt_zero _)
    | cons y ys =>
      have h0:=he 0 x y rfl rfl
      rw [List.length_cons,List.length_cons,Nat.succ_min_succ,List.range_succ_eq_map,lexD]
      rw [ltDs] at h
      by_cases hxy:PyData.eqv x y = true
      · rw [if_pos hxy] at h
        rw [if_pos (h0.trans hxy),lexD_map]
        have:=ih (ys:=ys) (e:=fun j=>e (j + 1)) (r:=fun j=>r (j + 1)) h (fun j a b h1 h2=>he (j + 1) a b (by simpa using h1) (by simpa using h2))
          (fun j a b c h1 h2 h3 h4 h5=>hr (j + 1) a b c (by simpa using h1) (by simpa using h2) (fun i hi=>by
            cases i with
            | zero=>exact h0.trans hxy
            | succ i=>exact h3 i (by omega)) h4 h5)
        rw [← this]
        congr 1
        exact decide_eq_decide.mpr (by omega)
      · rw [if_neg hxy] at h
        have hf:e 0 = false:=by rw [h0]; simpa using hxy
        rw [if_neg (by rw [hf]; exact Bool.false_ne_true)]
        exact hr 0 x y b rfl rfl (fun i hi=>absurd hi (Nat.not_lt_zero _)) hf h
theorem lexD_not {e r:Nat→Bool} {d:Bool}:∀ js:List Nat,lexD e (fun j => !r j) (!d) js = !lexD e r d js
  | []=>rfl
  | j :: js=>by
    rw [lexD,lexD,lexD_not js]
    split <;> rfl
theorem readsAll_at {h:Heap}:∀ {xs:List PyData} {vs:List Value} {as:List Addr} {j:Nat} {v:Value},ReadsAll h vs xs as→vs[j]? = some v→∃ d bs,xs[j]? = some d∧Reads h v d bs∧d ∈ xs
  | _,_,_,0,v,.cons (v:=u) (d:=d) r rr,e=>by
    have:u = v:=by simpa using e
    subst this
    exact ⟨_,_,rfl,r,List.mem_cons_self⟩
  | _,_,_,j + 1,v,.cons r rr,e=>by
    obtain ⟨d,bs,h1,h2,h3⟩:=readsAll_at rr (j:=j) (by simpa using e)
    exact ⟨d,bs,by simpa using h1,h2,List.mem_cons_of_mem _ h3⟩
theorem canLay_mem:∀ {xs:List PyData} {d:PyData},d ∈ xs→PyData.canLayAll0 xs = true→PyData.canLay0 d = true
  | x :: xs,d,h,c=>by
    rw [PyData.canLayAll0,Bool.and_eq_true] at c
    rcases List.mem_cons.mp h with rfl | h
    · exact c.1
    · exact canLay_mem h c.2
theorem depth_mem:∀ {xs:List PyData} {d:PyData},d ∈ xs→PyData.depth d ≤ PyData.depthAll xs
  | x :: xs,d,h=>by
    rw [PyData.depthAll]
    rcases List.mem_cons.mp h with rfl | h
    · omega
    · have:=depth_mem h
      omega
theorem cmpAt_data:∀ (n:Nat) (da db:PyData) (c:Bool) (A:Around) (s:Shared) (a b:Value) (as bs:List Addr),PyData.depth da ≤ n→Reads s.heap a da as→Reads s.heap b db bs→da.canLay0 = true→db.canLay0 = true→ltD da db = some c →
    A.units + n + 2 < cLine→CmpAt .Lt A s a b c∧CmpAt .GtE A s a b (!c):=by
  intro n
  induction n with
  | zero =>
    intro da db c A s a b as bs hd ra rb _ _ hc hu
    cases ra with
    | int i t =>
      cases rb with
      | int j u =>
        have hc:decide (i < j) = c:=by simpa [ltD] using hc
        subst hc
        refine ⟨fun prog w E Q hq=>(PyProof.Rows.lt_int hq:wpAny (model prog w) A (compareOp .Lt (.int i t) (.int j u)) Q E s),fun prog w E Q hq => ?_⟩
        have e:(!decide (i < j)) = decide (j ≤ i):=by rw [← decide_not]; exact decide_eq_decide.mpr (by omega)
        rw [e] at hq
        exact (PyProof.Rows.ge_int hq:wpAny (model prog w) A (compareOp .GtE (.int i t) (.int j u)) Q E s)
      | _=>simp [ltD] at hc
    | str x t =>
      cases rb with
      | str y u =>
        have hc:decide (x.cps.toList < y.cps.toList) = c:=by simpa [ltD] using hc
        subst hc
        exact ⟨fun prog w E Q hq=>(PyProof.Rows.lt_str hq:wpAny (model prog w) A (compareOp .Lt (.str x t) (.str y u)) Q E s),fun prog w E Q hq=>(PySem.P.ge_str hq:wpAny (model prog w) A (compareOp .GtE (.str x t) (.str y u)) Q E s)⟩
      | _=>simp [ltD] at hc
    | tuple h1 h2 h3 h4=>simp [PyData.depth] at hd
    | _=>simp [ltD] at hc
  | succ n ih =>
    intro da db c A s a b as bs hd ra rb la lb hc hu
    cases ra with
    | int i t =>
      cases rb with
      | int j u =>
        have hc:decide (i < j) = c:=by simpa [ltD] using hc
        subst hc
        refine ⟨fun prog w E Q hq=>(PyProof.Rows.lt_int hq:wpAny (model prog w) A (compareOp .Lt (.int i t) (.int j u)) Q E s),fun prog w E Q hq => ?_⟩
        have e:(!decide (i < j)) = decide (j ≤ i):=by rw [← decide_not]; exact decide_eq_decide.mpr (by omega)
        rw [e] at hq
        exact (PyProof.Rows.ge_int hq:wpAny (model prog w) A (compareOp .GtE (.int i t) (.int j u)) Q E s)
      | _=>simp [ltD] at hc
    | str x t =>
      cases rb with
      | str y u =>
        have hc:decide (x.cps.toList < y.cps.toList) = c:=by simpa [ltD] using hc
        subst hc
        exact ⟨fun prog w E Q hq=>(PyProof.Rows.lt_str hq:wpAny (model prog w) A (compareOp .Lt (.str x t) (.str y u)) Q E s),fun prog w E Q hq=>(PySem.P.ge_str hq:wpAny (model prog w) A (compareOp .GtE (.str x t) (.str y u)) Q E s)⟩
      | _=>simp [ltD] at hc
    | @tuple l o vs m xs as h1 h2 h3 h4 =>
      cases rb with
      | @tuple l2 o2 vs2 m2 ys bs g1 g2 g3 g4 =>
        have hc:ltDs xs ys = some c:=by simpa [ltD] using hc
        have z1:vs.size = xs.length:=by have:=SeqAt.ReadsAll.length _ _ _ h4; simpa using this
        have z2:vs2.size = ys.length:=by have:=SeqAt.ReadsAll.length _ _ _ g4; simpa using this
        have la':PyData.canLayAll0 xs = true:=la
        have lb':PyData.canLayAll0 ys = true:=lb
        have hd':PyData.depthAll xs ≤ n:=by have:PyData.depth (.tuple xs) = PyData.depthAll xs + 1:=rfl; omega
        have at1:∀ j (h:j < vs.size),∃ d bs,xs[j]? = some d∧Reads s.heap vs[j] d bs∧d ∈ xs:=fun j h=>readsAll_at h4 (by simp [h])
        have at2:∀ j (h:j < vs2.size),∃ d bs,ys[j]? = some d∧Reads s.heap vs2[j] d bs∧d ∈ ys:=fun j h=>readsAll_at g4 (by simp [h])
        have he:∀ j (k1:j < vs.size) (k2:j < vs2.size),SeqAt.EqAt A.in1 s vs[j] vs2[j] (PyData.eqv ((xs[j]?).getD .none) ((ys[j]?).getD .none)):=fun j k1 k2=>by
          obtain ⟨d,b1,e1,r1,m1⟩:=at1 j k1
          obtain ⟨d2,b2,e2,r2,m2⟩:=at2 j k2
          rw [e1,e2]
          refine SeqAt.eqAt_reads d d2 A.in1 s _ _ b1 b2 r1 r2 (canLay_mem m1 la') (canLay_mem m2 lb') ?_
          have:=depth_mem m1
          have:min d.depth d2.depth ≤ d.depth:=Nat.min_le_left _ _
          show A.units + 1 + min d.depth d2.depth < cLine
          omega
        have hl:IsTup s.heap l vs:=⟨o,h1,h2,m,h3⟩
        have hr:IsTup s.heap l2 vs2:=⟨o2,g1,g2,m2,g3⟩
        have e0:∀ (j:Nat) x y,xs[j]? = some x→ys[j]? = some y→PyData.eqv ((xs[j]?).getD .none) ((ys[j]?).getD .none) = PyData.eqv x y:=fun j x y e1 e2=>by rw [e1,e2]; rfl
        have lexlt:=lexD_ltDs (e:=fun j=>PyData.eqv ((xs[j]?).getD .none) ((ys[j]?).getD .none)) (r:=fun j=>(ltD ((xs[j]?).getD .none) ((ys[j]?).getD .none)).getD false) hc e0 (fun j x y c' e1 e2 _ _ e3=>by rw [e1,e2]; simp only [Option.getD_some]; rw [e3]; rfl)
        have ans:∀ (xs ys:List PyData) (c:Bool),ltDs xs ys = some c→∀ (j:Nat) x y,xs[j]? = some x→ys[j]? = some y→(∀ i x y,i < j→xs[i]? = some x→ys[i]? = some y→PyData.eqv x y = true)→PyData.eqv x y = false→∃ c',ltD x y = some c':=by
          intro xs
          induction xs with
          | nil=>intro ys c _ j x y e1; simp at e1
          | cons x0 xs ih2 =>
            intro ys c h j x y e1 e2 hall hne
            cases ys with
            | nil=>simp at e2
            | cons y0 ys =>
              rw [ltDs] at h
              cases j with
              | zero =>
                simp at e1 e2
                subst e1 e2
                rw [if_neg (by rw [hne]; exact Bool.false_ne_true)] at h
                exact ⟨c,h⟩
              | succ j =>
                rw [if_pos (hall 0 x0 y0 (Nat.succ_pos _) rfl rfl)] at h
                exact ih2 ys c h j x y (by simpa using e1) (by simpa using e2) (fun i a b hi h1 h2=>hall (i + 1) a b (by omega) (by simpa using h1) (by simpa using h2)) hne
        have hu1:A.in1.units + n + 2 < cLine:=by show A.units + 1 + n + 2 < cLine; omega
        have cmp:∀ j (k1:j < vs.size) (k2:j < vs2.size),(∀ i,i < j→PyData.eqv ((xs[i]?).getD .none) ((ys[i]?).getD .none) = true)→PyData.eqv ((xs[j]?).getD .none) ((ys[j]?).getD .none) = false →
            CmpAt .Lt A.in1 s vs[j] vs2[j] ((ltD ((xs[j]?).getD .none) ((ys[j]?).getD .none)).getD false)∧CmpAt .GtE A.in1 s vs[j] vs2[j] (!(ltD ((xs[j]?).getD .none) ((ys[j]?).getD .none)).getD false):=fun j k1 k2 hall hne=>by
          obtain ⟨d,b1,e1,r1,m1⟩:=at1 j k1
          obtain ⟨d2,b2,e2,r2,m2⟩:=at2 j k2
          rw [e1,e2] at hne ⊢
          obtain ⟨c',hc'⟩:=ans xs ys c hc j d d2 e1 e2 (fun i x y hi h1 h2=>by have:=hall i hi; rw [h1,h2] at this; exact this) hne
          simp only [Option.getD_some]
          rw [hc']
          exact ih d d2 c' A.in1 s _ _ b1 b2 (Nat.le_trans (depth_mem m1) hd') r1 r2 (canLay_mem m1 la') (canLay_mem m2 lb') hc' hu1
        refine ⟨fun prog w E Q hq => ?_,fun prog w E Q hq => ?_⟩
        · refine (lt_tupAt1 hl hr he (fun j k1 k2 h3 h4=>(cmp j k1 k2 h3 h4).1) (by omega) ?_:wpAny (model prog w) A (compareOp .Lt (.ref l) (.ref l2)) Q E s)
          rw [z1,z2,lexlt]
          exact hq
        · refine (ge_tupAt1 hl hr he (fun j k1 k2 h3 h4=>(cmp j k1 k2 h3 h4).2) (by omega) ?_:wpAny (model prog w) A (compareOp .GtE (.ref l) (.ref l2)) Q E s)
          have e:decide (vs2.size ≤ vs.size) = !decide (vs.size < vs2.size):=by rw [← decide_not]; exact decide_eq_decide.mpr (by omega)
          rw [e,lexD_not,z1,z2,lexlt]
          exact hq
      | _=>simp [ltD] at hc
    | _=>simp [ltD] at hc
section
variable {X:Cx}
end
end L2
namespace L2
open PySem
noncomputable abbrev ST:=SetTable
structure Fit (t:ST):Prop where
  dum:t.dummies = #[]
  sz:t.place.size ≤ t.mask
  msk:t.mask = 7 ∨ t.mask = 31 ∨ t.mask = 127 ∨ t.mask = 511
noncomputable def lcg (m i:Nat):Nat:=(i * 5 + 1) % m
noncomputable def orb (m:Nat):Nat→Nat→Nat
  | 0,i=>i
  | n + 1,i=>orb m n (lcg m i)
theorem orb_add (m:Nat):∀ (a b i:Nat),orb m (a + b) i = orb m b (orb m a i)
  | 0,b,i=>by rw [Nat.zero_add]; rfl
  | a + 1,b,i=>by rw [Nat.succ_add]; exact orb_add m a b (lcg m i)
noncomputable def orbList (m:Nat):Nat→Nat→List Nat
  | 0,_=>[]
  | n + 1,i=>i :: orbList m n (lcg m i)
theorem mem_orbList {m:Nat}:∀ {n i j:Nat},j ∈ orbList m n i→∃ k,k < n∧orb m k i = j
  | n + 1,i,j,h=>by
    rcases List.mem_cons.mp h with rfl | h
    · exact ⟨0,Nat.succ_pos _,rfl⟩
    · obtain ⟨k,hk,e⟩:=mem_orbList h
      exact ⟨k + 1,by omega,e⟩
noncomputable def covers (m:Nat):Bool:=(List.range m).all (fun j=>(orbList m m 0).contains j) && (orb m m 0 == 0)
theorem cov8:covers 8 = true:=by decide +kernel
theorem cov32:covers 32 = true:=by decide +kernel
theorem cov128:covers 128 = true:=by decide +kernel
theorem cov512:covers 512 = true:=by decide +kernel
theorem covers_of {t:ST} (f:Fit t):covers (t.mask + 1) = true:=by
  rcases f.msk with e | e | e | e <;> rw [e]
  · exact cov8
  · exact cov32
  · exact cov128
  · exact cov512
theorem reach0 {m j:Nat} (c:covers m = true) (hj:j < m):∃ k,k < m∧orb m k 0 = j:=by
  unfold covers at c
  rw [Bool.and_eq_true] at c
  have:=List.all_eq_true.mp c.1 j (List.mem_range.mpr hj)
  exact mem_orbList (by simpa using this)
theorem period {m:Nat} (c:covers m = true):orb m m 0 = 0:=by
  unfold covers at c
  rw [Bool.and_eq_true] at c
  exact eq_of_beq c.2
theorem reach {m i j:Nat} (c:covers m = true) (hi:i < m) (hj:j < m):∃ k,k < m∧orb m k i = j:=by
  obtain ⟨a,ha,ea⟩:=reach0 c hi
  obtain ⟨b,hb,eb⟩:=reach0 c hj
  rcases Nat.lt_or_ge b a with h | h
  · refine ⟨m - a + b,by omega, ?_⟩
    rw [← ea, ← orb_add,show a + (m - a + b) = m + b by omega,orb_add,period c,eb]
  · refine ⟨b - a,by omega, ?_⟩
    rw [← ea, ← orb_add,show a + (b - a) = b by omega,eb]
noncomputable abbrev leap2 (mask:Nat) (p:Nat × Nat):Nat × Nat:=SetTable.leap mask p.1 p.2
noncomputable def leaps (mask:Nat):Nat→Nat × Nat→Nat × Nat
  | 0,p=>p
  | n + 1,p=>leaps mask n (leap2 mask p)
theorem leaps_add (mask:Nat):∀ (a b:Nat) (p:Nat × Nat),leaps mask (a + b) p = leaps mask b (leaps mask a p)
  | 0,b,p=>by rw [Nat.zero_add]; rfl
  | a + 1,b,p=>by rw [Nat.succ_add]; exact leaps_add mask a b (leap2 mask p)
theorem leaps_perturb (mask:Nat):∀ (n:Nat) (p:Nat × Nat),(leaps mask n p).2 = p.2 / 32 ^ n
  | 0,p=>by simp [leaps]
  | n + 1,p=>by
    show (leaps mask n (leap2 mask p)).2 = _
    rw [leaps_perturb mask n]
    show p.2 / 32 / 32 ^ n = _
    rw [Nat.div_div_eq_div_mul,Nat.pow_succ,Nat.mul_comm]
theorem leaps_zero (mask:Nat):∀ (n i:Nat),leaps mask n (i,0) = (orb (mask + 1) n i,0)
  | 0,i=>rfl
  | n + 1,i=>by
    show leaps mask n ((i * 5 + 1 + 0 / 32) % (mask + 1),0 / 32) = _
    rw [Nat.zero_div,Nat.add_zero,leaps_zero mask n]
    rfl
theorem leaps_lt (mask:Nat):∀ (n:Nat) (p:Nat × Nat),p.1 < mask + 1→(leaps mask n p).1 < mask + 1
  | 0,p,h=>h
  | n + 1,p,h=>leaps_lt mask n _ (Nat.mod_lt _ (Nat.succ_pos _))
theorem all_starts {mask i perturb j:Nat} (c:covers (mask + 1) = true) (hi:i < mask + 1) (hp:perturb < 2 ^ 64) (hj:j < mask + 1):∃ k,k < mask + 14∧(leaps mask k (i,perturb)).1 = j:=by
  have h13:(leaps mask 13 (i,perturb)).2 = 0:=by
    rw [leaps_perturb]
    exact Nat.div_eq_of_lt (Nat.lt_of_lt_of_le hp (by decide))
  have hl:=leaps_lt mask 13 (i,perturb) hi
  generalize hq:leaps mask 13 (i,perturb) = q at h13 hl
  obtain ⟨qi,qp⟩:=q
  dsimp only at h13 hl
  subst h13
  obtain ⟨k,hk,e⟩:=reach c hl hj
  refine ⟨13 + k,by omega, ?_⟩
  rw [leaps_add,hq,leaps_zero]
  exact e
open SetTable in
noncomputable def path (t:ST):Nat→Probe→Probe
  | 0,p=>p
  | n + 1,p=>path t n (t.advance p)
theorem path_add (t:ST):∀ (a b:Nat) (p:SetTable.Probe),path t (a + b) p = path t b (path t a p)
  | 0,b,p=>by rw [Nat.zero_add]; rfl
  | a + 1,b,p=>by rw [Nat.succ_add]; exact path_add t a b (t.advance p)
theorem path_succ (t:ST) (n:Nat) (p:SetTable.Probe):path t (n + 1) p = t.advance (path t n p):=by
  rw [path_add]; rfl
theorem adv_dummy (t:ST) (p:SetTable.Probe):(t.advance p).dummy = p.dummy:=by
  unfold SetTable.advance
  split <;> rfl
theorem path_dummy (t:ST):∀ (n:Nat) (p:SetTable.Probe),(path t n p).dummy = p.dummy
  | 0,p=>rfl
  | n + 1,p=>by show (path t n (t.advance p)).dummy = _; rw [path_dummy t n,adv_dummy]
theorem run_end (t:ST):∀ (m:Nat) (p:SetTable.Probe),p.more = m→path t (m + 1) p = { p with j:=(SetTable.leap t.mask p.i p.perturb).1,more:=SetTable.runEnd t.mask (SetTable.leap t.mask p.i p.perturb).1 - (SetTable.leap t.mask p.i p.perturb).1,i:=(SetTable.leap t.mask p.i p.perturb).1,perturb:=(SetTable.leap t.mask p.i p.perturb).2 }
  | 0,p,h=>by
    show t.advance p = _
    unfold SetTable.advance
    rw [if_neg (by omega)]
  | m + 1,p,h=>by
    show path t (m + 1) (t.advance p) = _
    have e:t.advance p = { p with j:=p.j + 1,more:=p.more - 1 }:=by
      unfold SetTable.advance
      rw [if_pos (by omega)]
    rw [e,run_end t m _ (by show p.more - 1 = m; omega)]
theorem run_len (mask i:Nat):SetTable.runEnd mask i - i ≤ 9:=by
  unfold SetTable.runEnd
  split <;> omega
theorem run_starts (t:ST):∀ (k:Nat) (p:SetTable.Probe),p.more ≤ 9→∃ n,n ≤ 10 + 10 * k∧(path t n p).j = (leaps t.mask (k + 1) (p.i,p.perturb)).1
  | 0,p,h=>by
    refine ⟨p.more + 1,by omega, ?_⟩
    rw [run_end t p.more p rfl]
    rfl
  | k + 1,p,h=>by
    have e:=run_end t p.more p rfl
    obtain ⟨n,hn,e2⟩:=run_starts t k (path t (p.more + 1) p) (by rw [e]; exact run_len _ _)
    refine ⟨(p.more + 1) + n,by omega, ?_⟩
    rw [path_add,e2,e]
    rfl
theorem met {t:ST} (f:Fit t) {p:SetTable.Probe} {j:Nat} (h9:p.more ≤ 9) (hp:p.perturb < 2 ^ 64) (hj:j < t.mask + 1):∃ n,n < 10 * SetTable.turns t.mask∧(path t n p).j = j:=by
  have hl:(SetTable.leap t.mask p.i p.perturb).1 < t.mask + 1:=Nat.mod_lt _ (Nat.succ_pos _)
  have hp2:(SetTable.leap t.mask p.i p.perturb).2 < 2 ^ 64:=Nat.lt_of_le_of_lt (Nat.div_le_self _ _) hp
  obtain ⟨k,hk,e⟩:=all_starts (covers_of f) hl hp2 hj
  obtain ⟨n,hn,e2⟩:=run_starts t k p h9
  refine ⟨n, ?_, ?_⟩
  · unfold SetTable.turns
    omega
  · rw [e2]; exact e
theorem slot_empty {t:ST} (f:Fit t) (j:Nat):t.slot j = .empty ∨ ∃ i,t.slot j = .live i∧t.place[i]? = some j:=by
  unfold SetTable.slot
  dsimp only
  by_cases h:(t.place[SetTable.below t.place j]? == some j) = true
  · rw [if_pos h]
    exact .inr ⟨_,rfl,eq_of_beq h⟩
  · rw [if_neg h]
    have hd:SetTable.has t.dummies j = false:=by rw [f.dum]; unfold SetTable.has; simp
    rw [hd,if_neg Bool.false_ne_true]
    exact .inl rfl
theorem pigeon:∀ (n:Nat) (g:Nat→Nat) (m:Nat),(∀ j,j < n→g j < m)→(∀ i j,i < n→j < n→g i = g j→i = j)→n ≤ m:=by
  intro n g m hm hi
  have h1:((List.range n).map g).Nodup:=by
    unfold List.Nodup
    rw [List.pairwise_map]
    refine List.Pairwise.imp_of_mem (fun ha hb hab e => ?_) (List.nodup_range (n:=n))
    exact hab (hi _ _ (List.mem_range.mp ha) (List.mem_range.mp hb) e)
  have h2:((List.range n).map g).length ≤ (List.range m).length:=List.Nodup.length_le_of_subset h1 (fun x hx=>by
    obtain ⟨j,hj,rfl⟩:=List.mem_map.mp hx
    exact List.mem_range.mpr (hm j (List.mem_range.mp hj)))
  simpa using h2
theorem some_empty {t:ST} (f:Fit t):∃ j,j < t.mask + 1∧t.slot j = .empty:=by
  refine Classical.byContradiction fun hn => ?_
  have h:∀ j,j < t.mask + 1→t.place[SetTable.below t.place j]? = some j:=fun j hj=>by
    rcases slot_empty f j with e | ⟨i,e,e2⟩
    · exact absurd ⟨j,hj,e⟩ hn
    · unfold SetTable.slot at e
      dsimp only at e
      by_cases h:(t.place[SetTable.below t.place j]? == some j) = true
      · exact eq_of_beq h
      · rw [if_neg h] at e
        split at e <;> cases e
  have:=pigeon (t.mask + 1) (fun j=>SetTable.below t.place j) t.place.size (fun j hj=>(Array.getElem?_eq_some_iff.mp (h j hj)).1) (fun i j hi hj e=>by
    have h1:=h i hi
    have h2:=h j hj
    have e:SetTable.below t.place i = SetTable.below t.place j:=e
    rw [e,h2] at h1
    exact (Option.some.inj h1).symm)
  have:=f.sz
  omega
theorem search_ends {t:ST} (f:Fit t) {p:SetTable.Probe} (h9:p.more ≤ 9) (hp:p.perturb < 2 ^ 64):∃ N,N < 10 * SetTable.turns t.mask∧t.slot (path t N p).j = .empty∧∀ k,k < N→∃ i,t.slot (path t k p).j = .live i∧t.place[i]? = some (path t k p).j:=by
  obtain ⟨j,hj,he⟩:=some_empty f
  obtain ⟨n,hn,e⟩:=met f h9 hp hj
  have hex:∃ n,t.slot (path t n p).j = .empty:=⟨n,by rw [e]; exact he⟩
  have hfirst:∀ m,t.slot (path t m p).j = .empty→∃ N,N ≤ m∧t.slot (path t N p).j = .empty∧∀ k,k < N→t.slot (path t k p).j ≠ .empty:=by
    intro m
    induction m using Nat.strongRecOn with
    | ind m ih =>
      intro hm
      by_cases h:∃ k,k < m∧t.slot (path t k p).j = .empty
      · obtain ⟨k,hk,hk2⟩:=h
        obtain ⟨N,h1,h2,h3⟩:=ih k hk hk2
        exact ⟨N,by omega,h2,h3⟩
      · exact ⟨m,Nat.le_refl _,hm,fun k hk hk2=>h ⟨k,hk,hk2⟩⟩
  obtain ⟨N,h1,h2,h3⟩:=hfirst n (by rw [e]; exact he)
  refine ⟨N,by omega,h2,fun k hk => ?_⟩
  rcases slot_empty f (path t k p).j with e | e
  · exact absurd e (h3 k hk)
  · exact e
theorem go_spec {t:ST} {hashAt:Nat→Int} {h:Int} {p:SetTable.Probe} {N:Nat} (hd:p.dummy = none) (he:t.slot (path t N p).j = .empty) (hl:∀ k,k < N→∃ i,t.slot (path t k p).j = .live i∧t.place[i]? = some (path t k p).j) :
    ∀ (d m fuel:Nat),d = N - m→m ≤ N→d < fuel →
      (∃ k i,m ≤ k∧k < N∧t.slot (path t k p).j = .live i∧(hashAt i == h) = true∧SetTable.probe.go t hashAt h fuel (path t m p) = some (.candidate (path t k p).j i (path t (k + 1) p))) ∨ SetTable.probe.go t hashAt h fuel (path t m p) = some (.empty (path t N p).j none):=by
  intro d
  induction d with
  | zero =>
    intro m fuel hdm hm hf
    have e:m = N:=by omega
    subst e
    cases fuel with
    | zero=>omega
    | succ fuel =>
      right
      unfold SetTable.probe.go
      rw [he,path_dummy,hd]
  | succ d ih =>
    intro m fuel hdm hm hf
    cases fuel with
    | zero=>omega
    | succ fuel =>
      obtain ⟨i,hi,_⟩:=hl m (by omega)
      unfold SetTable.probe.go
      rw [hi]
      dsimp only
      by_cases hh:(hashAt i == h) = true
      · left
        refine ⟨m,i,Nat.le_refl _,by omega,hi,hh, ?_⟩
        rw [if_pos hh,path_succ]
      · rw [if_neg hh, ← path_succ]
        rcases ih (m + 1) fuel (by omega) (by omega) (by omega) with ⟨k,i',h1,h2,h3,h4,h5⟩ | h5
        · exact .inl ⟨k,i',by omega,h2,h3,h4,h5⟩
        · exact .inr h5
end L2
namespace L2
open PySem
noncomputable abbrev own (o:Array (Option Nat)) (j:Nat):Option Nat:=o.getD j none
theorem free_some {mask:Nat} {owner:Array (Option Nat)} (hs:owner.size = mask + 1) {j0:Nat} (hj:j0 < mask + 1) (he:own owner j0 = none) :
    ∀ (k fuel i perturb:Nat),k < fuel→i < mask + 1→(leaps mask k (i,perturb)).1 = j0→∃ j,SetTable.layClean.free mask owner fuel i perturb = some j∧j < mask + 1∧own owner j = none:=by
  have get0:∀ j,(owner.getD j (some 0)).isNone = true→j < mask + 1∧own owner j = none:=fun j h=>by
    rcases Nat.lt_or_ge j owner.size with hj | hj
    · rw [Array.getD_eq_getD_getElem?,Array.getElem?_eq_getElem hj] at h
      refine ⟨by omega, ?_⟩
      show owner.getD j none = none
      rw [Array.getD_eq_getD_getElem?,Array.getElem?_eq_getElem hj]
      cases e:owner[j] with
      | none=>rfl
      | some v=>rw [e] at h; cases h
    · rw [Array.getD_eq_getD_getElem?,Array.getElem?_eq_none hj] at h
      cases h
  intro k
  induction k with
  | zero =>
    intro fuel i perturb hf hi e
    cases fuel with
    | zero=>omega
    | succ fuel =>
      have e:i = j0:=e
      subst e
      unfold SetTable.layClean.free
      cases hfd:(List.range (SetTable.runEnd mask i + 1 - i)).find? fun k=>(owner.getD (i + k) (some 0)).isNone with
      | some q =>
        have:=List.find?_some hfd
        obtain ⟨h1,h2⟩:=get0 _ this
        exact ⟨_,rfl,h1,h2⟩
      | none =>
        exfalso
        have hr:0 ∈ List.range (SetTable.runEnd mask i + 1 - i):=by
          rw [List.mem_range]
          unfold SetTable.runEnd
          split <;> omega
        have:=List.find?_eq_none.mp hfd 0 hr
        apply this
        rw [Nat.add_zero,Array.getD_eq_getD_getElem?,Array.getElem?_eq_getElem (by omega)]
        have he2:owner.getD i none = none:=he
        rw [Array.getD_eq_getD_getElem?,Array.getElem?_eq_getElem (by omega)] at he2
        have he3:owner[i] = none:=he2
        rw [Option.getD_some,he3]
        rfl
  | succ k ih =>
    intro fuel i perturb hf hi e
    cases fuel with
    | zero=>omega
    | succ fuel =>
      unfold SetTable.layClean.free
      cases hfd:(List.range (SetTable.runEnd mask i + 1 - i)).find? fun k=>(owner.getD (i + k) (some 0)).isNone with
      | some q =>
        have:=List.find?_some hfd
        obtain ⟨h1,h2⟩:=get0 _ this
        exact ⟨_,rfl,h1,h2⟩
      | none=>exact ih fuel _ _ (by omega) (Nat.mod_lt _ (Nat.succ_pos _)) e
noncomputable def lives (M:Nat) (o:Array (Option Nat)):List (Nat × Nat):=(List.range M).filterMap fun j=>(own o j).map (j, ·)
theorem fm_congr {β:Type} {f g:Nat→Option β}:∀ {l:List Nat},(∀ x ∈ l,g x = f x)→l.filterMap g = l.filterMap f:=by
  intro l
  induction l with
  | nil=>intro _; rfl
  | cons x l ih =>
    intro h
    have h1:=ih fun y hy=>h y (List.mem_cons_of_mem _ hy)
    have h2:=h x List.mem_cons_self
    rw [List.filterMap_cons,List.filterMap_cons,h2,h1]
theorem filterMap_one {β:Type} {f g:Nat→Option β} {y:β} {j:Nat}:∀ {l:List Nat},l.Nodup→j ∈ l→f j = none→g j = some y→(∀ x,x ≠ j→g x = f x)→(l.filterMap g).Perm (y :: l.filterMap f):=by
  intro l hn hj hf hg he
  obtain ⟨a,b,rfl⟩:=List.append_of_mem hj
  have hna:∀ x ∈ a,x ≠ j:=fun x hx e=>by
    subst e
    have:=List.nodup_append.mp hn
    exact this.2.2 x hx x List.mem_cons_self rfl
  have hnb:∀ x ∈ b,x ≠ j:=fun x hx e=>by
    subst e
    have:=(List.nodup_append.mp hn).2.1
    exact (List.nodup_cons.mp this).1 hx
  have ea:a.filterMap g = a.filterMap f:=by
    refine fm_congr fun x hx=>he x (hna x hx)
  have eb:b.filterMap g = b.filterMap f:=by
    refine fm_congr fun x hx=>he x (hnb x hx)
  rw [List.filterMap_append,List.filterMap_append,List.filterMap_cons_some hg,List.filterMap_cons_none hf,ea,eb]
  exact List.perm_middle
theorem lives_set {M j k:Nat} {o:Array (Option Nat)} (hs:o.size = M) (hj:j < M) (he:own o j = none):(lives M (o.setIfInBounds j (some k))).Perm ((j,k) :: lives M o):=by
  refine filterMap_one List.nodup_range (List.mem_range.mpr hj) (by rw [he]; rfl) ?_ fun x hx => ?_
  · have:own (o.setIfInBounds j (some k)) j = some k:=by
      show (o.setIfInBounds j (some k)).getD j none = some k
      rw [Array.getD_eq_getD_getElem?,Array.getElem?_setIfInBounds_self_of_lt (by omega)]
      rfl
    rw [this]
    rfl
  · have:own (o.setIfInBounds j (some k)) x = own o x:=by
      show (o.setIfInBounds j (some k)).getD x none = o.getD x none
      rw [Array.getD_eq_getD_getElem?,Array.getD_eq_getD_getElem?,Array.getElem?_setIfInBounds_ne (fun e=>hx e.symm)]
    rw [this]
theorem some_free {M n:Nat} {o:Array (Option Nat)} (h:((lives M o).map (·.2)).Perm (List.range n)) (hn:n < M):∃ j,j < M∧own o j = none:=by
  refine Classical.byContradiction fun hno => ?_
  have hl:(lives M o).length = M:=by
    have:∀ l:List Nat,(∀ x ∈ l,x < M)→(l.filterMap fun j=>(own o j).map (j, ·)).length = l.length:=by
      intro l
      induction l with
      | nil=>intro _; rfl
      | cons x l ih =>
        intro hx
        have h1:=ih fun y hy=>hx y (List.mem_cons_of_mem _ hy)
        cases e:own o x with
        | none=>exact absurd ⟨x,hx x List.mem_cons_self,e⟩ hno
        | some v=>rw [List.filterMap_cons_some (by rw [e]; rfl),List.length_cons,List.length_cons,h1]
    have h2:=this (List.range M) fun x hx=>List.mem_range.mp hx
    rw [List.length_range] at h2
    exact h2
  have:=h.length_eq
  rw [List.length_map,hl,List.length_range] at this
  omega
end L2
namespace L2
open PySem PySem.Spec PyProof.Rows PySem.NumText
mutual
noncomputable def onlyI:PyData→Bool
  | .int _=>true
  | .tuple xs=>onlyIs xs
  | _=>false
noncomputable def onlyIs:List PyData→Bool
  | []=>true
  | x :: xs=>onlyI x && onlyIs xs
end
section
variable {prog:Program} {w:World}
theorem quiet_data:∀ (n:Nat) (d:PyData) (A:Around) (E:Value→Shared→Prop) (s:Shared) (v:Value) (as:List Addr),d.depth ≤ n→Reads s.heap v d as→onlyI d = true→∀ (k:Nat) (Q:Bool→Shared→Prop),n ≤ k→Q true s→wpAny (model prog w) A (eqIsQuiet k v) Q E s:=by
  intro n
  induction n with
  | zero =>
    intro d A E s v as hd r ho k Q hk h
    cases r with
    | int i t=>rw [eqIsQuiet_byValue _ rfl]; exact wpAny_pure h
    | tuple=>simp [PyData.depth] at hd
    | _=>simp [onlyI] at ho
  | succ n ih =>
    intro d A E s v as hd r ho k Q hk h
    cases r with
    | int i t=>rw [eqIsQuiet_byValue _ rfl]; exact wpAny_pure h
    | @tuple a o vs m xs as h1 h2 h3 h4 =>
      have hT:s.TypeIs (.ref a) "tuple" := ⟨o,h1,h2⟩
      have hdx:PyData.depthAll xs ≤ n:=by have:PyData.depth (.tuple xs) = PyData.depthAll xs + 1:=rfl; omega
      have hox:onlyIs xs = true:=ho
      obtain ⟨k,rfl⟩:∃ k',k = k' + 1:=⟨k - 1,by omega⟩
      unfold eqIsQuiet
      refine wpAny_bind (wpAny_specialOf hT F.slot_tuple_eq.lookup ?_)
      show wpAny _ _ (isInstance (.ref a) (.type "tuple") >>= _) _ _ s
      refine wpAny_bind (wpAny_isInstance hT isSubtype_tuple_tuple ?_)
      simp only [Bool.not_true,Bool.false_eq_true,if_false]
      refine wpAny_bind (wpAny_seqItems h1 h3 ?_)
      refine wpAny_bind ?_
      show wpAny _ _ (forIn vs _ _) _ _ s
      rw [← Array.forIn_toList]
      refine wpAny_forIn_list _ (fun rest r s'=>r.1 = none∧s' = s∧∃ ds bs,ReadsAll s.heap rest ds bs∧PyData.depthAll ds ≤ n∧onlyIs ds = true) _ ?_ ?_ _ _ ⟨rfl,rfl,xs,as,h4,hdx,hox⟩
      · rintro x rest r s' ⟨hr,rfl,ds,bs,hrd,hd',ho'⟩
        cases hrd with
        | @cons _ _ d1 ds1 as1 bs1 r1 rr =>
          rw [PyData.depthAll] at hd'
          rw [onlyIs,Bool.and_eq_true] at ho'
          refine wpAny_bind (ih d1 _ _ _ x as1 (by omega) r1 ho'.1 k _ (by omega) ?_)
          simp only [Bool.not_true,Bool.false_eq_true,if_false]
          exact wpAny_pure ⟨rfl,rfl,ds1,bs1,rr,by omega,ho'.2⟩
      · rintro ⟨r1,r2⟩ s' ⟨hr,rfl,_⟩
        simp only at hr
        subst hr
        exact wpAny_pure h
    | _=>simp [onlyI] at ho
end
end L2
namespace L2
open PySem PySem.Spec PyProof.Rows PySem.NumText
mutual
theorem rd_kept {h h':Heap} (k:∀ b o,h.get? b = some o→h'.get? b = some o):∀ (d:PyData) (v:Value) (as:List Addr),onlyI d = true→Reads h v d as→Reads h' v d as
  | .int i,_,_,_,.int _ t=>.int i t
  | .tuple xs,_,_,ho,.tuple h1 h2 h3 h4=>.tuple (k _ _ h1) h2 h3 (rds_kept k xs _ _ ho h4)
theorem rds_kept {h h':Heap} (k:∀ b o,h.get? b = some o→h'.get? b = some o):∀ (ds:List PyData) (vs:List Value) (as:List Addr),onlyIs ds = true→ReadsAll h vs ds as→ReadsAll h' vs ds as
  | [],_,_,_,.nil=>.nil
  | d :: ds,_,_,ho,.cons r rr=>by
    rw [onlyIs,Bool.and_eq_true] at ho
    exact .cons (rd_kept k d _ _ ho.1 r) (rds_kept k ds _ _ ho.2 rr)
end
section
variable {prog:Program} {w:World}
theorem cls_data:∀ (n:Nat) (d:PyData) (A:Around) (E:Value→Shared→Prop) (s:Shared) (v:Value) (as:List Addr),d.depth ≤ n→Reads s.heap v d as→onlyI d = true→∀ (k:Nat) (Q:Bool→Shared→Prop),n ≤ k→Q false s→wpAny (model prog w) A (ofAClassStatement k v) Q E s:=by
  intro n
  induction n with
  | zero =>
    intro d A E s v as hd r ho k Q hk h
    cases r with
    | int i t=>unfold ofAClassStatement; exact wpAny_pure h
    | tuple=>simp [PyData.depth] at hd
    | _=>simp [onlyI] at ho
  | succ n ih =>
    intro d A E s v as hd r ho k Q hk h
    cases r with
    | int i t=>unfold ofAClassStatement; exact wpAny_pure h
    | @tuple a o vs m xs as h1 h2 h3 h4 =>
      have hT:s.TypeIs (.ref a) "tuple" := ⟨o,h1,h2⟩
      have hdx:PyData.depthAll xs ≤ n:=by have:PyData.depth (.tuple xs) = PyData.depthAll xs + 1:=rfl; omega
      have hox:onlyIs xs = true:=ho
      obtain ⟨k,rfl⟩:∃ k',k = k' + 1:=⟨k - 1,by omega⟩
      unfold ofAClassStatement
      refine wpAny_bind (wpAny_typeOf hT ?_)
      dsimp only
      rw [if_pos (by decide)]
      refine wpAny_bind (wpAny_pure ?_)
      simp only [Bool.not_true,Bool.false_eq_true,if_false]
      refine wpAny_bind (wpAny_seqItems h1 h3 ?_)
      dsimp only
      refine wpAny_bind ?_
      rw [← Array.forIn_toList]
      refine wpAny_forIn_list _ (fun rest r s'=>r.1 = none∧s' = s∧∃ ds bs,ReadsAll s.heap rest ds bs∧PyData.depthAll ds ≤ n∧onlyIs ds = true) _ ?_ ?_ _ _ ⟨rfl,rfl,xs,as,h4,hdx,hox⟩
      · rintro x rest r s' ⟨hr,rfl,ds,bs,hrd,hd',ho'⟩
        cases hrd with
        | @cons _ _ d1 ds1 as1 bs1 r1 rr =>
          rw [PyData.depthAll] at hd'
          rw [onlyIs,Bool.and_eq_true] at ho'
          refine wpAny_bind (ih d1 _ _ _ x as1 (by omega) r1 ho'.1 k _ (by omega) ?_)
          simp only [Bool.false_eq_true,if_false]
          exact wpAny_pure ⟨rfl,rfl,ds1,bs1,rr,by omega,ho'.2⟩
      · rintro ⟨r1,r2⟩ s' ⟨hr,rfl,_⟩
        simp only at hr
        subst hr
        exact wpAny_pure h
    | _=>simp [onlyI] at ho
theorem byval_data:∀ (n:Nat) (d:PyData) (A:Around) (E:Value→Shared→Prop) (s:Shared) (v:Value) (as:List Addr),d.depth ≤ n→Reads s.heap v d as→onlyI d = true→∀ (k:Nat) (Q:Bool→Shared→Prop),n ≤ k→Q true s→wpAny (model prog w) A (hashByValue k v) Q E s:=by
  intro n
  induction n with
  | zero =>
    intro d A E s v as hd r ho k Q hk h
    cases r with
    | int i t=>cases k <;> exact wpAny_pure h
    | tuple=>simp [PyData.depth] at hd
    | _=>simp [onlyI] at ho
  | succ n ih =>
    intro d A E s v as hd r ho k Q hk h
    cases r with
    | int i t=>cases k <;> exact wpAny_pure h
    | @tuple a o vs m xs as h1 h2 h3 h4 =>
      have hT:s.TypeIs (.ref a) "tuple" := ⟨o,h1,h2⟩
      have hdx:PyData.depthAll xs ≤ n:=by have:PyData.depth (.tuple xs) = PyData.depthAll xs + 1:=rfl; omega
      have hox:onlyIs xs = true:=ho
      obtain ⟨k,rfl⟩:∃ k',k = k' + 1:=⟨k - 1,by omega⟩
      unfold hashByValue
      refine wpAny_bind (wpAny_specialOf hT F.slot_tuple_hash.lookup ?_)
      dsimp only
      refine wpAny_bind (wpAny_seqItems h1 h3 ?_)
      refine wpAny_bind ?_
      show wpAny _ _ (forIn vs _ _) _ _ s
      rw [← Array.forIn_toList]
      refine wpAny_forIn_list _ (fun rest r s'=>r.1 = none∧s' = s∧∃ ds bs,ReadsAll s.heap rest ds bs∧PyData.depthAll ds ≤ n∧onlyIs ds = true) _ ?_ ?_ _ _ ⟨rfl,rfl,xs,as,h4,hdx,hox⟩
      · rintro x rest r s' ⟨hr,rfl,ds,bs,hrd,hd',ho'⟩
        cases hrd with
        | @cons _ _ d1 ds1 as1 bs1 r1 rr =>
          rw [PyData.depthAll] at hd'
          rw [onlyIs,Bool.and_eq_true] at ho'
          refine wpAny_bind (ih d1 _ _ _ x as1 (by omega) r1 ho'.1 k _ (by omega) ?_)
          simp only [Bool.not_true,Bool.false_eq_true,if_false]
          exact wpAny_pure ⟨rfl,rfl,ds1,bs1,rr,by omega,ho'.2⟩
      · rintro ⟨r1,r2⟩ s' ⟨hr,rfl,_⟩
        simp only at hr
        subst hr
        exact wpAny_pure h
    | _=>simp [onlyI] at ho
structure El (h:Heap) (v:Value) (d:PyData):Prop where
  rd:∃ as,Reads h v d as
  oi:onlyI d = true
  dp:d.depth ≤ 4
  rf:∃ a,v = .ref a
theorem seen_no {s:Shared} {A:Around} {E:Value→Shared→Prop} {x:Value} {dx:PyData} (hx:El s.heap x dx):∀ (l:List Value) (Q:Bool→Shared→Prop),(∀ y ∈ l,∃ d,El s.heap y d)→Q false s→wpAny (model prog w) A (searchCouldBeSeen x l) Q E s:=by
  intro l Q hl h
  obtain ⟨as,rx⟩:=hx.rd
  unfold searchCouldBeSeen
  refine wpAny_bind ?_
  refine wpAny_forIn_list _ (fun rest r s'=>r.1 = none∧s' = s∧∀ y ∈ rest,∃ d,El s.heap y d) _ ?_ ?_ _ _ ⟨rfl,rfl,hl⟩
  · rintro y rest r s' ⟨hr,rfl,hall⟩
    obtain ⟨d,hy⟩:=hall y List.mem_cons_self
    obtain ⟨bs,ry⟩:=hy.rd
    obtain ⟨a,rfl⟩:=hx.rf
    obtain ⟨b,rfl⟩:=hy.rf
    have nxt:(none:Option Bool) = none∧s' = s'∧∀ y ∈ rest,∃ d,El s'.heap y d:=⟨rfl,rfl,fun z hz=>hall z (List.mem_cons_of_mem _ hz)⟩
    dsimp only
    split
    · exact wpAny_pure nxt
    · refine wpAny_bind (quiet_data 4 dx A _ _ _ as hx.dp rx hx.oi 8 _ (by decide) ?_)
      simp only [Bool.not_true,Bool.false_eq_true,if_false]
      refine wpAny_bind (quiet_data 4 d A _ _ _ bs hy.dp ry hy.oi 8 _ (by decide) ?_)
      simp only [Bool.not_true,Bool.false_eq_true,if_false]
      refine wpAny_bind (cls_data 4 dx A _ _ _ as hx.dp rx hx.oi 8 _ (by decide) ?_)
      simp only [Bool.false_eq_true,if_false]
      refine wpAny_bind (cls_data 4 d A _ _ _ bs hy.dp ry hy.oi 8 _ (by decide) ?_)
      simp only [Bool.false_eq_true,if_false]
      exact wpAny_pure nxt
  · rintro ⟨r1,r2⟩ s' ⟨hr,rfl,_⟩
    simp only at hr
    subst hr
    exact wpAny_pure h
end
end L2
namespace L2
open PySem PySem.Spec PyProof.Rows PySem.NumText
mutual
theorem lay_onlyI:∀ (d:PyData),onlyI d = true→PyData.canLay0 d = true
  | .int _,_=>rfl
  | .tuple xs,h=>lay_onlyIs xs h
  | .none,h=>by cases h
  | .bool _,h=>by cases h
  | .str _,h=>by cases h
  | .list _,h=>by cases h
  | .dict _,h=>by cases h
theorem lay_onlyIs:∀ (ds:List PyData),onlyIs ds = true→PyData.canLayAll0 ds = true
  | [],_=>rfl
  | d :: ds,h=>by
    rw [onlyIs,Bool.and_eq_true] at h
    rw [PyData.canLayAll0,lay_onlyI d h.1,lay_onlyIs ds h.2]
    rfl
end
theorem start_ok (t:ST) (h:Int):(t.probeStart h).more ≤ 9∧(t.probeStart h).perturb < 2 ^ 64∧(t.probeStart h).dummy = none:=by
  refine ⟨run_len _ _, ?_,rfl⟩
  show SetTable.bits h < 2 ^ 64
  unfold SetTable.bits
  have:=Int.emod_nonneg h (show (2 ^ 64:Int) ≠ 0 by decide)
  have:=Int.emod_lt_of_pos h (show (0:Int) < 2 ^ 64 by decide)
  omega
section
variable {prog:Program} {w:World} {A:Around} {E:Value→Shared→Prop} {s:Shared}
end
end L2
namespace L2
open PySem PySem.Spec PyProof.Rows PySem.NumText
theorem ins_list {α:Type} (xs:Array α) (p:Nat) (x:α):(SetTable.insertAt xs p x).toList = xs.toList.take p ++ x :: xs.toList.drop p:=by
  unfold SetTable.insertAt
  simp [Array.toList_append,Array.toList_push,Array.toList_extract]
  rw [List.take_of_length_le (by rw [List.length_drop,Array.length_toList]; exact Nat.le_refl _)]
theorem ins_size {α:Type} (xs:Array α) (p:Nat) (x:α):(SetTable.insertAt xs p x).size = xs.size + 1:=by
  rw [← Array.length_toList,ins_list,List.length_append,List.length_cons,List.length_take,List.length_drop,Array.length_toList]
  omega
theorem El.kept {h h':Heap} {v:Value} {d:PyData} (e:El h v d) (k:∀ b o,h.get? b = some o→h'.get? b = some o):El h' v d :=
  ⟨let ⟨as,r⟩:=e.rd; ⟨as,rd_kept k d v as e.oi r⟩,e.oi,e.dp,e.rf⟩
section
variable {prog:Program} {w:World} {A:Around} {E:Value→Shared→Prop} {s:Shared}
end
end L2
namespace L2
open PySem PySem.Spec PyProof.Rows PySem.NumText
section
variable {prog:Program} {w:World} {A:Around} {R:Result→Shared→Prop} {I:Addr} {fp wr:List Addr} {G:Array GenState→Array GenState→Prop} {n:Nat} {P:Nat→Value→Prop} {St:Nat→Shared→Prop}
end
section
variable {prog:Program} {w:World} {A:Around} {E:Value→Shared→Prop} {s:Shared}
end
end L2
namespace L2
open PySem PySem.Spec PyProof.Rows PySem.NumText
section
variable {X:Cx}
end
end L2
namespace L2
open PySem PySem.Spec PyProof.Rows PySem.NumText
noncomputable def redH (i:Int):Int :=
  if (decide (-(2:Int) ^ 63 ≤ i) && decide (i < 2 ^ 63)) = true then (if (i == -1) = true then -2 else i)
  else if ((if i < 0 then -((i.natAbs:Int) % (2 ^ 61 - 1)) else (i.natAbs:Int) % (2 ^ 61 - 1)) == -1) = true then -2 else (if i < 0 then -((i.natAbs:Int) % (2 ^ 61 - 1)) else (i.natAbs:Int) % (2 ^ 61 - 1))
mutual
noncomputable def hashD:PyData→Int
  | .int i=>hashInt i
  | .tuple xs=>redH (Builtin.Tuple.tupleHashOf (hashDs xs))
  | _=>0
noncomputable def hashDs:List PyData→List Int
  | []=>[]
  | x :: xs=>hashD x :: hashDs xs
end
theorem hashDs_append:∀ (xs ys:List PyData),hashDs (xs ++ ys) = hashDs xs ++ hashDs ys
  | [],ys=>rfl
  | x :: xs,ys=>by rw [List.cons_append,hashDs,hashDs,hashDs_append xs ys,List.cons_append]
section
variable {prog:Program} {w:World}
theorem hash_fun:∀ (n:Nat) (d:PyData) (A:Around) (E:Value→Shared→Prop) (s:Shared) (v:Value) (as:List Addr),d.depth ≤ n→Reads s.heap v d as→onlyI d = true→A.units + n < cLine→∀ (Q:Int→Shared→Prop),(∀ tk,s.toks ≤ tk→Q (hashD d) { s with toks:=tk })→wpAny (model prog w) A (pyHash v) Q E s:=by
  intro n
  induction n with
  | zero =>
    intro d A E s v as hd r ho hu Q h
    cases r with
    | int i t=>exact (intKind prog w).pyHash (k:=i) (intKind_is _ _ _ _) (h _ (Nat.le_succ _))
    | tuple=>simp [PyData.depth] at hd
    | _=>simp [onlyI] at ho
  | succ n ih =>
    intro d A E s v as hd r ho hu Q h
    cases r with
    | int i t=>exact (intKind prog w).pyHash (k:=i) (intKind_is _ _ _ _) (h _ (Nat.le_succ _))
    | @tuple a o vs m xs as h1 h2 h3 h4 =>
      have hT:s.TypeIs (.ref a) "tuple" := ⟨o,h1,h2⟩
      have hdx:PyData.depthAll xs ≤ n:=by have:PyData.depth (.tuple xs) = PyData.depthAll xs + 1:=rfl; omega
      have hox:onlyIs xs = true:=ho
      unfold pyHash
      first | unfold pyHashByItsType | skip
      first | refine wpAny_bind (wpAny_cRoomFor_or (.inr (by omega)) ?_) | skip
      refine wpAny_bind (wpAny_specialOf hT F.slot_tuple_hash.lookup ?_)
      show wpAny _ _ (if (some (Value.builtin "tuple.__hash__") == some Value.none) = true then _ else _) Q E s
      rw [if_neg (by rw [beq_builtin_none]; exact Bool.false_ne_true)]
      refine wpAny_bind (wpAny_specialOf hT F.slot_tuple_hash.lookup ?_)
      show wpAny _ _ (callSpecialIfBoundUnlessNone? (.ref a) "__hash__" _ >>= _) Q E s
      refine wpAny_bind (wpAny_callSpecialIfBoundUnlessNone?_slot hT F.slot_tuple_hash (wpAny_call_entry F.slot_tuple_hash hT F.entry_tuple_hash ?_ (F.args_tuple_hash_1 _)))
      show wpAny _ _ (Builtin.Tuple.tupleItemsOf (.ref a) >>= _) _ _ s
      refine wpAny_bind (wpAny_tupleItemsOf h1 h3 ?_)
      refine wpAny_bind ?_
      rw [← Array.forIn_toList]
      refine wpAny_forIn_list _ (fun rest (b:Array Int) s'=>∃ tk gone ds bs,s.toks ≤ tk∧s' = { s with toks:=tk }∧ReadsAll s.heap rest ds bs∧PyData.depthAll ds ≤ n∧onlyIs ds = true∧xs = gone ++ ds∧b.toList = hashDs gone) _ ?_ ?_ _ _ ⟨s.toks,[],xs,as,Nat.le_refl _,rfl,h4,hdx,hox,rfl,rfl⟩
      · rintro x rest b s' ⟨tk,gone,ds,bs,htk,rfl,hr,hd',ho',hx,hb⟩
        cases hr with
        | @cons _ _ d1 ds1 as1 bs1 r1 rr =>
          rw [PyData.depthAll] at hd'
          rw [onlyIs,Bool.and_eq_true] at ho'
          refine wpAny_bind (ih d1 _ _ { s with toks:=tk } x as1 (by omega) r1 ho'.1 (by show A.units + 1 + n < cLine; omega) _ fun tk' htk' => ?_)
          have e1:xs = (gone ++ [d1]) ++ ds1:=by rw [hx,List.append_assoc]; rfl
          have e2:(b.push (hashD d1)).toList = hashDs (gone ++ [d1]):=by rw [Array.toList_push,hb,hashDs_append]; rfl
          first
            | exact wpAny_pure ⟨tk',_,ds1,bs1,Nat.le_trans htk htk',rfl,rr,by omega,ho'.2,e1,e2⟩
            | exact wpAny_bind (wpAny_pure (wpAny_pure ⟨tk',_,ds1,bs1,Nat.le_trans htk htk',rfl,rr,by omega,ho'.2,e1,e2⟩))
      · rintro b s' ⟨tk,gone,ds,bs,htk,rfl,hr,hd',ho',hx,hb⟩
        cases hr
        rw [List.append_nil] at hx
        subst hx
        show wpAny _ _ (retInt (Builtin.Tuple.tupleHashOf b.toList)) _ _ _
        refine wpAny_ret_mkInt ?_
        rw [hb]
        have hq:∀ tk,s.toks ≤ tk→Q (redH (Builtin.Tuple.tupleHashOf (hashDs xs))) { s with toks:=tk }:=h
        generalize Builtin.Tuple.tupleHashOf (hashDs xs) = hv at hq ⊢
        show wpAny _ _ (if (decide (-(2:Int) ^ 63 ≤ hv) && decide (hv < 2 ^ 63)) = true then _ else _) Q E _
        unfold redH at hq
        by_cases hr:(decide (-(2:Int) ^ 63 ≤ hv) && decide (hv < 2 ^ 63)) = true
        · rw [if_pos hr] at hq ⊢
          exact wpAny_pure (hq _ (Nat.le_succ_of_le htk))
        · rw [if_neg hr] at hq ⊢
          exact wpAny_bind (wpAny_rule (wpAny_pure (hq _ (Nat.le_succ_of_le htk))))
    | _=>simp [onlyI] at ho
end
mutual
theorem eqv_eq:∀ (d e:PyData),onlyI d = true→onlyI e = true→PyData.eqv d e = true→d = e
  | .int a,.int b,_,_,h=>by
    have h:(a == b) = true:=by simpa [PyData.eqv] using h
    rw [eq_of_beq h]
  | .tuple xs,.tuple ys,h1,h2,h=>by
    have h:PyData.eqvAll xs ys = true:=h
    rw [eqvAll_eq xs ys h1 h2 h]
  | .int a,.tuple ys,_,_,h=>by simp [PyData.eqv] at h
  | .tuple xs,.int b,_,_,h=>by simp [PyData.eqv] at h
theorem eqvAll_eq:∀ (ds es:List PyData),onlyIs ds = true→onlyIs es = true→PyData.eqvAll ds es = true→ds = es
  | [],[],_,_,_=>rfl
  | d :: ds,e :: es,h1,h2,h=>by
    rw [onlyIs,Bool.and_eq_true] at h1 h2
    have h:(PyData.eqv d e && PyData.eqvAll ds es) = true:=h
    rw [Bool.and_eq_true] at h
    rw [eqv_eq d e h1.1 h2.1 h.1,eqvAll_eq ds es h1.2 h2.2 h.2]
  | [],e :: es,_,_,h=>by simp [PyData.eqvAll] at h
  | d :: ds,[],_,_,h=>by simp [PyData.eqvAll] at h
end
theorem eqv_self {d:PyData} (h:onlyI d = true):PyData.eqv d d = true:=by
  cases d with
  | int i=>simp [PyData.eqv]
  | tuple xs=>exact SeqAt.eqvAll_refl xs (lay_onlyIs xs h)
  | _=>simp [onlyI] at h
noncomputable def Mono (xs:Array Nat):Prop:=∀ (a b u v:Nat),a < b→xs[a]? = some u→xs[b]? = some v→u < v
theorem below_go {xs:Array Nat} {j:Nat} (hs:Mono xs):∀ (fuel lo hi:Nat),hi - lo ≤ fuel→lo ≤ hi→hi ≤ xs.size→(∀ i v,i < lo→xs[i]? = some v→v < j)→(∀ i v,hi ≤ i→xs[i]? = some v→j ≤ v) →
    SetTable.below.go xs j fuel lo hi ≤ xs.size∧(∀ i v,i < SetTable.below.go xs j fuel lo hi→xs[i]? = some v→v < j)∧(∀ i v,SetTable.below.go xs j fuel lo hi ≤ i→xs[i]? = some v→j ≤ v):=by
  intro fuel
  induction fuel with
  | zero =>
    intro lo hi h1 h2 h3 h4 h5
    have e:lo = hi:=by omega
    subst e
    unfold SetTable.below.go
    exact ⟨h3,h4,h5⟩
  | succ fuel ih =>
    intro lo hi h1 h2 h3 h4 h5
    unfold SetTable.below.go
    by_cases hl:lo < hi
    · rw [if_pos hl]
      dsimp only
      have hm:(lo + hi) / 2 < xs.size:=by omega
      have em:xs[(lo + hi) / 2]? = some (xs.getD ((lo + hi) / 2) j):=by rw [Array.getD_eq_getD_getElem?,Array.getElem?_eq_getElem hm]; rfl
      by_cases hx:xs.getD ((lo + hi) / 2) j < j
      · rw [if_pos hx]
        refine ih _ _ (by omega) (by omega) h3 (fun i v hi' e => ?_) h5
        rcases Nat.lt_or_ge i ((lo + hi) / 2) with hlt | hge
        · exact Nat.lt_trans (hs _ _ _ _ hlt e em) hx
        · have:i = (lo + hi) / 2:=by omega
          subst this
          rw [em] at e
          cases e
          exact hx
      · rw [if_neg hx]
        refine ih _ _ (by omega) (by omega) (by omega) h4 (fun i v hi' e => ?_)
        rcases Nat.lt_or_ge ((lo + hi) / 2) i with hlt | hge
        · exact Nat.le_of_lt (Nat.lt_of_le_of_lt (Nat.le_of_not_lt hx) (hs _ _ _ _ hlt em e))
        · have:i = (lo + hi) / 2:=by omega
          subst this
          rw [em] at e
          cases e
          exact Nat.le_of_not_lt hx
    · rw [if_neg hl]
      exact ⟨by omega,h4,fun i v hi' e=>h5 i v (by omega) e⟩
theorem below_spec {xs:Array Nat} (hs:Mono xs) (j:Nat):SetTable.below xs j ≤ xs.size∧(∀ i v,i < SetTable.below xs j→xs[i]? = some v→v < j)∧(∀ i v,SetTable.below xs j ≤ i→xs[i]? = some v→j ≤ v):=by
  unfold SetTable.below
  exact below_go hs _ _ _ (by omega) (Nat.zero_le _) (Nat.le_refl _) (fun i v h=>by omega) (fun i v h e=>by rw [Array.getElem?_eq_none h] at e; cases e)
theorem below_at {xs:Array Nat} (hs:Mono xs) {i j:Nat} (h:xs[i]? = some j):SetTable.below xs j = i:=by
  obtain ⟨h1,h2,h3⟩:=below_spec hs j
  rcases Nat.lt_trichotomy (SetTable.below xs j) i with hl | he | hg
  · have hb:SetTable.below xs j < xs.size:=Nat.lt_trans hl (Array.getElem?_eq_some_iff.mp h).1
    have e:=Array.getElem?_eq_getElem hb
    have a1:=h3 _ _ (Nat.le_refl _) e
    have a2:=hs _ _ _ _ hl e h
    omega
  · exact he
  · have:=h2 _ _ hg h
    omega
theorem slot_at {t:ST} (hs:Mono t.place) {i j:Nat} (h:t.place[i]? = some j):t.slot j = .live i:=by
  unfold SetTable.slot
  dsimp only
  rw [below_at hs h,h,if_pos (beq_self_eq_true _)]
theorem ins_at {α:Type} {xs:Array α} {p:Nat} {x:α} (hp:p ≤ xs.size) (i:Nat):(SetTable.insertAt xs p x)[i]? = if i < p then xs[i]? else if i = p then some x else xs[i - 1]?:=by
  rw [← Array.getElem?_toList,ins_list]
  by_cases h1:i < p
  · rw [if_pos h1,List.getElem?_append_left (by rw [List.length_take,Array.length_toList]; omega),List.getElem?_take,if_pos h1,Array.getElem?_toList]
  · rw [if_neg h1,List.getElem?_append_right (by rw [List.length_take,Array.length_toList]; omega),List.length_take,Array.length_toList,Nat.min_eq_left hp]
    by_cases h2:i = p
    · subst h2
      rw [if_pos rfl,Nat.sub_self]
      rfl
    · rw [if_neg h2]
      obtain ⟨k,hk⟩:∃ k,i - p = k + 1:=⟨i - p - 1,by omega⟩
      rw [hk,List.getElem?_cons_succ,List.getElem?_drop,Array.getElem?_toList]
      congr 1
      omega
theorem ins_mono {xs:Array Nat} (hs:Mono xs) {j:Nat} (hn:∀ i:Nat,xs[i]? ≠ some j):Mono (SetTable.insertAt xs (SetTable.below xs j) j):=by
  obtain ⟨h1,h2,h3⟩:=below_spec hs j
  have h3':∀ (i v:Nat),SetTable.below xs j ≤ i→xs[i]? = some v→j < v:=fun i v hi e=>by
    have:=h3 i v hi e
    rcases Nat.lt_or_eq_of_le this with hl | he
    · exact hl
    · subst he; exact absurd e (hn i)
  intro a b u v hab ea eb
  rw [ins_at h1] at ea eb
  by_cases a1:a < SetTable.below xs j
  · rw [if_pos a1] at ea
    have a2:=h2 _ _ a1 ea
    by_cases b1:b < SetTable.below xs j
    · rw [if_pos b1] at eb
      exact hs _ _ _ _ hab ea eb
    · rw [if_neg b1] at eb
      by_cases b2:b = SetTable.below xs j
      · rw [if_pos b2] at eb; cases eb; exact a2
      · rw [if_neg b2] at eb
        exact Nat.lt_trans a2 (h3' _ _ (by omega) eb)
  · rw [if_neg a1] at ea
    rw [if_neg (by omega:¬ b < SetTable.below xs j)] at eb
    rw [if_neg (by omega:¬ b = SetTable.below xs j)] at eb
    by_cases a2:a = SetTable.below xs j
    · rw [if_pos a2] at ea; cases ea
      exact h3' _ _ (by omega) eb
    · rw [if_neg a2] at ea
      exact hs _ _ _ _ (by omega) ea eb
theorem adv_mask {t t':ST} (h:t.mask = t'.mask) (p:SetTable.Probe):t.advance p = t'.advance p:=by
  unfold SetTable.advance
  rw [h]
theorem path_mask {t t':ST} (h:t.mask = t'.mask):∀ (n:Nat) (p:SetTable.Probe),path t n p = path t' n p
  | 0,p=>rfl
  | n + 1,p=>by rw [path_succ,path_succ,path_mask h n p,adv_mask h]
theorem start_mask {t t':ST} (h:t.mask = t'.mask) (x:Int):t.probeStart x = t'.probeStart x:=by
  unfold SetTable.probeStart
  rw [h]
structure Wp (t:ST) (es:Array (Int × Value)):Prop where
  mono:Mono t.place
  rch:∀ (i j:Nat) (e:Int × Value),t.place[i]? = some j→es[i]? = some e→∃ n,(path t n (t.probeStart e.1)).j = j∧∀ k,k < n→∃ i':Nat,t.place[i']? = some (path t k (t.probeStart e.1)).j
theorem Wp.ins {t t1:ST} {es:Array (Int × Value)} (h:Wp t es) (hz:t.place.size = es.size) {j N:Nat} {e:Int × Value} (he:(path t N (t.probeStart e.1)).j = j) (hf:∀ i:Nat,t.place[i]? ≠ some j) (hl:∀ k,k < N→∃ i':Nat,t.place[i']? = some (path t k (t.probeStart e.1)).j)
    (hm:t1.mask = t.mask) (hp:t1.place = SetTable.insertAt t.place (SetTable.below t.place j) j):Wp t1 (SetTable.insertAt es (SetTable.below t.place j) e):=by
  obtain ⟨b1,b2,b3⟩:=below_spec h.mono j
  have grow:∀ (i' v:Nat),t.place[i']? = some v→∃ i'':Nat,t1.place[i'']? = some v:=fun i' v hv=>by
    rw [hp]
    by_cases hi:i' < SetTable.below t.place j
    · exact ⟨i',by rw [ins_at b1,if_pos hi]; exact hv⟩
    · exact ⟨i' + 1,by rw [ins_at b1,if_neg (by omega),if_neg (by omega),Nat.add_sub_cancel]; exact hv⟩
  have mk:∀ (e':Int × Value) (j':Nat),(∃ n,(path t n (t.probeStart e'.1)).j = j'∧∀ k,k < n→∃ i':Nat,t.place[i']? = some (path t k (t.probeStart e'.1)).j)→∃ n,(path t1 n (t1.probeStart e'.1)).j = j'∧∀ k,k < n→∃ i':Nat,t1.place[i']? = some (path t1 k (t1.probeStart e'.1)).j:=by
    rintro e' j' ⟨n,q1,q2⟩
    refine ⟨n, ?_,fun k hk => ?_⟩
    · rw [path_mask hm,start_mask hm]; exact q1
    · obtain ⟨i',hi'⟩:=q2 k hk
      rw [path_mask hm,start_mask hm]
      exact grow i' _ hi'
  refine ⟨by rw [hp]; exact ins_mono h.mono hf,fun i j' e' h1 h2=>mk e' j' ?_⟩
  rw [hp,ins_at b1] at h1
  rw [ins_at (by rw [← hz]; exact b1)] at h2
  by_cases i1:i < SetTable.below t.place j
  · rw [if_pos i1] at h1 h2
    exact h.rch i j' e' h1 h2
  · rw [if_neg i1] at h1 h2
    by_cases i2:i = SetTable.below t.place j
    · rw [if_pos i2] at h1 h2
      cases h1
      cases h2
      exact ⟨N,he,hl⟩
    · rw [if_neg i2] at h1 h2
      exact h.rch (i - 1) j' e' h1 h2
noncomputable abbrev tm (mask:Nat):ST:={ mask,place := #[],dummies := #[],finger:=0,led:=false,moves:=0,plain:=false }
theorem run_steps (t:ST):∀ (q:Nat) (p:SetTable.Probe),q ≤ p.more→path t q p = { p with j:=p.j + q,more:=p.more - q }
  | 0,p,_=>rfl
  | q + 1,p,h=>by
    rw [path_succ,run_steps t q p (by omega)]
    unfold SetTable.advance
    dsimp only
    rw [if_pos (by omega)]
    congr 1
theorem free_path {mask:Nat} {owner:Array (Option Nat)} (hs:owner.size = mask + 1):∀ (fuel i perturb j:Nat) (p:SetTable.Probe),i < mask + 1→p.j = i→p.more = SetTable.runEnd mask i - i→p.i = i→p.perturb = perturb→SetTable.layClean.free mask owner fuel i perturb = some j →
    ∃ N,(path (tm mask) N p).j = j∧∀ k,k < N→own owner (path (tm mask) k p).j ≠ none:=by
  have occ:∀ j,j < mask + 1→¬ (owner.getD j (some 0)).isNone = true→own owner j ≠ none:=fun j hj h e=>by
    apply h
    rw [Array.getD_eq_getD_getElem?,Array.getElem?_eq_getElem (by omega)]
    have e:owner.getD j none = none:=e
    rw [Array.getD_eq_getD_getElem?,Array.getElem?_eq_getElem (by omega)] at e
    have e:owner[j] = none:=e
    rw [e]
    rfl
  have rng:∀ i k,i < mask + 1→k < SetTable.runEnd mask i + 1 - i→i + k < mask + 1:=fun i k hi hk=>by
    unfold SetTable.runEnd at hk
    split at hk <;> omega
  intro fuel
  induction fuel with
  | zero =>
    intro i perturb j p hi h1 h2 h3 h4 hf
    unfold SetTable.layClean.free at hf
    cases hf
  | succ fuel ih =>
    intro i perturb j p hi h1 h2 h3 h4 hf
    unfold SetTable.layClean.free at hf
    cases hfd:(List.range (SetTable.runEnd mask i + 1 - i)).find? fun k=>(owner.getD (i + k) (some 0)).isNone with
    | some q =>
      rw [hfd] at hf
      have hf:some (i + q) = some j:=hf
      cases hf
      have hq:q < SetTable.runEnd mask i + 1 - i:=List.mem_range.mp (List.mem_of_find?_eq_some hfd)
      refine ⟨q, ?_,fun k hk => ?_⟩
      · rw [run_steps _ q p (by rw [h2]; omega)]
        show p.j + q = i + q
        rw [h1]
      · rw [run_steps _ k p (by rw [h2]; omega)]
        show own owner (p.j + k) ≠ none
        rw [h1]
        refine occ _ (rng i k hi (by omega)) ?_
        have:=(List.find?_range_eq_some.mp hfd).2.2 k hk
        intro hc
        rw [hc] at this
        exact absurd this (by decide)
    | none =>
      rw [hfd] at hf
      have hall:=List.find?_eq_none.mp hfd
      have hrun:∀ k,k ≤ p.more→(path (tm mask) k p).j = i + k∧own owner (i + k) ≠ none:=fun k hk=>by
        have hk':k < SetTable.runEnd mask i + 1 - i:=by
          rw [h2] at hk
          have:i ≤ SetTable.runEnd mask i:=by unfold SetTable.runEnd; split <;> omega
          omega
        refine ⟨?_,occ _ (rng i k hi hk') (hall k (List.mem_range.mpr hk'))⟩
        rw [run_steps _ k p hk]
        show p.j + k = i + k
        rw [h1]
      have he:=run_end (tm mask) p.more p rfl
      obtain ⟨N,n1,n2⟩:=ih _ _ j (path (tm mask) (p.more + 1) p) (Nat.mod_lt _ (Nat.succ_pos mask)) (by rw [he]; show (SetTable.leap mask p.i p.perturb).1 = _; rw [h3,h4]; rfl) (by rw [he]; show SetTable.runEnd mask (SetTable.leap mask p.i p.perturb).1 - (SetTable.leap mask p.i p.perturb).1 = _; rw [h3,h4]; rfl) (by rw [he]; show (SetTable.leap mask p.i p.perturb).1 = _; rw [h3,h4]; rfl) (by rw [he]; show (SetTable.leap mask p.i p.perturb).2 = _; rw [h3,h4]; rfl) hf
      refine ⟨p.more + 1 + N,by rw [path_add]; exact n1,fun k hk => ?_⟩
      rcases Nat.lt_or_ge k (p.more + 1) with hl | hg
      · obtain ⟨e1,e2⟩:=hrun k (by omega)
        rw [e1]
        exact e2
      · obtain ⟨d,rfl⟩:∃ d,k = p.more + 1 + d:=⟨k - (p.more + 1),by omega⟩
        rw [path_add]
        exact n2 d (by omega)
end L2
namespace L2
open PySem PySem.Spec PyProof.Rows PySem.NumText
mutual
theorem eqv_comm:∀ a b:PyData,PyData.eqv a b = PyData.eqv b a
  | .list xs,.list ys=>by rw [PyData.eqv,PyData.eqv]; exact eqvAll_comm xs ys
  | .tuple xs,.tuple ys=>by rw [PyData.eqv,PyData.eqv]; exact eqvAll_comm xs ys
  | .bool a,.bool b=>by rw [PyData.eqv,PyData.eqv]; exact Bool.beq_comm
  | .bool a,.int j=>by rw [PyData.eqv,PyData.eqv]; exact Bool.beq_comm
  | .int i,.bool b=>by rw [PyData.eqv,PyData.eqv]; exact Bool.beq_comm
  | .int i,.int j=>by rw [PyData.eqv,PyData.eqv]; exact Bool.beq_comm
  | .str x,.str y=>by rw [PyData.eqv,PyData.eqv]; exact Bool.beq_comm
  | .dict _,.dict _=>by rw [PyData.eqv,PyData.eqv]
  | .none,b=>by cases b <;> simp [PyData.eqv]
  | .bool _,.none | .bool _,.str _ | .bool _,.list _ | .bool _,.tuple _ | .bool _,.dict _=>by simp [PyData.eqv]
  | .int _,.none | .int _,.str _ | .int _,.list _ | .int _,.tuple _ | .int _,.dict _=>by simp [PyData.eqv]
  | .str _,.none | .str _,.bool _ | .str _,.int _ | .str _,.list _ | .str _,.tuple _ | .str _,.dict _=>by simp [PyData.eqv]
  | .list _,.none | .list _,.bool _ | .list _,.int _ | .list _,.str _ | .list _,.tuple _ | .list _,.dict _=>by simp [PyData.eqv]
  | .tuple _,.none | .tuple _,.bool _ | .tuple _,.int _ | .tuple _,.str _ | .tuple _,.list _ | .tuple _,.dict _=>by simp [PyData.eqv]
  | .dict _,.none | .dict _,.bool _ | .dict _,.int _ | .dict _,.str _ | .dict _,.list _ | .dict _,.tuple _=>by simp [PyData.eqv]
theorem eqvAll_comm:∀ a b:List PyData,PyData.eqvAll a b = PyData.eqvAll b a
  | [],[]=>rfl
  | [],_ :: _=>by simp [PyData.eqvAll]
  | _ :: _,[]=>by simp [PyData.eqvAll]
  | x :: xs,y :: ys=>by rw [PyData.eqvAll,PyData.eqvAll,eqv_comm x y,eqvAll_comm xs ys]
end
theorem ltDs_ans:∀ (xs ys:List PyData) (c:Bool),ltDs xs ys = some c→∀ (j:Nat) x y,xs[j]? = some x→ys[j]? = some y→(∀ i x y,i < j→xs[i]? = some x→ys[i]? = some y→PyData.eqv x y = true)→PyData.eqv x y = false→∃ c',ltD x y = some c':=by
  intro xs
  induction xs with
  | nil=>intro ys c _ j x y e1; simp at e1
  | cons x0 xs ih2 =>
    intro ys c h j x y e1 e2 hall hne
    cases ys with
    | nil=>simp at e2
    | cons y0 ys =>
      rw [ltDs] at h
      cases j with
      | zero =>
        simp at e1 e2
        subst e1 e2
        rw [if_neg (by rw [hne]; exact Bool.false_ne_true)] at h
        exact ⟨c,h⟩
      | succ j =>
        rw [if_pos (hall 0 x0 y0 (Nat.succ_pos _) rfl rfl)] at h
        exact ih2 ys c h j x y (by simpa using e1) (by simpa using e2) (fun i a b hi h1 h2=>hall (i + 1) a b (by omega) (by simpa using h1) (by simpa using h2)) hne
theorem cmpGt_data:∀ (n:Nat) (da db:PyData) (c:Bool) (A:Around) (s:Shared) (a b:Value) (as bs:List Addr),PyData.depth da ≤ n→Reads s.heap a da as→Reads s.heap b db bs→da.canLay0 = true→db.canLay0 = true→ltD db da = some c →
    A.units + n + 2 < cLine→CmpAt .Gt A s a b c:=by
  intro n
  induction n with
  | zero =>
    intro da db c A s a b as bs hd ra rb _ _ hc hu
    cases ra with
    | int i t =>
      cases rb with
      | int j u =>
        have hc:decide (j < i) = c:=by simpa [ltD] using hc
        subst hc
        exact fun prog w E Q hq=>(PyProof.Rows.gt_int hq:wpAny (model prog w) A (compareOp .Gt (.int i t) (.int j u)) Q E s)
      | _=>simp [ltD] at hc
    | str x t =>
      cases rb with
      | str y u =>
        have hc:decide (y.cps.toList < x.cps.toList) = c:=by simpa [ltD] using hc
        subst hc
        exact fun prog w E Q hq=>(PySem.P.gt_str hq:wpAny (model prog w) A (compareOp .Gt (.str x t) (.str y u)) Q E s)
      | _=>simp [ltD] at hc
    | tuple h1 h2 h3 h4=>simp [PyData.depth] at hd
    | _=>cases rb <;> simp [ltD] at hc
  | succ n ih =>
    intro da db c A s a b as bs hd ra rb la lb hc hu
    cases ra with
    | int i t =>
      cases rb with
      | int j u =>
        have hc:decide (j < i) = c:=by simpa [ltD] using hc
        subst hc
        exact fun prog w E Q hq=>(PyProof.Rows.gt_int hq:wpAny (model prog w) A (compareOp .Gt (.int i t) (.int j u)) Q E s)
      | _=>simp [ltD] at hc
    | str x t =>
      cases rb with
      | str y u =>
        have hc:decide (y.cps.toList < x.cps.toList) = c:=by simpa [ltD] using hc
        subst hc
        exact fun prog w E Q hq=>(PySem.P.gt_str hq:wpAny (model prog w) A (compareOp .Gt (.str x t) (.str y u)) Q E s)
      | _=>simp [ltD] at hc
    | @tuple l o vs m xs as h1 h2 h3 h4 =>
      cases rb with
      | @tuple l2 o2 vs2 m2 ys bs g1 g2 g3 g4 =>
        have hc:ltDs ys xs = some c:=by simpa [ltD] using hc
        have z1:vs.size = xs.length:=by have:=SeqAt.ReadsAll.length _ _ _ h4; simpa using this
        have z2:vs2.size = ys.length:=by have:=SeqAt.ReadsAll.length _ _ _ g4; simpa using this
        have la':PyData.canLayAll0 xs = true:=la
        have lb':PyData.canLayAll0 ys = true:=lb
        have hd':PyData.depthAll xs ≤ n:=by have:PyData.depth (.tuple xs) = PyData.depthAll xs + 1:=rfl; omega
        have at1:∀ j (h:j < vs.size),∃ d bs,xs[j]? = some d∧Reads s.heap vs[j] d bs∧d ∈ xs:=fun j h=>readsAll_at h4 (by simp [h])
        have at2:∀ j (h:j < vs2.size),∃ d bs,ys[j]? = some d∧Reads s.heap vs2[j] d bs∧d ∈ ys:=fun j h=>readsAll_at g4 (by simp [h])
        have he:∀ j (k1:j < vs.size) (k2:j < vs2.size),SeqAt.EqAt A.in1 s vs[j] vs2[j] (PyData.eqv ((ys[j]?).getD .none) ((xs[j]?).getD .none)):=fun j k1 k2=>by
          obtain ⟨d,b1,e1,r1,m1⟩:=at1 j k1
          obtain ⟨d2,b2,e2,r2,m2⟩:=at2 j k2
          rw [e1,e2,eqv_comm]
          refine SeqAt.eqAt_reads d d2 A.in1 s _ _ b1 b2 r1 r2 (canLay_mem m1 la') (canLay_mem m2 lb') ?_
          have:=depth_mem m1
          have:min d.depth d2.depth ≤ d.depth:=Nat.min_le_left _ _
          show A.units + 1 + min d.depth d2.depth < cLine
          omega
        have hl:IsTup s.heap l vs:=⟨o,h1,h2,m,h3⟩
        have hr:IsTup s.heap l2 vs2:=⟨o2,g1,g2,m2,g3⟩
        have e0:∀ (j:Nat) x y,ys[j]? = some x→xs[j]? = some y→PyData.eqv ((ys[j]?).getD .none) ((xs[j]?).getD .none) = PyData.eqv x y:=fun j x y e1 e2=>by rw [e1,e2]; rfl
        have lexlt:=lexD_ltDs (e:=fun j=>PyData.eqv ((ys[j]?).getD .none) ((xs[j]?).getD .none)) (r:=fun j=>(ltD ((ys[j]?).getD .none) ((xs[j]?).getD .none)).getD false) hc e0 (fun j x y c' e1 e2 _ _ e3=>by rw [e1,e2]; simp only [Option.getD_some]; rw [e3]; rfl)
        have hu1:A.in1.units + n + 2 < cLine:=by show A.units + 1 + n + 2 < cLine; omega
        have cmp:∀ j (k1:j < vs.size) (k2:j < vs2.size),(∀ i,i < j→PyData.eqv ((ys[i]?).getD .none) ((xs[i]?).getD .none) = true)→PyData.eqv ((ys[j]?).getD .none) ((xs[j]?).getD .none) = false →
            CmpAt .Gt A.in1 s vs[j] vs2[j] ((ltD ((ys[j]?).getD .none) ((xs[j]?).getD .none)).getD false):=fun j k1 k2 hall hne=>by
          obtain ⟨d,b1,e1,r1,m1⟩:=at1 j k1
          obtain ⟨d2,b2,e2,r2,m2⟩:=at2 j k2
          rw [e1,e2] at hne ⊢
          obtain ⟨c',hc'⟩:=ltDs_ans ys xs c hc j d2 d e2 e1 (fun i x y hi h1 h2=>by have:=hall i hi; rw [h1,h2] at this; exact this) hne
          simp only [Option.getD_some]
          rw [hc']
          exact ih d d2 c' A.in1 s _ _ b1 b2 (Nat.le_trans (depth_mem m1) hd') r1 r2 (canLay_mem m1 la') (canLay_mem m2 lb') hc' hu1
        intro prog w E Q hq
        refine (gt_tupAt1 hl hr he (fun j k1 k2 h3 h4=>cmp j k1 k2 h3 h4) (by omega) ?_:wpAny (model prog w) A (compareOp .Gt (.ref l) (.ref l2)) Q E s)
        rw [z1,z2,Nat.min_comm,lexlt]
        exact hq
      | _=>simp [ltD] at hc
    | _=>cases rb <;> simp [ltD] at hc
section
variable {X:Cx}
end
noncomputable abbrev Ext (h h':Heap):Prop:=∀ b o,h.get? b = some o→h'.get? b = some o
noncomputable def CmpIn (prog:Program) (w:World) (A:Around) (op:CmpOp) (h0:Heap) (P:Nat→Value→Prop) (bt:Nat→Nat→Bool):Prop :=
  ∀ (i j:Nat) (x y:Value) (s:Shared) (Q E:Value→Shared→Prop),j < i→Ext h0 s.heap→P i x→P j y→Q (.bool (bt i j)) s→wpAny (model prog w) A (richCompare op x y) Q E s
theorem argBest_le (bt:Nat→Nat→Bool):∀ k,argBest bt k ≤ k
  | 0=>Nat.le_refl _
  | k + 1=>by have:=argBest_le bt k; rw [argBest]; split <;> omega
section
variable {prog:Program} {w:World} {A:Around} {R:Result→Shared→Prop} {I:Addr} {fp wr:List Addr} {n:Nat} {P:Nat→Value→Prop} {St:Nat→Heap→Prop} {h0:Heap} {kw:List (Str × Value)}
theorem max_in (W:Walks prog w A.in1 I fp wr n P St) (bt:Nat→Nat→Bool) (cmp:CmpIn prog w A.in1 .Gt h0 P bt) (S:Addr) (S1:S ∉ fp) (N1:∀ b ∈ wr,h0.get? b = none) (N2:h0.get? S = none)
    (k:Nat):∀ (j:Nat) (s:Shared) (best:Value) (c:Nat),n - (j + 1) = k→j + 1 ≤ n→St (j + 1) s.heap→P (argBest bt j) best→Ext h0 s.heap →
      s.heap.get? S = some { cls := .type "list",dict:=none,data := .seq #[best,best] c,slots := #[] } →
      (∀ v h' tk,P (argBest bt (n - 1)) v→Ext h0 h'→R (.ok (.ret v)) { s with heap:=h',toks:=tk }) →
      codeAny (model prog w) A (.builtin "max.loop" ⟨[.ref I,.none,.ref S],kw⟩) R s:=by
  have S2:S ∉ wr:=fun z=>S1 (W.sub _ z)
  have nm:(toString "max" ++ toString ".loop" : String) = "max.loop" := by decide
  have keep:∀ {h h':Heap},Ext h0 h→(∀ b o,b ∉ wr→h.get? b = some o→h'.get? b = some o)→Ext h0 h':=fun {h h'} e1 e2 b o e=>e2 b o (fun z=>by rw [N1 b z] at e; cases e) (e1 b o e)
  have keepS:∀ {h:Heap} {f:Obj→Obj},Ext h0 h→Ext h0 (h.update S f):=fun {h f} e1 b o e=>(Heap.get?_update_other _ _ (fun z:S = b=>by rw [← z,N2] at e; cases e)).trans (e1 b o e)
  induction k with
  | zero =>
    intro j s best c hk hj st hP ex hS fin
    have jn:j + 1 = n:=by omega
    refine codeAny_builtin F.entry_max_loop ?_
    rw [Around.under_plainId F.plain_max_loop _]
    show wpAny _ A.in1 (seqItems? (.ref S) >>= _) _ _ s
    refine wpAny_bind (wpAny_seqItems hS rfl ?_)
    show wpAny _ A.in1 (tryCatch (pyNext (.ref I)) _ >>= _) _ _ s
    refine wpAny_bind (wpAny_tryCatch (W.done s _ _ (jn ▸ st) fun h' tk kp => ?_))
    have hS':=kp S _ S2 hS
    show wpAny _ A.in1 (updateSeq S (fun _ => #[]) >>= _) _ _ _
    refine wpAny_bind (wpAny_updateSeq hS' rfl (wpAny_bind (wpAny_letGo (wpAny_pure ?_))))
    exact fin best _ tk (by rw [← jn]; exact hP) (keepS (keep ex kp))
  | succ k ih =>
    intro j s best c hk hj st hP ex hS fin
    have jl:j + 1 < n:=by omega
    refine codeAny_builtin F.entry_max_loop ?_
    rw [Around.under_plainId F.plain_max_loop _]
    show wpAny _ A.in1 (seqItems? (.ref S) >>= _) _ _ s
    refine wpAny_bind (wpAny_seqItems hS rfl ?_)
    show wpAny _ A.in1 (tryCatch (pyNext (.ref I)) _ >>= _) _ _ s
    refine wpAny_bind (wpAny_tryCatch (W.item (j + 1) s _ _ jl st fun v h' tk pv st' kp => ?_))
    have hS':=kp S _ S2 hS
    have ex':=keep ex kp
    show wpAny _ A.in1 (tryCatch (holding [v,v] (richCompare .Gt v best >>= _)) _ >>= _) _ _ _
    refine wpAny_bind (wpAny_tryCatch (wpAny_holding (wpAny_bind (cmp (j + 1) (argBest bt j) v best _ _ _ (Nat.lt_succ_of_le (argBest_le bt j)) ex' pv hP ?_))))
    refine wpAny_bind (wpAny_holding (wpAny_truthy_bool (wpAny_bind (wpAny_letGo (wpAny_pure ?_)))))
    cases hb:bt (j + 1) (argBest bt j) with
    | true =>
      simp only [if_true]
      refine wpAny_bind (wpAny_updateSeq hS' rfl (wpAny_bind (wpAny_letGo ?_)))
      rw [nm]
      have st2:=W.frame _ _ (h'.update S (Obj.mapSeq fun _ => #[v,v])) st' fun b bf o e=>(Heap.get?_update_other _ _ (fun z:S = b=>S1 (by rw [z]; exact bf))).trans e
      exact wpAny_pure ⟨plainId_quiet F.plain_max_loop _,ih (j + 1) _ v _ (by omega) jl st2 (by simp only [argBest,hb,if_true]; exact pv) (keepS ex') (Heap.get?_update_self _ hS' rfl) fun v' h2 tk2 p2 e2=>fin v' h2 tk2 p2 e2⟩
    | false =>
      simp only [Bool.false_eq_true,if_false]
      refine wpAny_bind (wpAny_letGo ?_)
      rw [nm]
      exact wpAny_pure ⟨plainId_quiet F.plain_max_loop _,ih (j + 1) _ best c (by omega) jl st' (by simp only [argBest,hb,Bool.false_eq_true,if_false]; exact hP) ex' hS' fun v' h2 tk2 p2 e2=>fin v' h2 tk2 p2 e2⟩
theorem max_from (W:Walks prog w A.in1 I fp wr n P St) (bt:Nat→Nat→Bool) (cmp:CmpIn prog w A.in1 .Gt h0 P bt) (S:Addr) (S1:S ∉ fp) (N1:∀ b ∈ wr,h0.get? b = none) (N2:h0.get? S = none) (n0:0 < n)
    {s:Shared} {c:Nat} (st:St 0 s.heap) (ex:Ext h0 s.heap) (hS:s.heap.get? S = some { cls := .type "list",dict:=none,data := .seq #[] c,slots := #[] })
    (fin:∀ v h' tk,P (argBest bt (n - 1)) v→Ext h0 h'→R (.ok (.ret v)) { s with heap:=h',toks:=tk }) :
    codeAny (model prog w) A (.builtin "max.loop" ⟨[.ref I,.none,.ref S],kw⟩) R s:=by
  have S2:S ∉ wr:=fun z=>S1 (W.sub _ z)
  have nm:(toString "max" ++ toString ".loop" : String) = "max.loop" := by decide
  refine codeAny_builtin F.entry_max_loop ?_
  rw [Around.under_plainId F.plain_max_loop _]
  show wpAny _ A.in1 (seqItems? (.ref S) >>= _) _ _ s
  refine wpAny_bind (wpAny_seqItems hS rfl ?_)
  show wpAny _ A.in1 (tryCatch (pyNext (.ref I)) _ >>= _) _ _ s
  refine wpAny_bind (wpAny_tryCatch (W.item 0 s _ _ n0 st fun v h' tk pv st' kp => ?_))
  have hS':=kp S _ S2 hS
  have ex':Ext h0 h':=fun b o e=>kp b o (fun z=>by rw [N1 b z] at e; cases e) (ex b o e)
  have ex2:Ext h0 (h'.update S (Obj.mapSeq fun _ => #[v,v])):=fun b o e=>(Heap.get?_update_other _ _ (fun z:S = b=>by rw [← z,N2] at e; cases e)).trans (ex' b o e)
  show wpAny _ A.in1 (updateSeq S (fun _ => #[v,v]) >>= _) _ _ _
  refine wpAny_bind (wpAny_updateSeq hS' rfl ?_)
  rw [nm]
  have st2:=W.frame _ _ (h'.update S (Obj.mapSeq fun _ => #[v,v])) st' fun b bf o e=>(Heap.get?_update_other _ _ (fun z:S = b=>S1 (by rw [z]; exact bf))).trans e
  exact wpAny_pure ⟨plainId_quiet F.plain_max_loop _,max_in W bt cmp S S1 N1 N2 _ 0 _ v _ rfl n0 st2 pv ex2 (Heap.get?_update_self _ hS' rfl) fun v' h2 tk2 p2 e2=>fin v' h2 tk2 p2 e2⟩
end
section
variable {X:Cx}
noncomputable def rMax2 (K:PySem.W.Frag):List V→Hp→VK→Prop:=fun xs H Q=>∃ x y d e c,xs = [x,y]∧DV K H d x∧DV K H e y∧SeqAt.shaped d = true∧SeqAt.shaped e = true∧ltD d e = some c∧Q (if c = true then y else x) H
mutual
theorem reads_ext {h h':Heap} (e:Ext h h'):∀ {v:Value} {d:PyData} {as:List Addr},Reads h v d as→Reads h' v d as
  | _,_,_,.none=>.none
  | _,_,_,.bool b=>.bool b
  | _,_,_,.int i t=>.int i t
  | _,_,_,.str x t=>.str x t
  | _,_,_,.list a b c d=>.list (e _ _ a) b c (readsAll_ext e d)
  | _,_,_,.tuple a b c d=>.tuple (e _ _ a) b c (readsAll_ext e d)
  | _,_,_,.dict a b c d f=>.dict (e _ _ a) b c (readsAll_ext e d) (readsAll_ext e f)
theorem readsAll_ext {h h':Heap} (e:Ext h h'):∀ {vs:List Value} {ds:List PyData} {as:List Addr},ReadsAll h vs ds as→ReadsAll h' vs ds as
  | _,_,_,.nil=>.nil
  | _,_,_,.cons a b=>.cons (reads_ext e a) (readsAll_ext e b)
end
theorem call_max2G (hc:X.calm = true) (hu:X.A.units + 100 < cLine):CallR X (.builtin "max") (rMax2 X.K):=by
  intro pins s σ H xs us Q I r h
  obtain ⟨x,y,d,e,c,rfl,hd,he,sd,se,hlt,q⟩:=h
  obtain ⟨u,v,rfl,ru,rv⟩:=vals2 r
  obtain ⟨as,ra⟩:=DV.reads I d x u hd ru
  obtain ⟨bs,rb⟩:=DV.reads I e y v he rv
  have sz:(s.heap.push { cls := .type "tuple",data := .seq #[u,v] }).objs.size = s.heap.objs.size + 1:=Heap.size_push ..
  have hT:(s.heap.push { cls := .type "tuple",data := .seq #[u,v] }).IsTuple s.heap.objs.size #[u,v]:=⟨_,Heap.get?_push_size _ rfl,rfl,0,rfl⟩
  have nm:(toString "max" ++ toString ".loop" : String) = "max.loop" := by decide
  refine call_function_tree F.kind_max F.plain_max F.entry_max (F.args_max2 _ _) ?_
  show wpAny _ X.A.in1 (Builtin.Builtins.bindParams "max" ["key", "default"] 0 ⟨[],[]⟩ >>= _) _ _ s
  refine wpAny_bind (wpAny_of_eq (show Builtin.Builtins.bindParams "max" ["key", "default"] 0 ⟨[],[]⟩ = pure [none,none] from rfl) ?_)
  show wpAny _ X.A.in1 (newTuple [u,v] >>= _) _ _ s
  refine wpAny_bind (wpAny_newObj_type (wpAny_bind (wpAny_pyIter_tuple hT (wpAny_bind (wpAny_newObj_type ?_)))))
  rw [nm]
  have n0:∀ b,s.heap.objs.size ≤ b→s.heap.get? b = none:=fun b hb=>Heap.get?_none_of_le hb
  have sz2:((s.heap.push { cls := .type "tuple",data := .seq #[u,v] }).push { cls := .type "tuple_iterator",data := .fields #[.ref s.heap.objs.size,.int 0 0] }).objs.size = s.heap.objs.size + 2:=by rw [Heap.size_push,sz]
  have W:=Walks.tuple (prog:=X.prog) (w:=X.w) (A:=X.A.in1) (I.ok.hd hc) (s.heap.objs.size + 1) s.heap.objs.size (Nat.ne_of_lt (Nat.lt_succ_self _)) #[u,v]
  have key:CmpIn X.prog X.w X.A.in1 .Gt s.heap (fun i z => #[u,v][i]? = some z) (fun _ _=>c):=by
    intro i j x' y' s' Q' E' hij ex e1 e2 hq
    have l1:i < 2:=(Array.getElem?_eq_some_iff.mp e1).1
    obtain rfl:i = 1:=by omega
    obtain rfl:j = 0:=by omega
    cases (show v = x' by simpa using e1)
    cases (show u = y' by simpa using e2)
    exact cmpGt_data 64 e d c X.A.in1 s' v u bs as (SeqAt.depth_of_shaped se) (reads_ext ex rb) (reads_ext ex ra) (SeqAt.canLay_of_shaped se) (SeqAt.canLay_of_shaped sd) hlt (by show X.A.units + 1 + 64 + 2 < cLine; omega) _ _ _ _ hq
  have kp:∀ (h:Heap) (o1 o2 o3:Obj),Ext h (((h.push o1).push o2).push o3):=fun h o1 o2 o3 b o q=>Heap.get?_push_of_some _ (Heap.get?_push_of_some _ (Heap.get?_push_of_some _ q))
  dsimp only
  rw [sz2,sz]
  refine wpAny_pure ⟨plainId_quiet F.plain_max_loop _,max_from (h0:=s.heap) W _ key _ ?_ ?_ (n0 _ (by omega)) (by show 0 < 2; decide) ⟨⟨{ cls := .type "tuple_iterator",data := .fields #[.ref s.heap.objs.size,.int 0 0] }, ?_,rfl,rfl⟩,(hT.push _).push _⟩ (kp _ _ _ _) (by have:=Heap.get?_push_size ((s.heap.push { cls := .type "tuple",data := .seq #[u,v] }).push { cls := .type "tuple_iterator",data := .fields #[.ref s.heap.objs.size,.int 0 0] }) (o:={ cls := .type "list",data := .seq #[] }) rfl; rw [sz2] at this; exact this) fun z h' tk hz ex => ?_⟩
  · simp
  · intro b hb
    rw [List.mem_singleton.mp hb]
    exact n0 _ (by omega)
  · refine Heap.get?_push_of_some _ ?_
    have:=Heap.get?_push_size (s.heap.push { cls := .type "tuple",data := .seq #[u,v] }) (o:={ cls := .type "tuple_iterator",data := .fields #[.ref s.heap.objs.size,.int 0 0] }) rfl
    rw [sz] at this
    exact this
  · refine ⟨if c = true then y else x,H,I.kept (t':=tk) ex, ?_,q⟩
    cases c with
    | true =>
      cases (show v = z by simpa [argBest] using hz)
      exact rv
    | false =>
      cases (show u = z by simpa [argBest] using hz)
      exact ru
end
end L2
namespace L2
open PySem PySem.Spec PyProof.Rows
section
variable {X:Cx} {CX:CXT} {k:Nat} {f C D:Addr} {fd:FuncData} {ps:List Str} {sp:Sp} {dvs:List V} {ds:List Value} {EX:XK} {x m:Str} {p pos apos:Pos} {e o:Expr} {es:List Expr} {ta:TE} {t:TA} {σ₀:St}
end
end L2
namespace L2
open PySem PySem.Spec PyProof.Rows PySem.NumText
section
variable {X:Cx}
end
end L2
namespace L2
open PySem PySem.Spec PyProof.Rows PySem.NumText
theorem ok_iff {z:Str}:PyData.strOk z = true ↔ ∀ n ∈ z.cps.toList,n < 0x110000:=by
  unfold PyData.strOk
  rw [← Array.all_toList,List.all_eq_true]
  constructor
  · intro h n hn; exact of_decide_eq_true (h n hn)
  · intro h n hn; exact decide_eq_true (h n hn)
theorem codes_add (a b:Str):(a ++ b).cps.toList = a.cps.toList ++ b.cps.toList:=by
  show (a.cps ++ b.cps).toList = _
  simp
theorem ok_add {a b:Str} (h1:PyData.strOk a = true) (h2:PyData.strOk b = true):PyData.strOk (a ++ b) = true:=by
  rw [ok_iff] at *
  intro n hn
  rw [codes_add,List.mem_append] at hn
  exact hn.elim (h1 n) (h2 n)
theorem ok_lit (s:String):PyData.strOk (Str.ofString s) = true:=by
  rw [ok_iff]
  intro n hn
  rw [signs_ofString] at hn
  obtain ⟨c,_,rfl⟩:=List.mem_map.mp hn
  have:=c.valid
  unfold UInt32.isValidChar Nat.isValidChar at this
  show c.val.toNat < 1114112
  omega
end L2
namespace L2
open PySem PySem.Spec PyProof.Rows PySem.NumText
structure STO {α:Type} (lt:α→α→Bool):Prop where
  irr:∀ a,lt a a = false
  tr:∀ a b c,lt a b = true→lt b c = true→lt a c = true
  tri:∀ a b,a ≠ b→lt a b = false→lt b a = true
theorem STO.asym {α:Type} {lt:α→α→Bool} (h:STO lt) {a b:α} (x:lt a b = true):lt b a = false:=by
  cases e:lt b a with
  | false=>rfl
  | true=>have:=h.tr a b a x e; rw [h.irr] at this; cases this
theorem iLt_sto:STO iLt where
  irr:=fun a=>decide_eq_false (by omega)
  tr:=fun a b c h1 h2=>decide_eq_true (by have:=of_decide_eq_true h1; have:=of_decide_eq_true h2; omega)
  tri:=fun a b h1 h2=>decide_eq_true (by have:=of_decide_eq_false h2; omega)
theorem lexG_sto {α:Type} [DecidableEq α] {lt:α→α→Bool} (h:STO lt):STO (lexG lt) where
  irr:=fun a=>by
    induction a with
    | nil=>rfl
    | cons x xs ih=>rw [lexG,if_pos rfl]; exact ih
  tr:=fun a=>by
    induction a with
    | nil =>
      intro b c h1 h2
      cases c with
      | nil=>cases b <;> cases h2
      | cons z zs=>rfl
    | cons x xs ih =>
      intro b c h1 h2
      cases b with
      | nil=>cases h1
      | cons y ys =>
        cases c with
        | nil=>cases h2
        | cons z zs =>
          rw [lexG] at h1 h2 ⊢
          by_cases e1:x = y
          · rw [if_pos e1] at h1
            by_cases e2:y = z
            · rw [if_pos e2] at h2
              rw [if_pos (e1.trans e2)]
              exact ih ys zs h1 h2
            · rw [if_neg e2] at h2
              rw [e1,if_neg e2]
              exact h2
          · rw [if_neg e1] at h1
            by_cases e2:y = z
            · rw [if_pos e2] at h2
              subst e2
              rw [if_neg e1]
              exact h1
            · rw [if_neg e2] at h2
              have h3:=h.tr x y z h1 h2
              have e3:x ≠ z:=fun e=>by rw [e,h.irr] at h3; cases h3
              rw [if_neg e3]
              exact h3
  tri:=fun a=>by
    induction a with
    | nil =>
      intro b h1 h2
      cases b with
      | nil=>exact absurd rfl h1
      | cons y ys=>cases h2
    | cons x xs ih =>
      intro b h1 h2
      cases b with
      | nil=>rfl
      | cons y ys =>
        rw [lexG] at h2 ⊢
        by_cases e:x = y
        · rw [if_pos e] at h2
          rw [if_pos e.symm]
          exact ih ys (fun z=>h1 (by rw [e,z])) h2
        · rw [if_neg e] at h2
          rw [if_neg (fun z=>e z.symm)]
          exact h.tri x y e h2
theorem STO.map {α β:Type} {lt:β→β→Bool} (h:STO lt) {f:α→β} (inj:∀ a b,f a = f b→a = b):STO (fun a b=>lt (f a) (f b)) where
  irr:=fun a=>h.irr _
  tr:=fun a b c=>h.tr _ _ _
  tri:=fun a b hn=>h.tri _ _ fun e=>hn (inj a b e)
theorem sLt_sto:STO sLt:=(lexG_sto iLt_sto).map (f:=sI) fun a b e=>sI_inj.mp e
theorem pLt_sto:STO pLt:=lexG_sto sLt_sto
noncomputable def xLt (a b:Str):Bool:=decide (a.cps.toList < b.cps.toList)
theorem xLt_sto:STO xLt where
  irr:=fun a=>decide_eq_false (List.lt_irrefl _)
  tr:=fun a b c h1 h2=>decide_eq_true (List.lt_trans (of_decide_eq_true h1) (of_decide_eq_true h2))
  tri:=fun a b h1 h2=>decide_eq_true (by
    have h2:=of_decide_eq_false h2
    exact Classical.byContradiction fun h3=>h1 (ext_toList (List.le_antisymm (List.not_lt.mp h3) (List.not_lt.mp h2))))
noncomputable def prodLt {α β:Type} [DecidableEq α] (l1:α→α→Bool) (l2:β→β→Bool) (a b:α × β):Bool:=if a.1 = b.1 then l2 a.2 b.2 else l1 a.1 b.1
theorem prod_sto {α β:Type} [DecidableEq α] {l1:α→α→Bool} {l2:β→β→Bool} (h1:STO l1) (h2:STO l2):STO (prodLt l1 l2) where
  irr:=fun a=>by unfold prodLt; rw [if_pos rfl]; exact h2.irr _
  tr:=fun a b c x y=>by
    unfold prodLt at *
    by_cases e1:a.1 = b.1
    · rw [if_pos e1] at x
      by_cases e2:b.1 = c.1
      · rw [if_pos e2] at y
        rw [if_pos (e1.trans e2)]
        exact h2.tr _ _ _ x y
      · rw [if_neg e2] at y
        rw [e1,if_neg e2]
        exact y
    · rw [if_neg e1] at x
      by_cases e2:b.1 = c.1
      · rw [if_pos e2] at y
        rw [← e2,if_neg e1]
        exact x
      · rw [if_neg e2] at y
        have z:=h1.tr _ _ _ x y
        have e3:a.1 ≠ c.1:=fun e=>by rw [e,h1.irr] at z; cases z
        rw [if_neg e3]
        exact z
  tri:=fun a b hn x=>by
    unfold prodLt at *
    by_cases e:a.1 = b.1
    · rw [if_pos e] at x
      rw [if_pos e.symm]
      exact h2.tri _ _ (fun z=>hn (Prod.ext e z)) x
    · rw [if_neg e] at x
      rw [if_neg (fun z=>e z.symm)]
      exact h1.tri _ _ e x
noncomputable abbrev Ver:=Int × List Stp × Str
noncomputable def ver (v:Ver):PyData := .tuple [.int v.1,plc v.2.1,.str v.2.2]
noncomputable def vdat:Option Ver→PyData
  | none=>.none
  | some v=>ver v
noncomputable def okV (v:Ver):Prop:=PySem.PyData.strOk v.2.2 = true
noncomputable def okO (o:Option Ver):Prop:=∀ v,o = some v→okV v
noncomputable abbrev verLt:Ver→Ver→Bool:=prodLt iLt (prodLt pLt xLt)
theorem verLt_sto:STO verLt:=prod_sto iLt_sto (prod_sto pLt_sto xLt_sto)
theorem ver_of {K:PySem.W.Frag} {H:Hp} {v:Ver} {x:V} (h:DV K H (ver v) x):∃ t pv,x = .ref t∧SqT K H t [.int v.1,pv,.str v.2.2]∧DV K H (plc v.2.1) pv:=by
  obtain ⟨t,vs,rfl,hq,a,r,rfl,ha,b,r2,rfl,hb,c,r3,rfl,hc,h4⟩:=h
  cases (show a = V.int v.1 from ha)
  cases (show c = V.str v.2.2 from hc)
  cases (show r3 = [] from h4)
  exact ⟨t,b,rfl,hq,hb⟩
theorem ver_mk {K:PySem.W.Frag} {H:Hp} {v:Ver} {t:Addr} {pv:V} (h:SqT K H t [.int v.1,pv,.str v.2.2]) (hp:DV K H (plc v.2.1) pv):DV K H (ver v) (.ref t):=⟨t,_,rfl,h,_,_,rfl,rfl,_,_,rfl,hp,_,_,rfl,rfl,rfl⟩
theorem noL_vdat (o:Option Ver):noL (vdat o) = true:=by
  cases o with
  | none=>rfl
  | some v =>
    show (noL (.int v.1) && (noL (plc v.2.1) && (noL (.str v.2.2) && true))) = true
    rw [noL_plc]
    rfl
theorem ver_eqv (a b:Ver):PyData.eqv (ver a) (ver b) = decide (a = b):=by
  obtain ⟨a1,a2,a3⟩:=a
  obtain ⟨b1,b2,b3⟩:=b
  have e:PyData.eqv (ver (a1,a2,a3)) (ver (b1,b2,b3)) = (a1 == b1 && (PyData.eqv (plc a2) (plc b2) && (a3 == b3 && true))):=rfl
  rw [e,plc_eqv,Bool.eq_iff_iff]
  simp
theorem vdat_eqv (a b:Option Ver):PyData.eqv (vdat a) (vdat b) = decide (a = b):=by
  cases a with
  | none=>cases b <;> rfl
  | some x =>
    cases b with
    | none=>rfl
    | some y =>
      show PyData.eqv (ver x) (ver y) = _
      rw [ver_eqv]
      exact decide_eq_decide.mpr (by simp)
theorem ver_shaped {v:Ver} (h:okV v):SeqAt.shaped (ver v) = true:=by
  unfold SeqAt.shaped
  have h1:PyData.canLay0 (ver v) = true:=by
    show (true && (PyData.canLay0 (plc v.2.1) && (PySem.PyData.strOk v.2.2 && true))) = true
    rw [plc_lay,h]
    rfl
  rw [h1,Bool.true_and]
  have h2:PyData.depth (ver v) = max 0 (max (PyData.depthAll (v.2.1.map stp) + 1) (max 0 0)) + 1:=rfl
  have:=depth_stps v.2.1
  exact decide_eq_true (by omega)
theorem vdat_shaped {o:Option Ver} (h:okO o):SeqAt.shaped (vdat o) = true:=by
  cases o with
  | none=>rfl
  | some v=>exact ver_shaped (h v rfl)
theorem ltD_stp (a b:Stp):ltD (stp a) (stp b) = some (sLt a b):=by
  obtain ⟨a1,a2,a3⟩:=a
  obtain ⟨b1,b2,b3⟩:=b
  show ltDs [.int a1,.int a2,.int a3] [.int b1,.int b2,.int b3] = some (lexG iLt [a1,a2,a3] [b1,b2,b3])
  have ie:∀ x y:Int,PyData.eqv (.int x) (.int y) = decide (x = y):=fun x y=>by rw [show PyData.eqv (.int x) (.int y) = (x == y) from rfl,Bool.eq_iff_iff]; simp
  rw [ltDs,ltDs,ltDs,ltDs,lexG,lexG,lexG,lexG,ie,ie,ie]
  by_cases e1:a1 = b1
  · rw [if_pos (decide_eq_true e1),if_pos e1]
    by_cases e2:a2 = b2
    · rw [if_pos (decide_eq_true e2),if_pos e2]
      by_cases e3:a3 = b3
      · rw [if_pos (decide_eq_true e3),if_pos e3]
      · rw [if_neg (by simpa using e3),if_neg e3]; rfl
    · rw [if_neg (by simpa using e2),if_neg e2]; rfl
  · rw [if_neg (by simpa using e1),if_neg e1]; rfl
theorem ltD_stps:∀ a b:List Stp,ltDs (a.map stp) (b.map stp) = some (pLt a b)
  | [],[]=>rfl
  | [],_ :: _=>rfl
  | _ :: _,[]=>rfl
  | x :: a,y :: b=>by
    rw [List.map_cons,List.map_cons,ltDs,stp_eqv,ltD_stps a b,ltD_stp]
    show _ = some (if x = y then lexG sLt a b else sLt x y)
    by_cases e:x = y
    · rw [if_pos (decide_eq_true e),if_pos e]
    · rw [if_neg (by simpa using e),if_neg e]
theorem ltD_plc (a b:List Stp):ltD (plc a) (plc b) = some (pLt a b):=ltD_stps a b
theorem ltD_ver (a b:Ver):ltD (ver a) (ver b) = some (verLt a b):=by
  obtain ⟨a1,a2,a3⟩:=a
  obtain ⟨b1,b2,b3⟩:=b
  show ltDs [.int a1,plc a2,.str a3] [.int b1,plc b2,.str b3] = some (prodLt iLt (prodLt pLt xLt) (a1,a2,a3) (b1,b2,b3))
  have ie:PyData.eqv (.int a1) (.int b1) = decide (a1 = b1):=by rw [show PyData.eqv (.int a1) (.int b1) = (a1 == b1) from rfl,Bool.eq_iff_iff]; simp
  have se:PyData.eqv (.str a3) (.str b3) = decide (a3 = b3):=by rw [show PyData.eqv (.str a3) (.str b3) = (a3 == b3) from rfl,Bool.eq_iff_iff]; simp
  rw [ltDs,ltDs,ltDs,ltDs,ie,se,plc_eqv,ltD_plc]
  unfold prodLt
  dsimp only
  by_cases e1:a1 = b1
  · rw [if_pos (decide_eq_true e1),if_pos e1]
    by_cases e2:a2 = b2
    · rw [if_pos (decide_eq_true e2),if_pos e2]
      by_cases e3:a3 = b3
      · rw [if_pos (decide_eq_true e3),e3,xLt_sto.irr]
      · rw [if_neg (by simpa using e3)]; rfl
    · rw [if_neg (by simpa using e2),if_neg e2]
  · rw [if_neg (by simpa using e1),if_neg e1]; rfl
noncomputable def mx:Option Ver→Option Ver→Option Ver
  | none,b=>b
  | some a,none=>some a
  | some a,some b=>if verLt a b = true then some b else some a
theorem mx_none (a:Option Ver):mx a none = a:=by cases a <;> rfl
end L2
namespace L2
open PySem PySem.Spec PyProof.Rows PySem.NumText PySem.W
section
variable {n:Nat} {s:Shared} {cmp:Nat→Nat→(Bool→Shared→Prop)→Shared→Prop} {lt:Nat→Nat→Bool}
noncomputable def Asks (n:Nat) (s:Shared) (cmp:Nat→Nat→(Bool→Shared→Prop)→Shared→Prop) (lt:Nat→Nat→Bool):Prop:=∀ i j C,i < n→j < n→C (lt i j) s→cmp i j C s
structure Ord (n:Nat) (lt:Nat→Nat→Bool):Prop where
  tr:∀ a b c,a < n→b < n→c < n→lt a b = true→lt b c = true→lt a c = true
  tri:∀ a b,a < n→b < n→a ≠ b→lt a b = false→lt b a = true
  asy:∀ a b,a < n→b < n→lt a b = true→lt b a = false
structure Pm (n:Nat) (p:Array Nat):Prop where
  pm:p.toList.Perm (List.range n)
noncomputable abbrev at_ (p:Array Nat) (k:Nat):Nat:=p.getD k 0
theorem Pm.size {p:Array Nat} (h:Pm n p):p.size = n:=by have:=h.pm.length_eq; simpa using this
theorem at_eq {p:Array Nat} {k:Nat} (h:k < p.size):at_ p k = p[k]:=by simp [at_,Array.getD,h]
theorem Pm.inb {p:Array Nat} (h:Pm n p) {k:Nat} (hk:k < n):at_ p k < n:=by
  have hs:=h.size
  rw [at_eq (by omega)]
  have:p[k]'(by omega) ∈ p.toList:=by simp
  have:=h.pm.mem_iff.mp this
  simpa using this
theorem Pm.inj {p:Array Nat} (h:Pm n p) {i j:Nat} (hi:i < n) (hj:j < n) (e:at_ p i = at_ p j):i = j:=by
  have hs:=h.size
  rw [at_eq (by omega),at_eq (by omega)] at e
  have nd:p.toList.Nodup:=h.pm.nodup_iff.mpr List.nodup_range
  have pw:=List.pairwise_iff_getElem.mp nd
  rcases Nat.lt_trichotomy i j with z | z | z
  · exact absurd e (pw i j (by simp; omega) (by simp; omega) z)
  · exact z
  · exact absurd e.symm (pw j i (by simp; omega) (by simp; omega) z)
noncomputable def Up (lt:Nat→Nat→Bool) (p:Array Nat) (m:Nat):Prop:=∀ i j,i < j→j < m→lt (at_ p i) (at_ p j) = true
theorem up_chain {p:Array Nat} {m:Nat} (O:Ord n lt) (h:Pm n p) (hm:m ≤ n) (c:∀ k,1 ≤ k→k < m→lt (at_ p (k - 1)) (at_ p k) = true):Up lt p m:=by
  intro i j hij hj
  induction j with
  | zero=>omega
  | succ j ih =>
    have h1:=c (j + 1) (by omega) hj
    rw [Nat.add_sub_cancel] at h1
    by_cases e:i = j
    · rw [e]; exact h1
    · exact O.tr _ _ _ (h.inb (by omega)) (h.inb (by omega)) (h.inb (by omega)) (ih (by omega) (by omega)) h1
theorem asc_wp (hc:Asks n s cmp lt) {p:Array Nat} (h:Pm n p):∀ (f m:Nat) {Q:Nat→Shared→Prop},1 ≤ m→m + f ≤ n →
    (∀ r,m ≤ r→r ≤ m + f→(∀ k,m ≤ k→k < r→lt (at_ p k) (at_ p (k - 1)) = false)→(r < m + f→lt (at_ p r) (at_ p (r - 1)) = true)→Q r s)→(kas_asc p f m).kasWp cmp Q s
  | 0,m,Q,h1,hm,q=>q m (Nat.le_refl _) (Nat.le_refl _) (fun k a b=>by omega) (fun a=>by omega)
  | f + 1,m,Q,h1,hm,q=>by
    refine hc _ _ _ (h.inb (by omega)) (h.inb (by omega)) ?_
    cases e:lt (at_ p m) (at_ p (m - 1)) with
    | true=>exact q m (Nat.le_refl _) (by omega) (fun k a b=>by omega) (fun _=>e)
    | false =>
      refine asc_wp hc h f (m + 1) (by omega) (by omega) fun r a b c d=>q r (by omega) (by omega) (fun k k1 k2 => ?_) (fun z=>d (by omega))
      by_cases ek:k = m
      · rw [ek]; exact e
      · exact c k (by omega) k2
theorem desc_wp (O:Ord n lt) (hc:Asks n s cmp lt) {p:Array Nat} (h:Pm n p):∀ (f m:Nat) {Q:Array Nat × Nat × Nat→Shared→Prop},1 ≤ m→m + f ≤ n →
    (∀ r,m ≤ r→r ≤ m + f→(∀ k,m ≤ k→k < r→lt (at_ p k) (at_ p (k - 1)) = true)→Q (p,r,0) s)→(kas_desc f p m 0).kasWp cmp Q s
  | 0,m,Q,h1,hm,q=>q m (Nat.le_refl _) (Nat.le_refl _) (fun k a b=>by omega)
  | f + 1,m,Q,h1,hm,q=>by
    refine hc _ _ _ (h.inb (by omega)) (h.inb (by omega)) ?_
    cases e:lt (at_ p m) (at_ p (m - 1)) with
    | true =>
      show (kas_desc f p (m + 1) 0).kasWp cmp Q s
      refine desc_wp O hc h f (m + 1) (by omega) (by omega) fun r a b c=>q r (by omega) (by omega) (fun k k1 k2 => ?_)
      by_cases ek:k = m
      · rw [ek]; exact e
      · exact c k (by omega) k2
    | false =>
      refine hc _ _ _ (h.inb (by omega)) (h.inb (by omega)) ?_
      have:=O.tri _ _ (h.inb (k:=m) (by omega)) (h.inb (k:=m - 1) (by omega)) (fun z=>by have:=h.inj (by omega) (by omega) z; omega) e
      rw [show lt (p.getD (m - 1) 0) (p.getD m 0) = true from this]
      exact q m (Nat.le_refl _) (by omega) (fun k a b=>by omega)
theorem pm_of_perm {p q:Array Nat} (h:Pm n p) (e:q.Perm p):Pm n q:=⟨(Array.perm_iff_toList_perm.mp e).trans h.pm⟩
theorem rev_at {p:Array Nat} (h:Pm n p) {m:Nat} (hm:m ≤ n) {k:Nat} (hk:k < n):at_ (kas_rev p 0 m) k = if k < m then at_ p (m - 1 - k) else at_ p k:=by
  have hs:=h.size
  have:=getElem?_mirror_all (xs:=p) (i:=0) (j:=m) (by omega) k
  unfold at_
  rw [Array.getD_eq_getD_getElem?,kas_rev,this]
  by_cases hkm:k < m
  · rw [if_pos hkm,if_pos ⟨by omega,hkm⟩,Array.getD_eq_getD_getElem?,show 0 + m - 1 - k = m - 1 - k by omega]
  · rw [if_neg hkm,if_neg (by omega),Array.getD_eq_getD_getElem?]
theorem tail3_wp (O:Ord n lt) (hc:Asks n s cmp lt) {p:Array Nat} (h:Pm n p) {m:Nat} {Q:Nat × Array Nat→Shared→Prop} (h1:1 ≤ m) (hm:m ≤ n) (hd:∀ k,1 ≤ k→k < m→lt (at_ p k) (at_ p (k - 1)) = true)
    (q:∀ r p',1 ≤ r→r ≤ n→Pm n p'→Up lt p' r→Q (r,p') s):(kas_tail3 m n p).kasWp cmp Q s:=by
  have hp':Pm n (kas_rev p 0 m):=pm_of_perm h (mirror_perm _ _ _ _)
  unfold kas_tail3
  rw [KasT.kasWp_bind]
  refine asc_wp hc hp' (n - m) m h1 (by omega) fun r a b c _=>q r _ (by omega) (by omega) hp' (up_chain O hp' (by omega) fun k k1 k2 => ?_)
  by_cases hk:k < m
  · rw [rev_at h hm (by omega),rev_at h hm (by omega),if_pos (by omega),if_pos hk]
    have:=hd (m - 1 - (k - 1)) (by omega) (by omega)
    rw [show m - 1 - (k - 1) - 1 = m - 1 - k by omega] at this
    exact this
  · exact O.tri _ _ (hp'.inb (by omega)) (hp'.inb (by omega)) (fun z=>by have:=hp'.inj (by omega) (by omega) z; omega) (c k (by omega) k2)
theorem descPart_wp (O:Ord n lt) (hc:Asks n s cmp lt) {p:Array Nat} (h:Pm n p) {Q:Nat × Array Nat→Shared→Prop} (h2:2 ≤ n) (hd:lt (at_ p 1) (at_ p 0) = true)
    (q:∀ r p',1 ≤ r→r ≤ n→Pm n p'→Up lt p' r→Q (r,p') s):(kas_descPart 1 n p).kasWp cmp Q s:=by
  unfold kas_descPart
  rw [KasT.kasWp_bind]
  refine desc_wp O hc h (n - 2) 2 (by omega) (by omega) fun r a b c => ?_
  show (kas_tail3 r n p).kasWp cmp Q s
  refine tail3_wp O hc h (by omega) (by omega) (fun k k1 k2 => ?_) q
  by_cases e:k = 1
  · rw [e]; exact hd
  · exact c k (by omega) k2
theorem count_wp (O:Ord n lt) (hc:Asks n s cmp lt) {p:Array Nat} (h:Pm n p) {Q:Nat × Array Nat→Shared→Prop} (h2:2 ≤ n)
    (q:∀ r p',1 ≤ r→r ≤ n→Pm n p'→Up lt p' r→Q (r,p') s):(kas_count n p).kasWp cmp Q s:=by
  unfold kas_count
  rw [KasT.kasWp_bind]
  refine asc_wp hc h (n - 1) 1 (by omega) (by omega) fun r a b c d => ?_
  have up:Up lt p r:=up_chain O h (by omega) fun k k1 k2=>O.tri _ _ (h.inb (by omega)) (h.inb (by omega)) (fun z=>by have:=h.inj (by omega) (by omega) z; omega) (c k k1 k2)
  by_cases e:r = n
  · rw [if_pos (by simp [e])]
    exact q r p (by omega) (by omega) h up
  · rw [if_neg (by simp [e])]
    by_cases e1:r > 1
    · rw [if_pos e1]
      refine hc _ _ _ (h.inb (by omega)) (h.inb (by omega)) ?_
      have:=up 0 (r - 1) (by omega) (by omega)
      rw [show lt (p.getD 0 0) (p.getD (r - 1) 0) = true from this]
      exact q r p (by omega) (by omega) h up
    · rw [if_neg e1]
      obtain rfl:r = 1:=by omega
      exact descPart_wp O hc h h2 (d (by omega)) q
theorem place_wp (O:Ord n lt) (hc:Asks n s cmp lt) {p:Array Nat} (h:Pm n p) {k:Nat} (hk:k < n) (up:Up lt p k):∀ (f l r:Nat) {Q:Nat→Shared→Prop},l ≤ r→r ≤ k→r - l ≤ f →
    (∀ i,i < l→lt (at_ p k) (at_ p i) = false)→(∀ i,r ≤ i→i < k→lt (at_ p k) (at_ p i) = true) →
    (∀ l',l' ≤ k→(∀ i,i < l'→lt (at_ p k) (at_ p i) = false)→(∀ i,l' ≤ i→i < k→lt (at_ p k) (at_ p i) = true)→Q l' s)→(kas_place p k f l r).kasWp cmp Q s
  | 0,l,r,Q,h1,h2,h3,a,b,q=>q l (by omega) a fun i i1 i2=>b i (by omega) i2
  | f + 1,l,r,Q,h1,h2,h3,a,b,q=>by
    unfold kas_place
    by_cases e:l ≥ r
    · rw [if_pos e]
      exact q l (by omega) a fun i i1 i2=>b i (by omega) i2
    · rw [if_neg e]
      refine hc _ _ _ (h.inb hk) (h.inb (by omega)) ?_
      cases e2:lt (p.getD k 0) (p.getD ((l + r) / 2) 0) with
      | true =>
        refine place_wp O hc h hk up f l ((l + r) / 2) (by omega) (by omega) (by omega) a (fun i i1 i2 => ?_) q
        by_cases ei:i = (l + r) / 2
        · rw [ei]; exact e2
        · exact O.tr _ _ _ (h.inb hk) (h.inb (by omega)) (h.inb (by omega)) e2 (up _ _ (by omega) i2)
      | false =>
        refine place_wp O hc h hk up f ((l + r) / 2 + 1) r (by omega) h2 (by omega) (fun i i1 => ?_) b q
        have hm:=O.tri _ _ (h.inb hk) (h.inb (k:=(l + r) / 2) (by omega)) (fun z=>by have:=h.inj hk (by omega) z; omega) e2
        by_cases ei:i = (l + r) / 2
        · rw [ei]; exact e2
        · exact O.asy _ _ (h.inb (by omega)) (h.inb hk) (O.tr _ _ _ (h.inb (by omega)) (h.inb (k:=(l + r) / 2) (by omega)) (h.inb hk) (up i _ (by omega) (by omega)) hm)
theorem bub_at {p:Array Nat} (h:Pm n p) {k l:Nat} (hk:k < n) (hl:l ≤ k) {i:Nat} (hi:i < n):at_ (bubble p k (k - l)) i = if i < l then at_ p i else if i = l then at_ p k else if i ≤ k then at_ p (i - 1) else at_ p i:=by
  have hs:=h.size
  have:=getElem?_bubble (xs:=p) (src:=k) (by omega) (k - l) (by omega) i
  unfold at_
  simp only [Array.getD_eq_getD_getElem?]
  rw [this]
  rw [show k - (k - l) = l by omega]
  by_cases e1:i < l
  · rw [if_pos e1,if_neg (by omega),if_neg (by omega)]
  · rw [if_neg e1]
    by_cases e2:i = l
    · rw [if_pos e2,if_pos e2]
    · rw [if_neg e2,if_neg e2]
      by_cases e3:i ≤ k
      · rw [if_pos e3,if_pos ⟨by omega,e3⟩]
      · rw [if_neg e3,if_neg (by omega)]
theorem bin_wp (O:Ord n lt) (hc:Asks n s cmp lt):∀ (f:Nat) (p:Array Nat) (k:Nat) {Q:Array Nat→Shared→Prop},Pm n p→k + f = n→Up lt p k→(∀ p',Pm n p'→Up lt p' n→Q p' s)→(kas_bin f p k).kasWp cmp Q s
  | 0,p,k,Q,h,hk,up,q=>by
    obtain rfl:k = n:=by omega
    exact q p h up
  | f + 1,p,k,Q,h,hk,up,q=>by
    unfold kas_bin
    rw [KasT.kasWp_bind]
    have hkn:k < n:=by omega
    refine place_wp O hc h hkn up k 0 k (by omega) (Nat.le_refl _) (by omega) (fun i z=>by omega) (fun i z z2=>by omega) fun l hl a b => ?_
    have hp':Pm n (bubble p k (k - l)):=pm_of_perm h (bubble_perm _ _ _)
    refine bin_wp O hc f _ (k + 1) hp' (by omega) (fun i j hij hj => ?_) q
    rw [bub_at h hkn hl (by omega),bub_at h hkn hl (by omega)]
    have lo:∀ i,i < l→lt (at_ p i) (at_ p k) = true:=fun i hi=>O.tri _ _ (h.inb hkn) (h.inb (by omega)) (fun z=>by have:=h.inj hkn (by omega) z; omega) (a i hi)
    by_cases i1:i < l
    · rw [if_pos i1]
      by_cases j1:j < l
      · rw [if_pos j1]; exact up i j hij (by omega)
      · rw [if_neg j1]
        by_cases j2:j = l
        · rw [if_pos j2]; exact lo i i1
        · rw [if_neg j2,if_pos (by omega)]; exact up i (j - 1) (by omega) (by omega)
    · rw [if_neg i1,if_neg (show ¬ j < l by omega),if_neg (show ¬ j = l by omega),if_pos (show j ≤ k by omega)]
      by_cases i2:i = l
      · rw [if_pos i2]; exact b (j - 1) (by omega) (by omega)
      · rw [if_neg i2,if_pos (by omega)]; exact up (i - 1) (j - 1) (by omega) (by omega)
theorem range_pm:Pm n (List.range n).toArray:=⟨by simp⟩
theorem sort_wp (O:Ord n lt) (hc:Asks n s cmp lt) (h2:2 ≤ n) {Q:Array Nat→Shared→Prop} (q:∀ p',Pm n p'→Up lt p' n→Q p' s):(kas_sort n).kasWp cmp Q s:=by
  unfold kas_sort
  rw [KasT.kasWp_bind]
  refine count_wp O hc range_pm h2 fun r p' a b hp up => ?_
  by_cases e:r < n
  · show (if r < n then kas_bin (n - max r 1) p' (max r 1) else .ret p':KasT _).kasWp cmp Q s
    rw [if_pos e,show max r 1 = r by omega]
    exact bin_wp O hc _ p' r hp (by omega) up q
  · show (if r < n then kas_bin (n - max r 1) p' (max r 1) else .ret p':KasT _).kasWp cmp Q s
    rw [if_neg e]
    obtain rfl:r = n:=by omega
    exact q p' hp up
end
end L2
namespace L2
open PySem PySem.Spec PyProof.Rows PySem.NumText PySem.W
section
variable {prog:Program} {w:World} {A:Around} {E:Value→Shared→Prop} {s:Shared} {a:Addr} {vs:List Value} {lt:Nat→Nat→Bool}
noncomputable abbrev outOf (vs:List Value) (p:Array Nat):List Value:=p.toList.map fun i=>vs.getD i .none
theorem out_range (vs:List Value):outOf vs (List.range vs.length).toArray = vs:=by
  unfold outOf
  refine List.ext_getElem (by simp) fun i h1 h2 => ?_
  simp only [List.getElem_map,List.getElem_range]
  simp [h2]
theorem sort_shell {c:Nat} {P:PySem.Fin→Shared→Prop} (ho:s.heap.get? a = some (seqObj "list" vs.toArray c)) (few:vs.length < 64) (O:Ord vs.length lt)
    (hk:2 ≤ vs.length→∀ h',(∀ b o,b ≠ a→s.heap.get? b = some o→h'.get? b = some o)→∃ κ,(∀ (R:SortKind→Shared→Prop) (E':Value→Shared→Prop),R κ { s with heap:=h' }→wpAny (model prog w) A (keyKind' vs.toArray) R E' { s with heap:=h' })∧Asks vs.length { s with heap:=h' } (kas_ask prog w A κ vs) lt)
    (h:∀ (p:Array Nat) (h':Heap) (c':Nat),Pm vs.length p→Up lt p vs.length→h'.get? a = some (seqObj "list" (outOf vs p).toArray c')→(∀ b o,b ≠ a→s.heap.get? b = some o→h'.get? b = some o)→P (.done (.ret .none)) { s with heap:=h' }) :
    wpAny (model prog w) A (Builtin.«list.sort» ⟨[.ref a],[]⟩) P E s:=by
  have la:a < s.heap.objs.size:=Heap.lt_size ho
  have line:vs.length ≤ sizeLine:=by rw [sizeLine_eq]; omega
  obtain ⟨e1,ho1⟩:∃ e1,(s.heap.update a (Obj.mapSeq fun _=>(#[]:Array Value))).get? a = some (seqObj "list" #[] e1):=⟨_,get?_update_seq ho fun _ => #[]⟩
  generalize hh:((s.heap.update a (Obj.mapSeq fun _=>(#[]:Array Value))).push (seqObj "tuple" vs.toArray 0)).push (seqObj "list" #[] 0) = h3
  have keep3:∀ b o,b ≠ a→s.heap.get? b = some o→h3.get? b = some o:=fun b o nb q=>by
    rw [← hh]
    refine Heap.get?_push_of_some _ (Heap.get?_push_of_some _ ?_)
    rw [Heap.get?_update_other _ _ (Ne.symm nb)]
    exact q
  have at3:h3.get? a = some (seqObj "list" #[] e1):=by rw [← hh]; exact Heap.get?_push_of_some _ (Heap.get?_push_of_some _ ho1)
  have fin:∀ (p:Array Nat),Pm vs.length p→Up lt p vs.length→P (.done (.ret .none)) { s with heap:=h3.update a (Obj.mapSeq fun _=>(outOf vs p).toArray) }:=fun p hp up=>by
    obtain ⟨c2,hc2⟩:∃ c2,(h3.update a (Obj.mapSeq fun _=>(outOf vs p).toArray)).get? a = some (seqObj "list" (outOf vs p).toArray c2):=⟨_,get?_update_seq at3 fun _=>(outOf vs p).toArray⟩
    refine h p _ c2 hp up hc2 fun b o nb q => ?_
    rw [Heap.get?_update_other _ _ (Ne.symm nb)]
    exact keep3 b o nb q
  rw [list_sort_plain]
  refine wpAny_bind (listItems_at ho rfl (wpAny_bind (listUpdate_at ho rfl ?_ (by rw [List.size_toArray]; exact line) (Nat.zero_le _))))
  refine wpAny_bind (seqEpoch_at ho1 rfl (wpAny_bind (wpAny_newTuple (wpAny_bind (wpAny_newList (wpAny_holding ?_) (Nat.zero_le _))) line)))
  show wpAny (model prog w) A _ P E { s with heap:=((s.heap.update a (Obj.mapSeq fun _=>(#[]:Array Value))).push (seqObj "tuple" vs.toArray 0)).push (seqObj "list" #[] 0) }
  rw [hh]
  dsimp only
  by_cases few2:vs.toArray.size < 2
  · rw [if_pos few2,if_pos few2]
    refine wpAny_bind (wpAny_pure ?_)
    rw [StateT.run_pure]
    refine wpAny_bind (wpAny_pure ?_)
    dsimp only
    have hsz:vs.length < 2:=by simpa using few2
    have e:(arrOf (SortSt.mk' general' (vs.toArray.zip vs.toArray) #[] 7 none)).map (·.2) = (outOf vs (List.range vs.length).toArray).toArray:=by
      rw [out_range]
      show (vs.toArray.zip vs.toArray).map (·.2) = vs.toArray
      refine Array.ext (by simp) fun i h1 h2 => ?_
      simp
    refine wpAny_bind (seqEpoch_at at3 rfl (wpAny_bind (listUpdate_at at3 rfl ?_ (Nat.zero_le _) ?_)))
    · simp only [bne_self_eq_false,Bool.false_eq_true,if_false]
      refine wpAny_pure ?_
      rw [e]
      exact fin _ range_pm fun i j hij hj=>by omega
    · rw [e]
      simp only [outOf,List.size_toArray,List.length_map,List.length_range]
      omega
  · rw [if_neg few2,if_neg few2]
    have two:2 ≤ vs.length:=by
      have:¬ vs.length < 2:=by simpa using few2
      omega
    obtain ⟨κ,kind,asks⟩:=hk two h3 keep3
    refine wpAny_bind (kind _ _ ?_)
    refine wpAny_bind (wpAny_mono (kat_run (Q:=fun st' s'=>s' = { s with heap:=h3 }∧∃ p:Array Nat,Pm vs.length p∧Up lt p vs.length∧arrOf st' = p.map (kas_item (vs.toArray.zip vs.toArray))∧failedOf st' = none)
      (G:=fun p s'=>s' = { s with heap:=h3 }∧Pm vs.length p∧Up lt p vs.length) rfl two few (fun p' st' s' _ a2 a3 a4=>⟨a4.1,p',a4.2.1,a4.2.2,a2,a3⟩) (sort_wp O asks two fun p' hp up=>⟨rfl,hp,up⟩)) ?_ fun _ _ e=>e)
    rintro ⟨⟨⟩,st'⟩ s' ⟨rfl,p,hp,up,har,hf⟩
    have e:=kat_snds rfl har
    dsimp only
    rw [e]
    refine wpAny_bind (seqEpoch_at at3 rfl (wpAny_bind (listUpdate_at at3 rfl ?_ (Nat.zero_le _) ?_)))
    · rw [hf]
      simp only [bne_self_eq_false,Bool.false_eq_true,if_false]
      exact wpAny_pure (fin p hp up)
    · rw [List.size_toArray,List.length_map,Array.length_toList,hp.size]
      omega
noncomputable def SortGo (prog:Program) (w:World) (A:Around) (vs:List Value) (s:Shared) (Q:Value→Shared→Prop):Prop:=∃ lt,vs.length < 64∧Ord vs.length lt ∧
  (2 ≤ vs.length→∀ h',(∀ b o,s.heap.get? b = some o→h'.get? b = some o)→∃ κ,(∀ (R:SortKind→Shared→Prop) (E':Value→Shared→Prop),R κ { s with heap:=h' }→wpAny (model prog w) A.in1.in1 (keyKind' vs.toArray) R E' { s with heap:=h' })∧Asks vs.length { s with heap:=h' } (kas_ask prog w A.in1.in1 κ vs) lt) ∧
  ∀ (p:Array Nat) (h':Heap) (l c:Nat),Pm vs.length p→Up lt p vs.length→s.heap.objs.size ≤ l→h'.get? l = some (seqObj "list" (outOf vs p).toArray c)→(∀ b o,s.heap.get? b = some o→h'.get? b = some o)→Q (.ref l) { s with heap:=h' }
theorem sorted_shell {x:Value} {Q:Value→Shared→Prop} (hc:wpAny (model prog w) A.in1 (collect x) (fun us s1=>SortGo prog w A us s1 Q) E s) :
    wpAny (model prog w) A (call (.builtin "sorted") [x]) Q E s:=by
  refine Calls.call_function_entry kind_sorted plain_sorted entry_sorted (args_sorted1 _) ?_
  unfold Builtin.«sorted»
  refine wpAny_bind (m:=checkCount "sorted" 1 1 _) (wpAny_pure (wpAny_bind (wpAny_mono hc (fun us s1 hg => ?_) fun _ _ e=>e)))
  obtain ⟨lt,few,O,hk,h⟩:=hg
  have line:us.length ≤ sizeLine:=by rw [sizeLine_eq]; omega
  refine wpAny_bind (wpAny_newList ?_ line)
  have at2:(s1.heap.push (seqObj "list" us.toArray 0)).get? s1.heap.objs.size = some (seqObj "list" us.toArray 0):=Heap.get?_push_size _ rfl
  have old:∀ b o,s1.heap.get? b = some o→b ≠ s1.heap.objs.size:=fun b o q=>Nat.ne_of_lt (Heap.lt_size q)
  refine wpAny_bind (wpAny_holding (wpAny_call_entry slot_list_sort ⟨_,at2,rfl⟩ entry_list_sort (sort_shell at2 few O (fun two h' kp=>hk two h' fun b o q=>kp b o (old b o q) (Heap.get?_push_of_some _ q)) fun p h' c hp up hl kp=>⟨_,rfl, ?_⟩) (args_list_sort _)))
  exact wpAny_pure ⟨_,rfl,h p h' _ c hp up (Nat.le_refl _) hl fun b o q=>kp b o (old b o q) (Heap.get?_push_of_some _ q)⟩
end
end L2
namespace L2
open PySem PySem.Spec PyProof.Rows PySem.NumText PySem.W
section
variable {prog:Program} {w:World} {A:Around} {E:Value→Shared→Prop} {s:Shared}
theorem katLex_data (hu:A.units + 70 < cLine) {b fin:Bool} {Q:Bool→Shared→Prop}:∀ (ds es:List PyData) (us ws:List Value) (as bs:List Addr) (i:Nat) (c:Bool),ReadsAll s.heap us ds as→ReadsAll s.heap ws es bs →
    PyData.canLayAll0 ds = true→PyData.canLayAll0 es = true→PyData.depthAll ds ≤ 64→(b = true→i = 0→∀ d e r t,ds = d :: r→es = e :: t→∃ m n,d = .int m∧e = .int n) →
    fin = decide (us.length < ws.length)→ltDs ds es = some c→Q c s→KatLex prog w A b fin Q (us.zip ws) i s
  | [],[],_,_,_,_,i,c,.nil,.nil,_,_,_,_,hf,hc,hq=>by
    cases hc
    subst hf
    exact kat_nil hq
  | [],e :: es,_,_,_,_,i,c,.nil,.cons r rr,_,_,_,_,hf,hc,hq=>by
    cases hc
    subst hf
    refine kat_nil ?_
    simpa using hq
  | d :: ds,[],_,_,_,_,i,c,.cons r rr,.nil,_,_,_,_,hf,hc,hq=>by
    cases hc
    subst hf
    rw [List.zip_nil_right]
    refine kat_nil ?_
    simpa using hq
  | d :: ds,e :: es,_,_,_,_,i,c,.cons (v:=u) (vs:=us) r rr,.cons (v:=x) (vs:=ws) q qq,la,lb,hd,hi,hf,hc,hq=>by
    rw [PyData.canLayAll0,Bool.and_eq_true] at la lb
    rw [PyData.depthAll] at hd
    rw [ltDs] at hc
    have d1:PyData.depth d ≤ 64:=by omega
    have d2:PyData.depthAll ds ≤ 64:=by omega
    have hmin:min d.depth e.depth ≤ d.depth:=Nat.min_le_left _ _
    refine kat_cons (SeqAt.eqAt_reads d e A s _ _ _ _ r q la.1 lb.1 (by omega) prog w _ _ ?_)
    cases he:PyData.eqv d e with
    | true =>
      rw [he,if_pos rfl] at hc
      refine kat_yes (katLex_data hu ds es us ws _ _ (i + 1) c rr qq la.2 lb.2 d2 (fun _ z=>by omega) ?_ hc hq)
      rw [hf]
      exact decide_eq_decide.mpr (by simp)
    | false =>
      rw [he,if_neg Bool.false_ne_true] at hc
      refine kat_no ?_
      cases hb:(b && i == 0) with
      | false=>exact kat_one _ _ ((cmpAt_data 64 d e c A s _ _ _ _ d1 r q la.1 lb.1 hc (by omega)).1 prog w _ _ (show PySem.W.BoolBack Q (.bool c) s from hq))
      | true =>
        rw [Bool.and_eq_true] at hb
        obtain ⟨m,n,rfl,rfl⟩:=hi hb.1 (by simpa using hb.2) d e ds es rfl rfl
        cases r
        cases q
        have hc:decide (m < n) = c:=by simpa [ltD] using hc
        subst hc
        exact oneLt_int hq
inductive FirstTy | int | tup
noncomputable def FirstTy.ty:FirstTy→Value
  | .int=>.type "int"
  | .tup=>.type "tuple"
noncomputable def FirstTy.of:FirstTy→PyData→Prop
  | .int,d=>∃ n,d = .int n
  | .tup,d=>∃ l,d = .tuple l
theorem reads_typeOf {h:Heap} {v:Value} {d:PyData} {as:List Addr} (r:Reads h v d as) {f:FirstTy} (hf:f.of d):Looks (model prog w) h (typeOf v) f.ty:=by
  cases f with
  | int =>
    obtain ⟨n,rfl⟩:=hf
    cases r
    exact fun A Q E s _ q=>wpAny_pure q
  | tup =>
    obtain ⟨l,rfl⟩:=hf
    cases r with
    | tuple h1 h2 h3 h4 =>
      have:=(show Looks (model prog w) h (typeOf (.ref _)) _ from (Looks.ld h1).andThen .now)
      rw [h2] at this
      exact this
theorem tups_of {prog:Program} {w:World} {h:Heap} {f:FirstTy}:∀ {vs:List Value} {ds:List PyData} {as:List Addr},ReadsAll h vs ds as→(∀ d ∈ ds,∃ x r,d = .tuple (x :: r)∧f.of x)→∃ fs,KatTups h vs fs∧fs.length = vs.length∧∀ v ∈ fs,Looks (model prog w) h (typeOf v) f.ty
  | _,_,_,.nil,_=>⟨[],trivial,rfl,fun _ z=>nomatch z⟩
  | _,_,_,.cons r rr,hd=>by
    obtain ⟨fs,k,l,t⟩:=tups_of (prog:=prog) (w:=w) rr fun d hm=>hd d (List.mem_cons_of_mem _ hm)
    obtain ⟨x,rest,rfl,hx⟩:=hd _ List.mem_cons_self
    cases r with
    | @tuple a o vs n xs as h1 h2 h3 h4 =>
      have h4':=h4
      generalize hvs:vs.toList = vl at h4
      cases h4 with
      | @cons y ys _ _ _ _ ry rys =>
        refine ⟨y :: fs,⟨⟨_,_,_,_,rfl,h1,h2,h3, ?_⟩,k⟩,by simp [l],fun v hv => ?_⟩
        · rw [← Array.getElem?_toList,hvs]; rfl
        · rcases List.mem_cons.mp hv with rfl | hv
          · exact reads_typeOf ry hx
          · exact t v hv
end
theorem readsAll_ix {h:Heap}:∀ {vs:List Value} {ds:List PyData} {as:List Addr},ReadsAll h vs ds as→∀ {i:Nat} {d:PyData},ds[i]? = some d→∃ v bs,vs[i]? = some v∧Reads h v d bs
  | _,_,_,.nil,i,d,e=>by simp at e
  | _,_,_,.cons r rr,0,d,e=>by
    have e:=Option.some.inj e
    subst e
    exact ⟨_,_,rfl,r⟩
  | _,_,_,.cons r rr,i + 1,d,e=>by
    obtain ⟨v,bs,h1,h2⟩:=readsAll_ix rr (i:=i) (d:=d) (by simpa using e)
    exact ⟨v,bs,by simpa using h1,h2⟩
theorem readsAll_len {h:Heap}:∀ {vs:List Value} {ds:List PyData} {as:List Addr},ReadsAll h vs ds as→vs.length = ds.length
  | _,_,_,.nil=>rfl
  | _,_,_,.cons r rr=>by rw [List.length_cons,List.length_cons,readsAll_len rr]
structure Srt {α:Type} (as:List α) (enc:α→List PyData) (lt:α→α→Bool) (f:FirstTy):Prop where
  sto:STO lt
  few:as.length < 64
  nd:as.Nodup
  lts:∀ a ∈ as,∀ b ∈ as,ltDs (enc a) (enc b) = some (lt a b)
  fst:∀ a ∈ as,∃ x r,enc a = x :: r∧f.of x
  shp:∀ a ∈ as,SeqAt.shaped (.tuple (enc a)) = true
section
variable {α:Type} {as:List α} {enc:α→List PyData} {lt:α→α→Bool} {f:FirstTy}
theorem Srt.ord (S:Srt as enc lt f) (d:α):Ord as.length (fun i j=>lt (as.getD i d) (as.getD j d)) where
  tr:=fun a b c _ _ _ h1 h2=>S.sto.tr _ _ _ h1 h2
  tri:=fun a b ha hb hn h=>S.sto.tri _ _ (fun e=>hn (by
    rw [List.getD_eq_getElem?_getD,List.getD_eq_getElem?_getD,List.getElem?_eq_getElem ha,List.getElem?_eq_getElem hb] at e
    have e:as[a] = as[b]:=e
    have pw:=List.pairwise_iff_getElem.mp S.nd
    rcases Nat.lt_trichotomy a b with z | z | z
    · exact absurd e (pw a b ha hb z)
    · exact z
    · exact absurd e.symm (pw b a hb ha z))) h
  asy:=fun a b _ _ h=>S.sto.asym h
theorem Srt.go (S:Srt as enc lt f) (d:α) {prog:Program} {w:World} {A:Around} {s:Shared} {us:List Value} {bs:List Addr} {Q:Value→Shared→Prop} (hu:A.units + 80 < cLine) (r:ReadsAll s.heap us (as.map fun a=>.tuple (enc a)) bs)
    (q:∀ (p:Array Nat) (h':Heap) (l c:Nat),Pm as.length p→(p.toList.map fun i=>as.getD i d).Pairwise (fun a b=>lt a b = true)→(p.toList.map fun i=>as.getD i d).Perm as→s.heap.objs.size ≤ l→h'.get? l = some (seqObj "list" (outOf us p).toArray c)→(∀ b o,s.heap.get? b = some o→h'.get? b = some o)→Q (.ref l) { s with heap:=h' }) :
    SortGo prog w A us s Q:=by
  have hl:us.length = as.length:=by rw [readsAll_len r,List.length_map]
  refine ⟨fun i j=>lt (as.getD i d) (as.getD j d),by rw [hl]; exact S.few,by rw [hl]; exact S.ord d,fun two h' kp => ?_,fun p h' l c hp up hlt hat kp => ?_⟩
  · have r':=readsAll_ext kp r
    obtain ⟨fs,k,lf,tf⟩:=tups_of (prog:=prog) (w:=w) (f:=f) r' (fun x hx=>by
      obtain ⟨a,ha,rfl⟩:=List.mem_map.mp hx
      obtain ⟨y,t,e,hy⟩:=S.fst a ha
      exact ⟨y,t,by rw [e],hy⟩)
    refine ⟨tuples' (f.ty != .type "tuple"),fun R E' hR=>kat_kind (s:={ s with heap:=h' }) k (by omega) tf (by cases f <;> decide) hR,fun i j C hi hj hC => ?_⟩
    rw [hl] at hi hj
    have gi:as[i]? = some as[i]:=List.getElem?_eq_getElem hi
    have gj:as[j]? = some as[j]:=List.getElem?_eq_getElem hj
    have mi:=List.getElem_mem hi
    have mj:=List.getElem_mem hj
    have ei:as.getD i d = as[i]:=by rw [List.getD_eq_getElem?_getD,gi]; rfl
    have ej:as.getD j d = as[j]:=by rw [List.getD_eq_getElem?_getD,gj]; rfl
    dsimp only at hC
    rw [ei,ej] at hC
    obtain ⟨v,b1,hv,rv⟩:=readsAll_ix r' (i:=i) (d := .tuple (enc as[i])) (by rw [List.getElem?_map,gi]; rfl)
    obtain ⟨x,b2,hx,rx⟩:=readsAll_ix r' (i:=j) (d := .tuple (enc as[j])) (by rw [List.getElem?_map,gj]; rfl)
    have evi:us.getD i .none = v:=by rw [List.getD_eq_getElem?_getD,hv]; rfl
    have evj:us.getD j .none = x:=by rw [List.getD_eq_getElem?_getD,hx]; rfl
    unfold kas_ask
    rw [evi,evj]
    generalize as[i] = a at *
    generalize as[j] = b at *
    have sa:=S.shp a mi
    have sb:=S.shp b mj
    have la:PyData.canLayAll0 (enc a) = true:=SeqAt.canLay_of_shaped sa
    have lb:PyData.canLayAll0 (enc b) = true:=SeqAt.canLay_of_shaped sb
    have da:PyData.depth (.tuple (enc a)) ≤ 64:=SeqAt.depth_of_shaped sa
    have da:PyData.depthAll (enc a) + 1 ≤ 64:=da
    have first:∀ d e r t,enc a = d :: r→enc b = e :: t→f = .int→∃ m n,d = .int m∧e = .int n:=fun d e r t e1 e2 hf=>by
      subst hf
      obtain ⟨y,t1,e3,m,hm⟩:=S.fst a mi
      obtain ⟨z,t2,e4,n,hn⟩:=S.fst b mj
      rw [e1] at e3
      rw [e2] at e4
      cases e3
      cases e4
      exact ⟨m,n,hm,hn⟩
    cases rv with
    | @tuple l1 o1 x1 n1 _ _ h1 h2 h3 h4 =>
      cases rx with
      | @tuple l2 o2 x2 n2 _ _ g1 g2 g3 g4 =>
        refine kat_lt h1 h3 g1 g3 (katLex_data (by show A.units + 1 + 1 + 70 < cLine; omega) _ _ _ _ _ _ 0 (lt a b) h4 g4 la lb (by omega) (fun hb _ d e r t e1 e2=>first d e r t e1 e2 ?_) (by simp) (S.lts a mi b mj) hC)
        cases f with
        | int=>rfl
        | tup=>exact absurd hb (by decide)
  · rw [hl] at hp up
    refine q p h' l c hp ?_ ?_ hlt hat kp
    · rw [List.pairwise_iff_getElem]
      intro i j hi hj hij
      simp only [List.length_map,Array.length_toList] at hi hj
      have hs:=hp.size
      have:=up i j hij (by omega)
      rw [List.getElem_map,List.getElem_map]
      rw [at_eq (by omega),at_eq (by omega)] at this
      simpa using this
    · have h1:=hp.pm.map (fun i=>as.getD i d)
      refine h1.trans ?_
      have:(List.range as.length).map (fun i=>as.getD i d) = as:=by
        refine List.ext_getElem (by simp) fun i h1 h2 => ?_
        simp [h2]
      rw [this]
end
end L2
namespace L2
open PySem PySem.Spec PyProof.Rows PySem.NumText PySem.W
section
variable {X:Cx}
theorem dvs_pick {K:PySem.W.Frag} {H:Hp} {α:Type} {as:List α} {en:α→PyData} {vs:List V} (h:DVs K H (as.map en) vs) (d:α):∀ (is:List Nat),(∀ i ∈ is,i < as.length)→DVs K H ((is.map fun i=>as.getD i d).map en) (is.map fun i=>vs.getD i .non)
  | [],_=>rfl
  | i :: is,hi=>by
    have h1:=hi i List.mem_cons_self
    obtain ⟨v,hv,hd⟩:=h.get (i:=i) (d:=en as[i]) (by rw [List.getElem?_map,List.getElem?_eq_getElem h1]; rfl)
    have e1:as.getD i d = as[i]:=by rw [List.getD_eq_getElem?_getD,List.getElem?_eq_getElem h1]; rfl
    have e2:vs.getD i .non = v:=by rw [List.getD_eq_getElem?_getD,hv]; rfl
    refine ⟨v,_, ?_, ?_,dvs_pick h d is fun j hj=>hi j (List.mem_cons_of_mem _ hj)⟩
    · rw [List.map_cons,e2]
    · show DV K H (en (as.getD i d)) v
      rw [e1]
      exact hd
theorem vals_pick {vs:List V} {us:List Value} (r:Vals vs us):∀ (is:List Nat),(∀ i ∈ is,i < vs.length)→Vals (is.map fun i=>vs.getD i .non) (is.map fun i=>us.getD i .none)
  | [],_=>.nil
  | i :: is,hi=>by
    have h1:=hi i List.mem_cons_self
    obtain ⟨u,hu,ru⟩:=r.get (i:=i) (x:=vs[i]) (List.getElem?_eq_getElem h1)
    have e1:vs.getD i .non = vs[i]:=by rw [List.getD_eq_getElem?_getD,List.getElem?_eq_getElem h1]; rfl
    have e2:us.getD i .none = u:=by rw [List.getD_eq_getElem?_getD,hu]; rfl
    rw [List.map_cons,List.map_cons,e1,e2]
    exact .cons ru (vals_pick r is fun j hj=>hi j (List.mem_cons_of_mem _ hj))
noncomputable def SortQ (K:PySem.W.Frag) (H:Hp) {α:Type} (as:List α) (enc:α→List PyData) (lt:α→α→Bool) (Q:VK):Prop :=
  ∀ (l:Addr) (bs:List α) (ws:List V),H l = none→bs.Perm as→bs.Pairwise (fun a b=>lt a b = true)→DVs K H (bs.map fun a=>.tuple (enc a)) ws→Q (.ref l) (upd H l (.lst ws))
theorem sort_go {pins:List (Addr × Obj)} {s s1:Shared} {σ:St} {H:Hp} {Q:VK} {α:Type} {as:List α} {enc:α→List PyData} {lt:α→α→Bool} {f:FirstTy} {vs:List V} {us:List Value} (hu:X.A.units + 100 < cLine) (S:Srt as enc lt f)
    (I:Inv X pins σ H s1) (r:Vals vs us) (hd:DVs X.K H (as.map fun a=>.tuple (enc a)) vs) (q:SortQ X.K H as enc lt Q):SortGo X.prog X.w X.A us s1 (EP X pins σ Q):=by
  obtain ⟨bs,ra⟩:=DVs.reads I _ _ _ hd r
  have hl:vs.length = as.length:=by rw [hd.length,List.length_map]
  have lay:∀ (p:Array Nat) (d:α) (h':Heap) (l c:Nat),Pm as.length p→(p.toList.map fun i=>as.getD i d).Pairwise (fun a b=>lt a b = true)→(p.toList.map fun i=>as.getD i d).Perm as→s1.heap.objs.size ≤ l →
      h'.get? l = some (seqObj "list" (outOf us p).toArray c)→(∀ b o,s1.heap.get? b = some o→h'.get? b = some o)→EP X pins σ Q (.ref l) { s1 with heap:=h' }:=fun p d h' l c hp pw pm hle hat kp=>by
    have hin:∀ i ∈ p.toList,i < as.length:=fun i hi=>by simpa using hp.pm.mem_iff.mp hi
    have hn:=I.hok.fresh hle
    refine ⟨.ref l,_,I.laid (t':=s1.toks) (o := .lst (p.toList.map fun i=>vs.getD i .non)) kp hle ⟨?_,_,c,vals_pick r p.toList (fun i hi=>by rw [hl]; exact hin i hi),hat⟩,rfl,q l _ _ hn pm pw (dvs_pick hd d p.toList hin)⟩
    rw [List.length_map,Array.length_toList,hp.size,sizeLine_eq]
    have:=S.few
    omega
  cases has:as with
  | nil =>
    have hus:us.length = 0:=by rw [← r.length,hl,has]; rfl
    refine ⟨fun _ _=>false,by omega,⟨fun a b c ha=>by omega,fun a b ha=>by omega,fun a b ha=>by omega⟩,fun two=>by omega,fun p h' l c hp up hle hat kp => ?_⟩
    have hp0:p.toList = []:=by
      have:=hp.pm
      rw [hus] at this
      exact List.perm_nil.mp this
    have hn:=I.hok.fresh hle
    refine ⟨.ref l,_,I.laid (t':=s1.toks) (o := .lst []) kp hle ⟨Nat.zero_le _,_,c,.nil, ?_⟩,rfl,q l [] [] hn (by rw [has]) .nil rfl⟩
    rw [hat,outOf,hp0]
    rfl
  | cons d rest =>
    exact S.go d (by omega) ra fun p h' l c hp pw pm hle hat kp=>lay p d h' l c hp pw pm hle hat kp
noncomputable def rSortL (K:PySem.W.Frag):List V→Hp→VK→Prop:=fun xs H Q=>∃ (α:Type) (as:List α) (enc:α→List PyData) (lt:α→α→Bool) (f:FirstTy) (p:Addr) (vs:List V),xs = [.ref p]∧SqL K H p vs∧DVs K H (as.map fun a=>.tuple (enc a)) vs∧Srt as enc lt f∧SortQ K H as enc lt Q
theorem call_sortedL (hu:X.A.units + 100 < cLine):CallR X (.builtin "sorted") (rSortL X.K):=by
  intro pins s σ H xs us Q I r h
  obtain ⟨α,as,enc,lt,f,p,vs,rfl,hq,hd,S,q⟩:=h
  obtain ⟨u,rfl,rx⟩:=vals1 r
  cases rx
  obtain ⟨its,rv,pl,hz⟩:=I.list hq
  refine sorted_shell (collect_list pl.isList ?_ (by rw [← rv.length]; exact hz))
  have kp:∀ b o,s.heap.get? b = some o→((s.heap.push (seqObj "list" #[] 0)).update s.heap.objs.size (Obj.mapSeq (· ++ its.toArray))).get? b = some o:=fun b o e=>by
    rw [Heap.get?_update_other _ _ (Nat.ne_of_gt (Heap.lt_size e))]
    exact Heap.get?_push_of_some _ e
  exact sort_go (s:=s) hu S (I.kept (t':=s.toks) kp) rv hd q
end
end L2
namespace L2
open PySem PySem.Spec PyProof.Rows PySem.NumText
noncomputable abbrev Mark:=Int × Int
noncomputable abbrev Ent:=Mark × Addr × V
noncomputable def mkK (m:Mark):List Key:=[.inl m.1,.inl m.2]
noncomputable def mkV (m:Mark):List V:=[.int m.1,.int m.2]
theorem mkK_inj {a b:Mark} (h:mkK a = mkK b):a = b:=by
  unfold mkK at h
  have h1:=(List.cons.inj h).1
  have h2:=(List.cons.inj (List.cons.inj h).2).1
  exact Prod.ext (Sum.inl.inj h1) (Sum.inl.inj h2)
noncomputable def EntR (e:Ent) (x:List Key × Addr × Value):Prop:=x.1 = mkK e.1∧x.2.1 = e.2.1∧RelV e.2.2 x.2.2
noncomputable abbrev dK (P:Program) (w:World):=tupleKind (mixKind P w)
noncomputable def dOk (P:Program) (w:World) (a:Addr) (es:List Ent) (o:Obj) (h:Heap):Prop:=es.length ≤ sizeLine∧(a == sysModules) = false∧h.get? a = some o∧∃ xs,Paired EntR es xs ∧
  ∃ ds ep,o.ExactDict∧o.data = .dict ds ep∧ds.toList = xs.map (entryOfKey (dK P w))∧(xs.map (·.1)).Nodup
noncomputable def dO (P:Program) (w:World) (a:Addr) (es:List Ent) (o:Obj):HO := .ext (dOk P w a es o)
structure DM (P:Program) (w:World) (K:PySem.W.Frag) (H:Hp) (a:Addr) (es:List Ent):Prop where
  ob:∃ o,H a = some (dO P w a es o)
  ky:∀ e ∈ es,SqT K H e.2.1 (mkV e.1)
theorem ent_keys {P:Program} {w:World} {h:Heap}:∀ {es:List Ent} {xs:List (List Key × Addr × Value)},Paired EntR es xs→(∀ e ∈ es,(dK P w).is h (mkK e.1) e.2.1)→∀ x ∈ xs,(dK P w).is h x.1 x.2.1
  | _,_,.nil,_,x,hx=>nomatch hx
  | _,_,.cons r rr,hk,x,hx=>by
    rcases List.mem_cons.mp hx with rfl | hx
    · rw [r.1,r.2.1]; exact hk _ List.mem_cons_self
    · exact ent_keys rr (fun e he=>hk e (List.mem_cons_of_mem _ he)) x hx
noncomputable def findM:List Ent→Mark→Option V
  | [],_=>none
  | e :: es,m=>if e.1 = m then some e.2.2 else findM es m
theorem find_rel:∀ {es:List Ent} {xs:List (List Key × Addr × Value)},Paired EntR es xs→∀ m,RelO (findM es m) ((atKey xs (mkK m)).map (·.2))
  | _,_,.nil,m=>trivial
  | e :: es,x :: xs,.cons r rr,m=>by
    unfold findM atKey
    rw [List.find?_cons]
    by_cases h:e.1 = m
    · rw [if_pos h,show decide (x.1 = mkK m) = true from decide_eq_true (by rw [r.1,h])]
      exact r.2.2
    · rw [if_neg h,show decide (x.1 = mkK m) = false from decide_eq_false (by rw [r.1]; exact fun z=>h (mkK_inj z))]
      exact find_rel rr m
theorem relO_some {v:V} {o:Option Value} (h:RelO (some v) o):∃ u,o = some u∧RelV v u:=by
  cases o with
  | none=>exact h.elim
  | some u=>exact ⟨u,rfl,h⟩
theorem relO_is {a:Option V} {b:Option Value} (h:RelO a b):a.isSome = b.isSome:=by
  cases a <;> cases b <;> first | rfl | exact h.elim
theorem relO_getD {a:Option V} {b:Option Value} {d:V} {e:Value} (h:RelO a b) (hd:RelV d e):RelV (a.getD d) (b.getD e):=by
  cases a <;> cases b <;> first | exact hd | exact h | exact h.elim
noncomputable def putM (es:List Ent) (m:Mark) (q:Addr) (v:V):List Ent:=if (findM es m).isSome then es.map (fun e=>if e.1 = m then (e.1,e.2.1,v) else e) else es ++ [(m,q,v)]
theorem put_rel {es:List Ent} {xs:List (List Key × Addr × Value)} (r:Paired EntR es xs) (m:Mark) {q:Addr} {v:V} {u:Value} (rv:RelV v u):Paired EntR (putM es m q v) (storedH xs (mkK m) q u):=by
  have hi:(findM es m).isSome = (atKey xs (mkK m)).isSome:=by rw [relO_is (find_rel r m),Option.isSome_map]
  unfold putM storedH
  rw [hi]
  by_cases h:(atKey xs (mkK m)).isSome = true
  · rw [if_pos h,if_pos h]
    clear hi h
    induction r with
    | nil=>exact .nil
    | @cons e x es xs a b ih =>
      rw [List.map_cons,List.map_cons]
      refine .cons ?_ ih
      unfold putAt
      by_cases he:e.1 = m
      · rw [if_pos he,if_pos (by rw [a.1,he])]
        exact ⟨a.1,a.2.1,rv⟩
      · rw [if_neg he,if_neg (by rw [a.1]; exact fun z=>he (mkK_inj z))]
        exact a
  · rw [if_neg h,if_neg h]
    exact Paired.snoc r ⟨rfl,rfl,rv⟩
theorem putM_len (es:List Ent) (m:Mark) (q:Addr) (v:V):(putM es m q v).length ≤ es.length + 1:=by
  unfold putM
  split
  · rw [List.length_map]; omega
  · rw [List.length_append]; exact Nat.le_refl _
section
variable {X:Cx} {pins:List (Addr × Obj)} {σ:St} {H:Hp} {s:Shared} {a:Addr} {es:List Ent}
theorem mk_items {P:Program} {w:World} {m:Mark} {us:List Value} (r:Vals (mkV m) us):ItemsAre (mixKind P w) (mkK m) us:=by
  unfold mkV at r
  cases r with
  | cons r1 r2 =>
    cases r2 with
    | cons r3 r4 =>
      cases r4
      obtain ⟨t,rfl⟩:=r1
      obtain ⟨u,rfl⟩:=r3
      exact .cons (mixKind_int P w m.1 t) (.cons (mixKind_int P w m.2 u) .nil)
theorem Inv.mark (I:Inv X pins σ H s) {q:Addr} {m:Mark} (h:SqT X.K H q (mkV m)):(dK X.prog X.w).is s.heap (mkK m) q:=by
  obtain ⟨its,r,⟨o,h1,h2,n,h3⟩,hz⟩:=I.tuple h
  exact ⟨o,its.toArray,n,h1,h2,h3,by simpa using mk_items r⟩
theorem Inv.dict (I:Inv X pins σ H s) (D:DM X.prog X.w X.K H a es):es.length ≤ sizeLine∧(a == sysModules) = false∧∃ xs,Paired EntR es xs∧s.heap.DictOfH (dK X.prog X.w) a xs:=by
  obtain ⟨o,ob⟩:=D.ob
  obtain ⟨⟨z,y,h1,xs,r,ds,ep,h2,h3,h4,h5⟩,_,_⟩:=(show ObjOk X.prog X.w H s.heap a (dO X.prog X.w a es o) from I.hok a _ ob)
  exact ⟨z,y,xs,r,o,ds,ep,h1,h2,h3,h4,ent_keys r fun e he=>I.mark (D.ky e he),h5⟩
theorem dO_ok {P:Program} {w:World} {H:Hp} {h:Heap} {a:Addr} {es:List Ent} {xs:List (List Key × Addr × Value)} (z:es.length ≤ sizeLine) (y:(a == sysModules) = false) (r:Paired EntR es xs) (d:h.DictOfH (dK P w) a xs):∃ o,ObjOk P w (upd H a (dO P w a es o)) h a (dO P w a es o):=by
  obtain ⟨o,ds,ep,h1,h2,h3,h4,_,h5⟩:=d
  exact ⟨o,⟨z,y,h1,xs,r,ds,ep,h2,h3,h4,h5⟩,⟨o,h1⟩,fun h1' h2' ⟨z,y,g1,g2⟩ k=>⟨z,y,k o g1,g2⟩⟩
theorem Inv.bigM (I:Inv X pins σ H s):sysModules < s.heap.objs.size:=Nat.lt_trans (by decide) (I.mod.glob.keeps I.bk).lt
variable {o i e value:Expr} {pos pos':Pos} {td ty tv:TE}
noncomputable def tMNew (P:Program) (w:World):TE:=fun _ H Q=>∀ p o,H p = none→Q (.ref p) (upd H p (dO P w p [] o))
theorem pe_mnew:PE X (.Dict [] [] pos) (tMNew X.prog X.w) := .mk <| fun pins s σ H Q I h=>by
  obtain ⟨ob,hob⟩:=dO_ok (P:=X.prog) (w:=X.w) (H:=H) (es:=[]) (Nat.zero_le _) (beq_eq_false_iff_ne.mpr (Ne.symm (Nat.ne_of_lt I.bigM))) .nil (Heap.DictOfH.new s.heap)
  exact wpAny_Dict_empty ⟨.ref s.heap.objs.size,_,I.laid (t':=s.toks) (fun _ _ q=>Heap.get?_push_of_some _ q) (Nat.le_refl _) hob,rfl,h _ ob (I.hok.fresh (Nat.le_refl _))⟩
noncomputable def rInM (P:Program) (w:World) (K:PySem.W.Frag):R2:=fun x y H Q=>∃ q m a es,x = .ref q∧SqT K H q (mkV m)∧y = .ref a∧DM P w K H a es∧Q (.bl (findM es m).isSome) H
noncomputable def rNotInM (P:Program) (w:World) (K:PySem.W.Frag):R2:=fun x y H Q=>∃ q m a es,x = .ref q∧SqT K H q (mkV m)∧y = .ref a∧DM P w K H a es∧Q (.bl (!(findM es m).isSome)) H
theorem op_inM (hu:X.A.units + 1 < cLine):OpR X (compareOp .In) (rInM X.prog X.w X.K):=by
  intro pins s σ H x y v u Q I rx ry h
  obtain ⟨q,m,a,es,rfl,hm,rfl,D,k⟩:=h
  cases rx
  cases ry
  obtain ⟨_,hd,xs,r,dd⟩:=I.dict D
  refine wpAny_in_heap (tupleKind_room_in1 hu) (I.mark hm) hd dd ?_
  rw [← Option.isSome_map (f:=(·.2)), ← relO_is (find_rel r m)]
  exact ⟨.bl _,H,I.tok _,rfl,k⟩
theorem op_notInM (hu:X.A.units + 1 < cLine):OpR X (compareOp .NotIn) (rNotInM X.prog X.w X.K):=by
  intro pins s σ H x y v u Q I rx ry h
  obtain ⟨q,m,a,es,rfl,hm,rfl,D,k⟩:=h
  cases rx
  cases ry
  obtain ⟨_,hd,xs,r,dd⟩:=I.dict D
  refine wpAny_notIn_heap (tupleKind_room_in1 hu) (I.mark hm) hd dd ?_
  rw [← Option.isSome_map (f:=(·.2)), ← relO_is (find_rel r m)]
  exact ⟨.bl _,H,I.tok _,rfl,k⟩
noncomputable def rIxM (P:Program) (w:World) (K:PySem.W.Frag):R2:=fun x y H Q=>∃ a es q m v,x = .ref a∧DM P w K H a es∧y = .ref q∧SqT K H q (mkV m)∧findM es m = some v∧Q v H
theorem ix_M (hu:X.A.units + 1 < cLine):IxR X (rIxM X.prog X.w X.K):=by
  intro value slice pins s σ H x y v u Q I rx ry h hs
  obtain ⟨a,es,q,m,z,rfl,D,rfl,hm,hf,k⟩:=h
  cases rx
  cases ry
  obtain ⟨_,hd,xs,r,dd⟩:=I.dict D
  have fr:=find_rel r m
  rw [hf] at fr
  obtain ⟨uz,e1,r1⟩:=relO_some fr
  obtain ⟨p,hp,hp2⟩:=Option.map_eq_some_iff.mp e1
  have hT:s.TypeIs (.ref a) "dict" := dd.typeIs
  have fin:wpAny (model X.prog X.w) X.A (subscripted slice false (.ref a) (.ref q)) (fun r s3=>wpAny (model X.prog X.w) X.A (letTemporaryGo value (.ref a) r >>= fun _=>pure r) (EP X pins σ Q) X.xe s3) X.xe s:=by
    rw [hs]
    refine wpAny_operating (wpAny_getItem_heap (tupleKind_room_in1 hu) (I.mark hm) dd hp ?_)
    rw [hp2]
    exact wpAny_bind (wpAny_letTemporaryGo (wpAny_pure ⟨z,H,I.tok _,r1,k⟩))
  unfold subscriptTail
  refine wpAny_bind ?_
  rw [getitemInPython_of_ne hT.not_modules]
  refine wpAny_bind (wpAny_specialOf hT PySem.F.slot_dict_getitem.lookup ?_)
  first
    | exact wpAny_pure (wpAny_bind fin)
    | exact wpAny_bind (wpAny_pure (wpAny_bind fin))
    | exact wpAny_bind fin
noncomputable def sMPut (P:Program) (w:World) (K:PySem.W.Frag) (td ty tv:TE):TS:=fun D σ H=>tv σ H fun v H1=>td σ H1 fun x H2=>ty σ H2 fun y H3=>∃ a es q m,x = .ref a∧DM P w K H3 a es∧y = .ref q∧SqT K H3 q (mkV m)∧es.length < sizeLine∧∀ o,D.nx σ (upd H3 a (dO P w a (putM es m q v) o))
theorem ps_mput (hu:X.A.units + 1 < cLine) (ho:PE X o td) (hi:PE X i ty) (hv:PE X value tv) (hs:swapsWith value (some (.Subscript o i pos')) pos.line X.env = pure false) :
    PS X (.Assign [.Subscript o i pos'] value pos) (sMPut X.prog X.w X.K td ty tv) := .mk <| by
  intro pins s σ H D I h
  refine wpAny_Assign_Subscript (thn (hv pins s σ H _ I h) fun r s1 ⟨v,H1,I1,rv,q1⟩=>thn (ho pins s1 σ H1 _ I1 q1) fun u s2 ⟨x,H2,I2,rx,q2⟩=>thn (hi pins s2 σ H2 _ I2 q2) fun iv s3 ⟨y,H3,I3,ry,a,es,q,m,ex,DD,ey,hm,hl,k⟩ => ?_) hs
  subst ex ey
  cases rx
  cases ry
  obtain ⟨z,hd,xs,rr,dd⟩:=I3.dict DD
  refine wpAny_setItem_heap (hsz:=by rw [← Paired.length rr]; exact z) (tupleKind_room_in1 hu) (I3.mark hm) dd fun h' dd' sb => ?_
  have he:∃ ob,h'.get? a = some ob:=let ⟨ob,_,_,hq,_⟩:=dd'; ⟨ob,hq⟩
  obtain ⟨o1,o2⟩:=DD.ob
  obtain ⟨ob,hob⟩:=dO_ok (P:=X.prog) (w:=X.w) (H:=H3) (es:=putM es m q v) (by have:=putM_len es m q v; omega) hd (put_rel rr m rv) dd'
  exact ⟨σ,_,I3.write (t':=_) (x:=a) (e:=a) (by rw [o2]; exact True.intro) (.inl rfl) (fun b ob hb z=>(sb.2 b hb).trans z) he hob,k ob⟩
noncomputable def tMGet (P:Program) (w:World) (K:PySem.W.Frag) (td ty:TE):TE:=fun σ H Q=>td σ H fun x H1=>∃ a es,x = .ref a∧DM P w K H1 a es∧ty σ H1 fun y H2=>∃ q m,y = .ref q∧DM P w K H2 a es∧SqT K H2 q (mkV m)∧Q ((findM es m).getD .non) H2
theorem pe_mget {apos cpos:Pos} (hu:X.A.units + 1 < cLine) (ho:PE X o td) (he:PE X e ty) (hbase:attributeBase o "get" X.env (eval o X.env) = eval o X.env:=by rfl)
    (hfew:((backTo cpos (starEach [e] X.env)).all (fun x => !x.1) && (backToKw cpos (keywordEach [] X.env)).all (fun x=>x.1.isSome)
      && decide (([e]:List Expr).length + ([]:List Keyword).length + (if ([]:List Keyword).isEmpty then 0 else 1) < 30)) = true:=by rfl)
    (hline:(apos.endLine == cpos.line) = true:=by rfl) (htr:backTo cpos (starEach [e] X.env) = [(false,eval e X.env)]:=by rfl):PE X (.Call (.Attribute o "get" apos) [e] [] cpos) (tMGet X.prog X.w X.K td ty) := .mk <| by
  intro pins s σ H Q I h
  refine wpAny_Call_method hbase hfew hline PySem.F.plainAttrs_dict PySem.F.slot_dict_get PySem.F.type_dict_get (thn (ho pins s σ H _ I h) fun u s1 ⟨x,H1,I1,rx,a,es,ex,D,q1⟩ => ?_)
  subst ex
  cases rx
  obtain ⟨_,_,xs,_,dd⟩:=I1.dict D
  refine ⟨dd.typeIs,fun b q => ?_, ?_⟩
  · cases q
    obtain ⟨ob,_,_,h1,h2,_⟩:=dd
    exact ⟨ob,h1,h2.2.1⟩
  rw [htr]
  refine Calls.callWith_builtin rfl (Calls.evalArgs_plain (Calls.spliced_cons (thn (he pins s1 σ H1 _ I1 q1) fun iv s2 ⟨y,H2,I2,ry,q,m,ey,D2,hm,k⟩=>Calls.spliced_nil ?_)))
  subst ey
  cases ry
  obtain ⟨_,hd,xs,r,dd⟩:=I2.dict D2
  exact call_meetsIn PySem.F.slot_dict_get dd.typeIs PySem.F.entry_dict_get (PySem.F.args_dict_get_2 _ _) (meetsH_dict_get (dK X.prog X.w) a q hd) ⟨tupleKind_room_in1 hu,mkK m,xs,I2.mark hm,dd,⟨_,H2,I2.tok _,relO_getD (d := .non) (find_rel r m) (show RelV .non Value.none from rfl),k⟩⟩
end
end L2
namespace L2
open PySem PySem.Spec PyProof.Rows PySem.NumText
noncomputable def RawD (h:Heap) (d:Addr) (ds:Array DictEntry) (ep:Nat):Prop:=∃ o,h.get? d = some o∧o.cls = .type "dict" ∧ o.data = .dict ds ep
noncomputable def riObj (d:Addr) (i n ep:Nat) (first:Value) (f:Bool) (ok ov:Value):Obj:={ cls := .type "dict_itemiterator",data := .fields #[first,.bool f,.ref d,.int i 0,.int n 0,.int ep 0,ok,ov] }
section
variable {prog:Program} {w:World} {A:Around} {E:Value→Shared→Prop} {s:Shared} {d it v:Addr} {ds:Array DictEntry} {ep i:Nat} {ok ov:Value}
theorem owns_ii:Builtin.Dict_items.ownsTuple "dict_itemiterator" = true:=by decide
theorem iter_items {Q:Value→Shared→Prop} (hv:s.heap.IsItemsView v d) (hd:RawD s.heap d ds ep)
    (k:Q (.ref s.heap.objs.size) { s with heap:=s.heap.push (riObj d 0 ds.size ep .none false .none .none) }) :
    wpAny (model prog w) A (pyIter (.ref v)) Q E s:=by
  obtain ⟨vo,v1,v2,v3⟩:=id hv
  obtain ⟨o,d1,d2,d3⟩:=hd
  refine wpAny_pyIter_slot hv.typeIs F.slot_dict_items_iter (wpAny_call_entry F.slot_dict_items_iter hv.typeIs F.entry_dict_items_iter ?_ (F.args_dict_items_iter_1 _))
  unfold Builtin.«dict_items.__iter__» Builtin.Dict_items.dictOf Builtin.Dict_items.newIterator
  refine wpAny_bind (wpAny_pure (wpAny_bind (wpAny_bind (wpAny_field v1 v3 (x := .ref d) rfl (wpAny_pure (wpAny_bind (wpAny_bind (wpAny_dictEntries d1 d3 (wpAny_bind (wpAny_dictEpoch d1 d3 ?_))))))))))
  simp only [owns_ii,if_true]
  refine wpAny_newObj_type (wpAny_pure ⟨_,rfl, "dict_itemiterator",_,⟨_,Heap.get?_push_size _ rfl,rfl⟩,F.slot_dict_itemiterator_next.lookup, ?_⟩) ?_
  · simpa [rawInt,Builtin.Dict_items.ownedTupleFields,riObj] using k
  · simp only [sizeOk,Builtin.Dict_items.ownedTupleFields,List.size_toArray,List.length_append,List.length_cons,List.length_nil,sizeLine_eq]
    omega
theorem next_free {Q:Option Value→Shared→Prop} {e:DictEntry} (hi:s.heap.get? it = some (riObj d i ds.size ep .none false ok ov)) (hd:RawD s.heap d ds ep) (he:ds[i]? = some e)
    (k:∀ h',h'.get? it = some (riObj d (i + 1) ds.size ep (rawInt s.heap.objs.size) false e.key e.val)→h'.get? s.heap.objs.size = some { cls := .type "tuple",data := .seq #[e.key,e.val] }→h'.objs.size = s.heap.objs.size + 1 →
      (∀ b o,b ≠ it→s.heap.get? b = some o→h'.get? b = some o)→Q (some (.ref s.heap.objs.size)) { s with heap:=h' }):wpAny (model prog w) A (pyNext (.ref it)) Q E s:=by
  obtain ⟨o,d1,d2,d3⟩:=hd
  have ty:s.TypeIs (.ref it) "dict_itemiterator" := ⟨_,hi,rfl⟩
  unfold pyNext
  refine wpAny_bind (wpAny_attempt (wpAny_callSpecial?_slot ty F.slot_dict_itemiterator_next (wpAny_call_entry F.slot_dict_itemiterator_next ty F.entry_dict_itemiterator_next ?_ (F.args_dict_itemiterator_next_1 _))))
  unfold Builtin.«dict_itemiterator.__next__»
  refine wpAny_bind (wpAny_pure (wpAny_bind (wpAny_bind (wpAny_bind (wpAny_typeNameOfWhole_itemiter ty (wpAny_pure (wpAny_bind (wpAny_fieldsOf hi rfl ?_))))))))
  simp only [owns_ii,if_true]
  have e1:(Value.ref d == Value.none) = false:=rfl
  dsimp only [List.drop,List.take]
  rw [if_neg (by rw [e1]; exact Bool.false_ne_true)]
  refine wpAny_bind (wpAny_pure (wpAny_bind (wpAny_dictEntries d1 d3 ?_)))
  rw [if_neg (by simp)]
  refine wpAny_bind (wpAny_pure (wpAny_bind (wpAny_dictEpoch d1 d3 ?_)))
  rw [if_neg (by simp)]
  refine wpAny_pure ?_
  dsimp only
  rw [if_neg (by omega),Int.toNat_natCast,he]
  dsimp only
  refine wpAny_bind (wpAny_bind (wpAny_typeNameOfWhole_itemiter ty (wpAny_pure ?_)))
  refine wpAny_bind (wpAny_isOneOf_itemiter ty ?_)
  simp only [owns_ii,if_true]
  rw [if_neg (by decide)]
  refine wpAny_bind (wpAny_setField_rec (k:=3) hi (by show 3 < 8; decide) fun h1 g1 sb1 => ?_)
  have g1:h1.get? it = some (riObj d (i + 1) ds.size ep .none false ok ov):=g1
  have ty1:({ s with heap:=h1 }:Shared).TypeIs (.ref it) "dict_itemiterator" := ⟨_,g1,rfl⟩
  refine wpAny_bind (wpAny_holding (wpAny_bind (wpAny_isOneOf_itemiter ty1 ?_)))
  rw [if_neg (by decide)]
  refine wpAny_bind (wpAny_isOneOf_itemiter ty1 ?_)
  rw [if_neg (by decide)]
  unfold Builtin.Dict_items.pairFromOwner
  refine wpAny_bind (wpAny_newTuple ?_)
  have hz:h1.objs.size = s.heap.objs.size:=sb1.1
  obtain ⟨h2,hh2⟩:∃ h2,h2 = h1.push { cls := .type "tuple",data := .seq [e.key,e.val].toArray }:=⟨_,rfl⟩
  dsimp only
  rw [← hh2]
  have g2:h2.get? it = some (riObj d (i + 1) ds.size ep .none false ok ov):=by rw [hh2]; exact Heap.get?_push_of_some _ g1
  have t2:h2.get? h1.objs.size = some { cls := .type "tuple",data := .seq [e.key,e.val].toArray }:=by rw [hh2]; exact Heap.get?_push_size _ rfl
  have z2:h2.objs.size = s.heap.objs.size + 1:=by rw [hh2,Heap.size_push,hz]
  have nit:h1.objs.size ≠ it:=Nat.ne_of_gt (Heap.lt_size g1)
  unfold Builtin.Dict_items.ownedTupleIsFree
  refine wpAny_bind (wpAny_bind (wpAny_field g2 rfl (x := .none) rfl (wpAny_pure ?_)))
  rw [if_pos rfl]
  refine wpAny_bind (wpAny_field g2 rfl (x:=ok) rfl (wpAny_bind (wpAny_field g2 rfl (x:=ov) rfl ?_)))
  refine wpAny_bind (wpAny_setField_rec (k:=6) g2 (by show 6 < 8; decide) fun h3 g3 sb3 => ?_)
  refine wpAny_bind (wpAny_setField_rec (k:=7) g3 (by show 7 < 8; decide) fun h4 g4 sb4 => ?_)
  refine wpAny_bind (wpAny_setField_rec (k:=0) g4 (by show 0 < 8; decide) fun h5 g5 sb5 => ?_)
  refine wpAny_bind (wpAny_setField_rec (k:=1) g5 (by show 1 < 8; decide) fun h6 g6 sb6 => ?_)
  refine wpAny_bind (wpAny_letGo (wpAny_pure (wpAny_pure ⟨_,rfl,wpAny_pure ?_⟩)))
  have kp:∀ b o,b ≠ it→h2.get? b = some o→h6.get? b = some o:=fun b o hb q=>(sb6.2 b hb).trans ((sb5.2 b hb).trans ((sb4.2 b hb).trans ((sb3.2 b hb).trans q)))
  rw [hz]
  refine k h6 ?_ ?_ ?_ fun b o hb q=>kp b o hb ?_
  · rw [← hz]; exact g6
  · rw [← hz]; exact kp _ _ nit t2
  · rw [sb6.1,sb5.1,sb4.1,sb3.1]; exact z2
  · rw [hh2]; exact Heap.get?_push_of_some _ ((sb1.2 b hb).trans q)
theorem next_held {Q:Option Value→Shared→Prop} {e:DictEntry} {a:Addr} {f:Bool} {oa:Obj} (hi:s.heap.get? it = some (riObj d i ds.size ep (rawInt a) f ok ov)) (ha:s.heap.get? a = some oa) (hn:a ≠ it) (hd:RawD s.heap d ds ep) (he:ds[i]? = some e)
    (k:∀ h',h'.get? it = some (riObj d (i + 1) ds.size ep (rawInt a) true ok ov)→h'.get? s.heap.objs.size = some { cls := .type "tuple",data := .seq #[e.key,e.val] }→h'.objs.size = s.heap.objs.size + 1 →
      (∀ b o,b ≠ it→s.heap.get? b = some o→h'.get? b = some o)→Q (some (.ref s.heap.objs.size)) { s with heap:=h' }):wpAny (model prog w) A (pyNext (.ref it)) Q E s:=by
  obtain ⟨o,d1,d2,d3⟩:=hd
  have ty:s.TypeIs (.ref it) "dict_itemiterator" := ⟨_,hi,rfl⟩
  unfold pyNext
  refine wpAny_bind (wpAny_attempt (wpAny_callSpecial?_slot ty F.slot_dict_itemiterator_next (wpAny_call_entry F.slot_dict_itemiterator_next ty F.entry_dict_itemiterator_next ?_ (F.args_dict_itemiterator_next_1 _))))
  unfold Builtin.«dict_itemiterator.__next__»
  refine wpAny_bind (wpAny_pure (wpAny_bind (wpAny_bind (wpAny_bind (wpAny_typeNameOfWhole_itemiter ty (wpAny_pure (wpAny_bind (wpAny_fieldsOf hi rfl ?_))))))))
  simp only [owns_ii,if_true]
  have e1:(Value.ref d == Value.none) = false:=rfl
  dsimp only [List.drop,List.take]
  rw [if_neg (by rw [e1]; exact Bool.false_ne_true)]
  refine wpAny_bind (wpAny_pure (wpAny_bind (wpAny_dictEntries d1 d3 ?_)))
  rw [if_neg (by simp)]
  refine wpAny_bind (wpAny_pure (wpAny_bind (wpAny_dictEpoch d1 d3 ?_)))
  rw [if_neg (by simp)]
  refine wpAny_pure ?_
  dsimp only
  rw [if_neg (by omega),Int.toNat_natCast,he]
  dsimp only
  refine wpAny_bind (wpAny_bind (wpAny_typeNameOfWhole_itemiter ty (wpAny_pure ?_)))
  refine wpAny_bind (wpAny_isOneOf_itemiter ty ?_)
  simp only [owns_ii,if_true]
  rw [if_neg (by decide)]
  refine wpAny_bind (wpAny_setField_rec (k:=3) hi (by show 3 < 8; decide) fun h1 g1 sb1 => ?_)
  have g1:h1.get? it = some (riObj d (i + 1) ds.size ep (rawInt a) f ok ov):=g1
  have ty1:({ s with heap:=h1 }:Shared).TypeIs (.ref it) "dict_itemiterator" := ⟨_,g1,rfl⟩
  refine wpAny_bind (wpAny_holding (wpAny_bind (wpAny_isOneOf_itemiter ty1 ?_)))
  rw [if_neg (by decide)]
  refine wpAny_bind (wpAny_isOneOf_itemiter ty1 ?_)
  rw [if_neg (by decide)]
  unfold Builtin.Dict_items.pairFromOwner
  refine wpAny_bind (wpAny_newTuple ?_)
  have hz:h1.objs.size = s.heap.objs.size:=sb1.1
  obtain ⟨h2,hh2⟩:∃ h2,h2 = h1.push { cls := .type "tuple",data := .seq [e.key,e.val].toArray }:=⟨_,rfl⟩
  dsimp only
  rw [← hh2]
  have g2:h2.get? it = some (riObj d (i + 1) ds.size ep (rawInt a) f ok ov):=by rw [hh2]; exact Heap.get?_push_of_some _ g1
  have t2:h2.get? h1.objs.size = some { cls := .type "tuple",data := .seq [e.key,e.val].toArray }:=by rw [hh2]; exact Heap.get?_push_size _ rfl
  have a2:h2.get? a = some oa:=by rw [hh2]; exact Heap.get?_push_of_some _ ((sb1.2 a hn).trans ha)
  have z2:h2.objs.size = s.heap.objs.size + 1:=by rw [hh2,Heap.size_push,hz]
  have nit:h1.objs.size ≠ it:=Nat.ne_of_gt (Heap.lt_size g1)
  have old:∀ b o,b ≠ it→s.heap.get? b = some o→h2.get? b = some o:=fun b o hb q=>by rw [hh2]; exact Heap.get?_push_of_some _ ((sb1.2 b hb).trans q)
  unfold Builtin.Dict_items.ownedTupleIsFree
  refine wpAny_bind (wpAny_bind (wpAny_field g2 rfl (x:=rawInt a) rfl ?_))
  show wpAny _ _ (do let x ← loadIfAlive (a:Int).toNat; _) _ _ _
  refine wpAny_bind (PySem.W.kdx_alive a2 ?_)
  rw [if_neg (by simp)]
  refine wpAny_bind (wpAny_field g2 rfl (x := .bool f) rfl ?_)
  cases f with
  | true =>
    rw [if_neg (by decide)]
    refine wpAny_pure ?_
    rw [if_neg (by decide)]
    refine wpAny_pure (wpAny_pure ⟨_,rfl,wpAny_pure ?_⟩)
    rw [hz]
    refine k h2 g2 ?_ z2 old
    rw [← hz]; exact t2
  | false =>
    rw [if_pos (by decide)]
    refine wpAny_bind (wpAny_setField_rec (k:=1) g2 (by show 1 < 8; decide) fun h3 g3 sb3 => ?_)
    refine wpAny_pure ?_
    rw [if_neg (by decide)]
    refine wpAny_pure (wpAny_pure ⟨_,rfl,wpAny_pure ?_⟩)
    rw [hz]
    refine k h3 g3 ?_ (by rw [sb3.1]; exact z2) fun b o hb q=>(sb3.2 b hb).trans (old b o hb q)
    rw [← hz]; exact (sb3.2 _ nit).trans t2
theorem next_over {Q:Option Value→Shared→Prop} {first:Value} {f:Bool} (hh:A.handled = none) (hi:s.heap.get? it = some (riObj d i ds.size ep first f ok ov)) (hd:RawD s.heap d ds ep) (he:ds[i]? = none)
    (k:∀ h',(∀ b o,b ≠ it→s.heap.get? b = some o→h'.get? b = some o)→Q none { s with heap:=h' }):wpAny (model prog w) A (pyNext (.ref it)) Q E s:=by
  obtain ⟨o,d1,d2,d3⟩:=hd
  have ty:s.TypeIs (.ref it) "dict_itemiterator" := ⟨_,hi,rfl⟩
  unfold pyNext
  refine wpAny_bind (wpAny_attempt (wpAny_callSpecial?_slot ty F.slot_dict_itemiterator_next (wpAny_call_entry F.slot_dict_itemiterator_next ty F.entry_dict_itemiterator_next ?_ (F.args_dict_itemiterator_next_1 _))))
  unfold Builtin.«dict_itemiterator.__next__»
  refine wpAny_bind (wpAny_pure (wpAny_bind (wpAny_bind (wpAny_bind (wpAny_typeNameOfWhole_itemiter ty (wpAny_pure (wpAny_bind (wpAny_fieldsOf hi rfl ?_))))))))
  simp only [owns_ii,if_true]
  have e1:(Value.ref d == Value.none) = false:=rfl
  dsimp only [List.drop,List.take]
  rw [if_neg (by rw [e1]; exact Bool.false_ne_true)]
  refine wpAny_bind (wpAny_pure (wpAny_bind (wpAny_dictEntries d1 d3 ?_)))
  rw [if_neg (by simp)]
  refine wpAny_bind (wpAny_pure (wpAny_bind (wpAny_dictEpoch d1 d3 ?_)))
  rw [if_neg (by simp)]
  refine wpAny_pure ?_
  dsimp only
  rw [if_neg (by omega),Int.toNat_natCast,he]
  dsimp only
  refine wpAny_bind (wpAny_bind (wpAny_typeNameOfWhole_itemiter ty (wpAny_pure ?_)))
  simp only [owns_ii,if_true]
  refine wpAny_bind (wpAny_setField_rec (k:=2) hi (by show 2 < 8; decide) fun h1 g1 sb => ?_)
  unfold newExc raiseNew
  refine wpAny_bind (wpAny_bind (wpAny_newObj_type ?_))
  have fa:firstArgMember (.type "StopIteration") [] = pure Value.none:=by
    rw [firstArgMember.eq_1]
    generalize (Manifest.find? "StopIteration").elim false (fun t=>t.mro.contains "StopIteration" || t.mro.contains "SystemExit") = b
    cases b <;> rfl
  refine wpAny_bind (wpAny_of_eq fa (wpAny_newObj_type ?_ (sizeOk_excFields _ _ _ _ _ _ _ _)))
  refine wpAny_bind (wpAny_handled ?_)
  rw [show A.in1.handled = none from hh]
  refine wpAny_throw ?_
  refine wpAny_bind (wpAny_isInstance ⟨_,Heap.get?_push_size _ rfl,rfl⟩ isSubtype_stop ?_)
  rw [if_pos rfl]
  refine wpAny_pure (k _ fun b o hb e => ?_)
  exact Heap.get?_push_of_some _ (Heap.get?_push_of_some _ ((sb.2 b hb).trans e))
end
end L2
namespace L2
open PySem PySem.Spec PyProof.Rows PySem.NumText
noncomputable def tupObj (a b:Value):Obj:={ cls := .type "tuple",data := .seq #[a,b] }
structure Got (ds:Array DictEntry) (lo:Addr) (h:Heap) (as:List Addr):Prop where
  at_:∀ (j:Nat) (a:Addr),as[j]? = some a→lo ≤ a∧∃ e,ds[j]? = some e∧h.get? a = some (tupObj e.key e.val)
  nd:as.Nodup
section
variable {prog:Program} {w:World} {A:Around} {E:Value→Shared→Prop} {s:Shared} {d it S r:Addr} {ds:Array DictEntry} {ep:Nat}
theorem loop_items {R:Result→Shared→Prop} (hh:A.handled = none) (hn:ds.size ≤ sizeLine) (nSI:S ≠ it) (ndS:d ≠ S) (ndI:d ≠ it) (res:Value) {h1:Heap} {lo:Addr}
    (k:∀ h' tk acc c as,(∀ b o,b ≠ S→b ≠ it→h1.get? b = some o→h'.get? b = some o)→h'.get? S = some { cls := .type "list",data := .seq acc c }→as.length = ds.size→Got ds lo h' as→acc.toList = as.map Value.ref→R (.ok (.ret res)) { s with heap:=h',toks:=tk }) :
    ∀ (n i:Nat) (h:Heap) (tk c:Nat) (acc:Array Value) (as:List Addr) (first:Value) (f:Bool) (ok ov:Value),ds.size - i = n→i ≤ ds.size→h.get? it = some (riObj d i ds.size ep first f ok ov)→((first = .none∧f = false) ∨ ∃ (a:Addr) (oa:Obj),first = rawInt a∧h.get? a = some oa∧a ≠ it∧a ≠ S)→RawD h d ds ep →
      (∀ b o,b ≠ S→b ≠ it→h1.get? b = some o→h.get? b = some o)→h.get? S = some { cls := .type "list",data := .seq acc c }→acc.toList = as.map Value.ref→as.length = i→Got ds lo h as→(∀ a ∈ as,a ≠ S∧a ≠ it)→lo ≤ h.objs.size →
      codeAny (model prog w) A (.builtin "list.extend.loop" ⟨[.ref S,.ref it,res],[]⟩) R { s with heap:=h,toks:=tk }:=by
  intro n
  induction n with
  | zero =>
    intro i h tk c acc as first f ok ov hni hi hit hfirst hd kp hS hacc hal hG hne hlo
    refine codeAny_builtin F.entry_extend_loop ?_
    rw [Around.under_plainId F.plain_extend_loop]
    refine wpAny_bind (next_over (s:={ s with heap:=h,toks:=tk }) hh hit hd (by rw [Array.getElem?_eq_none]; omega) fun h' kp' => ?_)
    refine wpAny_pure (k h' tk acc c as (fun b o h1' h2' e=>kp' b o h2' (kp b o h1' h2' e)) (kp' _ _ nSI hS) (by omega) ⟨fun j a e => ?_,hG.nd⟩ hacc)
    obtain ⟨q1,e1,q2,q3⟩:=hG.at_ j a e
    exact ⟨q1,e1,q2,kp' _ _ (hne a (List.mem_of_getElem? e)).2 q3⟩
  | succ n ih =>
    intro i h tk c acc as first f ok ov hni hi hit hfirst hd kp hS hacc hal hG hne hlo
    obtain ⟨e,he⟩:∃ e,ds[i]? = some e:=⟨_,Array.getElem?_eq_getElem (by omega)⟩
    refine codeAny_builtin F.entry_extend_loop ?_
    rw [Around.under_plainId F.plain_extend_loop]
    have hItL:=Heap.lt_size hit
    have hSL:=Heap.lt_size hS
    have go:∀ h' first' f' ok' ov',h'.get? it = some (riObj d (i + 1) ds.size ep first' f' ok' ov')→((first' = .none∧f' = false) ∨ ∃ (a:Addr) (oa:Obj),first' = rawInt a∧h'.get? a = some oa∧a ≠ it∧a ≠ S)→h'.get? h.objs.size = some (tupObj e.key e.val)→h'.objs.size = h.objs.size + 1 →
        (∀ b o,b ≠ it→h.get? b = some o→h'.get? b = some o)→wpAny (model prog w) A.in1 (do Builtin.List.listUpdate (.ref S) fun x=>x.push (.ref h.objs.size); again (.builtin "list.extend.loop" ⟨[.ref S,.ref it,res],[]⟩))
          (fun fin s'=>match fin with | .done f=>R (.ok f) s' | .again c'=>c'.quiet = true∧codeAny (model prog w) A c' R s') (fun e s'=>R (.error e) s') { s with heap:=h',toks:=tk }:=by
      intro h' first' f' ok' ov' hit' hfirst' ht hz kp'
      have hS':=kp' _ _ nSI hS
      have haz:acc.size = as.length:=by rw [← Array.length_toList,hacc,List.length_map]
      refine wpAny_bind (wpAny_updateSeq (a:=S) (s:={ s with heap:=h',toks:=tk }) hS' rfl ?_ (by omega) (by rw [Array.size_push]; omega))
      refine wpAny_pure ⟨plainId_quiet F.plain_extend_loop _, ?_⟩
      have nt:h.objs.size ≠ S:=Nat.ne_of_gt hSL
      have nti:h.objs.size ≠ it:=Nat.ne_of_gt hItL
      have oth:∀ b,b ≠ S→(h'.update S (Obj.mapSeq fun x=>x.push (.ref h.objs.size))).get? b = h'.get? b:=fun b hb=>Heap.get?_update_other _ _ (Ne.symm hb)
      have self:(h'.update S (Obj.mapSeq fun x=>x.push (.ref h.objs.size))).get? S = some { cls := .type "list",data := .seq (acc.push (.ref h.objs.size)) (if (acc.push (.ref h.objs.size)).size == acc.size then c else c + 1) }:=by
        exact Heap.get?_update_self _ hS' rfl
      refine ih (i + 1) _ tk _ _ (as ++ [h.objs.size]) first' f' ok' ov' (by omega) (by omega) (by rw [oth _ nSI.symm]; exact hit') ?_ ?_ ?_ self ?_ ?_ ?_ ?_ ?_
      · rcases hfirst' with z | ⟨a,oa,z1,z2,z3,z4⟩
        · exact .inl z
        · exact .inr ⟨a,oa,z1,by rw [oth _ z4]; exact z2,z3,z4⟩
      · obtain ⟨o,o1,o2⟩:=hd
        exact ⟨o,by rw [oth _ ndS]; exact kp' _ _ ndI o1,o2⟩
      · intro b o hb1 hb2 q
        rw [oth _ hb1]
        exact kp' _ _ hb2 (kp b o hb1 hb2 q)
      · rw [Array.toList_push,hacc,List.map_append]
        rfl
      · rw [List.length_append,List.length_cons,List.length_nil]; omega
      · refine ⟨fun j a q => ?_,List.nodup_append.mpr ⟨hG.nd,List.nodup_cons.mpr ⟨by simp,List.nodup_nil⟩,fun x hx y hy => ?_⟩⟩
        rotate_left
        · rw [List.mem_singleton.mp hy]
          obtain ⟨j,hj⟩:=List.getElem?_of_mem hx
          obtain ⟨_,_,_,q3⟩:=hG.at_ j x hj
          exact Nat.ne_of_lt (Heap.lt_size q3)
        rcases Nat.lt_or_ge j as.length with hj | hj
        · rw [List.getElem?_append_left hj] at q
          obtain ⟨q1,e1,q2,q3⟩:=hG.at_ j a q
          obtain ⟨n1,n2⟩:=hne a (List.mem_of_getElem? q)
          exact ⟨q1,e1,q2,by rw [oth _ n1]; exact kp' _ _ n2 q3⟩
        · have hj':j = as.length:=by
            have:=(List.getElem?_eq_some_iff.mp q).1
            rw [List.length_append,List.length_cons,List.length_nil] at this
            omega
          rw [hj',List.getElem?_concat_length] at q
          cases q
          refine ⟨hlo,e,by rw [hj',hal]; exact he, ?_⟩
          rw [oth _ nt]
          exact ht
      · intro a ha
        rcases List.mem_append.mp ha with z | z
        · exact hne a z
        · rw [List.mem_singleton.mp z]; exact ⟨nt,nti⟩
      · rw [Heap.size_update,hz]; exact Nat.le_succ_of_le hlo
    rcases hfirst with ⟨rfl,rfl⟩ | ⟨a,oa,rfl,ha,hai,haS⟩
    · refine wpAny_bind (next_free (s:={ s with heap:=h,toks:=tk }) hit hd he fun h' g1 g2 g3 g4 => ?_)
      exact go h' _ _ _ _ g1 (.inr ⟨_,_,rfl,g2,Nat.ne_of_gt hItL,Nat.ne_of_gt hSL⟩) g2 g3 g4
    · refine wpAny_bind (next_held (s:={ s with heap:=h,toks:=tk }) hit ha hai hd he fun h' g1 g2 g3 g4 => ?_)
      exact go h' _ _ _ _ g1 (.inr ⟨a,oa,rfl,g4 _ _ hai ha,hai,haS⟩) g2 g3 g4
theorem collect_items {R:List Value→Shared→Prop} (hh:A.handled = none) (hv:s.heap.IsItemsView r d) (hd:RawD s.heap d ds ep) (hn:ds.size ≤ sizeLine)
    (k:∀ h' tk as,(∀ b o,s.heap.get? b = some o→h'.get? b = some o)→as.length = ds.size→Got ds s.heap.objs.size h' as→R (as.map Value.ref) { s with heap:=h',toks:=tk }):wpAny (model prog w) A (collect (.ref r)) R E s:=by
  unfold collect
  refine wpAny_bind (wpAny_runValue (codeAny_builtin entry_proto_collect' ?_))
  rw [Around.under_plainId F.plain_proto_collect]
  refine wpAny_bind (wpAny_newObj_type (wpAny_pure ⟨plainId_quiet F.plain_list_iadd _,codeAny_builtin entry_list_iadd' ?_⟩))
  rw [Around.under_plainId F.plain_list_iadd]
  obtain ⟨o,d1,d2,d3⟩:=id hd
  obtain ⟨vo,v1,v2⟩:=id hv
  obtain ⟨h1,hh1⟩:∃ h1,h1 = s.heap.push { cls := .type "list",data := .seq (#[]:Array Value) }:=⟨_,rfl⟩
  have hS1:h1.get? s.heap.objs.size = some { cls := .type "list",data := .seq #[] }:=by rw [hh1]; exact Heap.get?_push_size _ rfl
  have kp1:∀ b ob,s.heap.get? b = some ob→h1.get? b = some ob:=fun b ob e=>by rw [hh1]; exact Heap.get?_push_of_some _ e
  have z1:h1.objs.size = s.heap.objs.size + 1:=by rw [hh1,Heap.size_push]
  have hv1:h1.IsItemsView r d:=⟨vo,kp1 _ _ v1,v2⟩
  have hd1:RawD h1 d ds ep:=⟨o,kp1 _ _ d1,d2,d3⟩
  show wpAny _ _ (Builtin.«list.__iadd__» _) _ _ { s with heap:=s.heap.push { cls := .type "list",data := .seq (#[]:Array Value) } }
  rw [← hh1]
  unfold Builtin.«list.__iadd__»
  refine wpAny_bind (wpAny_pure ?_)
  show wpAny _ _ (Builtin.List.listExtendWith (.ref s.heap.objs.size) (.ref r) (.ref s.heap.objs.size)) _ _ _
  unfold Builtin.List.listExtendWith
  have hv1':({ s with heap:=h1 }:Shared).heap.IsItemsView r d:=hv1
  refine wpAny_bind (wpAny_typeOf hv1'.typeIs ?_)
  have nr:s.heap.objs.size ≠ r:=Nat.ne_of_gt (Heap.lt_size v1)
  rw [if_neg (by simp [Builtin.List.listSameRef,nr])]
  refine wpAny_bind (iter_items (s:={ s with heap:=h1 }) hv1 hd1 ?_)
  obtain ⟨h2,hh2⟩:∃ h2,h2 = h1.push (riObj d 0 ds.size ep .none false .none .none):=⟨_,rfl⟩
  have z2:h2.objs.size = h1.objs.size + 1:=by rw [hh2,Heap.size_push]
  have kp2:∀ b ob,h1.get? b = some ob→h2.get? b = some ob:=fun b ob e=>by rw [hh2]; exact Heap.get?_push_of_some _ e
  have i2:h2.get? h1.objs.size = some (riObj d 0 ds.size ep .none false .none .none):=by rw [hh2]; exact Heap.get?_push_size _ rfl
  show wpAny _ _ _ _ _ { s with heap:=h1.push (riObj d 0 ds.size ep .none false .none .none) }
  rw [← hh2]
  have hv2:({ s with heap:=h2 }:Shared).heap.IsItemsView r d:=⟨vo,kp2 _ _ (kp1 _ _ v1),v2⟩
  refine wpAny_bind (wpAny_holding (PySem.W.kdx_hint hv2.typeIs ?_))
  have nSI:s.heap.objs.size ≠ h1.objs.size:=by rw [z1]; exact Nat.ne_of_lt (Nat.lt_succ_self _)
  have ndS:d ≠ s.heap.objs.size:=Nat.ne_of_lt (Heap.lt_size d1)
  have ndI:d ≠ h1.objs.size:=Nat.ne_of_lt (Heap.lt_size (kp1 _ _ d1))
  have fin:∀ h3 c,h3.objs.size = h2.objs.size→(∀ b,b ≠ s.heap.objs.size→h3.get? b = h2.get? b)→h3.get? s.heap.objs.size = some { cls := .type "list",data := .seq #[] c } →
      codeAny (model prog w) A (.builtin "list.extend.loop" ⟨[.ref s.heap.objs.size,.ref h1.objs.size,.ref s.heap.objs.size],[]⟩) (fun r s'=>∃ h' tk acc c' as,r = .ok (.ret (.ref s.heap.objs.size))∧s' = { s with heap:=h',toks:=tk }∧(∀ b ob,s.heap.get? b = some ob→h'.get? b = some ob)∧h'.get? s.heap.objs.size = some { cls := .type "list",data := .seq acc c' }∧as.length = ds.size∧Got ds s.heap.objs.size h' as∧acc.toList = as.map Value.ref) { s with heap:=h3,toks:=s.toks }:=by
    intro h3 c z3 oth3 hS3
    refine loop_items (ep:=ep) (d:=d) (h1:=h2) (lo:=s.heap.objs.size) hh hn nSI ndS ndI (.ref s.heap.objs.size) ?_ (ds.size - 0) 0 h3 s.toks c #[] [] .none false .none .none rfl (Nat.zero_le _) (by rw [oth3 _ nSI.symm]; exact i2) (.inl ⟨rfl,rfl⟩) ⟨o,by rw [oth3 _ ndS]; exact kp2 _ _ (kp1 _ _ d1),d2,d3⟩ (fun b ob hb1 hb2 e=>by rw [oth3 _ hb1]; exact e) hS3 rfl rfl ⟨(fun j a e=>by simp at e),List.nodup_nil⟩ (fun a ha=>by simp at ha) (by rw [z3,z2,z1]; exact Nat.le_succ_of_le (Nat.le_succ _))
    intro h' tk acc c' as kp' hS' hal hG hacc
    exact ⟨h',tk,acc,c',as,rfl,rfl,fun b ob e=>kp' b ob (Nat.ne_of_lt (Heap.lt_size e)) (Nat.ne_of_lt (Heap.lt_size (kp1 _ _ e))) (kp2 _ _ (kp1 _ _ e)),hS',hal,hG,hacc⟩
  refine wpAny_ite_split (fun _ => ?_) (fun _ => ?_)
  · refine wpAny_bind (wpAny_rule (wpAny_bind (wpAny_bind (wpAny_updateSeq (a:=s.heap.objs.size) (s:={ s with heap:=h2 }) (kp2 _ _ hS1) rfl ?_ (Nat.zero_le _) (by show 1 ≤ _; rw [sizeLine_eq]; omega)))))
    have self:(h2.update s.heap.objs.size (Obj.mapSeq fun x=>x.push .none)).get? s.heap.objs.size = some { cls := .type "list",data := .seq #[.none] 1 }:=Heap.get?_update_self _ (kp2 _ _ hS1) rfl
    refine wpAny_updateSeq (a:=s.heap.objs.size) self rfl ?_ (by show 1 ≤ _; rw [sizeLine_eq]; omega) (Nat.zero_le _)
    refine wpAny_pure ⟨plainId_quiet F.plain_extend_loop _,codeAny_mono (fin _ 2 ?_ ?_ ?_) fun r s' ⟨h',tk,acc,c',as,e1,e2,kp',hS',hal,hG,hacc⟩ => ?_⟩
    · rw [Heap.size_update,Heap.size_update]
    · intro b hb
      rw [Heap.get?_update_other _ _ (Ne.symm hb),Heap.get?_update_other _ _ (Ne.symm hb)]
    · exact Heap.get?_update_self _ self rfl
    · subst e1 e2
      refine wpAny_bind (wpAny_load hS' ?_)
      dsimp only
      rw [hacc]
      exact wpAny_pure (k h' tk as kp' hal hG)
  · refine wpAny_pure ⟨plainId_quiet F.plain_extend_loop _,codeAny_mono (fin h2 0 rfl (fun _ _=>rfl) (kp2 _ _ hS1)) fun r s' ⟨h',tk,acc,c',as,e1,e2,kp',hS',hal,hG,hacc⟩ => ?_⟩
    subst e1 e2
    refine wpAny_bind (wpAny_load hS' ?_)
    dsimp only
    rw [hacc]
    exact wpAny_pure (k h' tk as kp' hal hG)
end
noncomputable def layT (H:Hp):List (Addr × List V)→Hp
  | []=>H
  | t :: ts=>upd (layT H ts) t.1 (.tup t.2)
theorem layT_ne {H:Hp} {b:Addr}:∀ {ts:List (Addr × List V)},(∀ t ∈ ts,b ≠ t.1)→layT H ts b = H b
  | [],_=>rfl
  | t :: ts,h=>by
    show upd (layT H ts) t.1 (.tup t.2) b = H b
    rw [upd_ne (h t List.mem_cons_self)]
    exact layT_ne fun u hu=>h u (List.mem_cons_of_mem _ hu)
theorem layT_at {H:Hp} {b:Addr} {o:HO}:∀ {ts:List (Addr × List V)},layT H ts b = some o→(∃ t ∈ ts,t.1 = b∧o = .tup t.2) ∨ ((∀ t ∈ ts,b ≠ t.1)∧H b = some o)
  | [],h=>.inr ⟨(fun _ z=>by cases z),h⟩
  | t :: ts,h=>by
    have h:upd (layT H ts) t.1 (.tup t.2) b = some o:=h
    by_cases hb:b = t.1
    · subst hb
      rw [upd_same] at h
      exact .inl ⟨t,List.mem_cons_self,rfl,(Option.some.inj h).symm⟩
    · rw [upd_ne hb] at h
      rcases layT_at h with ⟨u,hu,e1,e2⟩ | ⟨h1,h2⟩
      · exact .inl ⟨u,List.mem_cons_of_mem _ hu,e1,e2⟩
      · refine .inr ⟨fun u hu => ?_,h2⟩
        rcases List.mem_cons.mp hu with rfl | hu
        · exact hb
        · exact h1 u hu
theorem layT_in {H:Hp}:∀ {ts:List (Addr × List V)} {t:Addr × List V},(ts.map (·.1)).Nodup→t ∈ ts→layT H ts t.1 = some (.tup t.2)
  | u :: ts,t,hd,ht=>by
    show upd (layT H ts) u.1 (.tup u.2) t.1 = some (.tup t.2)
    rcases List.mem_cons.mp ht with rfl | ht'
    · exact upd_same
    · have hn:=(List.nodup_cons.mp hd)
      rw [upd_ne (fun z=>hn.1 (by show u.1 ∈ _; rw [← z]; exact List.mem_map_of_mem (f:=(·.1)) ht'))]
      exact layT_in hn.2 ht'
section
variable {X:Cx} {pins:List (Addr × Obj)} {σ:St} {H:Hp} {s:Shared} {h':Heap}
theorem Inv.laidAll {t':Nat} (I:Inv X pins σ H s) (k:∀ b u,s.heap.get? b = some u→h'.get? b = some u) {ts:List (Addr × List V)} (hts:∀ t ∈ ts,s.heap.objs.size ≤ t.1∧ObjOk X.prog X.w H h' t.1 (.tup t.2)) :
    Inv X pins σ (layT H ts) { s with heap:=h',toks:=t' }:=by
  have old:∀ b u,H b = some u→∀ t ∈ ts,b ≠ t.1:=fun b u q t ht=>Nat.ne_of_lt (Nat.lt_of_lt_of_le (I.hok.lt q) (hts t ht).1)
  refine I.un ⟨fun b u q _ _ _=>k b u q,fun b u q _ _ _=>⟨u.slots,k b u q⟩,fun b u q n _ => ?_,fun b u q _=>⟨u,k b u q⟩,fun b xs q => ?_,fun b u xs q => ?_,fun b ps q=>⟨#[], ?_⟩⟩ ?_
  · rw [layT_ne fun t ht=>Nat.ne_of_lt (Nat.lt_of_lt_of_le (Heap.lt_size q) (hts t ht).1)]; exact n
  · rw [layT_ne (old b _ q)]; exact q
  · rw [layT_ne (old b _ q)]; exact q
  · rw [layT_ne (old b _ q),q]; simp
  · intro b o q
    rcases layT_at q with ⟨t,ht,rfl,rfl⟩ | ⟨hb,q⟩
    · exact (hts t ht).2
    · exact (I.hok b o q).stay (fun c v _ e=>k c v e) (fun c e=>by rw [layT_ne (old c _ e)]; exact e) fun c xs e=>by rw [layT_ne (old c _ e)]; exact e
end
end L2
namespace L2
open PySem PySem.Spec PyProof.Rows PySem.NumText
section
variable {prog:Program} {w:World} {A:Around} {E:Value→Shared→Prop} {s:Shared} {l:Addr} {xs:Array Value} {c:Nat} {sl:Array (Option Value)}
theorem list_noKeys {Q:Option Value→Shared→Prop} (hh:A.handled = none) (ho:s.heap.get? l = some { cls := .type "list",data := .seq xs c,slots:=sl })
    (k:∀ h' tk,(∀ b o,s.heap.get? b = some o→h'.get? b = some o)→Q none { s with heap:=h',toks:=tk }):wpAny (model prog w) A (getAttr? (.ref l) (Str.ofString "keys")) Q E s:=by
  unfold getAttr? mkText
  refine wpAny_bind (wpAny_bind (wpAny_fresh' (wpAny_pure ?_)))
  unfold getAttrBy?
  have ty:∀ tk,({ s with toks:=tk }:Shared).TypeIs (.ref l) "list" := fun tk=>⟨_,ho,rfl⟩
  refine wpAny_bind (wpAny_attempt ?_)
  unfold getAttrBy
  refine wpAny_holding (wpAny_bind (wpAny_typeOf (ty _) (wpAny_bind (wpAny_of_eq F.slot_list_getattribute.lookup ?_))))
  dsimp only
  rw [if_neg (by decide)]
  unfold getAttrByItsOwn hookBefore
  refine wpAny_bind (wpAny_of_eq (a:=none) (if_neg (by decide)) (wpAny_bind (wpAny_attempt (wpAny_holding ?_))))
  unfold callGetattribute
  rw [if_neg (by decide)]
  unfold boundAndCalled
  refine wpAny_bind (wpAny_of_eq (F.slot_list_getattribute.bind (.ref l)) ?_)
  have hmiss:typeLookup (.type "list") (Str.ofString "keys") = pure none:=am_miss_of_fast (by decide +kernel)
  refine call_meets F.slot_list_getattribute (ty _) am_entry_list_getattribute (F.args_list_getattribute_2 _ _) (meets_getattribute_miss_list l xs c sl _ _ hmiss (by decide +kernel) (by rw [sizeLine_eq]; decide +kernel)) ⟨ho,hh,fun h' tk e ne => ?_⟩
  show wpAny _ _ (getattributeRaised _ _ _ _ _ _ _) _ _ _
  obtain ⟨t,u,he⟩:=ne.there
  unfold getattributeRaised
  refine wpAny_bind (wpAny_isInstance ⟨_,he,rfl⟩ sub_AttributeError ?_)
  rw [if_pos rfl]
  unfold hookBehind
  rw [if_neg (by decide)]
  refine wpAny_bind (wpAny_of_eq am_list_getattr_none ?_)
  unfold hookOrError attributeErrorLeaves
  dsimp only
  rw [if_pos (by decide)]
  refine wpAny_bind (wpAny_throw ?_)
  refine wpAny_bind (wpAny_isInstance ⟨_,he,rfl⟩ sub_AttributeError ?_)
  rw [if_pos rfl]
  exact wpAny_pure (k h' tk ne.keeps)
end
theorem entry_upd_loop:entryFor table "dict.update.loop" = some Builtin.«dict.update.loop» := entryFor_of_tree (by rfl)
theorem plain_upd_loop:plainId "dict.update.loop" = true:=by decide +kernel
noncomputable abbrev Row:=List Key × Addr × Value
noncomputable def storeAll (xs:List Row) (ps:List Row):List Row:=ps.foldl (fun xs p=>storedH xs p.1 p.2.1 p.2.2) xs
section
variable {prog:Program} {w:World} {A:Around} {E:Value→Shared→Prop} {s:Shared} {l d it:Addr}
theorem stored_len (xs:List Row) (k:List Key) (a:Addr) (v:Value):(storedH xs k a v).length ≤ xs.length + 1:=by
  unfold storedH
  split
  · rw [List.length_map]; omega
  · rw [List.length_append]; exact Nat.le_refl _
theorem stored_mem {xs:List Row} {k:List Key} {a:Addr} {v:Value} {x:Row} (h:x ∈ storedH xs k a v):x.2.1 = a ∨ ∃ y ∈ xs,y.2.1 = x.2.1:=by
  unfold storedH at h
  split at h
  · obtain ⟨y,hy,rfl⟩:=List.mem_map.mp h
    refine .inr ⟨y,hy, ?_⟩
    unfold putAt
    split <;> rfl
  · rcases List.mem_append.mp h with z | z
    · exact .inr ⟨x,z,rfl⟩
    · rw [List.mem_singleton.mp z]; exact .inl rfl
theorem is_keep {h h':Heap} {k:List Key} {a:Addr} (hi:(dK prog w).is h k a) (q:∀ o,h.get? a = some o→h'.get? a = some o):(dK prog w).is h' k a:=by
  obtain ⟨o,its,n,h1,r⟩:=hi
  exact ⟨o,its,n,q o h1,r⟩
theorem dictH_keep {h h':Heap} {xs:List Row} (hd:h.DictOfH (dK prog w) d xs) (q:∀ b o,b ≠ it→h.get? b = some o→h'.get? b = some o) (ndi:d ≠ it) (hn:∀ x ∈ xs,x.2.1 ≠ it):h'.DictOfH (dK prog w) d xs:=by
  obtain ⟨o,ds,ep,a1,a2,a3,a4,a5,a6⟩:=hd
  exact ⟨o,ds,ep,q _ _ ndi a1,a2,a3,a4,fun x hx=>is_keep (a5 x hx) fun o e=>q _ _ (hn x hx) e,a6⟩
theorem storeAll_snoc (ps:List Row) (p:Row):storeAll [] (ps ++ [p]) = storedH (storeAll [] ps) p.1 p.2.1 p.2.2:=by
  unfold storeAll
  rw [List.foldl_append]
  rfl
theorem storeAll_len:∀ (ps:List Row) (xs:List Row),(storeAll xs ps).length ≤ xs.length + ps.length
  | [],xs=>Nat.le_refl _
  | p :: ps,xs=>by
    have h1:=storeAll_len ps (storedH xs p.1 p.2.1 p.2.2)
    have h2:=stored_len xs p.1 p.2.1 p.2.2
    show (storeAll (storedH xs p.1 p.2.1 p.2.2) ps).length ≤ xs.length + (ps.length + 1)
    omega
theorem loop_update {R:Result→Shared→Prop} {items:Array Value} {ps:List Row} (hh:A.handled = none) (room:(dK prog w).room A.in1) (ndl:d ≠ l) (ndi:d ≠ it) (nli:l ≠ it) {h1:Heap} (res:Value) (hlen:items.size = ps.length) (hsz:ps.length ≤ 1000)
    (hps:∀ (i:Nat) p,ps[i]? = some p→∃ t,items[i]? = some (.ref t)∧t ≠ d∧t ≠ it∧p.2.1 ≠ d∧p.2.1 ≠ it∧IsTup h1 t #[.ref p.2.1,p.2.2]∧(dK prog w).is h1 p.1 p.2.1)
    (k:∀ h' tk,(∀ b o,b ≠ d→b ≠ it→h1.get? b = some o→h'.get? b = some o)→h'.DictOfH (dK prog w) d (storeAll [] ps)→R (.ok (.ret res)) { s with heap:=h',toks:=tk }) :
    ∀ (n i:Nat) (h:Heap) (tk:Nat) (cnt:Int) (ct:Tok),ps.length - i = n→i ≤ ps.length→h.IsListIter it l i→h.IsList l items→(∀ b o,b ≠ d→b ≠ it→h1.get? b = some o→h.get? b = some o)→h.DictOfH (dK prog w) d (storeAll [] (ps.take i))→(∀ x ∈ storeAll [] (ps.take i),x.2.1 ≠ it∧x.2.1 ≠ d) →
      codeAny (model prog w) A (.builtin "dict.update.loop" ⟨[.ref d,.ref it,.int cnt ct,res],[]⟩) R { s with heap:=h,toks:=tk }:=by
  intro n
  induction n with
  | zero =>
    intro i h tk cnt ct hni hi hit hl kp hd hx
    refine codeAny_builtin entry_upd_loop ?_
    rw [Around.under_plainId plain_upd_loop]
    refine wpAny_bind (wpAny_pyNext_list_end (s:={ s with heap:=h,toks:=tk }) hh hit hl (by rw [Array.getElem?_eq_none]; omega) fun h' ex => ?_)
    refine wpAny_bind (wpAny_bind (wpAny_pure (wpAny_pure (wpAny_pure ?_))))
    refine k h' tk (fun b o h1' h2' e=>ex b o h2' (kp b o h1' h2' e)) ?_
    have e:ps.take i = ps:=List.take_of_length_le (by omega)
    rw [e] at hd hx
    exact dictH_keep hd ex ndi fun x q=>(hx x q).1
  | succ n ih =>
    intro i h tk cnt ct hni hi hit hl kp hd hx
    obtain ⟨p,hp⟩:∃ p,ps[i]? = some p:=⟨_,List.getElem?_eq_getElem (by omega)⟩
    obtain ⟨t,ht,n1,n2,n3,n4,ht1,his⟩:=hps i p hp
    refine codeAny_builtin entry_upd_loop ?_
    rw [Around.under_plainId plain_upd_loop]
    refine wpAny_bind (wpAny_pyNext_list_item (s:={ s with heap:=h,toks:=tk }) hit hl ht fun h2 hit2 sb => ?_)
    obtain ⟨to,tc1,tc2,tn,tc3⟩:=ht1
    have ht2:h2.get? t = some to:=(sb.2 t n2).trans (kp t _ n1 n2 tc1)
    have hd2:h2.DictOfH (dK prog w) d (storeAll [] (ps.take i)):=dictH_keep hd (fun b o hb e=>(sb.2 b hb).trans e) ndi fun x q=>(hx x q).1
    have his2:(dK prog w).is h2 p.1 p.2.1:=is_keep his fun o e=>(sb.2 _ n4).trans (kp _ _ n3 n4 e)
    have hlt:(storeAll [] (ps.take i)).length ≤ sizeLine:=by
      have:=storeAll_len (ps.take i) []
      rw [List.length_take,List.length_nil] at this
      rw [sizeLine_eq]
      omega
    refine wpAny_bind (wpAny_holding (wpAny_bind ?_))
    rw [← Sem.tryCatch_eq]
    refine wpAny_tryCatch ?_
    unfold Builtin.Dict.pairItems
    refine wpAny_bind (wpAny_typeOf (T := "tuple") ⟨_,ht2,tc2⟩ ?_)
    rw [if_pos (by decide)]
    refine wpAny_bind (wpAny_seqItems ht2 tc3 (wpAny_pure ?_))
    show wpAny _ _ (holding [.ref p.2.1,p.2.2] (dictSet d (.ref p.2.1) p.2.2)) _ _ _
    refine wpAny_holding (wpAny_dictSet_heap (hsz:=hlt) room his2 hd2 fun h3 hd3 sb3 => ?_)
    refine wpAny_pure ⟨plainId_quiet plain_upd_loop _, ?_⟩
    have e1:ps.take (i + 1) = ps.take i ++ [p]:=by
      obtain ⟨hlt',rfl⟩:=List.getElem?_eq_some_iff.mp hp
      exact List.take_succ_eq_append_getElem hlt'
    have keep3:∀ b o,b ≠ d→b ≠ it→h.get? b = some o→h3.get? b = some o:=fun b o hb1 hb2 e=>(sb3.2 b hb1).trans ((sb.2 b hb2).trans e)
    refine ih (i + 1) h3 _ (cnt + 1) 0 (by omega) (by omega) ?_ ?_ (fun b o hb1 hb2 e=>keep3 b o hb1 hb2 (kp b o hb1 hb2 e)) ?_ ?_
    · obtain ⟨o,a1,a2⟩:=hit2
      exact ⟨o,(sb3.2 it ndi.symm).trans a1,a2⟩
    · obtain ⟨o,a1,a2⟩:=hl
      exact ⟨o,keep3 _ _ ndl.symm nli a1,a2⟩
    · rw [e1,storeAll_snoc]; exact hd3
    · rw [e1,storeAll_snoc]
      intro x hxm
      rcases stored_mem hxm with z | ⟨y,hy,z⟩
      · rw [z]; exact ⟨n4,n3⟩
      · rw [← z]; exact hx y hy
theorem call_dict_list {Q:Value→Shared→Prop} {items:Array Value} {ps:List Row} {sl:Array (Option Value)} {c:Nat} (hh:A.handled = none) (room:(dK prog w).room A.in1.in1) (ho:s.heap.get? l = some { cls := .type "list",data := .seq items c,slots:=sl }) (hlen:items.size = ps.length) (hsz:ps.length ≤ 1000)
    (hps:∀ (i:Nat) p,ps[i]? = some p→∃ t,items[i]? = some (.ref t)∧IsTup s.heap t #[.ref p.2.1,p.2.2]∧(dK prog w).is s.heap p.1 p.2.1)
    (k:∀ h' tk,(∀ b o,s.heap.get? b = some o→h'.get? b = some o)→h'.DictOfH (dK prog w) s.heap.objs.size (storeAll [] ps)→Q (.ref s.heap.objs.size) { s with heap:=h',toks:=tk }):wpAny (model prog w) A (call (.type "dict") [.ref l]) Q E s:=by
  obtain ⟨h1,hh1⟩:∃ h1,h1 = s.heap.push { cls := .type "dict",data := .dict (#[]:Array DictEntry) }:=⟨_,rfl⟩
  have kp1:∀ b o,s.heap.get? b = some o→h1.get? b = some o:=fun b o e=>by rw [hh1]; exact Heap.get?_push_of_some _ e
  have hd1:h1.get? s.heap.objs.size = some { cls := .type "dict",data := .dict #[] }:=by rw [hh1]; exact Heap.get?_push_size _ rfl
  refine callType_codes (Q₁:=fun obj s1=>obj = .ref s.heap.objs.size∧s1 = { s with heap:=h1 }) F.kt_called_dict (F.kt_typeCall_dict_1 _) F.entry_dict_init (kt_code_dict_new _ ⟨rfl,by rw [hh1]⟩) fun obj s1 ⟨e1,e2⟩ => ?_
  subst e1 e2
  have td:({ s with heap:=h1 }:Shared).TypeIs (.ref s.heap.objs.size) "dict" := ⟨_,hd1,rfl⟩
  refine ⟨td,F.args_dict_init_2 _ _, ?_⟩
  unfold Builtin.«dict.__init__» Builtin.Dict.selfAndRest
  refine wpAny_bind (wpAny_bind (wpAny_notOrdered_dict td ?_))
  refine wpAny_bind (wpAny_pure (wpAny_pure ?_))
  show wpAny _ _ (Builtin.Dict.updateFrom "dict.__init__" s.heap.objs.size (.ref l) [] .none) _ _ _
  unfold Builtin.Dict.updateFrom
  have ho1:=kp1 _ _ ho
  refine wpAny_bind (wpAny_typeOf (T := "list") ⟨_,ho1,rfl⟩ ?_)
  rw [if_pos (by decide)]
  refine wpAny_bind (list_noKeys (s:={ s with heap:=h1 }) hh ho1 fun h2 tk kp2 => ?_)
  rw [if_pos (by decide)]
  refine wpAny_bind (wpAny_rule ?_)
  have hl2:h2.IsList l items:=⟨_,kp2 _ _ ho1,rfl,c,rfl⟩
  refine wpAny_bind (wpAny_pyIter_list (s:={ s with heap:=h2,toks:=tk }) hl2 ?_)
  refine wpAny_pure ⟨plainId_quiet plain_upd_loop _, ?_⟩
  obtain ⟨h3,hh3⟩:∃ h3,h3 = h2.push { cls := .type "list_iterator",data := .fields #[.ref l,.int 0 0] }:=⟨_,rfl⟩
  have kp3:∀ b o,h2.get? b = some o→h3.get? b = some o:=fun b o e=>by rw [hh3]; exact Heap.get?_push_of_some _ e
  have it3:h3.IsListIter h2.objs.size l 0:=by rw [hh3]; exact ⟨_,Heap.get?_push_size _ rfl,rfl,rfl⟩
  show codeAny _ _ (.builtin "dict.update.loop" ⟨[.ref s.heap.objs.size,.ref h2.objs.size,.int 0 0,.none],[]⟩) _ { s with heap:=h2.push { cls := .type "list_iterator",data := .fields #[.ref l,.int 0 0] },toks:=tk }
  rw [← hh3]
  have old:∀ b o,s.heap.get? b = some o→h3.get? b = some o∧b ≠ s.heap.objs.size∧b ≠ h2.objs.size:=fun b o e=>⟨kp3 _ _ (kp2 _ _ (kp1 _ _ e)),Nat.ne_of_lt (Heap.lt_size e),Nat.ne_of_lt (Heap.lt_size (kp2 _ _ (kp1 _ _ e)))⟩
  have ndi:s.heap.objs.size ≠ h2.objs.size:=Nat.ne_of_lt (Heap.lt_size (kp2 _ _ hd1))
  refine loop_update (A:=A.in1) (h1:=h3) (items:=items) (ps:=ps) (l:=l) (show A.in1.handled = none from hh) room (old _ _ ho).2.1.symm ndi (old _ _ ho).2.2 .none hlen hsz ?_ ?_ (ps.length - 0) 0 h3 tk 0 0 rfl (Nat.zero_le _) it3 ⟨_,(old _ _ ho).1,rfl,c,rfl⟩ (fun _ _ _ _ e=>e) ?_ (fun x hx=>by cases hx)
  · intro i p hp
    obtain ⟨t,q1,⟨to,q2,q3⟩,q4⟩:=hps i p hp
    have ht:=old _ _ q2
    have q4':=q4
    obtain ⟨po,_,_,r1,_⟩:=q4'
    have hq:=old _ _ r1
    exact ⟨t,q1,ht.2.1,ht.2.2,hq.2.1,hq.2.2,⟨to,ht.1,q3⟩,is_keep q4 fun o e=>(old _ _ e).1⟩
  · intro h' tk' kp' hd'
    refine ⟨rfl,k h' tk' (fun b o e => ?_) hd'⟩
    obtain ⟨q1,q2,q3⟩:=old b o e
    exact kp' b o q2 q3 q1
  · exact ⟨_, #[],0,kp3 _ _ (kp2 _ _ hd1),⟨rfl,rfl,rfl⟩,rfl,rfl,(fun x hx=>by cases hx),List.nodup_nil⟩
end
noncomputable def putAll (es:List Ent) (ps:List Ent):List Ent:=ps.foldl (fun es p=>putM es p.1 p.2.1 p.2.2) es
theorem putAll_rel:∀ {ps:List Ent} {rs:List Row},Paired EntR ps rs→∀ {es:List Ent} {xs:List Row},Paired EntR es xs→Paired EntR (putAll es ps) (storeAll xs rs)
  | _,_,.nil,_,_,h=>h
  | p :: ps,r :: rs,.cons a b,es,xs,h=>by
    show Paired EntR (putAll (putM es p.1 p.2.1 p.2.2) ps) (storeAll (storedH xs r.1 r.2.1 r.2.2) rs)
    refine putAll_rel b ?_
    rw [a.1,a.2.1]
    exact put_rel h p.1 a.2.2
theorem putAll_len:∀ (ps:List Ent) (es:List Ent),(putAll es ps).length ≤ es.length + ps.length
  | [],es=>Nat.le_refl _
  | p :: ps,es=>by
    have h1:=putAll_len ps (putM es p.1 p.2.1 p.2.2)
    have h2:=putM_len es p.1 p.2.1 p.2.2
    show (putAll (putM es p.1 p.2.1 p.2.2) ps).length ≤ es.length + (ps.length + 1)
    omega
section
variable {X:Cx}
noncomputable def PairsL (K:PySem.W.Frag) (H:Hp) (ps:List Ent) (vs:List V):Prop:=Paired (fun (p:Ent) (v:V)=>∃ t,v = .ref t∧SqT K H t [.ref p.2.1,p.2.2]∧SqT K H p.2.1 (mkV p.1)) ps vs
noncomputable def rDictL (P:Program) (w:World) (K:PySem.W.Frag):List V→Hp→VK→Prop:=fun xs H Q=>∃ (p:Addr) (vs:List V) (ps:List Ent),xs = [.ref p]∧SqL K H p vs∧PairsL K H ps vs∧ps.length ≤ 1000∧∀ q o,H q = none→Q (.ref q) (upd H q (dO P w q (putAll [] ps) o))
theorem pairs_rows {pins:List (Addr × Obj)} {σ:St} {H:Hp} {s:Shared} (I:Inv X pins σ H s):∀ {ps:List Ent} {vs:List V} {us:List Value},PairsL X.K H ps vs→Vals vs us→∃ rs:List Row,Paired EntR ps rs∧us.length = rs.length∧∀ (i:Nat) r,rs[i]? = some r→∃ t,us[i]? = some (.ref t)∧IsTup s.heap t #[.ref r.2.1,r.2.2]∧(dK X.prog X.w).is s.heap r.1 r.2.1
  | _,_,_,.nil,.nil=>⟨[],.nil,rfl,fun i r e=>by simp at e⟩
  | p :: ps,v :: vs,u :: us,.cons a b,.cons ra rb=>by
    obtain ⟨rs,h1,h2,h3⟩:=pairs_rows I b rb
    obtain ⟨t,rfl,ht,hm⟩:=a
    cases ra
    obtain ⟨its,rv,tp,_⟩:=I.tuple ht
    cases rv with
    | cons r1 r2 =>
      cases r2 with
      | cons r3 r4 =>
        cases r4
        cases r1
        rename_i uv
        refine ⟨(mkK p.1,p.2.1,uv) :: rs,.cons ⟨rfl,rfl,r3⟩ h1,by rw [List.length_cons,List.length_cons,h2],fun i r e => ?_⟩
        cases i with
        | zero =>
          cases (Option.some.inj e)
          exact ⟨t,rfl,tp,I.mark hm⟩
        | succ i=>exact h3 i r (by simpa using e)
theorem call_dictL (hc:X.calm = true) (hu:X.A.units + 100 < cLine):CallR X (.type "dict") (rDictL X.prog X.w X.K):=by
  intro pins s σ H xs us Q I r h
  obtain ⟨p,vs,ps,rfl,hq,hp,hz,q⟩:=h
  obtain ⟨u,rfl,ru⟩:=vals1 r
  cases ru
  obtain ⟨its,rv,pl,hsz⟩:=I.list hq
  obtain ⟨rs,h1,h2,h3⟩:=pairs_rows I hp rv
  have hpl:ps.length = rs.length:=Paired.length h1
  obtain ⟨o,n,ho,oc,od,odt⟩:=id pl
  obtain ⟨cls,dct,dat,sl⟩:=o
  cases oc
  cases od
  cases odt
  refine call_dict_list (ps:=rs) (I.ok.hd hc) (tupleKind_room_in1 (A:=X.A.in1) (by show X.A.units + 1 + 1 < cLine; omega)) ho (by rw [List.size_toArray]; exact h2) (by omega) (fun i r' e=>by rw [List.getElem?_toArray]; exact h3 i r' e) fun h' tk kp dd => ?_
  have hb:(s.heap.objs.size == sysModules) = false:=beq_eq_false_iff_ne.mpr (Ne.symm (Nat.ne_of_lt I.bigM))
  have hl:=putAll_len ps []
  obtain ⟨ob,hob⟩:=dO_ok (P:=X.prog) (w:=X.w) (H:=H) (es:=putAll [] ps) (Nat.le_of_lt (small1000 (by rw [List.length_nil] at hl; omega))) hb (putAll_rel h1 .nil) dd
  exact ⟨.ref s.heap.objs.size,_,I.laid (t':=tk) kp (Nat.le_refl _) hob,rfl,q _ ob (I.hok.fresh (Nat.le_refl _))⟩
end
end L2
namespace L2
open PySem PySem.Spec PyProof.Rows PySem.NumText
noncomputable def viewO (v d:Addr):HO := .ext fun h=>h.IsItemsView v d
structure Raw (P:Program) (w:World) (es:List Ent) (o:Obj) (ds:Array DictEntry) (ep:Nat) (rs:List Row):Prop where
  rel:Paired EntR es rs
  cl:o.cls = .type "dict"
  dat:o.data = .dict ds ep
  lst:ds.toList = rs.map (entryOfKey (dK P w))
theorem Raw.size {P:Program} {w:World} {es:List Ent} {o:Obj} {ds:Array DictEntry} {ep:Nat} {rs:List Row} (R:Raw P w es o ds ep rs):ds.size = es.length:=by
  rw [← Array.length_toList,R.lst,List.length_map, ← Paired.length R.rel]
theorem ent_at:∀ {es:List Ent} {rs:List Row},Paired EntR es rs→∀ {i:Nat} {e:Ent},es[i]? = some e→∃ r,rs[i]? = some r∧EntR e r
  | _,_,.nil,i,e,h=>by simp at h
  | _,_,.cons a b,0,e,h=>by cases (Option.some.inj h); exact ⟨_,rfl,a⟩
  | _,_,.cons a b,i + 1,e,h=>by
    obtain ⟨r,h1,h2⟩:=ent_at b (i:=i) (by simpa using h)
    exact ⟨r,by simpa using h1,h2⟩
theorem Raw.at_ {P:Program} {w:World} {es:List Ent} {o:Obj} {ds:Array DictEntry} {ep:Nat} {rs:List Row} (R:Raw P w es o ds ep rs) {i:Nat} {e:Ent} (h:es[i]? = some e):∃ u q,ds[i]? = some u∧u.key = .ref e.2.1∧u.val = q∧RelV e.2.2 q:=by
  obtain ⟨r,h1,h2⟩:=ent_at R.rel h
  refine ⟨entryOfKey (dK P w) r,r.2.2, ?_, ?_,rfl,h2.2.2⟩
  · rw [← Array.getElem?_toList,R.lst,List.getElem?_map,h1]; rfl
  · show Value.ref r.2.1 = _
    rw [h2.2.1]
section
variable {X:Cx} {pins:List (Addr × Obj)} {σ:St} {H:Hp} {s:Shared} {a:Addr} {es:List Ent} {o:Obj}
theorem Inv.raw (I:Inv X pins σ H s) (ob:H a = some (dO X.prog X.w a es o)):s.heap.get? a = some o∧(a == sysModules) = false∧es.length ≤ sizeLine∧∃ ds ep rs,Raw X.prog X.w es o ds ep rs:=by
  obtain ⟨⟨z,y,h1,xs,r,ds,ep,h2,h3,h4,h5⟩,_,_⟩:=(show ObjOk X.prog X.w H s.heap a (dO X.prog X.w a es o) from I.hok a _ ob)
  exact ⟨h1,y,z,ds,ep,xs,r,h2.1,h3,h4⟩
end
section
variable {X:Cx} {o:Expr} {td:TE} {apos cpos:Pos}
theorem call_items {prog:Program} {w:World} {A:Around} {E:Value→Shared→Prop} {s:Shared} {d:Addr} {Q:Value→Shared→Prop} (hT:s.TypeIs (.ref d) "dict") (hd:(d == sysModules) = false) (h:Q (.ref s.heap.objs.size) { s with heap:=s.heap.push { cls := .type "dict_items",data := .fields #[.ref d] } }) :
    wpAny (model prog w) A (call (.builtin "dict.items") [.ref d]) Q E s:=by
  refine wpAny_call_entry F.slot_dict_items hT F.entry_dict_items ?_ (F.args_dict_items_1 _)
  unfold Builtin.«dict.items» Builtin.Dict.noArgs Builtin.Dict.showsAll Builtin.Dict.nameIsSure
  refine wpAny_bind (wpAny_bind (wpAny_notOrdered_dict hT (wpAny_bind (wpAny_of_eq (a:=()) (if_neg (by show ¬ (false || false) = true; decide)) (wpAny_bind (wpAny_pure (wpAny_pure ?_)))))))
  rw [hd]
  refine wpAny_bind (wpAny_of_eq (a:=()) (if_neg Bool.false_ne_true) (wpAny_bind (wpAny_newObj_type (wpAny_pure ⟨_,rfl,h⟩) ?_)))
  simp only [sizeOk,List.size_toArray,List.length_cons,List.length_nil,sizeLine_eq]
  omega
noncomputable def tItems (P:Program) (w:World) (td:TE):TE:=fun σ H Q=>td σ H fun x H1=>∃ a es o,x = .ref a∧H1 a = some (dO P w a es o)∧∀ v,H1 v = none→Q (.ref v) (upd H1 v (viewO v a))
theorem Inv.isDict {pins:List (Addr × Obj)} {σ:St} {H:Hp} {s:Shared} {a:Addr} {es:List Ent} {ob:Obj} (I:Inv X pins σ H s) (h:H a = some (dO X.prog X.w a es ob)):s.TypeIs (.ref a) "dict" ∧ ob.dict = none:=by
  obtain ⟨⟨z,y,h1,xs,r,ds,ep,h2,h3,h4,h5⟩,_,_⟩:=(show ObjOk X.prog X.w H s.heap a (dO X.prog X.w a es ob) from I.hok a _ h)
  exact ⟨⟨_,h1,h2.1⟩,h2.2.1⟩
theorem pe_items (ho:PE X o td) (hbase:attributeBase o "items" X.env (eval o X.env) = eval o X.env:=by rfl) (hline:(apos.endLine == cpos.line) = true:=by rfl):PE X (.Call (.Attribute o "items" apos) [] [] cpos) (tItems X.prog X.w td) := .mk <| by
  intro pins s σ H Q I h
  refine wpAny_Call_method0_late hbase hline (thn (ho pins s σ H _ I h) fun v s1 ⟨x,H1,I1,r1,a,es,ob,ex,hob,q1⟩ => ?_)
  subst ex
  cases r1
  obtain ⟨hT,hdn⟩:=I1.isDict hob
  obtain ⟨h1,hb,_⟩:=I1.raw hob
  refine ⟨"dict", "dict.items",PySem.F.plainAttrs_dict,PySem.F.slot_dict_items,PySem.F.type_dict_items,hT,fun b e => ?_,Calls.callWith_builtin rfl (PySem.evalArgs_none (call_items hT hb ?_))⟩
  · cases e
    exact ⟨ob,h1,hdn⟩
  · have hat:=Heap.get?_push_size s1.heap (o:={ cls := .type "dict_items",data := .fields #[.ref a] }) rfl
    refine ⟨.ref s1.heap.objs.size,_,I1.laid (t':=s1.toks) (fun b u e=>Heap.get?_push_of_some _ e) (Nat.le_refl _) (o:=viewO s1.heap.objs.size a) ⟨⟨_,hat,rfl,rfl⟩,⟨_,hat⟩, ?_⟩,rfl,q1 _ (I1.hok.fresh (Nat.le_refl _))⟩
    rintro g1 g2 ⟨vo,v1,v2⟩ k
    exact ⟨vo,k _ v1,v2⟩
end
end L2
namespace L2
open PySem PySem.Spec PyProof.Rows PySem.NumText
noncomputable def mLt (a b:Mark):Bool:=decide (a.1 < b.1 ∨ (a.1 = b.1∧a.2 < b.2))
theorem mLt_sto:STO mLt where
  irr:=fun a=>decide_eq_false (by omega)
  tr:=fun a b c h1 h2=>by
    have h1:=of_decide_eq_true h1
    have h2:=of_decide_eq_true h2
    exact decide_eq_true (by omega)
  tri:=fun a b hn h=>by
    have h:=of_decide_eq_false h
    refine decide_eq_true ?_
    by_cases e1:a.1 = b.1
    · have e2:a.2 ≠ b.2:=fun e2=>hn (Prod.ext e1 e2)
      omega
    · omega
noncomputable def markD (m:Mark):PyData := .tuple [.int m.1,.int m.2]
theorem markD_eqv (a b:Mark):PyData.eqv (markD a) (markD b) = decide (a = b):=by
  have e:PyData.eqv (markD a) (markD b) = (a.1 == b.1 && (a.2 == b.2 && true)):=rfl
  rw [e,Bool.eq_iff_iff]
  obtain ⟨a1,a2⟩:=a
  obtain ⟨b1,b2⟩:=b
  simp
theorem markD_lt (a b:Mark):ltD (markD a) (markD b) = some (mLt a b):=by
  show ltDs [.int a.1,.int a.2] [.int b.1,.int b.2] = _
  have i1:∀ x y:Int,PyData.eqv (.int x) (.int y) = (x == y):=fun _ _=>rfl
  have i2:∀ x y:Int,ltD (.int x) (.int y) = some (decide (x < y)):=fun _ _=>rfl
  unfold ltDs
  rw [i1]
  by_cases e1:a.1 = b.1
  · rw [if_pos (by simp [e1])]
    unfold ltDs
    rw [i1]
    by_cases e2:a.2 = b.2
    · rw [if_pos (by simp [e2])]
      unfold ltDs mLt
      simp [e1,e2]
    · rw [if_neg (by simp [e2]),i2]
      unfold mLt
      simp [e1]
  · rw [if_neg (by simp [e1]),i2]
    unfold mLt
    simp [e1]
theorem mkV_dv {K:PySem.W.Frag} {H:Hp} {q:Addr} {m:Mark} (h:SqT K H q (mkV m)):DV K H (markD m) (.ref q):=⟨q,_,rfl,h,_,_,rfl,rfl,_,_,rfl,rfl,rfl⟩
theorem mark_of {K:PySem.W.Frag} {H:Hp} {m:Mark} {v:V} (h:DV K H (markD m) v):∃ q,v = .ref q∧SqT K H q (mkV m):=by
  obtain ⟨q,vs,rfl,h1,v1,r1,rfl,e1,v2,r2,rfl,e2,e3⟩:=h
  cases (show v1 = .int m.1 from e1)
  cases (show v2 = .int m.2 from e2)
  cases (show r2 = [] from e3)
  exact ⟨q,rfl,h1⟩
noncomputable def pairD (val:Mark→PyData) (m:Mark):PyData := .tuple [markD m,val m]
theorem pair_srt {es:List Ent} {val:Mark→PyData} (hsh:∀ e ∈ es,SeqAt.shaped (pairD val e.1) = true) (nd:(es.map (·.1)).Nodup) (few:es.length < 64):Srt (es.map (·.1)) (fun m=>[markD m,val m]) mLt .tup where
  sto:=mLt_sto
  few:=by rw [List.length_map]; exact few
  nd:=nd
  lts:=by
    intro a ha b hb
    show (if PyData.eqv (markD a) (markD b) = true then ltDs [val a] [val b] else ltD (markD a) (markD b)) = _
    rw [markD_eqv]
    by_cases e:a = b
    · subst e
      rw [if_pos (decide_eq_true rfl),mLt_sto.irr]
      obtain ⟨e0,he0,rfl⟩:=List.mem_map.mp ha
      have h1:=hsh e0 he0
      unfold SeqAt.shaped at h1
      have h2:PyData.canLay0 (pairD val e0.1) = true:=by
        rw [Bool.and_eq_true] at h1
        exact h1.1
      have h3:PyData.eqvAll [markD e0.1,val e0.1] [markD e0.1,val e0.1] = true:=SeqAt.eqvAll_refl _ h2
      have h4:PyData.eqv (val e0.1) (val e0.1) = true:=by
        have h3:(PyData.eqv (markD e0.1) (markD e0.1) && (PyData.eqv (val e0.1) (val e0.1) && true)) = true:=h3
        rw [Bool.and_eq_true,Bool.and_eq_true] at h3
        exact h3.2.1
      show (if PyData.eqv (val e0.1) (val e0.1) = true then ltDs [] [] else _) = _
      rw [if_pos h4]
      unfold ltDs
      rfl
    · rw [if_neg (by rw [decide_eq_false e]; exact Bool.false_ne_true)]
      exact markD_lt a b
  fst:=fun a _=>⟨_,_,rfl,⟨_,rfl⟩⟩
  shp:=by
    intro a ha
    obtain ⟨e0,he0,rfl⟩:=List.mem_map.mp ha
    exact hsh e0 he0
noncomputable def SortIQ (K:PySem.W.Frag) (H:Hp) (es:List Ent) (val:Mark→PyData) (Q:VK):Prop:=∀ (H':Hp) (l:Addr) (bs:List Mark) (ws:List V),Same H H'→(Plain H→Plain H')→H' l = none→bs.Perm (es.map (·.1))→bs.Pairwise (fun a b=>mLt a b = true)→DVs K H' (bs.map (pairD val)) ws→Q (.ref l) (upd H' l (.lst ws))
theorem Plain.layT {H:Hp} (p:Plain H):∀ (ts:List (Addr × List V)),Plain (layT H ts)
  | []=>p
  | t :: ts=>(Plain.layT p ts).tup
section
variable {X:Cx}
noncomputable def rSortI (P:Program) (w:World) (K:PySem.W.Frag):List V→Hp→VK→Prop:=fun xs H Q=>∃ (v a:Addr) (es:List Ent) (o:Obj) (val:Mark→PyData),xs = [.ref v]∧H v = some (viewO v a)∧H a = some (dO P w a es o)∧(∀ e ∈ es,SqT K H e.2.1 (mkV e.1))∧(∀ e ∈ es,DV K H (val e.1) e.2.2) ∧
  (∀ e ∈ es,SeqAt.shaped (pairD val e.1) = true)∧(es.map (·.1)).Nodup∧es.length < 64∧SortIQ K H es val Q
theorem call_sortedI (hc:X.calm = true) (hu:X.A.units + 100 < cLine):CallR X (.builtin "sorted") (rSortI X.prog X.w X.K):=by
  intro pins s σ H xs us Q I r h
  obtain ⟨v,a,es,o,val,rfl,hv,ha,hk,hd,hsh,nd,few,q⟩:=h
  obtain ⟨u,rfl,ru⟩:=vals1 r
  cases ru
  obtain ⟨hview,_,_⟩:=I.hok v _ hv
  obtain ⟨h1,_,_,ds,ep,rs,RR⟩:=I.raw ha
  refine sorted_shell (collect_items (I.ok.hd hc) hview ⟨o,h1,RR.cl,RR.dat⟩ (by rw [RR.size,sizeLine_eq]; omega) fun h' tk as kp hal hG => ?_)
  rw [RR.size] at hal
  have hts:∀ t ∈ List.zipWith (fun a (e:Ent)=>(a,[V.ref e.2.1,e.2.2])) as es,s.heap.objs.size ≤ t.1∧ObjOk X.prog X.w H h' t.1 (.tup t.2):=by
    intro t ht
    obtain ⟨j,hj⟩:=List.getElem?_of_mem ht
    rw [List.getElem?_zipWith] at hj
    cases ea:as[j]? with
    | none=>rw [ea] at hj; cases hj
    | some aj =>
      cases ee:es[j]? with
      | none=>rw [ea,ee] at hj; cases hj
      | some e =>
        rw [ea,ee] at hj
        cases hj
        obtain ⟨q1,u,q2,q3⟩:=hG.at_ j aj ea
        obtain ⟨u',x,q4,q5,q6,q7⟩:=RR.at_ ee
        rw [q4] at q2
        cases q2
        refine ⟨q1,by show 2 ≤ sizeLine; decide,[.ref e.2.1,x],.cons rfl (.cons q7 .nil),⟨_,q3,rfl,0, ?_⟩⟩
        rw [q5,q6]
        rfl
  have I1:=I.laidAll (t':=tk) kp hts
  have sm:Same H (layT H (List.zipWith (fun a (e:Ent)=>(a,[V.ref e.2.1,e.2.2])) as es)):=fun b z e=>by
    rw [layT_ne fun t ht=>Nat.ne_of_lt (Nat.lt_of_lt_of_le (I.hok.lt e) (hts t ht).1)]; exact e
  have hnd:((List.zipWith (fun a (e:Ent)=>(a,[V.ref e.2.1,e.2.2])) as es).map (·.1)).Nodup:=by
    have:(List.zipWith (fun a (e:Ent)=>(a,[V.ref e.2.1,e.2.2])) as es).map (·.1) = as:=by
      rw [List.map_zipWith]
      exact List.ext_getElem? fun j=>by
        rw [List.getElem?_zipWith]
        cases ea:as[j]? with
        | none=>rfl
        | some aj =>
          cases ee:es[j]? with
          | none =>
            have h1:=(List.getElem?_eq_some_iff.mp ea).1
            have h2:=List.getElem?_eq_none_iff.mp ee
            omega
          | some e=>rfl
    rw [this]
    exact hG.nd
  have dvs:DVs X.K (layT H (List.zipWith (fun a (e:Ent)=>(a,[V.ref e.2.1,e.2.2])) as es)) ((es.map (·.1)).map (pairD val)) (as.map V.ref):=by
    have gen:∀ (as':List Addr) (es':List Ent),as'.length = es'.length→(∀ (j:Nat) aj e,as'[j]? = some aj→es'[j]? = some e→(aj,[V.ref e.2.1,e.2.2]) ∈ List.zipWith (fun a (e:Ent)=>(a,[V.ref e.2.1,e.2.2])) as es∧e ∈ es)→DVs X.K (layT H (List.zipWith (fun a (e:Ent)=>(a,[V.ref e.2.1,e.2.2])) as es)) ((es'.map (·.1)).map (pairD val)) (as'.map V.ref):=by
      intro as'
      induction as' with
      | nil =>
        intro es' hl hm
        cases es' with
        | nil=>rfl
        | cons e es'=>cases hl
      | cons a1 as' ih =>
        intro es' hl hm
        cases es' with
        | nil=>cases hl
        | cons e es' =>
          obtain ⟨m1,m2⟩:=hm 0 a1 e rfl rfl
          refine ⟨_,_,rfl,⟨a1,_,rfl,SqT.of (layT_in hnd m1),_,_,rfl,mkV_dv (sm.seqT (hk e m2)),_,_,rfl,DV.same sm _ _ (hd e m2),rfl⟩,ih es' (by simpa using hl) fun j aj e h1 h2=>hm (j + 1) aj e (by simpa using h1) (by simpa using h2)⟩
    refine gen as es hal fun j aj e h1 h2=>⟨List.mem_of_getElem? (i:=j) ?_,List.mem_of_getElem? h2⟩
    rw [List.getElem?_zipWith,h1,h2]
  have vals:Vals (as.map V.ref) (as.map Value.ref):=by
    clear hts I1 sm hnd dvs hal hG
    induction as with
    | nil=>exact .nil
    | cons a as ih=>exact .cons rfl ih
  exact sort_go (s:=s) (α:=Mark) (enc:=fun m=>[markD m,val m]) (lt:=mLt) hu (pair_srt hsh nd few) I1 vals dvs fun l bs ws hl pm pw hw=>q _ l bs ws sm (fun p=>Plain.layT p _) hl pm pw hw
theorem call_lenM:CallR X (.builtin "len") (fun xs H Q=>∃ a es o,xs = [.ref a]∧H a = some (dO X.prog X.w a es o)∧Q (.int es.length) H):=by
  intro pins s σ H xs us Q I r h
  obtain ⟨a,es,o,rfl,ha,q⟩:=h
  obtain ⟨u,rfl,ru⟩:=vals1 r
  cases ru
  obtain ⟨hT,_⟩:=I.isDict ha
  obtain ⟨h1,hb,hz,ds,ep,rs,RR⟩:=I.raw ha
  have hz':es.length ≤ 16777216:=by rw [← sizeLine_eq]; exact hz
  refine PyProof.Rows.call_len_slot (n:=(es.length:Int)) hT F.slot_dict_len (fun Q' q' => ?_) (by omega) (by omega) ⟨.int es.length,H,I.tok _,⟨_,rfl⟩,q⟩
  refine wpAny_call_entry F.slot_dict_len hT F.entry_dict_len ?_ (F.args_dict_len_1 _)
  unfold Builtin.«dict.__len__» Builtin.Dict.dictSlotNone
  unfold Builtin.Dict.pendingCount dictSize retInt
  refine wpAny_bind (wpAny_bind (wpAny_notOrdered_dict hT (wpAny_bind (wpAny_pure (wpAny_pure (wpAny_bind (wpAny_pure (wpAny_bind (wpAny_bind (wpAny_dictEntries h1 RR.dat (wpAny_pure ?_)))))))))))
  refine wpAny_bind (wpAny_of_eq (a:=0) (if_neg (by rw [hb]; exact Bool.false_ne_true)) (wpAny_bind (wpAny_mkInt (wpAny_pure ⟨_,rfl, ?_⟩))))
  rw [RR.size,show ((es.length:Nat):Int) + ((0:Nat):Int) = (es.length:Int) by omega]
  exact q'
end
end L2
namespace L2
open PySem PySem.Spec PyProof.Rows PySem.NumText
noncomputable abbrev Sh:=List (Mark × Ver)
noncomputable def prD (m:Mark × Ver):PyData := .tuple [markD m.1,ver m.2]
noncomputable def look:Sh→Mark→Option Ver
  | [],_=>none
  | m :: ms,k=>if m.1 = k then some m.2 else look ms k
noncomputable def EnS (K:PySem.W.Frag) (H:Hp):List Ent→Sh→Prop:=Paired fun (e:Ent) (m:Mark × Ver)=>e.1 = m.1∧SqT K H e.2.1 (mkV m.1)∧DV K H (ver m.2) e.2.2
structure ShAt (P:Program) (w:World) (K:PySem.W.Frag) (C:Addr) (H:Hp) (p:Addr) (ms:Sh):Prop where
  ex:∃ dx d es o,H p = some (.ins C dx [("versions",.ref d)])∧H d = some (dO P w d es o)∧EnS K H es ms
  nd:(ms.map (·.1)).Nodup
  ok:∀ m ∈ ms,okV m.2
  few:ms.length < 64
theorem EnS.imp {K:PySem.W.Frag} {H H':Hp} {es:List Ent} {ms:Sh} (h:EnS K H es ms) (f:∀ (q:Addr) m,SqT K H q (mkV m)→SqT K H' q (mkV m)) (g:∀ v x,DV K H (ver v) x→DV K H' (ver v) x):EnS K H' es ms :=
  Paired.mapP h fun e m ⟨h1,h2,h3⟩=>⟨h1,f _ _ h2,g _ _ h3⟩
theorem ShAt.same {P:Program} {w:World} {K:PySem.W.Frag} {C:Addr} {H H':Hp} {p:Addr} {ms:Sh} (h:ShAt P w K C H p ms) (s:Same H H'):ShAt P w K C H' p ms:=by
  obtain ⟨dx,d,es,o,h1,h2,h3⟩:=h.ex
  exact ⟨⟨dx,d,es,o,s _ _ h1,s _ _ h2,h3.imp (fun _ _ q=>s.seqT q) fun _ _ q=>DV.same s _ _ q⟩,h.nd,h.ok,h.few⟩
theorem seqT_mono {K:PySem.W.Frag} {H H':Hp} {D a:Addr} {xs:List V} (k:∀ b o,b ≠ D→H b = some o→H' b = some o) (hd:∃ zs,H D = some (.lst zs)) (h:SqT K H a xs):SqT K H' a xs:=by
  obtain ⟨zs,hz⟩:=hd
  rcases h with h | h
  · rcases h with h | ⟨o,h⟩
    · exact .inl (.inl (k _ _ (ne_of h hz (by intro z; cases z)) h))
    · exact .inl (.inr ⟨o,k _ _ (ne_of h hz (by intro z; cases z)) h⟩)
  · exact .inr h
theorem noL_ver (v:Ver):noL (ver v) = true:=noL_vdat (some v)
theorem ShAt.mono {P:Program} {w:World} {K:PySem.W.Frag} {C:Addr} {H H':Hp} {p D:Addr} {ms:Sh} (h:ShAt P w K C H p ms) (k:∀ b o,b ≠ D→H b = some o→H' b = some o) (hd:∃ zs,H D = some (.lst zs)):ShAt P w K C H' p ms:=by
  obtain ⟨dx,d,es,o,h1,h2,h3⟩:=h.ex
  obtain ⟨zs,hz⟩:=id hd
  exact ⟨⟨dx,d,es,o,k _ _ (ne_of h1 hz (by intro z; cases z)) h1,k _ _ (ne_of h2 hz (by intro z; cases z)) h2,h3.imp (fun _ _ q=>seqT_mono k hd q) fun v x q=>DV.mono k hd _ _ (noL_ver v) q⟩,h.nd,h.ok,h.few⟩
theorem look_find {K:PySem.W.Frag} {H:Hp}:∀ {es:List Ent} {ms:Sh},EnS K H es ms→∀ m,DV K H (vdat (look ms m)) ((findM es m).getD .non)
  | _,_,.nil,m=>rfl
  | e :: es,n :: ms,.cons a b,m=>by
    unfold findM look
    by_cases h:e.1 = m
    · rw [if_pos h,if_pos (a.1 ▸ h)]
      exact a.2.2
    · rw [if_neg h,if_neg (a.1 ▸ h)]
      exact look_find b m
theorem look_in {ms:Sh} (nd:(ms.map (·.1)).Nodup):∀ {m:Mark × Ver},m ∈ ms→look ms m.1 = some m.2:=by
  induction ms with
  | nil=>intro m h; cases h
  | cons a ms ih =>
    intro m h
    have hn:=List.nodup_cons.mp nd
    unfold look
    rcases List.mem_cons.mp h with rfl | h
    · rw [if_pos rfl]
    · rw [if_neg (fun z=>hn.1 (by show a.1 ∈ _; rw [z]; exact List.mem_map_of_mem (f:=(·.1)) h))]
      exact ih hn.2 h
theorem find_none:∀ {es:List Ent} {m:Mark},m ∉ es.map (·.1)→findM es m = none
  | [],_,_=>rfl
  | e :: es,m,h=>by
    unfold findM
    rw [if_neg (fun z=>h (by rw [← z]; exact List.mem_cons_self))]
    exact find_none fun z=>h (List.mem_cons_of_mem _ z)
theorem find_some:∀ {es:List Ent} {m:Mark},m ∈ es.map (·.1)→(findM es m).isSome = true
  | e :: es,m,h=>by
    unfold findM
    by_cases z:e.1 = m
    · rw [if_pos z]; rfl
    · rw [if_neg z]
      rcases List.mem_cons.mp h with q | q
      · exact absurd q.symm z
      · exact find_some q
theorem putAll_new:∀ (ps:List Ent) (es:List Ent),((es ++ ps).map (·.1)).Nodup→putAll es ps = es ++ ps
  | [],es,_=>by rw [List.append_nil]; rfl
  | p :: ps,es,h=>by
    have hm:p.1 ∉ es.map (·.1):=by
      rw [List.map_append,List.map_cons] at h
      intro z
      exact (List.nodup_append.mp h).2.2 _ z _ List.mem_cons_self rfl
    show putAll (putM es p.1 p.2.1 p.2.2) ps = es ++ p :: ps
    have e:putM es p.1 p.2.1 p.2.2 = es ++ [p]:=by
      unfold putM
      rw [find_none hm]
      rfl
    rw [e,putAll_new ps (es ++ [p]) (by rw [List.append_assoc]; exact h),List.append_assoc]
    rfl
theorem putM_marks (es:List Ent) (m:Mark) (q:Addr) (v:V):(putM es m q v).map (·.1) = if (findM es m).isSome then es.map (·.1) else es.map (·.1) ++ [m]:=by
  unfold putM
  by_cases h:(findM es m).isSome = true
  · rw [if_pos h,if_pos h,List.map_map]
    refine List.map_congr_left fun e _ => ?_
    show (if e.1 = m then (e.1,e.2.1,v) else e).1 = e.1
    split <;> rfl
  · rw [if_neg h,if_neg h,List.map_append]
    rfl
theorem putAll_less:∀ (ps:List Ent) (es:List Ent),(es.map (·.1)).Nodup→¬ ((es ++ ps).map (·.1)).Nodup→(putAll es ps).length < es.length + ps.length
  | [],es,h1,h2=>absurd (by rw [List.append_nil]; exact h1) h2
  | p :: ps,es,h1,h2=>by
    show (putAll (putM es p.1 p.2.1 p.2.2) ps).length < es.length + (ps.length + 1)
    by_cases hm:p.1 ∈ es.map (·.1)
    · have hl:(putM es p.1 p.2.1 p.2.2).length = es.length:=by
        unfold putM
        rw [if_pos (find_some hm),List.length_map]
      have:=putAll_len ps (putM es p.1 p.2.1 p.2.2)
      omega
    · have e:putM es p.1 p.2.1 p.2.2 = es ++ [p]:=by
        unfold putM
        rw [find_none hm]
        rfl
      rw [e]
      have:=putAll_less ps (es ++ [p]) (by
        rw [List.map_append]
        exact List.nodup_append.mpr ⟨h1,List.nodup_cons.mpr ⟨by simp,List.nodup_nil⟩,fun x hx y hy z=>hm ((show x = p.1 from z.trans (List.mem_singleton.mp hy)) ▸ hx)⟩) (by rw [List.append_assoc]; exact h2)
      rw [List.length_append,List.length_cons,List.length_nil] at this
      omega
theorem pairs_of {K:PySem.W.Frag} {H:Hp}:∀ {ms:Sh} {vs:List V},DVs K H (ms.map prD) vs→∃ ps:List Ent,PairsL K H ps vs∧EnS K H ps ms
  | [],vs,h=>by cases (show vs = [] from h); exact ⟨[],.nil,.nil⟩
  | m :: ms,vs,h=>by
    obtain ⟨v,r,rfl,hv,hr⟩:=h
    obtain ⟨ps,h1,h2⟩:=pairs_of hr
    obtain ⟨t,xs,rfl,ht,x1,r1,rfl,e1,x2,r2,rfl,e2,e3⟩:=hv
    cases (show r2 = [] from e3)
    obtain ⟨q,rfl,hq⟩:=mark_of e1
    exact ⟨(m.1,q,x2) :: ps,.cons ⟨t,rfl,ht,hq⟩ h1,.cons ⟨rfl,hq,e2⟩ h2⟩
theorem ens_marks {K:PySem.W.Frag} {H:Hp}:∀ {es:List Ent} {ms:Sh},EnS K H es ms→es.map (·.1) = ms.map (·.1)
  | _,_,.nil=>rfl
  | _,_,.cons a b=>by rw [List.map_cons,List.map_cons,a.1,ens_marks b]
theorem ens_val {K:PySem.W.Frag} {H:Hp}:∀ {es:List Ent} {ms:Sh},EnS K H es ms→∀ e ∈ es,SqT K H e.2.1 (mkV e.1)∧∃ v,(e.1,v) ∈ ms∧DV K H (ver v) e.2.2
  | _,_,.nil,e,h=>nomatch h
  | _,m :: _,.cons a b,e,h=>by
    rcases List.mem_cons.mp h with rfl | h
    · exact ⟨by rw [a.1]; exact a.2.1,m.2,by rw [a.1]; exact List.mem_cons_self,a.2.2⟩
    · obtain ⟨h1,v,h2,h3⟩:=ens_val b e h
      exact ⟨h1,v,List.mem_cons_of_mem _ h2,h3⟩
theorem prD_shaped {m:Mark × Ver} (h:okV m.2):SeqAt.shaped (prD m) = true:=by
  unfold SeqAt.shaped
  have h1:PyData.canLay0 (prD m) = true:=by
    show ((true && (true && true)) && ((true && (PyData.canLay0 (plc m.2.2.1) && (PyData.strOk m.2.2.2 && true))) && true)) = true
    rw [plc_lay,show PyData.strOk m.2.2.2 = true from h]
    rfl
  rw [h1,Bool.true_and]
  refine decide_eq_true ?_
  have h2:PyData.depth (prD m) = max 1 (max (max 0 (max (PyData.depthAll (m.2.2.1.map stp) + 1) (max 0 0)) + 1) 0) + 1:=rfl
  have:=depth_stps m.2.2.1
  rw [h2]
  omega
noncomputable def toSh (ms:Sh) (bs:List Mark):Sh:=bs.map fun m=>(m,(look ms m).getD (0,[], ""))
theorem toSh_self {ms:Sh} (nd:(ms.map (·.1)).Nodup):toSh ms (ms.map (·.1)) = ms:=by
  unfold toSh
  rw [List.map_map]
  have:∀ m ∈ ms,((fun m=>(m,(look ms m).getD (0,[], ""))) ∘ (·.1)) m = m:=fun m hm=>by
    show (m.1,(look ms m.1).getD (0,[], "")) = m
    rw [look_in nd hm]
    rfl
  conv=>rhs; rw [← List.map_id ms]
  exact List.map_congr_left this
theorem toSh_perm {ms:Sh} (nd:(ms.map (·.1)).Nodup) {bs:List Mark} (h:bs.Perm (ms.map (·.1))):(toSh ms bs).Perm ms:=by
  have:=h.map (fun m=>(m,(look ms m).getD (0,[], "")))
  rw [show (ms.map (·.1)).map (fun m=>(m,(look ms m).getD (0,[], ""))) = ms from toSh_self nd] at this
  exact this
theorem toSh_map {ms:Sh} (nd:(ms.map (·.1)).Nodup) {bs:List Mark} (h:bs.Perm (ms.map (·.1))):bs.map (pairD fun m=>vdat (look ms m)) = (toSh ms bs).map prD:=by
  unfold toSh
  rw [List.map_map]
  refine List.map_congr_left fun m hm => ?_
  obtain ⟨x,hx,rfl⟩:=List.mem_map.mp (h.mem_iff.mp hm)
  show pairD (fun m=>vdat (look ms m)) x.1 = prD (x.1,(look ms x.1).getD (0,[], ""))
  show PyData.tuple [markD x.1,vdat (look ms x.1)] = _
  rw [look_in nd hx]
  rfl
theorem toSh_pw {ms:Sh} {bs:List Mark} (h:bs.Pairwise fun a b=>mLt a b = true):(toSh ms bs).Pairwise fun a b=>mLt a.1 b.1 = true:=List.pairwise_map.mpr h
end L2
namespace L2
open PySem PySem.Spec PyProof.Rows PySem.NumText
theorem paired_dvs {K:PySem.W.Frag} {H:Hp} {α:Type} {f:α→PyData}:∀ {xs:List α} {ys:List V},Paired (fun x y=>DV K H (f x) y) xs ys→DVs K H (xs.map f) ys
  | _,_,.nil=>rfl
  | _,_,.cons a b=>⟨_,_,rfl,a,paired_dvs b⟩
end L2
namespace L2
open PySem PySem.Spec PyProof.Rows PySem.NumText
section
variable {X:Cx}
theorem fm_all {α β:Type} {f:α→Option β} {g:α→β}:∀ {l:List α},(∀ x ∈ l,f x = some (g x))→l.filterMap f = l.map g
  | [],_=>rfl
  | x :: l,h=>by
    rw [List.filterMap_cons,h x List.mem_cons_self,List.map_cons,fm_all fun y hy=>h y (List.mem_cons_of_mem _ hy)]
end
noncomputable def NoTup (o:HO):Prop:=(∀ xs,o ≠ .tup xs)∧∀ ob u,o ≠ .frz ob u
theorem sqT_other {K:PySem.W.Frag} {H:Hp} {p:Addr} {o o':HO} {a:Addr} {xs:List V} (hp:H p = some o) (n:NoTup o) (h:SqT K H a xs):SqT K (upd H p o') a xs:=by
  rcases h with (h | ⟨ob,h⟩) | h
  · exact .inl (.inl (by rw [upd_ne (ne_of h hp fun z=>n.1 _ z.symm)]; exact h))
  · exact .inl (.inr ⟨ob,by rw [upd_ne (ne_of h hp fun z=>n.2 _ _ z.symm)]; exact h⟩)
  · exact .inr h
mutual
theorem dv_other {K:PySem.W.Frag} {H:Hp} {p:Addr} {o o':HO} (hp:H p = some o) (n:NoTup o):∀ (d:PyData) (v:V),noL d = true→DV K H d v→DV K (upd H p o') d v
  | .none,v,_,h=>h
  | .bool b,v,_,h=>h
  | .int i,v,_,h=>h
  | .str x,v,_,h=>h
  | .list xs,v,n',_=>by cases n'
  | .tuple xs,v,n',⟨a,vs,h1,h2,h3⟩=>⟨a,vs,h1,sqT_other hp n h2,dvs_other hp n xs vs n' h3⟩
  | .dict _,v,_,h=>h.elim
theorem dvs_other {K:PySem.W.Frag} {H:Hp} {p:Addr} {o o':HO} (hp:H p = some o) (n:NoTup o):∀ (ds:List PyData) (vs:List V),noLs ds = true→DVs K H ds vs→DVs K (upd H p o') ds vs
  | [],vs,_,h=>h
  | d :: ds,vs,n',⟨v,r,h1,h2,h3⟩=>by
    have n':noL d = true∧noLs ds = true:=by rw [noLs,Bool.and_eq_true] at n'; exact n'
    exact ⟨v,r,h1,dv_other hp n d v n'.1 h2,dvs_other hp n ds r n'.2 h3⟩
end
theorem noT_lst (xs:List V):NoTup (.lst xs):=⟨fun _ z=>(by cases z),fun _ _ z=>(by cases z)⟩
theorem noT_ext (φ:Heap→Prop):NoTup (.ext φ):=⟨fun _ z=>(by cases z),fun _ _ z=>(by cases z)⟩
theorem noLs_pr:∀ ms:Sh,noLs (ms.map prD) = true
  | []=>rfl
  | m :: ms=>by
    show (noL (prD m) && noLs (ms.map prD)) = true
    rw [noLs_pr ms,show noL (prD m) = true by show (noL (markD m.1) && (noL (ver m.2) && true)) = true; rw [noL_ver]; rfl]
    rfl
end L2
namespace L2
open PySem PySem.Spec PyProof.Rows PySem.NumText
noncomputable def Rc (mask:Nat) (o:Array (Option Nat)) (h:Int) (j:Nat):Prop:=∃ N,(path (tm mask) N ((tm mask).probeStart h)).j = j∧∀ i,i < N→own o (path (tm mask) i ((tm mask).probeStart h)).j ≠ none
theorem own_set {o:Array (Option Nat)} {j k x:Nat} (hj:j < o.size):own (o.setIfInBounds j (some k)) x = if x = j then some k else own o x:=by
  show (o.setIfInBounds j (some k)).getD x none = _
  rw [Array.getD_eq_getD_getElem?]
  by_cases h:x = j
  · subst h
    rw [if_pos rfl,Array.getElem?_setIfInBounds_self_of_lt hj]
    rfl
  · rw [if_neg h,Array.getElem?_setIfInBounds_ne (fun e=>h e.symm)]
    show _ = o.getD x none
    rw [Array.getD_eq_getD_getElem?]
theorem lay_foldW {mask:Nat} (c:covers (mask + 1) = true):∀ (hs:List Int) (pre:List Int) (o:Array (Option Nat)) (n:Nat),o.size = mask + 1→((lives (mask + 1) o).map (·.2)).Perm (List.range n)→n + hs.length ≤ mask→pre.length = n→(∀ j k,own o j = some k→∃ h,pre[k]? = some h∧Rc mask o h j) →
    ∃ o',hs.foldl (fun (acc:Option (Array (Option Nat) × Nat)) h=>do
      let (owner,k) ← acc
      let j ← SetTable.layClean.free mask owner (SetTable.turns mask) (SetTable.bits h % (mask + 1)) (SetTable.bits h)
      pure (owner.setIfInBounds j (some k),k + 1)) (some (o,n)) = some (o',n + hs.length)∧o'.size = mask + 1∧((lives (mask + 1) o').map (·.2)).Perm (List.range (n + hs.length))∧(∀ j k,own o' j = some k→∃ h,(pre ++ hs)[k]? = some h∧Rc mask o' h j):=by
  intro hs
  induction hs with
  | nil=>intro pre o n h1 h2 _ _ h5; exact ⟨o,rfl,h1,h2,by rw [List.append_nil]; exact h5⟩
  | cons h hs ih =>
    intro pre o n h1 h2 h3 h4 h5
    rw [List.length_cons] at h3
    obtain ⟨j0,hj0,he0⟩:=some_free h2 (by omega)
    have hb:SetTable.bits h < 2 ^ 64:=by
      unfold SetTable.bits
      have:=Int.emod_nonneg h (show (2 ^ 64:Int) ≠ 0 by decide)
      have:=Int.emod_lt_of_pos h (show (0:Int) < 2 ^ 64 by decide)
      omega
    obtain ⟨k,hk,e⟩:=all_starts c (Nat.mod_lt (SetTable.bits h) (Nat.succ_pos mask)) hb hj0
    obtain ⟨j,ej,hj,hje⟩:=free_some h1 hj0 he0 k (SetTable.turns mask) _ _ (by unfold SetTable.turns; omega) (Nat.mod_lt (SetTable.bits h) (Nat.succ_pos mask)) e
    obtain ⟨N,n1,n2⟩:=free_path h1 _ _ _ j ((tm mask).probeStart h) (Nat.mod_lt (SetTable.bits h) (Nat.succ_pos mask)) rfl rfl rfl rfl ej
    have hp:=lives_set (k:=n) h1 hj hje
    have grow:∀ x,own o x ≠ none→own (o.setIfInBounds j (some n)) x ≠ none:=fun x hx=>by
      rw [own_set (by omega)]
      by_cases hxj:x = j
      · rw [if_pos hxj]; exact fun z=>by cases z
      · rw [if_neg hxj]; exact hx
    obtain ⟨o',e1,e2,e3,e4⟩:=ih (pre ++ [h]) (o.setIfInBounds j (some n)) (n + 1) (by rw [Array.size_setIfInBounds]; exact h1) (by
      refine (hp.map _).trans ?_
      rw [List.map_cons,List.range_succ]
      exact ((List.Perm.cons n h2).trans (List.perm_append_singleton n (List.range n)).symm)) (by omega) (by rw [List.length_append,List.length_singleton,h4]) (fun x k hx=>by
      rw [own_set (by omega)] at hx
      by_cases hxj:x = j
      · rw [if_pos hxj] at hx
        cases hx
        exact ⟨h,by rw [← h4,List.getElem?_concat_length],N,by rw [hxj]; exact n1,fun i hi=>grow _ (n2 i hi)⟩
      · rw [if_neg hxj] at hx
        obtain ⟨h',q1,M,q2,q3⟩:=h5 x k hx
        have hkl:=(List.getElem?_eq_some_iff.mp q1).1
        exact ⟨h',by rw [List.getElem?_append_left hkl]; exact q1,M,q2,fun i hi=>grow _ (q3 i hi)⟩)
    refine ⟨o', ?_,e2,by rw [List.length_cons,show n + (hs.length + 1) = n + 1 + hs.length by omega]; exact e3,by rw [show pre ++ h :: hs = pre ++ [h] ++ hs by simp]; exact e4⟩
    rw [List.foldl_cons,List.length_cons,show n + (hs.length + 1) = n + 1 + hs.length by omega, ← e1]
    congr 1
    show (SetTable.layClean.free mask o (SetTable.turns mask) (SetTable.bits h % (mask + 1)) (SetTable.bits h)).bind _ = _
    rw [ej]
    rfl
theorem lay_cleanW {mask:Nat} (c:covers (mask + 1) = true) (hs:Array Int) (h:hs.size ≤ mask):∃ o,SetTable.layClean mask hs = some o∧o.size = mask + 1∧((lives (mask + 1) o).map (·.2)).Perm (List.range hs.size)∧(∀ j k,own o j = some k→∃ h,hs[k]? = some h∧Rc mask o h j):=by
  have hn:∀ j,own (Array.replicate (mask + 1) none) j = none:=fun j=>by
    show (Array.replicate (mask + 1) (none:Option Nat)).getD j none = none
    rw [Array.getD_eq_getD_getElem?,Array.getElem?_replicate]
    split <;> rfl
  have h0:lives (mask + 1) (Array.replicate (mask + 1) none) = []:=by
    unfold lives
    refine List.filterMap_eq_nil_iff.mpr fun j hj => ?_
    rw [hn]
    rfl
  obtain ⟨o,e1,e2,e3,e4⟩:=lay_foldW c hs.toList [] (Array.replicate (mask + 1) none) 0 (by simp) (by rw [h0]; exact .nil) (by simpa using h) rfl (fun j k e=>by rw [hn] at e; cases e)
  refine ⟨o, ?_,e2,by simpa using e3,fun j k e => ?_⟩
  · unfold SetTable.layClean
    rw [← Array.foldl_toList]
    exact congrArg (Option.map (·.1)) e1
  · obtain ⟨h',q1,q2⟩:=e4 j k e
    exact ⟨h',by rw [List.nil_append,Array.getElem?_toList] at q1; exact q1,q2⟩
theorem lives_fst (M:Nat) (o:Array (Option Nat)):(lives M o).map (·.1) = (List.range M).filter fun j=>(own o j).isSome:=by
  unfold lives
  induction List.range M with
  | nil=>rfl
  | cons j l ih =>
    cases e:own o j with
    | none=>rw [List.filterMap_cons_none (by rw [e]; rfl),List.filter_cons_of_neg (by rw [e]; decide)]; exact ih
    | some k=>rw [List.filterMap_cons_some (by rw [e]; rfl),List.map_cons,List.filter_cons_of_pos (by rw [e]; rfl),ih]
theorem lives_mem {M:Nat} {o:Array (Option Nat)} {j k:Nat} (h:(j,k) ∈ lives M o):own o j = some k:=by
  obtain ⟨x,_,hx⟩:=List.mem_filterMap.mp h
  cases e:own o x with
  | none=>rw [e] at hx; cases hx
  | some v=>rw [e] at hx; cases hx; exact e
theorem laid_okW {mask finger moves:Nat} {led plain:Bool} (c:covers (mask + 1) = true) (es:Array (Int × Value)) (h:es.size ≤ mask):∃ pl order,SetTable.laid mask finger moves led plain (es.map (·.1)) = some ({ mask,place:=pl,dummies := #[],finger,led,moves,plain },order)∧pl.size = es.size∧(order.filterMap (es[·]?)).toList.Perm es.toList∧∀ t:ST,t.mask = mask→t.place = pl→Wp t (order.filterMap (es[·]?)):=by
  obtain ⟨o,e1,e2,e3,e4⟩:=lay_cleanW c (es.map (·.1)) (by simpa using h)
  have e3:((lives (mask + 1) o).map (·.2)).Perm (List.range es.size):=by simpa using e3
  refine ⟨((lives (mask + 1) o).map (·.1)).toArray,((lives (mask + 1) o).map (·.2)).toArray, ?_, ?_, ?_,fun t hm hp => ?_⟩
  · unfold SetTable.laid
    rw [e1]
    rfl
  · have:=e3.length_eq
    rw [List.length_map,List.length_range] at this
    simpa using this
  · rw [Array.toList_filterMap]
    refine (e3.filterMap _).trans ?_
    have:(List.range es.size).filterMap (fun x=>es[x]?) = es.toList:=by
      have go:∀ (l:List (Int × Value)),(List.range l.length).filterMap (fun x=>l[x]?) = l:=by
        intro l
        induction l with
        | nil=>rfl
        | cons a l ih =>
          rw [List.length_cons,List.range_succ_eq_map,List.filterMap_cons]
          show a :: List.filterMap _ (List.map Nat.succ (List.range l.length)) = a :: l
          rw [List.filterMap_map]
          exact congrArg (a :: ·) ih
      have:=go es.toList
      simpa using this
    rw [this]
  · have hk:∀ p ∈ lives (mask + 1) o,p.2 < es.size:=fun p hp'=>List.mem_range.mp (e3.mem_iff.mp (List.mem_map_of_mem hp'))
    have hes:(((lives (mask + 1) o).map (·.2)).toArray.filterMap (es[·]?)).toList = (lives (mask + 1) o).map fun p=>es.getD p.2 (0,.none):=by
      rw [Array.toList_filterMap,List.filterMap_map]
      refine fm_all fun p hp' => ?_
      show es[p.2]? = some (es.getD p.2 (0,.none))
      rw [Array.getD_eq_getD_getElem?,Array.getElem?_eq_getElem (hk p hp')]
      rfl
    have srt:((lives (mask + 1) o).map (·.1)).Pairwise (· < ·):=by
      rw [lives_fst]
      exact List.Pairwise.filter _ List.pairwise_lt_range
    refine ⟨?_,fun i j e h1 h2 => ?_⟩
    · rw [hp]
      intro a b u v hab ea eb
      rw [List.getElem?_toArray] at ea eb
      obtain ⟨ha,ea⟩:=List.getElem?_eq_some_iff.mp ea
      obtain ⟨hb,eb⟩:=List.getElem?_eq_some_iff.mp eb
      rw [← ea, ← eb]
      exact List.pairwise_iff_getElem.mp srt a b ha hb hab
    · rw [hp,List.getElem?_toArray,List.getElem?_map] at h1
      rw [← Array.getElem?_toList,hes,List.getElem?_map] at h2
      cases hL:(lives (mask + 1) o)[i]? with
      | none=>rw [hL] at h1; cases h1
      | some p =>
        rw [hL] at h1 h2
        cases h1
        cases h2
        have hm':=List.mem_of_getElem? hL
        obtain ⟨h',q1,N,q2,q3⟩:=e4 p.1 p.2 (lives_mem hm')
        have eh:h' = (es.getD p.2 (0,.none)).1:=by
          rw [Array.getElem?_map,Array.getElem?_eq_getElem (hk p hm')] at q1
          cases q1
          rw [Array.getD_eq_getD_getElem?,Array.getElem?_eq_getElem (hk p hm')]
          rfl
        refine ⟨N, ?_,fun k hk' => ?_⟩
        · rw [path_mask (t':=tm mask) hm,start_mask (t':=tm mask) hm, ← eh]; exact q2
        · rw [path_mask (t':=tm mask) hm,start_mask (t':=tm mask) hm, ← eh]
          have q4:=q3 k hk'
          generalize (path (tm mask) k ((tm mask).probeStart h')).j = x at q4
          have hx:x < mask + 1:=by
            refine Classical.byContradiction fun hc=>q4 ?_
            show o.getD x none = none
            rw [Array.getD_eq_getD_getElem?,Array.getElem?_eq_none (by omega)]
            rfl
          have hxm:x ∈ (lives (mask + 1) o).map (·.1):=by
            rw [lives_fst]
            refine List.mem_filter.mpr ⟨List.mem_range.mpr hx, ?_⟩
            cases e:own o x with
            | none=>exact absurd e q4
            | some v=>rfl
          obtain ⟨i',hi'⟩:=List.getElem?_of_mem hxm
          exact ⟨i',by rw [hp,List.getElem?_toArray]; exact hi'⟩
section
variable {prog:Program} {w:World} {A:Around} {E:Value→Shared→Prop} {s:Shared}
theorem search_newW {a:Addr} {o:Obj} {es:Array (Int × Value)} {ep:Nat} {t:ST} {x:Value} {dx:PyData} {h:Int} {Q:SetFound→Shared→Prop} (ho:s.heap.get? a = some o) (hd:o.data = .set es ep t) (hf:t.fits es.size = true) (f:Fit t)
    (hx:El s.heap x dx) (hes:∀ e ∈ es.toList,∃ d,El s.heap e.2 d∧PyData.eqv d dx = false) (hu:A.units + 10 < cLine) (b:Bool) (hQ:∀ N,t.slot (path t N (t.probeStart h)).j = .empty→(∀ k,k < N→∃ i:Nat,t.place[i]? = some (path t k (t.probeStart h)).j)→Q (.free (path t N (t.probeStart h)).j false) s):wpAny (model prog w) A (setSearch a x h b) Q E s:=by
  obtain ⟨s9,sp,sd⟩:=start_ok t h
  obtain ⟨N,hN,he,hl⟩:=search_ends f s9 sp
  have hmask:t.mask ≤ 511:=by rcases f.msk with e | e | e | e <;> omega
  have hN2:N < 10 * (511 + 15):=by
    unfold SetTable.turns at hN
    omega
  have hgw:t.gaveWay = false:=by
    unfold SetTable.gaveWay
    rcases f.msk with e | e | e | e <;> rw [e] <;> rfl
  have hpl:t.place.size = es.size:=by
    unfold SetTable.fits at hf
    rw [Bool.and_eq_true] at hf
    exact eq_of_beq hf.1
  obtain ⟨as,rx⟩:=hx.rd
  have from_:∀ (d m fuel:Nat),d = N - m→m ≤ N→d < fuel→∀ (stand:Option SetTable.Probe),stand.getD (t.probeStart h) = path t m (t.probeStart h)→wpAny (model prog w) A (setSearchFrom a x h b fuel stand) Q E s:=by
    intro d
    induction d using Nat.strongRecOn with
    | ind d ih =>
      intro m fuel hdm hm hfu stand hst
      cases fuel with
      | zero=>omega
      | succ fuel =>
        unfold setSearchFrom
        refine wpAny_bind (wpAny_setState_of ho hd hf ?_)
        dsimp only
        rw [hgw]
        simp only [Bool.false_eq_true,if_false]
        rw [hst]
        unfold SetTable.probe
        rcases go_spec (t:=t) (h:=h) sd he hl (N - m) m (10 * SetTable.turns t.mask) rfl hm (by omega) with ⟨k,i,k1,k2,k3,k4,k5⟩ | k5
        · rw [k5]
          dsimp only
          obtain ⟨i2,hi2,hpi⟩:=hl k k2
          rw [k3] at hi2
          cases hi2
          have hil:i < es.size:=by rw [← hpl]; exact (Array.getElem?_eq_some_iff.mp hpi).1
          have hei:es[i]? = some es[i]:=Array.getElem?_eq_getElem hil
          have hmem:es[i] ∈ es.toList:=by rw [← Array.getElem_toList hil]; exact List.getElem_mem _
          obtain ⟨dy,hy,hne⟩:=hes _ hmem
          obtain ⟨bs,ry⟩:=hy.rd
          have go2:wpAny (model prog w) A (do
              let some (_,y):=es[i]? | unsupported "internal:set-entry"
              let equal ← holding [y] (eqBool y x)
              let (es',_,t') ← setState a
              if b && equal then return .there none
              let some same:=t'.sameMemory t.moves t.mask | unsupported "set.changed-during-lookup:is-the-new-block-at-the-old-address"
              let still ← match (if same then t'.slot (path t k (t.probeStart h)).j else .empty) with
                | .live i'=>match es'[i']? with
                  | some (_,y')=>do pure (if ← isSame y' y then some i' else none)
                  | none=>pure none
                | _=>pure none
              match still with
              | none=>rule "set.search.anew"; setSearchFrom a x h b fuel none
              | some i'=>if equal then return .there (some i') else setSearchFrom a x h b fuel (some (path t (k + 1) (t.probeStart h)))) Q E s:=by
            rw [hei]
            dsimp only
            refine wpAny_bind (wpAny_holding (SeqAt.eqAt_reads dy dx A s _ _ bs as ry rx (lay_onlyI dy hy.oi) (lay_onlyI dx hx.oi) (by have:=hy.dp; have:min dy.depth dx.depth ≤ dy.depth:=Nat.min_le_left _ _; omega) prog w _ _ ?_))
            rw [hne]
            refine wpAny_bind (wpAny_setState_of ho hd hf ?_)
            dsimp only
            simp only [Bool.and_false,Bool.false_eq_true,if_false]
            have hsm:t.sameMemory t.moves t.mask = some true:=by unfold SetTable.sameMemory; rw [if_pos (beq_self_eq_true _)]
            rw [hsm]
            dsimp only
            simp only [if_true]
            rw [k3]
            dsimp only
            rw [hei]
            dsimp only
            obtain ⟨b,hb⟩:=hy.rf
            rw [hb]
            refine wpAny_bind (wpAny_isSame_ref_self (wpAny_bind (wpAny_pure ?_)))
            simp only [if_true]
            exact ih (N - (k + 1)) (by omega) (k + 1) fuel rfl (by omega) (by omega) (some _) rfl
          cases hled:t.led with
          | true =>
            simp only [Bool.not_true,Bool.false_eq_true,if_false]
            exact go2
          | false =>
            simp only [Bool.not_false,if_true]
            refine wpAny_bind (seen_no hx _ _ (fun y hy => ?_) ?_)
            · obtain ⟨e,he1,rfl⟩:=List.mem_map.mp hy
              have he2:e ∈ es.toList:=by
                have:=Array.mem_toList_iff.mp he1
                exact Array.mem_toList_iff.mpr (Array.mem_filter.mp this).1
              obtain ⟨d',hd',_⟩:=hes e he2
              exact ⟨d',hd'⟩
            · simp only [Bool.false_eq_true,if_false]
              exact go2
        · rw [k5]
          dsimp only
          exact wpAny_pure (hQ N he fun k hk=>let ⟨i,_,q⟩:=hl k hk; ⟨i,q⟩)
  unfold setSearch
  exact from_ N 0 100000 rfl (Nat.zero_le _) (by omega) none rfl
end
end L2
namespace L2
open PySem PySem.Spec PyProof.Rows PySem.NumText
theorem go_find {t:ST} {hashAt:Nat→Int} {h:Int} {p:SetTable.Probe} {n0 i0:Nat} (hs:t.slot (path t n0 p).j = .live i0) (hh:(hashAt i0 == h) = true) (hl:∀ k,k < n0→∃ i:Nat,t.slot (path t k p).j = .live i) :
    ∀ (d m fuel:Nat),d = n0 - m→m ≤ n0→d < fuel→∃ k i,m ≤ k∧k ≤ n0∧t.slot (path t k p).j = .live i∧SetTable.probe.go t hashAt h fuel (path t m p) = some (.candidate (path t k p).j i (path t (k + 1) p)):=by
  intro d
  induction d with
  | zero =>
    intro m fuel hdm hm hf
    have e:m = n0:=by omega
    subst e
    cases fuel with
    | zero=>omega
    | succ fuel =>
      refine ⟨m,i0,Nat.le_refl _,Nat.le_refl _,hs, ?_⟩
      unfold SetTable.probe.go
      rw [hs]
      dsimp only
      rw [if_pos hh,path_succ]
  | succ d ih =>
    intro m fuel hdm hm hf
    cases fuel with
    | zero=>omega
    | succ fuel =>
      obtain ⟨i,hi⟩:=hl m (by omega)
      by_cases hh:(hashAt i == h) = true
      · refine ⟨m,i,Nat.le_refl _,by omega,hi, ?_⟩
        unfold SetTable.probe.go
        rw [hi]
        dsimp only
        rw [if_pos hh,path_succ]
      · obtain ⟨k,i',h1,h2,h3,h4⟩:=ih (m + 1) fuel (by omega) (by omega) (by omega)
        refine ⟨k,i',by omega,h2,h3, ?_⟩
        unfold SetTable.probe.go
        rw [hi]
        dsimp only
        rw [if_neg hh, ← path_succ]
        exact h4
section
variable {prog:Program} {w:World} {A:Around} {E:Value→Shared→Prop} {s:Shared}
theorem search_oldW {a:Addr} {o:Obj} {es:Array (Int × Value)} {ep:Nat} {t:ST} {x:Value} {dx:PyData} {h:Int} {Q:SetFound→Shared→Prop} (ho:s.heap.get? a = some o) (hd:o.data = .set es ep t) (hf:t.fits es.size = true) (f:Fit t)
    (hx:El s.heap x dx) (dat:Nat→PyData) (hes:∀ (i:Nat) e,es[i]? = some e→El s.heap e.2 (dat i)) {i0 n0:Nat} {y0:Value} (hi0:es[i0]? = some (h,y0)) (hd0:PyData.eqv (dat i0) dx = true) (hs0:t.slot (path t n0 (t.probeStart h)).j = .live i0) (hl0:∀ k,k < n0→∃ i:Nat,t.slot (path t k (t.probeStart h)).j = .live i)
    (hu:A.units + 10 < cLine) (b:Bool) (hQ:∀ r:Option Nat,(b = false→r.isSome = true)→Q (.there r) s):wpAny (model prog w) A (setSearch a x h b) Q E s:=by
  obtain ⟨s9,sp,sd⟩:=start_ok t h
  obtain ⟨N,hN,he,hl⟩:=search_ends f s9 sp
  have hmask:t.mask ≤ 511:=by rcases f.msk with e | e | e | e <;> omega
  have hN2:N < 10 * (511 + 15):=by
    unfold SetTable.turns at hN
    omega
  have hn0:n0 < N:=by
    refine Classical.byContradiction fun hc => ?_
    rcases Nat.lt_or_eq_of_le (Nat.le_of_not_lt hc) with hlt | heq
    · obtain ⟨i,hi⟩:=hl0 N hlt
      rw [he] at hi
      cases hi
    · rw [heq,hs0] at he
      cases he
  have hgw:t.gaveWay = false:=by
    unfold SetTable.gaveWay
    rcases f.msk with e | e | e | e <;> rw [e] <;> rfl
  have hpl:t.place.size = es.size:=by
    unfold SetTable.fits at hf
    rw [Bool.and_eq_true] at hf
    exact eq_of_beq hf.1
  obtain ⟨as,rx⟩:=hx.rd
  have from_:∀ (d m fuel:Nat),d = n0 - m→m ≤ n0→d < fuel→∀ (stand:Option SetTable.Probe),stand.getD (t.probeStart h) = path t m (t.probeStart h)→wpAny (model prog w) A (setSearchFrom a x h b fuel stand) Q E s:=by
    intro d
    induction d using Nat.strongRecOn with
    | ind d ih =>
      intro m fuel hdm hm hfu stand hst
      cases fuel with
      | zero=>omega
      | succ fuel =>
        unfold setSearchFrom
        refine wpAny_bind (wpAny_setState_of ho hd hf ?_)
        dsimp only
        rw [hgw]
        simp only [Bool.false_eq_true,if_false]
        rw [hst]
        unfold SetTable.probe
        obtain ⟨k,i,k1,k2,k3,k5⟩:=go_find (t:=t) (h:=h) (hashAt:=fun i=>(Option.map (fun (x:Int × Value)=>x.1) es[i]?).getD 0) hs0 (by rw [hi0]; exact beq_self_eq_true h) hl0 (n0 - m) m (10 * SetTable.turns t.mask) rfl hm (by omega)
        have k5:SetTable.probe.go t _ h (10 * SetTable.turns t.mask) (path t m (t.probeStart h)) = _:=k5
        erw [k5]
        dsimp only
        obtain ⟨i2,hi2,hpi⟩:=hl k (by omega)
        rw [k3] at hi2
        cases hi2
        have hil:i < es.size:=by rw [← hpl]; exact (Array.getElem?_eq_some_iff.mp hpi).1
        have hei:es[i]? = some es[i]:=Array.getElem?_eq_getElem hil
        have hmem:es[i] ∈ es.toList:=by rw [← Array.getElem_toList hil]; exact List.getElem_mem _
        obtain ⟨dy,hdy⟩:∃ dy,dy = dat i:=⟨_,rfl⟩
        have hy:=hes i _ hei
        rw [← hdy] at hy
        obtain ⟨bs,ry⟩:=hy.rd
        have go2:wpAny (model prog w) A (do
            let some (_,y):=es[i]? | unsupported "internal:set-entry"
            let equal ← holding [y] (eqBool y x)
            let (es',_,t') ← setState a
            if b && equal then return .there none
            let some same:=t'.sameMemory t.moves t.mask | unsupported "set.changed-during-lookup:is-the-new-block-at-the-old-address"
            let still ← match (if same then t'.slot (path t k (t.probeStart h)).j else .empty) with
              | .live i'=>match es'[i']? with
                | some (_,y')=>do pure (if ← isSame y' y then some i' else none)
                | none=>pure none
              | _=>pure none
            match still with
            | none=>rule "set.search.anew"; setSearchFrom a x h b fuel none
            | some i'=>if equal then return .there (some i') else setSearchFrom a x h b fuel (some (path t (k + 1) (t.probeStart h)))) Q E s:=by
          rw [hei]
          dsimp only
          refine wpAny_bind (wpAny_holding (SeqAt.eqAt_reads dy dx A s _ _ bs as ry rx (lay_onlyI dy hy.oi) (lay_onlyI dx hx.oi) (by have:=hy.dp; have:min dy.depth dx.depth ≤ dy.depth:=Nat.min_le_left _ _; omega) prog w _ _ ?_))
          have hsm:t.sameMemory t.moves t.mask = some true:=by unfold SetTable.sameMemory; rw [if_pos (beq_self_eq_true _)]
          obtain ⟨b0,hb0⟩:=hy.rf
          cases hne:PyData.eqv dy dx with
          | true =>
            refine wpAny_bind (wpAny_setState_of ho hd hf ?_)
            dsimp only
            cases b with
            | true =>
              simp only [Bool.and_self,if_true]
              exact wpAny_pure (hQ none fun z=>by cases z)
            | false =>
              simp only [Bool.false_and,Bool.false_eq_true,if_false]
              rw [hsm]
              dsimp only
              simp only [if_true]
              rw [k3]
              dsimp only
              rw [hei]
              dsimp only
              rw [hb0]
              refine wpAny_bind (wpAny_isSame_ref_self (wpAny_bind (wpAny_pure ?_)))
              simp only [if_true]
              exact wpAny_pure (hQ (some i) fun _=>rfl)
          | false =>
            refine wpAny_bind (wpAny_setState_of ho hd hf ?_)
            dsimp only
            simp only [Bool.and_false,Bool.false_eq_true,if_false]
            rw [hsm]
            dsimp only
            simp only [if_true]
            rw [k3]
            dsimp only
            rw [hei]
            dsimp only
            rw [hb0]
            refine wpAny_bind (wpAny_isSame_ref_self (wpAny_bind (wpAny_pure ?_)))
            simp only [if_true]
            have hk0:k ≠ n0:=fun e=>by
              rw [e,hs0] at k3
              cases k3
              rw [hdy,hd0] at hne
              cases hne
            exact ih (n0 - (k + 1)) (by omega) (k + 1) fuel rfl (by omega) (by omega) (some _) rfl
        cases hled:t.led with
        | true =>
          simp only [Bool.not_true,Bool.false_eq_true,if_false]
          exact go2
        | false =>
          simp only [Bool.not_false,if_true]
          refine wpAny_bind (seen_no hx _ _ (fun y hy => ?_) ?_)
          · obtain ⟨e,he1,rfl⟩:=List.mem_map.mp hy
            have he2:e ∈ es.toList:=by
              have:=Array.mem_toList_iff.mp he1
              exact Array.mem_toList_iff.mpr (Array.mem_filter.mp this).1
            obtain ⟨j,hj⟩:=List.getElem?_of_mem he2
            rw [Array.getElem?_toList] at hj
            exact ⟨_,hes j e hj⟩
          · simp only [Bool.false_eq_true,if_false]
            exact go2
  unfold setSearch
  exact from_ n0 0 100000 rfl (Nat.zero_le _) (by omega) none rfl
theorem relay_newW {a:Addr} {o:Obj} {es:Array (Int × Value)} {ep:Nat} {t:ST} {wanted m':Nat} {Q:Unit→Shared→Prop} (ho:s.heap.get? a = some o) (hd:o.data = .set es ep t) (hf:t.fits es.size = true)
    (hw:SetTable.sizeAbove wanted = m' + 1) (hm:m' = 7 ∨ m' = 31 ∨ m' = 127 ∨ m' = 511) (hs:es.size ≤ m')
    (h:∀ es' t',es'.toList.Perm es.toList→t'.place.size = es.size→t'.dummies = #[]→t'.mask = m'→Wp t' es'→t'.led = t.led→t'.plain = t.plain→Q () { s with heap:=s.heap.update a (Obj.putSet es' t') }):wpAny (model prog w) A (setRelay a wanted) Q E s:=by
  unfold setRelay
  refine wpAny_bind (wpAny_setState_of ho hd hf ?_)
  dsimp only
  have hc:covers (m' + 1) = true:=by
    rcases hm with e | e | e | e <;> rw [e]
    · exact cov8
    · exact cov32
    · exact cov128
    · exact cov512
  obtain ⟨pl,order,e1,e2,e3,e4⟩:=laid_okW (mask:=m') (finger:=t.finger) (moves:=t.movedTo m') (led:=t.led) (plain:=t.plain) hc es hs
  have hr:t.relaid (es.map (·.1)) wanted = some ({ mask:=m',place:=pl,dummies := #[],finger:=t.finger,led:=t.led,moves:=t.movedTo m',plain:=t.plain },order):=by
    unfold SetTable.relaid
    rw [hw,Nat.add_sub_cancel]
    exact e1
  have hsz:(order.filterMap (es[·]?)).size = es.size:=by rw [← Array.length_toList,e3.length_eq,Array.length_toList]
  rw [hw,hr]
  have hlt:¬ (m' + 1 > sizeLine):=by rw [sizeLine_eq]; omega
  rw [if_neg hlt]
  refine wpAny_bind (wpAny_of_eq (a:=(order.filterMap (es[·]?),({ mask:=m',place:=pl,dummies := #[],finger:=t.finger,led:=t.led,moves:=t.movedTo m',plain:=t.plain }:SetTable))) ?_ ?_)
  · show (if ((order.filterMap (es[·]?)).size != es.size) = true then _ else _) = _
    rw [hsz,if_neg (by simp)]
  · dsimp only
    exact wpAny_storeSet_of ho hd (h _ _ e3 e2 rfl rfl (e4 _ rfl rfl) rfl rfl) (by rw [hsz,sizeLine_eq]; omega)
end
end L2
namespace L2
open PySem PySem.Spec PyProof.Rows PySem.NumText
theorem paired_ins {α β:Type} {R:α→β→Prop} {e:α} {d:β} (h:R e d):∀ (p:Nat) {l:List α} {m:List β},Paired R l m→Paired R (l.take p ++ e :: l.drop p) (m.take p ++ d :: m.drop p)
  | 0,_,_,r=>by
    rw [List.take_zero,List.take_zero,List.drop_zero,List.drop_zero]
    exact .cons h r
  | p + 1,_,_,.nil=>by
    rw [List.take_nil,List.drop_nil,List.take_nil,List.drop_nil]
    exact .cons h .nil
  | p + 1,_,_,.cons a b=>.cons a (paired_ins h p b)
theorem paired_perm {α β:Type} {R:α→β→Prop} {l' l:List α} (h:l'.Perm l):∀ {m:List β},Paired R l m→∃ m',m'.Perm m∧Paired R l' m':=by
  induction h with
  | nil=>intro m r; exact ⟨m,.refl _,r⟩
  | cons x _ ih =>
    intro m r
    cases r with
    | cons a b =>
      obtain ⟨m',h1,h2⟩:=ih b
      exact ⟨_ :: m',h1.cons _,.cons a h2⟩
  | swap x y l =>
    intro m r
    cases r with
    | cons a b =>
      cases b with
      | cons c d=>exact ⟨_ :: _ :: _,.swap _ _ _,.cons c (.cons a d)⟩
  | trans _ _ ih1 ih2 =>
    intro m r
    obtain ⟨m1,h1,h2⟩:=ih2 r
    obtain ⟨m2,h3,h4⟩:=ih1 h2
    exact ⟨m2,h3.trans h1,h4⟩
theorem paired_at {α β:Type} {R:α→β→Prop}:∀ {l:List α} {m:List β},Paired R l m→∀ {i:Nat} {e:α},l[i]? = some e→∃ d,m[i]? = some d∧R e d
  | _,_,.nil,i,e,h=>by simp at h
  | _,_,.cons a b,0,e,h=>by cases (Option.some.inj h); exact ⟨_,rfl,a⟩
  | _,_,.cons a b,i + 1,e,h=>by
    obtain ⟨r,h1,h2⟩:=paired_at b (i:=i) (by simpa using h)
    exact ⟨r,by simpa using h1,h2⟩
theorem paired_at2 {α β:Type} {R:α→β→Prop}:∀ {l:List α} {m:List β},Paired R l m→∀ {i:Nat} {d:β},m[i]? = some d→∃ e,l[i]? = some e∧R e d
  | _,_,.nil,i,e,h=>by simp at h
  | _,_,.cons a b,0,e,h=>by cases (Option.some.inj h); exact ⟨_,rfl,a⟩
  | _,_,.cons a b,i + 1,e,h=>by
    obtain ⟨r,h1,h2⟩:=paired_at2 b (i:=i) (by simpa using h)
    exact ⟨r,by simpa using h1,h2⟩
noncomputable abbrev Mem:=Addr × PyData
noncomputable def MemR (e:Int × Value) (q:Mem):Prop:=e.2 = .ref q.1∧e.1 = hashD q.2
noncomputable def SetO (o:Obj) (qs:List Mem):Prop:=∃ es ep t qs',o.ExactSet∧o.data = .set es ep t∧t.fits es.size = true∧Fit t∧t.fill * 5 < t.mask * 3∧Wp t es∧qs'.Perm qs∧Paired MemR es.toList qs'
noncomputable def Led (b:Bool) (h:Heap) (a:Addr):Prop:=∃ o es ep t,h.get? a = some o∧o.data = .set es ep t∧t.led = b∧t.plain = true
noncomputable def SetX (h:Heap) (a:Addr) (qs:List Mem):Prop:=∃ o,h.get? a = some o∧SetO o qs
section
variable {prog:Program} {w:World} {A:Around} {E:Value→Shared→Prop} {s:Shared}
theorem search_there {a:Addr} {o:Obj} {es:Array (Int × Value)} {ep:Nat} {t:ST} {qs':List Mem} {x:Value} {dx:PyData} {Q:SetFound→Shared→Prop} (ho:s.heap.get? a = some o) (hd:o.data = .set es ep t) (hf:t.fits es.size = true) (f:Fit t) (wp:Wp t es) (hp:Paired MemR es.toList qs')
    (hel:∀ q ∈ qs',El s.heap (.ref q.1) q.2) (hx:El s.heap x dx) {q:Mem} (hq:q ∈ qs') (e:q.2 = dx) (hu:A.units + 10 < cLine) (b:Bool) (hQ:∀ r:Option Nat,(b = false→r.isSome = true)→Q (.there r) s):wpAny (model prog w) A (setSearch a x (hashD dx) b) Q E s:=by
  obtain ⟨i0,hi0⟩:=List.getElem?_of_mem hq
  obtain ⟨e0,he0,hr0⟩:=paired_at2 hp hi0
  rw [Array.getElem?_toList] at he0
  have hpl:t.place.size = es.size:=by
    have:=hf
    unfold SetTable.fits at this
    rw [Bool.and_eq_true] at this
    exact eq_of_beq this.1
  have hil:i0 < t.place.size:=by rw [hpl]; exact (Array.getElem?_eq_some_iff.mp he0).1
  have hpi:=Array.getElem?_eq_getElem hil
  obtain ⟨n0,hn,hlv⟩:=wp.rch i0 _ e0 hpi he0
  have hh:e0.1 = hashD dx:=by rw [hr0.2,e]
  rw [hh] at hn hlv
  refine search_oldW ho hd hf f hx (fun i=>(qs'.getD i (0,.none)).2) (fun i e1 he1 => ?_) (i0:=i0) (n0:=n0) (y0:=e0.2) (by rw [he0, ← hh]) ?_ (by rw [hn]; exact slot_at wp.mono hpi) (fun k hk=>let ⟨i',hi'⟩:=hlv k hk; ⟨i',slot_at wp.mono hi'⟩) hu b hQ
  · obtain ⟨q1,hq1,hr1⟩:=paired_at hp (i:=i) (e:=e1) (by rw [Array.getElem?_toList]; exact he1)
    rw [hr1.1,List.getD_eq_getElem?_getD,hq1]
    exact hel q1 (List.mem_of_getElem? hq1)
  · rw [List.getD_eq_getElem?_getD,hi0]
    show PyData.eqv q.2 dx = true
    rw [e]
    exact eqv_self hx.oi
theorem unlike_of {qs':List Mem} {es:Array (Int × Value)} {dx:PyData} (hp:Paired MemR es.toList qs') (hel:∀ q ∈ qs',El s.heap (.ref q.1) q.2) (hx:onlyI dx = true) (hn:∀ q ∈ qs',q.2 ≠ dx):∀ e ∈ es.toList,∃ d,El s.heap e.2 d∧PyData.eqv d dx = false:=fun e he=>by
  obtain ⟨i,hi⟩:=List.getElem?_of_mem he
  obtain ⟨q1,hq1,hr1⟩:=paired_at hp hi
  have hm:=List.mem_of_getElem? hq1
  have hl:=hel q1 hm
  refine ⟨q1.2,by rw [hr1.1]; exact hl, ?_⟩
  cases h:PyData.eqv q1.2 dx with
  | false=>rfl
  | true=>exact absurd (eqv_eq _ _ hl.oi hx h) (hn q1 hm)
theorem add_any {a:Addr} {qs:List Mem} {ax:Addr} {dx:PyData} {Q:Bool→Shared→Prop} (hS:SetX s.heap a qs) (hel:∀ q ∈ qs,El s.heap (.ref q.1) q.2) (hx:El s.heap (.ref ax) dx) (hlen:qs.length < 300) (hu:A.units + 10 < cLine)
    (hold:(∃ q ∈ qs,q.2 = dx)→Q false s) (hq:(∀ q ∈ qs,q.2 ≠ dx)→∀ h',Heap.SameBut a s.heap h'→SetX h' a ((ax,dx) :: qs)→(∀ b,Led b s.heap a→Led b h' a)→Q true { s with heap:=h' }):wpAny (model prog w) A (setAddHashed a (.ref ax) (hashD dx)) Q E s:=by
  obtain ⟨o,ho,es,ep,t,qs',hex,hd,hf,f,hfull,wp,pm,hp⟩:=hS
  have hel':∀ q ∈ qs',El s.heap (.ref q.1) q.2:=fun q hq=>hel q (pm.mem_iff.mp hq)
  have hsz:es.size = qs.length:=by rw [← Array.length_toList,Paired.length hp,pm.length_eq]
  obtain ⟨h,hhd⟩:∃ h,h = hashD dx:=⟨_,rfl⟩
  have hhd2:h = hashD dx:=hhd
  have hpl:t.place.size = es.size:=by
    have:=hf
    unfold SetTable.fits at this
    rw [Bool.and_eq_true] at this
    exact eq_of_beq this.1
  have hfill:t.fill = t.place.size:=by unfold SetTable.fill; rw [f.dum]; rfl
  rw [hfill,hpl] at hfull
  unfold setAddHashed setAddHashedIn
  refine wpAny_holding (wpAny_bind (wpAny_setState_of ho hd hf ?_))
  dsimp only
  have hbs:byScan (.ref ax) es = false:=rfl
  rw [hbs]
  simp only [Bool.false_eq_true,if_false]
  by_cases hqq:∃ q ∈ qs',q.2 = dx
  · obtain ⟨q,hqm,hqe⟩:=hqq
    refine wpAny_bind (search_there ho hd hf f wp hp hel' hx hqm hqe hu true fun r _ => ?_)
    exact wpAny_pure (hold ⟨q,pm.mem_iff.mp hqm,hqe⟩)
  have hne:∀ q ∈ qs',q.2 ≠ dx:=fun q hqm e=>hqq ⟨q,hqm,e⟩
  refine wpAny_bind (search_newW ho hd hf f hx (unlike_of hp hel' hx.oi hne) hu true fun N hemp hlv => ?_)
  obtain ⟨j,hj⟩:∃ j,j = (path t N (t.probeStart (hashD dx))).j:=⟨_,rfl⟩
  rw [← hj] at hemp ⊢
  have hfree:∀ i:Nat,t.place[i]? ≠ some j:=fun i e=>by
    rw [slot_at wp.mono e] at hemp
    cases hemp
  rw [← hhd] at hj hlv ⊢
  dsimp only
  refine wpAny_bind (wpAny_setState_of ho hd hf ?_)
  dsimp only
  have hput:(t.put j).1 = { t with place:=SetTable.insertAt t.place (SetTable.below t.place j) j }:=by
    unfold SetTable.put
    dsimp only
    have:SetTable.has t.dummies j = false:=by rw [f.dum]; unfold SetTable.has; simp
    rw [this,if_neg Bool.false_ne_true]
  have hput2:(t.put j).2 = SetTable.below t.place j:=rfl
  rw [hput,hput2]
  have h1sz:(SetTable.insertAt es (SetTable.below t.place j) (h,.ref ax)).size = es.size + 1:=ins_size _ _ _
  obtain ⟨qs1,hqs1⟩:∃ qs1,qs1 = qs'.take (SetTable.below t.place j) ++ (ax,dx) :: qs'.drop (SetTable.below t.place j):=⟨_,rfl⟩
  have hpq1:qs1.Perm ((ax,dx) :: qs):=by
    rw [hqs1]
    refine List.perm_middle.trans (.cons _ ?_)
    rw [List.take_append_drop]
    exact pm
  have hpr1:Paired MemR (SetTable.insertAt es (SetTable.below t.place j) (h,.ref ax)).toList qs1:=by
    rw [ins_list,hqs1]
    exact paired_ins (R:=MemR) ⟨rfl,hhd⟩ _ hp
  have hwp1:∀ t1:ST,t1.mask = t.mask→t1.place = SetTable.insertAt t.place (SetTable.below t.place j) j→Wp t1 (SetTable.insertAt es (SetTable.below t.place j) (h,.ref ax)):=fun t1 e1 e2=>wp.ins hpl (N:=N) (e:=(h,.ref ax)) hj.symm hfree hlv e1 e2
  generalize SetTable.insertAt es (SetTable.below t.place j) (h,.ref ax) = es1 at h1sz hpr1 hwp1 ⊢
  have hmge:7 ≤ t.mask:=by rcases f.msk with e | e | e | e <;> omega
  have tail:∀ pb:Bool,(t.plain = true→pb = true)→wpAny (model prog w) A (do
      storeSet a es1 { t with place:=SetTable.insertAt t.place (SetTable.below t.place j) j,plain:=pb }
      if (!false && ({ t with place:=SetTable.insertAt t.place (SetTable.below t.place j) j,plain:=pb }:SetTable).tooFull) = true then setRelay a (SetTable.grown (es.size + 1))
      return true) Q E s:=by
    intro pb hpb
    refine wpAny_bind (wpAny_storeSet_of ho hd ?_ (by rw [h1sz,sizeLine_eq]; omega))
    have p1:(SetTable.insertAt t.place (SetTable.below t.place j) j).size = es.size + 1:=by rw [ins_size,hpl]
    generalize ht1:({ t with place:=SetTable.insertAt t.place (SetTable.below t.place j) j,plain:=pb }:SetTable) = t1
    have m1:t1.mask = t.mask:=by rw [← ht1]
    have l1:t1.led = t.led:=by rw [← ht1]
    have l2:t.plain = true→t1.plain = true:=by rw [← ht1]; exact hpb
    have ledK:∀ {h':Heap} {es3:Array (Int × Value)} {ep3:Nat} {t3:SetTable},h'.get? a = some { o with data := .set es3 ep3 t3 }→t3.led = t1.led→t3.plain = t1.plain→∀ b,Led b s.heap a→Led b h' a:=by
      rintro h' es3 ep3 t3 g3 e3 p3 b ⟨o0,es0,ep0,t0,g0,d0,b0,q0⟩
      rw [ho] at g0
      cases g0
      rw [hd] at d0
      cases d0
      exact ⟨_,es3,ep3,t3,g3,rfl,by rw [e3,l1,b0],by rw [p3]; exact l2 q0⟩
    have q1:t1.place.size = es.size + 1:=by rw [← ht1]; exact p1
    have d1:t1.dummies = #[]:=by rw [← ht1]; exact f.dum
    have fl1:t1.fill = es.size + 1:=by unfold SetTable.fill; rw [d1,q1]; rfl
    have fits1:t1.fits es1.size = true:=by
      unfold SetTable.fits
      rw [q1,h1sz,fl1,m1,beq_self_eq_true,Bool.true_and]
      exact decide_eq_true (by omega)
    have fit1:Fit t1:=⟨d1,by rw [q1,m1]; omega,by rw [m1]; exact f.msk⟩
    have hg1:(s.heap.update a (Obj.putSet es1 t1)).get? a = some { o with data := .set es1 (ep + 1) t1 }:=by
      have:=Heap.get?_update_self (Obj.putSet es1 t1) ho (by rw [putSet_of es1 t1 hd]; rfl)
      rw [putSet_of es1 t1 hd] at this; exact this
    have sb1:=Heap.SameBut.update s.heap a (Obj.putSet es1 t1)
    simp only [Bool.not_false,Bool.true_and]
    by_cases hfu:t1.tooFull = true
    · rw [if_pos hfu]
      have hfu':t1.mask * 3 ≤ t1.fill * 5:=by unfold SetTable.tooFull at hfu; exact of_decide_eq_true hfu
      rw [fl1,m1] at hfu'
      obtain ⟨m',hm',hw,hlt⟩:∃ m',(m' = 7 ∨ m' = 31 ∨ m' = 127 ∨ m' = 511)∧SetTable.sizeAbove (SetTable.grown (es.size + 1)) = m' + 1∧(es.size + 1) * 5 < m' * 3:=by
        rcases f.msk with e | e | e | e
        · have:es.size = 4:=by omega
          exact ⟨31,.inr (.inl rfl),by rw [this]; decide,by omega⟩
        · have:es.size = 18:=by omega
          exact ⟨127,.inr (.inr (.inl rfl)),by rw [this]; decide,by omega⟩
        · have:es.size = 76:=by omega
          exact ⟨511,.inr (.inr (.inr rfl)),by rw [this]; decide,by omega⟩
        · omega
      refine wpAny_bind (relay_newW (s:={ s with heap:=s.heap.update a (Obj.putSet es1 t1) }) hg1 rfl fits1 hw hm' (by rw [h1sz]; omega) fun es2 t2 hp2 hpl2 hd2 hm2 hwp2 hl2 hpp2 => ?_)
      have hg2:((s.heap.update a (Obj.putSet es1 t1)).update a (Obj.putSet es2 t2)).get? a = some { o with data := .set es2 (ep + 1 + 1) t2 }:=by
        have:=Heap.get?_update_self (Obj.putSet es2 t2) hg1 (by rw [putSet_of es2 t2 rfl]; rfl)
        rw [putSet_of es2 t2 rfl] at this; exact this
      have hsz2:es2.size = es.size + 1:=by rw [← Array.length_toList,hp2.length_eq,Array.length_toList,h1sz]
      have fl2:t2.fill = es.size + 1:=by unfold SetTable.fill; rw [hd2,hpl2,h1sz]; rfl
      obtain ⟨qs2,hq2,hpr2⟩:=paired_perm hp2 hpr1
      refine wpAny_pure (hq (fun q hqm=>hne q (pm.mem_iff.mpr hqm)) _ (sb1.trans (Heap.SameBut.update _ a _)) ⟨_,hg2,es2,ep + 1 + 1,t2,qs2,hex,rfl, ?_,⟨hd2,by rw [hpl2,h1sz,hm2]; omega,by rw [hm2]; exact hm'⟩,by rw [fl2,hm2]; exact hlt,hwp2,hq2.trans hpq1,hpr2⟩ (ledK hg2 hl2 hpp2))
      unfold SetTable.fits
      rw [hpl2,h1sz,hsz2,fl2,hm2,beq_self_eq_true,Bool.true_and]
      exact decide_eq_true (by omega)
    · rw [if_neg hfu]
      have hnf:t1.fill * 5 < t1.mask * 3:=by
        have:¬ (t1.fill * 5 ≥ t1.mask * 3):=fun z=>hfu (by unfold SetTable.tooFull; exact decide_eq_true z)
        omega
      exact wpAny_pure (hq (fun q hqm=>hne q (pm.mem_iff.mpr hqm)) _ sb1 ⟨_,hg1,es1,ep + 1,t1,qs1,hex,rfl,fits1,fit1,hnf,hwp1 t1 m1 (by rw [← ht1]),hpq1,hpr1⟩ (ledK hg1 rfl rfl))
  by_cases hpn:t.plain = true
  · simp only [hpn,if_true]
    obtain ⟨as,rx⟩:=hx.rd
    refine wpAny_bind (byval_data 4 dx A _ _ _ as hx.dp rx hx.oi 8 _ (by decide) ?_)
    simp only [if_true]
    exact tail true fun _=>rfl
  · simp only [hpn,if_false,Bool.false_eq_true]
    refine wpAny_bind (wpAny_pure ?_)
    simp only [if_true]
    exact tail false fun z=>absurd z hpn
end
end L2
namespace L2
open PySem PySem.Spec PyProof.Rows PySem.NumText
noncomputable def SetQ (bl:Bool) (h:Heap) (a:Addr) (val:Nat→PyData) (P:Nat→Value→Prop) (n:Nat):Prop:=∃ qs,SetX h a qs∧Led bl h a∧(∀ q ∈ qs,∃ j,j < n∧P j (.ref q.1)∧q.2 = val j)∧(∀ j,j < n→∃ q ∈ qs,q.2 = val j)∧(qs.map (·.2)).Nodup∧qs.length ≤ n
theorem SetQ.at {bl:Bool} {h h':Heap} {a:Addr} {val:Nat→PyData} {P:Nat→Value→Prop} {n:Nat} (x:SetQ bl h a val P n) (k:∀ o,h.get? a = some o→h'.get? a = some o):SetQ bl h' a val P n:=by
  obtain ⟨qs,⟨o,ho,r⟩,⟨o',es,ep,t,g,l⟩,r'⟩:=x
  exact ⟨qs,⟨o,k o ho,r⟩,⟨o',es,ep,t,k o' g,l⟩,r'⟩
section
variable {prog:Program} {w:World} {A:Around} {E:Value→Shared→Prop} {s:Shared}
theorem code_set_newL (a:Value) {Q₁:Value→Shared→Prop}
    (h:Q₁ (.ref s.heap.objs.size) { s with heap:=s.heap.push { cls := .type "set",dict:=none,data := .set #[] 0 (.fresh 0 0 (!w.params.followText "set-order")) } }) :
    codeAny (model prog w) A (.call (.builtin "set.__new__") ⟨[.type "set",a],[]⟩) (wants Q₁ E) s:=by
  refine codeAny_of_tree ?_
  show wpAny _ A.in1 (do checkBuiltinCall "set.__new__" ⟨[.type "set",a],[]⟩; again (.builtin "set.__new__" ⟨[.type "set",a],[]⟩)) _ _ s
  refine wpAny_bind (wpAny_of_eq (F.newCall_set_1 a) (wpAny_pure ⟨plainId_quiet F.plain_set_new _,codeAny_builtin F.entry_set_new ?_⟩))
  rw [Around.under_plainId F.plain_set_new _]
  unfold Builtin.«set.__new__» Builtin.Frozenset.newClass
  have hsub:=sub_set_self
  obtain ⟨hp,g,d,tk,os⟩:=s
  dsimp only
  wp_walk
  refine wpAny_askSetting (wpAny_pure ?_)
  dsimp only
  simp only [newObj]
  refine wpAny_bind (wpAny_alloc (wpAny_pure ?_))
  exact wpAny_pure h
theorem newSetL {Q:Value→Shared→Prop}
    (h:Q (.ref s.heap.objs.size) { s with heap:=s.heap.push { cls := .type "set",dict:=none,data := .set #[] 0 (.fresh 0 0 (!w.params.followText "set-order")) } }):wpAny (model prog w) A (newSet (.type "set")) Q E s:=by
  unfold newSet setsByText
  refine wpAny_bind (wpAny_bind (wpAny_askSetting (wpAny_pure ?_)))
  dsimp only
  simp only [newObj]
  exact wpAny_bind (wpAny_alloc (wpAny_pure h))
end
section
variable {prog:Program} {w:World} {A:Around} {R:Result→Shared→Prop} {I:Addr} {fp wr:List Addr} {G:Array GenState→Array GenState→Prop} {n:Nat} {P:Nat→Value→Prop} {St:Nat→Shared→Prop}
theorem set_loopX (bl:Bool) (W:WalksS prog w A.in1 I fp wr G n P St) (S:Addr) (hSf:S ∉ fp) (h0:Heap) (val:Nat→PyData) (hval:∀ i v,P i v→El h0 v (val i)) (hb:n < 300) (hu:A.units + 20 < cLine)
    (hS0:h0.get? S = none) (hw0:∀ b ∈ wr,h0.get? b = none) :
    ∀ (k i:Nat) (s:Shared),n - i = k→i ≤ n→St i s→(∀ b o,h0.get? b = some o→s.heap.get? b = some o)→SetQ bl s.heap S val P i →
      (∀ s',Moved (S :: wr) G s s'→SetQ bl s'.heap S val P n→R (.ok (.ret .none)) s') →
      codeAny (model prog w) A (.builtin "set.update.loop" ⟨[.ref S,.ref I],[]⟩) R s:=by
  have hSw:S ∉ wr:=fun h=>hSf (W.sub _ h)
  have hsub:∀ b ∈ wr,b ∈ S :: wr:=fun b hb=>List.mem_cons_of_mem _ hb
  have h0w:∀ b o,h0.get? b = some o→b ∉ wr:=fun b o e hb=>by rw [hw0 b hb] at e; cases e
  have h0S:∀ b o,h0.get? b = some o→b ≠ S:=fun b o e hb=>by rw [hb,hS0] at e; cases e
  intro k
  induction k with
  | zero =>
    intro i s hk hi hst hkept hS hR
    have hin:i = n:=by omega
    subst hin
    refine codeAny_builtin F.entry_set_update_loop ?_
    rw [Around.under_plainId F.plain_set_update_loop _]
    show wpAny _ A.in1 (pyNext (.ref I) >>= _) _ _ s
    refine wpAny_bind (W.done s _ _ hst fun s' hm => ?_)
    show wpAny _ A.in1 (ret Value.none) _ _ s'
    exact wpAny_pure (hR s' (hm.mono hsub) (hS.at fun o e=>hm.heap S _ hSw e))
  | succ k ih =>
    intro i s hk hi hst hkept hS hR
    have hlt:i < n:=by omega
    refine codeAny_builtin F.entry_set_update_loop ?_
    rw [Around.under_plainId F.plain_set_update_loop _]
    show wpAny _ A.in1 (pyNext (.ref I) >>= _) _ _ s
    refine wpAny_bind (W.item i s _ _ hlt hst fun v s' hP hst' hm => ?_)
    have hv:=hval i v hP
    have hS':SetQ bl s'.heap S val P i:=hS.at fun o e=>hm.heap S _ hSw e
    have hkept':∀ b o,h0.get? b = some o→s'.heap.get? b = some o:=fun b o e=>hm.heap b o (h0w b o e) (hkept b o e)
    show wpAny _ A.in1 (holding [v] (setAdd S v) >>= _) _ _ s'
    refine wpAny_bind (wpAny_holding ?_)
    unfold setAdd
    refine wpAny_holding ?_
    have hv':=hv.kept hkept'
    obtain ⟨as,rx⟩:=hv'.rd
    obtain ⟨ax,rfl⟩:=hv.rf
    refine wpAny_bind (hash_fun 4 (val i) A.in1 _ s' (.ref ax) as hv.dp rx hv.oi (by show A.units + 1 + 4 < cLine; omega) _ fun tk htk => ?_)
    obtain ⟨qs,hX,hld,hel,hmem,hnd,hle⟩:=hS'
    have go:∀ h',Heap.SameBut S s'.heap h'→SetQ bl h' S val P (i + 1)→wpAny (model prog w) A.in1 (again (.builtin "set.update.loop" ⟨[.ref S,.ref I],[]⟩))
        (fun fin s'=>match fin with | .done f=>R (.ok f) s' | .again c'=>c'.quiet = true∧codeAny (model prog w) A c' R s') (fun e s'=>R (.error e) s') { s' with heap:=h',toks:=tk }:=by
      intro h' hsb hSi
      have hk2:∀ b o,h0.get? b = some o→h'.get? b = some o:=fun b o e=>by rw [hsb.2 b (h0S b o e)]; exact hkept' b o e
      refine wpAny_pure ⟨plainId_quiet F.plain_set_update_loop _,ih (i + 1) _ (by omega) hlt (W.frame _ s' _ _ hst' htk fun b hb o e => ?_) hk2 hSi fun s'' hm'' hS'' => ?_⟩
      · rw [hsb.2 b (fun h:b = S=>hSf (by rw [← h]; exact hb))]; exact e
      · refine hR s'' (Moved.trans W.gtrans ((hm.mono hsub).then_heap htk fun b o hb e => ?_) hm'') hS''
        rw [hsb.2 b (fun h:b = S=>hb (by rw [h]; exact List.mem_cons_self))]; exact e
    have hel':∀ q ∈ qs,El s'.heap (.ref q.1) q.2:=fun q hq=>by
      obtain ⟨j,_,hPj,e⟩:=hel q hq
      rw [e]
      exact (hval j _ hPj).kept hkept'
    refine add_any (s:={ s' with toks:=tk }) hX hel' hv' (by omega) (by show A.units + 1 + 10 < cLine; omega) (fun hold => ?_) (fun hnew h' hsb hS2 hlk => ?_)
    · refine go s'.heap ⟨rfl,fun _ _=>rfl⟩ ⟨qs,hX,hld,fun q hq=>let ⟨j,h1,h2⟩:=hel q hq; ⟨j,by omega,h2⟩,fun j hj => ?_,hnd,by omega⟩
      rcases Nat.lt_or_ge j i with hl | hg
      · exact hmem j hl
      · have:j = i:=by omega
        subst this
        exact hold
    · refine go h' hsb ⟨(ax,val i) :: qs,hS2,hlk _ hld,fun q hq => ?_,fun j hj => ?_, ?_,by rw [List.length_cons]; omega⟩
      · rcases List.mem_cons.mp hq with rfl | hq
        · exact ⟨i,by omega,hP,rfl⟩
        · obtain ⟨j,h1,h2⟩:=hel q hq
          exact ⟨j,by omega,h2⟩
      · rcases Nat.lt_or_ge j i with hl | hg
        · obtain ⟨q,hq,e2⟩:=hmem j hl
          exact ⟨q,List.mem_cons_of_mem _ hq,e2⟩
        · have:j = i:=by omega
          subst this
          exact ⟨_,List.mem_cons_self,rfl⟩
      · rw [List.map_cons]
        refine List.nodup_cons.mpr ⟨fun hm => ?_,hnd⟩
        obtain ⟨q,hq,e⟩:=List.mem_map.mp hm
        exact hnew q hq e
end
section
variable {prog:Program} {w:World} {A:Around} {E:Value→Shared→Prop} {s:Shared}
set_option maxRecDepth 100000 in
set_option maxHeartbeats 3200000 in
theorem call_set_any {l:Addr} {items:Array Value} {val:Nat→PyData} {Q:Value→Shared→Prop}
    (hh:A.handled = none) (hl:s.heap.IsList l items) (hi:∀ i v,items[i]? = some v→El s.heap v (val i)) (hb:items.size < 300) (hu:A.units + 30 < cLine)
    (h:∀ (h':Heap) (tk:Nat),SetQ (!w.params.followText "set-order") h' s.heap.objs.size val (fun i v=>items[i]? = some v) items.size →
      (∀ b o,b < s.heap.objs.size→s.heap.get? b = some o→h'.get? b = some o)→Q (.ref s.heap.objs.size) { s with heap:=h',toks:=tk }) :
    wpAny (model prog w) A (call (.type "set") [.ref l]) Q E s:=by
  obtain ⟨c,tl,hmro⟩:=F.called_set.mro
  have hmade:=F.called_set.made
  have hsub:=F.called_set.sub
  refine wpAny_call (codeAny_of_tree ?_)
  show wpAny _ _ (callAny (.type "set") _) _ _ _
  refine wpAny_pure ⟨Code.quiet_builtin _ (by decide +kernel),codeAny_builtin F.entry_type_call ?_⟩
  rw [Around.under_plain (weight_type_call_type "set" [.ref l] []) rfl]
  have h1:=F.called_set.notType
  have h2:=F.called_set.canCreate
  have hct:=F.typeCall_set_1 (.ref l)
  repeat (any_goals (first | assumption | wp_step))
  refine codeAny_mono (code_set_newL (.ref l) (E:=E) (Q₁:=fun obj s₁=>∃ led:Bool,led = (!w.params.followText "set-order")∧obj = .ref s.heap.objs.size∧s₁ = { s with heap:=s.heap.push { cls := .type "set",dict:=none,data := .set #[] 0 (.fresh 0 0 led) } }) ⟨_,rfl,rfl,rfl⟩) fun r s₁ hr => ?_
  cases r with
  | error e=>exact hr
  | ok fl =>
    cases fl with
    | ret obj =>
      obtain ⟨led,hled,rfl,rfl⟩:=hr
      have hS:(s.heap.push { cls := .type "set",dict:=none,data := .set #[] 0 (.fresh 0 0 led) }).get? s.heap.objs.size = some { cls := .type "set",dict:=none,data := .set #[] 0 (.fresh 0 0 led) }:=Heap.get?_push_size _ rfl
      have hT:Shared.TypeIs { s with heap:=s.heap.push { cls := .type "set",dict:=none,data := .set #[] 0 (.fresh 0 0 led) } } (.ref s.heap.objs.size) "set" := ⟨_,hS,rfl⟩
      have hli:=F.called_set.init.lookup
      have hbi:=F.called_set.init.bind (.ref s.heap.objs.size)
      repeat (any_goals (first | assumption | wp_step))
      refine codeAny_mono (codeAny_call_builtin (R:=wants (fun r s₂=>r = .none∧∃ h' tk,s₂ = { s with heap:=h',toks:=tk } ∧
          SetQ (!w.params.followText "set-order") h' s.heap.objs.size val (fun i v=>items[i]? = some v) items.size ∧
          (∀ b o,b < s.heap.objs.size→s.heap.get? b = some o→h'.get? b = some o)) E) F.called_set.init.plain F.entry_set_init (check_set_init_1 hT ?_)) fun r₂ s₂ hr₂ => ?_
      · obtain ⟨ol,hol,hcl,nl,hdl⟩:=hl
        obtain ⟨ocls,odict,odata,oslots⟩:=ol
        simp only at hcl hdl
        subst hcl; subst hdl
        have hol':(s.heap.push { cls := .type "set",dict:=none,data := .set #[] 0 (.fresh 0 0 led) }).get? l = some { cls := .type "list",dict:=odict,data := .seq items nl,slots:=oslots }:=Heap.get?_push_of_some _ hol
        have hsls:=F.sub_list_set
        have hslf:=F.sub_list_frozenset
        have hne:(Value.type "list" == Value.type "dict") = false:=by decide
        have hl1:(s.heap.push { cls := .type "set",dict:=none,data := .set #[] 0 (.fresh 0 0 led) }).IsList l items:=⟨_,hol',rfl,nl,rfl⟩
        unfold Builtin.«set.__init__» noKeywords Builtin.Frozenset.updateFrom
        generalize hPI:pyIter = PI
        wp_walk
        subst hPI
        refine wpAny_pyIter_list hl1 ?_
        refine wpAny_bind (wpAny_runValue ?_)
        have hlS:l < s.heap.objs.size:=Heap.lt_size hol
        have hh3:A.in1.in1.in1.handled = none:=by simp [hh]
        have hneI:l ≠ (s.heap.push { cls := .type "set",dict:=none,data := .set #[] 0 (.fresh 0 0 led) }).objs.size:=by
          rw [Heap.size_push]; exact Nat.ne_of_lt (Nat.lt_succ_of_lt hlS)
        have hSf:s.heap.objs.size ∉ [(s.heap.push { cls := .type "set",dict:=none,data := .set #[] 0 (.fresh 0 0 led) }).objs.size,l]:=by
          rw [Heap.size_push]; simp only [List.mem_cons,List.mem_singleton,List.not_mem_nil,or_false,not_or]
          exact ⟨Nat.ne_of_lt (Nat.lt_succ_self _),Nat.ne_of_gt hlS⟩
        have hfr:s.heap.get? s.heap.objs.size = none:=by
          cases e:s.heap.get? s.heap.objs.size with
          | none=>rfl
          | some o'=>exact absurd (Heap.lt_size e) (Nat.lt_irrefl _)
        have hfr2:s.heap.get? (s.heap.objs.size + 1) = none:=by
          cases e:s.heap.get? (s.heap.objs.size + 1) with
          | none=>rfl
          | some o'=>exact absurd (Heap.lt_size e) (Nat.not_lt.mpr (Nat.le_succ _))
        refine set_loopX (!w.params.followText "set-order") ((Walks.list hh3 _ l hneI items).toS) s.heap.objs.size hSf s.heap val (fun i v hv=>hi i v hv) hb (by show A.units + 1 + 1 + 20 < cLine; omega) hfr (fun b hb' => ?hw) (items.size - 0) 0 _ (by omega) (Nat.zero_le _)
          ⟨⟨_,Heap.get?_push_size _ rfl,rfl,rfl⟩,(hl1.push _)⟩ (fun b o e=>Heap.get?_push_of_some _ (Heap.get?_push_of_some _ e)) ?hS0 ?hR
        case hw =>
          rcases List.mem_cons.mp hb' with rfl | hb'
          · rw [Heap.size_push]; exact hfr2
          · cases hb'
        case hS0 =>
          have hget:((s.heap.push { cls := .type "set",dict:=none,data := .set #[] 0 (.fresh 0 0 led) }).push { cls := .type "list_iterator",data := .fields #[.ref l,.int 0 0] }).get? s.heap.objs.size
              = some { cls := .type "set",dict:=none,data := .set #[] 0 (.fresh 0 0 led) }:=Heap.get?_push_of_some _ hS
          exact ⟨[],⟨_,hget, #[],0,.fresh 0 0 led,[],⟨rfl,rfl,rfl⟩,rfl,rfl,⟨rfl,by show 0 ≤ 7; decide,.inl rfl⟩,by show 0 * 5 < 7 * 3; decide,⟨(fun a b u v _ e _=>by simp [SetTable.fresh] at e),fun i j e h1=>by simp [SetTable.fresh] at h1⟩,.refl _,.nil⟩,⟨_,_,_,_,hget,rfl,hled,rfl⟩,(fun q hq=>by cases hq),(fun j hj=>(by omega)),List.nodup_nil,Nat.zero_le _⟩
        case hR =>
          intro s' hm hS'
          obtain ⟨h',g',d',tk',os'⟩:=s'
          have eg:g' = s.gens:=hm.gens
          have ed:d' = s.drawn:=hm.drawn
          have eo:os' = s.os:=hm.os
          subst eg; subst ed; subst eo
          show wpAny _ _ _ _ _ _
          refine wpAny_pure ?_
          show wpAny _ _ (ret Value.none) _ _ _
          refine wpAny_pure ⟨rfl,h',tk',rfl,hS',fun b o hb e => ?_⟩
          have hb1:b ≠ s.heap.objs.size:=Nat.ne_of_lt hb
          have hb2:b ≠ (s.heap.push { cls := .type "set",dict:=none,data := .set #[] 0 (.fresh 0 0 led) }).objs.size:=by
            rw [Heap.size_push]; exact Nat.ne_of_lt (Nat.lt_succ_of_lt hb)
          exact hm.heap b o (by simp only [List.mem_cons,List.mem_singleton,List.not_mem_nil,or_false,not_or]; exact ⟨hb1,hb2⟩) (Heap.get?_push_of_some _ (Heap.get?_push_of_some _ e))
      · cases r₂ with
        | error e=>exact hr₂
        | ok fl₂ =>
          cases fl₂ with
          | ret r =>
            obtain ⟨rfl,h',tk,rfl,hS',hk'⟩:=hr₂
            repeat (any_goals (first | assumption | wp_step))
            exact h _ _ hS' hk'
          | _=>exact hr₂.elim
    | _=>exact hr.elim
end
end L2
namespace L2
open PySem PySem.Spec PyProof.Rows PySem.NumText
noncomputable def ok4 (d:PyData):Prop:=onlyI d = true∧d.depth ≤ 4∧∃ xs,d = .tuple xs
theorem ok4_mark (m:Mark):ok4 (markD m):=⟨rfl,by show 1 ≤ 4; decide,_,rfl⟩
section
variable {X:Cx} {pins:List (Addr × Obj)} {σ:St} {H:Hp} {s:Shared}
theorem Inv.el (I:Inv X pins σ H s) {d:PyData} {x:V} {u:Value} (h:DV X.K H d x) (r:RelV x u) (o:ok4 d):El s.heap u d:=by
  obtain ⟨o1,o2,xs,rfl⟩:=o
  obtain ⟨as,ra⟩:=DV.reads I _ x u h r
  obtain ⟨a,vs,rfl,_⟩:=h
  cases r
  exact ⟨⟨as,ra⟩,o1,o2,a,rfl⟩
end
section
variable {X:Cx}
end
end L2
namespace L2
open PySem PySem.Spec PyProof.Rows PySem.NumText
section
variable {prog:Program} {w:World} {A:Around} {E:Value→Shared→Prop} {s:Shared}
end
section
variable {X:Cx} {e:Expr} {ta:TA} {x:Str} {id:String} {r:List V→Hp→VK→Prop} {p pos kp kp1:Pos} {j:Nat}
end
end L2
namespace L2
open PySem PySem.Spec PyProof.Rows PySem.NumText
section
variable {X:Cx}
end
end L2
namespace L2
open PySem PySem.Spec PyProof.Rows PySem.NumText
noncomputable def kiObj (d:Addr) (i n ep:Nat):Obj:={ cls := .type "dict_keyiterator",data := .fields #[.ref d,.int i 0,.int n 0,.int ep 0] }
section
variable {prog:Program} {w:World} {A:Around} {E:Value→Shared→Prop} {s:Shared} {d it:Addr} {ds:Array DictEntry} {ep i:Nat}
theorem owns_ki:Builtin.Dict_items.ownsTuple "dict_keyiterator" = false:=by decide
theorem iter_keys {Q:Value→Shared→Prop} (hT:s.TypeIs (.ref d) "dict") (hd:RawD s.heap d ds ep) (hs:(d == sysModules) = false)
    (k:Q (.ref s.heap.objs.size) { s with heap:=s.heap.push (kiObj d 0 ds.size ep) }):wpAny (model prog w) A (pyIter (.ref d)) Q E s:=by
  obtain ⟨o,d1,d2,d3⟩:=hd
  refine wpAny_pyIter_slot hT F.slot_dict_iter (wpAny_call_entry F.slot_dict_iter hT F.entry_dict_iter ?_ (F.args_dict_iter_1 _))
  unfold Builtin.«dict.__iter__» Builtin.Dict.dictSlotNone
  refine wpAny_bind (wpAny_bind (wpAny_notOrdered_dict hT (wpAny_bind (wpAny_of_eq (a:=(Value.ref d,[])) rfl (wpAny_pure ?_)))))
  refine wpAny_bind (wpAny_pure ?_)
  unfold Builtin.Dict.showsAll
  rw [hs]
  refine wpAny_bind (wpAny_of_eq (a:=()) (if_neg Bool.false_ne_true) ?_)
  refine wpAny_bind (wpAny_dictEntries d1 d3 (wpAny_bind (wpAny_dictEpoch d1 d3 ?_)))
  refine wpAny_bind (wpAny_newObj_type (wpAny_pure ⟨_,rfl, "dict_keyiterator",_,⟨_,Heap.get?_push_size _ rfl,rfl⟩,F.slot_dict_keyiterator_next.lookup, ?_⟩) ?_)
  · simpa [rawInt,kiObj] using k
  · simp only [sizeOk,List.size_toArray,List.length_cons,List.length_nil,sizeLine_eq]
    omega
theorem next_key {Q:Option Value→Shared→Prop} {e:DictEntry} (hi:s.heap.get? it = some (kiObj d i ds.size ep)) (hd:RawD s.heap d ds ep) (he:ds[i]? = some e)
    (k:∀ h',h'.get? it = some (kiObj d (i + 1) ds.size ep)→h'.objs.size = s.heap.objs.size→(∀ b o,b ≠ it→s.heap.get? b = some o→h'.get? b = some o)→Q (some e.key) { s with heap:=h' }):wpAny (model prog w) A (pyNext (.ref it)) Q E s:=by
  obtain ⟨o,d1,d2,d3⟩:=hd
  have ty:s.TypeIs (.ref it) "dict_keyiterator" := ⟨_,hi,rfl⟩
  unfold pyNext
  refine wpAny_bind (wpAny_attempt (wpAny_callSpecial?_slot ty F.slot_dict_keyiterator_next (wpAny_call_entry F.slot_dict_keyiterator_next ty F.entry_dict_keyiterator_next ?_ (F.args_dict_keyiterator_next_1 _))))
  unfold Builtin.«dict_keyiterator.__next__»
  refine wpAny_bind (wpAny_pure (wpAny_bind (wpAny_bind (wpAny_bind (wpAny_typeNameOfWhole_keyiter ty (wpAny_pure (wpAny_bind (wpAny_fieldsOf hi rfl ?_))))))))
  simp only [owns_ki,Bool.false_eq_true,if_false]
  have e1:(Value.ref d == Value.none) = false:=rfl
  dsimp only [List.drop,List.take]
  rw [if_neg (by rw [e1]; exact Bool.false_ne_true)]
  refine wpAny_bind (wpAny_pure (wpAny_bind (wpAny_dictEntries d1 d3 ?_)))
  rw [if_neg (by simp)]
  refine wpAny_bind (wpAny_pure (wpAny_bind (wpAny_dictEpoch d1 d3 ?_)))
  rw [if_neg (by simp)]
  refine wpAny_pure ?_
  dsimp only
  rw [if_neg (by omega),Int.toNat_natCast,he]
  dsimp only
  refine wpAny_bind (wpAny_bind (wpAny_typeNameOfWhole_keyiter ty (wpAny_pure ?_)))
  refine wpAny_bind (wpAny_isOneOf_keyiter ty ?_)
  simp only [owns_ki,Bool.false_eq_true,if_false]
  rw [if_neg (by decide)]
  refine wpAny_bind (wpAny_setField_rec (k:=1) hi (by show 1 < 4; decide) fun h1 g1 sb1 => ?_)
  have g1:h1.get? it = some (kiObj d (i + 1) ds.size ep):=g1
  have ty1:({ s with heap:=h1 }:Shared).TypeIs (.ref it) "dict_keyiterator" := ⟨_,g1,rfl⟩
  refine wpAny_bind (wpAny_holding (wpAny_bind (wpAny_isOneOf_keyiter ty1 ?_)))
  first | rw [if_neg (by decide)] | rw [if_pos (by decide)]
  exact wpAny_pure (wpAny_pure ⟨_,rfl,wpAny_pure (k h1 g1 sb1.1 fun b o hb q=>(sb1.2 b hb).trans q)⟩)
theorem next_keyOver {Q:Option Value→Shared→Prop} (hh:A.handled = none) (hi:s.heap.get? it = some (kiObj d i ds.size ep)) (hd:RawD s.heap d ds ep) (he:ds[i]? = none)
    (k:∀ h',(∀ b o,b ≠ it→s.heap.get? b = some o→h'.get? b = some o)→Q none { s with heap:=h' }):wpAny (model prog w) A (pyNext (.ref it)) Q E s:=by
  obtain ⟨o,d1,d2,d3⟩:=hd
  have ty:s.TypeIs (.ref it) "dict_keyiterator" := ⟨_,hi,rfl⟩
  unfold pyNext
  refine wpAny_bind (wpAny_attempt (wpAny_callSpecial?_slot ty F.slot_dict_keyiterator_next (wpAny_call_entry F.slot_dict_keyiterator_next ty F.entry_dict_keyiterator_next ?_ (F.args_dict_keyiterator_next_1 _))))
  unfold Builtin.«dict_keyiterator.__next__»
  refine wpAny_bind (wpAny_pure (wpAny_bind (wpAny_bind (wpAny_bind (wpAny_typeNameOfWhole_keyiter ty (wpAny_pure (wpAny_bind (wpAny_fieldsOf hi rfl ?_))))))))
  simp only [owns_ki,Bool.false_eq_true,if_false]
  have e1:(Value.ref d == Value.none) = false:=rfl
  dsimp only [List.drop,List.take]
  rw [if_neg (by rw [e1]; exact Bool.false_ne_true)]
  refine wpAny_bind (wpAny_pure (wpAny_bind (wpAny_dictEntries d1 d3 ?_)))
  rw [if_neg (by simp)]
  refine wpAny_bind (wpAny_pure (wpAny_bind (wpAny_dictEpoch d1 d3 ?_)))
  rw [if_neg (by simp)]
  refine wpAny_pure ?_
  dsimp only
  rw [if_neg (by omega),Int.toNat_natCast,he]
  dsimp only
  refine wpAny_bind (wpAny_bind (wpAny_typeNameOfWhole_keyiter ty (wpAny_pure ?_)))
  simp only [owns_ki,Bool.false_eq_true,if_false]
  refine wpAny_bind (wpAny_setField_rec (k:=0) hi (by show 0 < 4; decide) fun h1 g1 sb => ?_)
  unfold newExc raiseNew
  refine wpAny_bind (wpAny_bind (wpAny_newObj_type ?_))
  have fa:firstArgMember (.type "StopIteration") [] = pure Value.none:=by
    rw [firstArgMember.eq_1]
    generalize (Manifest.find? "StopIteration").elim false (fun t=>t.mro.contains "StopIteration" || t.mro.contains "SystemExit") = b
    cases b <;> rfl
  refine wpAny_bind (wpAny_of_eq fa (wpAny_newObj_type ?_ (sizeOk_excFields _ _ _ _ _ _ _ _)))
  refine wpAny_bind (wpAny_handled ?_)
  rw [show A.in1.handled = none from hh]
  refine wpAny_throw ?_
  refine wpAny_bind (wpAny_isInstance ⟨_,Heap.get?_push_size _ rfl,rfl⟩ isSubtype_stop ?_)
  rw [if_pos rfl]
  refine wpAny_pure (k _ fun b o hb e => ?_)
  exact Heap.get?_push_of_some _ (Heap.get?_push_of_some _ ((sb.2 b hb).trans e))
end
end L2
namespace L2
open PySem PySem.Spec PyProof.Rows PySem.NumText
section
variable {X:Cx} {o:Expr} {td:TE}
end
section
variable {prog:Program} {w:World} {A:Around} {E:Value→Shared→Prop} {s:Shared} {d it S:Addr} {ds:Array DictEntry} {ep:Nat}
theorem loop_keys {R:Result→Shared→Prop} (hh:A.handled = none) (hn:ds.size ≤ sizeLine) (nSI:S ≠ it) (ndS:d ≠ S) (ndI:d ≠ it) (res:Value) {h1:Heap}
    (k:∀ h' tk acc c,(∀ b o,b ≠ S→b ≠ it→h1.get? b = some o→h'.get? b = some o)→h'.get? S = some { cls := .type "list",data := .seq acc c }→acc.toList = ds.toList.map (·.key)→R (.ok (.ret res)) { s with heap:=h',toks:=tk }) :
    ∀ (n i:Nat) (h:Heap) (tk c:Nat) (acc:Array Value),ds.size - i = n→i ≤ ds.size→h.get? it = some (kiObj d i ds.size ep)→RawD h d ds ep →
      (∀ b o,b ≠ S→b ≠ it→h1.get? b = some o→h.get? b = some o)→h.get? S = some { cls := .type "list",data := .seq acc c }→acc.toList = (ds.toList.take i).map (·.key) →
      codeAny (model prog w) A (.builtin "list.extend.loop" ⟨[.ref S,.ref it,res],[]⟩) R { s with heap:=h,toks:=tk }:=by
  intro n
  induction n with
  | zero =>
    intro i h tk c acc hni hi hit hd kp hS hacc
    refine codeAny_builtin F.entry_extend_loop ?_
    rw [Around.under_plainId F.plain_extend_loop]
    refine wpAny_bind (next_keyOver (s:={ s with heap:=h,toks:=tk }) hh hit hd (by rw [Array.getElem?_eq_none]; omega) fun h' kp' => ?_)
    refine wpAny_pure (k h' tk acc c (fun b o h1' h2' e=>kp' b o h2' (kp b o h1' h2' e)) (kp' _ _ nSI hS) ?_)
    rw [hacc,List.take_of_length_le (by rw [Array.length_toList]; omega)]
  | succ n ih =>
    intro i h tk c acc hni hi hit hd kp hS hacc
    obtain ⟨e,he⟩:∃ e,ds[i]? = some e:=⟨_,Array.getElem?_eq_getElem (by omega)⟩
    refine codeAny_builtin F.entry_extend_loop ?_
    rw [Around.under_plainId F.plain_extend_loop]
    refine wpAny_bind (next_key (s:={ s with heap:=h,toks:=tk }) hit hd he fun h' hit' hz kp' => ?_)
    have hS':=kp' _ _ nSI hS
    have haz:acc.size = i:=by rw [← Array.length_toList,hacc,List.length_map,List.length_take,Array.length_toList]; omega
    refine wpAny_bind (wpAny_updateSeq (a:=S) (s:={ s with heap:=h',toks:=tk }) hS' rfl ?_ (by omega) (by rw [Array.size_push]; omega))
    refine wpAny_pure ⟨plainId_quiet F.plain_extend_loop _, ?_⟩
    have oth:∀ b,b ≠ S→(h'.update S (Obj.mapSeq fun x=>x.push e.key)).get? b = h'.get? b:=fun b hb=>Heap.get?_update_other _ _ (Ne.symm hb)
    have self:(h'.update S (Obj.mapSeq fun x=>x.push e.key)).get? S = some { cls := .type "list",data := .seq (acc.push e.key) (if (acc.push e.key).size == acc.size then c else c + 1) }:=Heap.get?_update_self _ hS' rfl
    refine ih (i + 1) _ tk _ _ (by omega) (by omega) (by rw [oth _ nSI.symm]; exact hit') ?_ ?_ self ?_
    · obtain ⟨o,o1,o2⟩:=hd
      exact ⟨o,by rw [oth _ ndS]; exact kp' _ _ ndI o1,o2⟩
    · intro b o hb1 hb2 q
      rw [oth _ hb1]
      exact kp' _ _ hb2 (kp b o hb1 hb2 q)
    · have hil:i < ds.toList.length:=by rw [Array.length_toList]; omega
      rw [Array.toList_push,hacc,List.take_succ_eq_append_getElem hil,List.map_append]
      have:ds.toList[i] = e:=by
        have:=(Array.getElem?_eq_some_iff.mp he).2
        rw [Array.getElem_toList]; exact this
      rw [this]
      rfl
theorem collect_keys {R:List Value→Shared→Prop} (hh:A.handled = none) (hT:s.TypeIs (.ref d) "dict") (hb:(d == sysModules) = false) (hd:RawD s.heap d ds ep) (hn:ds.size ≤ sizeLine)
    (k:∀ h' tk,(∀ b o,s.heap.get? b = some o→h'.get? b = some o)→R (ds.toList.map (·.key)) { s with heap:=h',toks:=tk }):wpAny (model prog w) A (collect (.ref d)) R E s:=by
  unfold collect
  refine wpAny_bind (wpAny_runValue (codeAny_builtin entry_proto_collect' ?_))
  rw [Around.under_plainId F.plain_proto_collect]
  refine wpAny_bind (wpAny_newObj_type (wpAny_pure ⟨plainId_quiet F.plain_list_iadd _,codeAny_builtin entry_list_iadd' ?_⟩))
  rw [Around.under_plainId F.plain_list_iadd]
  obtain ⟨o,d1,d2,d3⟩:=id hd
  obtain ⟨h1,hh1⟩:∃ h1,h1 = s.heap.push { cls := .type "list",data := .seq (#[]:Array Value) }:=⟨_,rfl⟩
  have hS1:h1.get? s.heap.objs.size = some { cls := .type "list",data := .seq #[] }:=by rw [hh1]; exact Heap.get?_push_size _ rfl
  have kp1:∀ b ob,s.heap.get? b = some ob→h1.get? b = some ob:=fun b ob e=>by rw [hh1]; exact Heap.get?_push_of_some _ e
  have z1:h1.objs.size = s.heap.objs.size + 1:=by rw [hh1,Heap.size_push]
  have hd1:RawD h1 d ds ep:=⟨o,kp1 _ _ d1,d2,d3⟩
  have hT1:({ s with heap:=h1 }:Shared).TypeIs (.ref d) "dict" := ⟨o,kp1 _ _ d1,d2⟩
  show wpAny _ _ (Builtin.«list.__iadd__» _) _ _ { s with heap:=s.heap.push { cls := .type "list",data := .seq (#[]:Array Value) } }
  rw [← hh1]
  unfold Builtin.«list.__iadd__»
  refine wpAny_bind (wpAny_pure ?_)
  show wpAny _ _ (Builtin.List.listExtendWith (.ref s.heap.objs.size) (.ref d) (.ref s.heap.objs.size)) _ _ _
  unfold Builtin.List.listExtendWith
  refine wpAny_bind (wpAny_typeOf hT1 ?_)
  have ndS:d ≠ s.heap.objs.size:=Nat.ne_of_lt (Heap.lt_size d1)
  rw [if_neg (by simp [Builtin.List.listSameRef,ndS.symm])]
  refine wpAny_bind (iter_keys (s:={ s with heap:=h1 }) hT1 hd1 hb ?_)
  obtain ⟨h2,hh2⟩:∃ h2,h2 = h1.push (kiObj d 0 ds.size ep):=⟨_,rfl⟩
  have z2:h2.objs.size = h1.objs.size + 1:=by rw [hh2,Heap.size_push]
  have kp2:∀ b ob,h1.get? b = some ob→h2.get? b = some ob:=fun b ob e=>by rw [hh2]; exact Heap.get?_push_of_some _ e
  have i2:h2.get? h1.objs.size = some (kiObj d 0 ds.size ep):=by rw [hh2]; exact Heap.get?_push_size _ rfl
  show wpAny _ _ _ _ _ { s with heap:=h1.push (kiObj d 0 ds.size ep) }
  rw [← hh2]
  have hT2:({ s with heap:=h2 }:Shared).TypeIs (.ref d) "dict" := ⟨o,kp2 _ _ (kp1 _ _ d1),d2⟩
  refine wpAny_bind (wpAny_holding (PySem.W.kdl_hint_dict hT2 ?_))
  have nSI:s.heap.objs.size ≠ h1.objs.size:=by rw [z1]; exact Nat.ne_of_lt (Nat.lt_succ_self _)
  have ndI:d ≠ h1.objs.size:=Nat.ne_of_lt (Heap.lt_size (kp1 _ _ d1))
  have fin:∀ h3 c,h3.objs.size = h2.objs.size→(∀ b,b ≠ s.heap.objs.size→h3.get? b = h2.get? b)→h3.get? s.heap.objs.size = some { cls := .type "list",data := .seq #[] c } →
      codeAny (model prog w) A (.builtin "list.extend.loop" ⟨[.ref s.heap.objs.size,.ref h1.objs.size,.ref s.heap.objs.size],[]⟩) (fun r s'=>∃ h' tk acc c',r = .ok (.ret (.ref s.heap.objs.size))∧s' = { s with heap:=h',toks:=tk }∧(∀ b ob,s.heap.get? b = some ob→h'.get? b = some ob)∧h'.get? s.heap.objs.size = some { cls := .type "list",data := .seq acc c' }∧acc.toList = ds.toList.map (·.key)) { s with heap:=h3,toks:=s.toks }:=by
    intro h3 c z3 oth3 hS3
    refine loop_keys (ep:=ep) (d:=d) (h1:=h2) hh hn nSI ndS ndI (.ref s.heap.objs.size) ?_ (ds.size - 0) 0 h3 s.toks c #[] rfl (Nat.zero_le _) (by rw [oth3 _ nSI.symm]; exact i2) ⟨o,by rw [oth3 _ ndS]; exact kp2 _ _ (kp1 _ _ d1),d2,d3⟩ (fun b ob hb1 hb2 e=>by rw [oth3 _ hb1]; exact e) hS3 rfl
    intro h' tk acc c' kp' hS' hacc
    exact ⟨h',tk,acc,c',rfl,rfl,fun b ob e=>kp' b ob (Nat.ne_of_lt (Heap.lt_size e)) (Nat.ne_of_lt (Heap.lt_size (kp1 _ _ e))) (kp2 _ _ (kp1 _ _ e)),hS',hacc⟩
  refine wpAny_ite_split (fun _ => ?_) (fun _ => ?_)
  · refine wpAny_bind (wpAny_rule (wpAny_bind (wpAny_bind (wpAny_updateSeq (a:=s.heap.objs.size) (s:={ s with heap:=h2 }) (kp2 _ _ hS1) rfl ?_ (Nat.zero_le _) (by show 1 ≤ _; rw [sizeLine_eq]; omega)))))
    have self:(h2.update s.heap.objs.size (Obj.mapSeq fun x=>x.push .none)).get? s.heap.objs.size = some { cls := .type "list",data := .seq #[.none] 1 }:=Heap.get?_update_self _ (kp2 _ _ hS1) rfl
    refine wpAny_updateSeq (a:=s.heap.objs.size) self rfl ?_ (by show 1 ≤ _; rw [sizeLine_eq]; omega) (Nat.zero_le _)
    refine wpAny_pure ⟨plainId_quiet F.plain_extend_loop _,codeAny_mono (fin _ 2 ?_ ?_ ?_) fun r s' ⟨h',tk,acc,c',e1,e2,kp',hS',hacc⟩ => ?_⟩
    · rw [Heap.size_update,Heap.size_update]
    · intro b hb
      rw [Heap.get?_update_other _ _ (Ne.symm hb),Heap.get?_update_other _ _ (Ne.symm hb)]
    · exact Heap.get?_update_self _ self rfl
    · subst e1 e2
      refine wpAny_bind (wpAny_load hS' ?_)
      dsimp only
      rw [hacc]
      exact wpAny_pure (k h' tk kp')
  · refine wpAny_pure ⟨plainId_quiet F.plain_extend_loop _,codeAny_mono (fin h2 0 rfl (fun _ _=>rfl) (kp2 _ _ hS1)) fun r s' ⟨h',tk,acc,c',e1,e2,kp',hS',hacc⟩ => ?_⟩
    subst e1 e2
    refine wpAny_bind (wpAny_load hS' ?_)
    dsimp only
    rw [hacc]
    exact wpAny_pure (k h' tk kp')
end
theorem marks_srt {ks:List Mark} (nd:ks.Nodup) (few:ks.length < 64):Srt ks (fun m=>[.int m.1,.int m.2]) mLt .int where
  sto:=mLt_sto
  few:=few
  nd:=nd
  lts:=by
    intro a _ b _
    have h:=markD_lt a b
    exact h
  fst:=fun a _=>⟨_,_,rfl,_,rfl⟩
  shp:=fun a _=>rfl
section
variable {X:Cx}
noncomputable def rSortK (P:Program) (w:World) (K:PySem.W.Frag):List V→Hp→VK→Prop:=fun xs H Q=>∃ (a:Addr) (es:List Ent) (o:Obj),xs = [.ref a]∧H a = some (dO P w a es o)∧(∀ e ∈ es,SqT K H e.2.1 (mkV e.1))∧(es.map (·.1)).Nodup∧es.length < 64∧SortQ K H (es.map (·.1)) (fun m=>[.int m.1,.int m.2]) mLt Q
theorem keys_vals {X:Cx}:∀ {es:List Ent} {rs:List Row},Paired EntR es rs→Vals (es.map fun e=>V.ref e.2.1) ((rs.map (entryOfKey (dK X.prog X.w))).map (·.key))
  | _,_,.nil=>.nil
  | _,_,.cons a b=>.cons (show RelV (.ref _) (.ref _) from by rw [a.2.1]; rfl) (keys_vals b)
theorem call_sortedK (hc:X.calm = true) (hu:X.A.units + 100 < cLine):CallR X (.builtin "sorted") (rSortK X.prog X.w X.K):=by
  intro pins s σ H xs us Q I r h
  obtain ⟨a,es,o,rfl,ha,hk,nd,few,q⟩:=h
  obtain ⟨u,rfl,ru⟩:=vals1 r
  cases ru
  obtain ⟨hT,_⟩:=I.isDict ha
  obtain ⟨h1,hb,_,ds,ep,rs,RR⟩:=I.raw ha
  refine sorted_shell (collect_keys (I.ok.hd hc) hT hb ⟨o,h1,RR.cl,RR.dat⟩ (by rw [RR.size,sizeLine_eq]; omega) fun h' tk kp => ?_)
  have I1:Inv X pins σ H { s with heap:=h',toks:=tk }:=I.kept (t':=tk) kp
  rw [RR.lst]
  refine sort_go (s:=s) hu (marks_srt nd (by rw [List.length_map]; exact few)) I1 (keys_vals RR.rel) ?_ q
  have:∀ (l:List Ent),(∀ e ∈ l,SqT X.K H e.2.1 (mkV e.1))→DVs X.K H ((l.map (·.1)).map fun (m:Mark)=>PyData.tuple [.int m.1,.int m.2]) (l.map fun e=>V.ref e.2.1):=by
    intro l
    induction l with
    | nil=>intro _; rfl
    | cons e l ih=>intro hl; exact ⟨_,_,rfl,mkV_dv (hl e List.mem_cons_self),ih fun e' he'=>hl e' (List.mem_cons_of_mem _ he')⟩
  exact this es hk
end
end L2
namespace L2
open PySem PySem.Spec PyProof.Rows PySem.NumText
theorem ne_empty (a b:Addr):Meets (Builtin.«dict.__ne__» ⟨[.ref a,.ref b],[]⟩) (fun A R s=>(a == sysModules) = false∧(b == sysModules) = false∧∃ oa ob es ea eb,s.heap.get? a = some oa∧oa.cls = .type "dict" ∧ oa.data = .dict es ea∧s.heap.get? b = some ob∧ob.cls = .type "dict" ∧ ob.data = .dict #[] eb∧R (.ok (.ret (.bool (!es.isEmpty)))) s):=by
  intro prog w A R s h
  obtain ⟨ha,hb,oa,ob,es,ea,eb,a1,a2,a3,b1,b2,b3,r⟩:=h
  have tA:s.TypeIs (.ref a) "dict" := ⟨oa,a1,a2⟩
  have tB:s.TypeIs (.ref b) "dict" := ⟨ob,b1,b2⟩
  unfold Builtin.«dict.__ne__»
  show wpAny _ _ (Builtin.Dict.dictSlotArgs "__ne__" ⟨[.ref a,.ref b],[]⟩ >>= _) _ _ _
  refine wpAny_bind (wpAny_bind (wpAny_notOrdered_dict tA (wpAny_bind (wpAny_of_eq (a:=(Value.ref a,[Value.ref b])) rfl (wpAny_pure ?_)))))
  dsimp only
  refine wpAny_bind (wpAny_isInstance tB PySem.F.sub_dict_dict ?_)
  simp only [Bool.not_true,Bool.false_eq_true,if_false]
  refine wpAny_bind (wpAny_pure (wpAny_bind (wpAny_pure ?_)))
  unfold Builtin.Dict.samePairs Builtin.Dict.showsAll
  rw [ha,hb]
  refine wpAny_bind (wpAny_bind (wpAny_of_eq (a:=()) (if_neg Bool.false_ne_true) (wpAny_bind (wpAny_of_eq (a:=()) (if_neg Bool.false_ne_true) ?_))))
  refine wpAny_bind (wpAny_dictEntries a1 a3 (wpAny_bind (wpAny_dictEntries b1 b3 ?_)))
  by_cases he:es.size = 0
  · have e0:es = #[]:=Array.eq_empty_of_size_eq_zero he
    subst e0
    rw [if_neg (by simp)]
    refine wpAny_bind (wpAny_dictEpoch a1 a3 (wpAny_bind (wpAny_of_eq (a:=((none:Option Bool),())) (by simp) ?_)))
    exact wpAny_pure (wpAny_pure r)
  · rw [if_pos (by simpa using he)]
    refine wpAny_bind (wpAny_rule (wpAny_pure (wpAny_pure ?_)))
    have:es.isEmpty = false:=by
      rw [Array.isEmpty]
      exact decide_eq_false he
    rw [this] at r
    exact r
section
variable {X:Cx}
noncomputable def rNeE (P:Program) (w:World):R2:=fun x y H Q=>∃ a b es o ob,x = .ref a∧y = .ref b∧H a = some (dO P w a es o)∧H b = some (dO P w b [] ob)∧Q (.bl (!decide (es = []))) H
theorem op_neE (hu:X.A.units + 100 < cLine):OpR X (compareOp .NotEq) (rNeE X.prog X.w):=by
  intro pins s σ H x y v u Q I rx ry h
  obtain ⟨a,b,es,o,ob,rfl,rfl,ha,hb,q⟩:=h
  cases rx
  cases ry
  obtain ⟨hTa,_⟩:=I.isDict ha
  obtain ⟨hTb,_⟩:=I.isDict hb
  obtain ⟨h1,sa,_,ds,ep,rs,RR⟩:=I.raw ha
  obtain ⟨g1,sb,_,ds2,ep2,rs2,RR2⟩:=I.raw hb
  have e2:ds2 = #[]:=Array.eq_empty_of_size_eq_zero (by rw [RR2.size]; rfl)
  subst e2
  show wpAny _ _ (richCompare .NotEq (.ref a) (.ref b)) _ _ _
  refine richCompare_meets_room (op := .NotEq) hTa hTb PySem.F.slot_dict_ne PySem.F.entry_dict_ne (PySem.F.args_dict_ne_2 _ _) (ne_empty a b) ⟨sa,sb,o,ob,ds,ep,ep2,h1,RR.cl,RR.dat,g1,RR2.cl,RR2.dat, ?_⟩ (by omega)
  refine ⟨(fun z=>by cases z),V.bl (!decide (es = [])),H,I, ?_,q⟩
  have:ds.isEmpty = decide (es = []):=by
    rw [Array.isEmpty]
    have hz:=RR.size
    by_cases e:es = []
    · rw [decide_eq_true e]
      rw [e] at hz
      exact decide_eq_true hz
    · rw [decide_eq_false e]
      refine decide_eq_false fun z=>e ?_
      rw [z] at hz
      exact List.length_eq_zero_iff.mp hz.symm
  rw [this]
  rfl
end
noncomputable def dropM (es:List Ent) (m:Mark):List Ent:=es.filter fun e => !decide (e.1 = m)
theorem erase_map {α β:Type} (f:α→β):∀ (l:List α) (j:Nat),(l.map f).eraseIdx j = (l.eraseIdx j).map f
  | [],j=>by simp
  | x :: l,0=>rfl
  | x :: l,j + 1=>by rw [List.map_cons,List.eraseIdx_cons_succ,List.eraseIdx_cons_succ,List.map_cons,erase_map f l j]
theorem erase_key:∀ {xs:List Row} {k:List Key} {p:Addr × Value} {j:Nat},(xs.map (·.1)).Nodup→xs[j]? = some (k,p)→xs.eraseIdx j = xs.filter fun y => !decide (y.1 = k)
  | [],k,p,j,_,h=>by simp at h
  | x :: xs,k,p,0,nd,h=>by
    cases (Option.some.inj h)
    have hn:=(List.nodup_cons.mp nd).1
    rw [List.eraseIdx_cons_zero,List.filter_cons_of_neg (by simp)]
    refine (List.filter_eq_self.mpr fun y hy => ?_).symm
    have:y.1 ≠ k:=fun e=>hn (by rw [← e]; exact List.mem_map_of_mem (f:=(·.1)) hy)
    simp [this]
  | x :: xs,k,p,j + 1,nd,h=>by
    have hx:x.1 ≠ k:=fun e=>by
      have hm:(k,p) ∈ xs:=List.mem_of_getElem? (show xs[j]? = some (k,p) by simpa using h)
      exact (List.nodup_cons.mp nd).1 (by show x.1 ∈ _; rw [e]; exact List.mem_map_of_mem (f:=(·.1)) hm)
    rw [List.eraseIdx_cons_succ,List.filter_cons_of_pos (by simp [hx]),erase_key (List.nodup_cons.mp nd).2 (by simpa using h)]
section
variable {prog:Program} {w:World} {A:Around} {E:Value→Shared→Prop} {s:Shared} {d q:Addr}
theorem take_out {Q:Option DictEntry→Shared→Prop} {xs:List Row} {m:Mark} {k:List Key} (room:(dK prog w).room A) (hk:(dK prog w).is s.heap k q) (hd:s.heap.DictOfH (dK prog w) d xs) (hn:xs.length ≤ 1000)
    (h0:(∀ x ∈ xs,x.1 ≠ k)→∀ tk,Q none { s with toks:=tk })
    (h1:∀ x ∈ xs,x.1 = k→∀ h' tk,h'.DictOfH (dK prog w) d (xs.filter fun y => !decide (y.1 = k))→Heap.SameBut d s.heap h'→Q (some (entryOfKey (dK prog w) x)) { s with heap:=h',toks:=tk }) :
    wpAny (model prog w) A (Builtin.Dict.takeOut d (.ref q)) Q E s:=by
  obtain ⟨o,es,ep,o1,oE,o2,o3,o4,o5⟩:=hd
  unfold Builtin.Dict.takeOut
  refine wpAny_holding (wpAny_bind ((dK prog w).pyHash room hk ?_))
  refine wpAny_bind (wpAny_dictFind_heap (s:={ s with toks:=s.toks + (dK prog w).draws k }) room hk o1 o2 o3 o4 o5 (fun hno => ?_) (fun j p hj => ?_))
  · exact wpAny_pure (h0 (fun x hx e=>by
      obtain ⟨i,hi⟩:=List.getElem?_of_mem hx
      obtain ⟨x1,x2⟩:=x
      have e:x1 = k:=e
      subst e
      exact hno i x2 hi) _)
  · dsimp only
    refine wpAny_bind (wpAny_dictEntries o1 o2 ?_)
    have hej:es[j]? = some (entryOfKey (dK prog w) (k,p)):=by
      rw [← Array.getElem?_toList,o3,List.getElem?_map,hj]
      rfl
    rw [hej]
    dsimp only
    have hsz:es.size = xs.length:=by rw [← Array.length_toList,o3,List.length_map]
    have hjl:j < es.size:=(Array.getElem?_eq_some_iff.mp hej).1
    have er:(es.eraseIdxIfInBounds j).toList = es.toList.eraseIdx j:=by simp [Array.eraseIdxIfInBounds,hjl]
    refine wpAny_bind (wpAny_updateDictKeys o1 o2 (wpAny_pure ?_) (by rw [hsz,sizeLine_eq]; omega) (by rw [← Array.length_toList,er,List.length_eraseIdx,Array.length_toList]; split <;> omega))
    have hxm:(k,p) ∈ xs:=List.mem_of_getElem? hj
    have hfl:xs.eraseIdx j = xs.filter fun y => !decide (y.1 = k):=erase_key o5 hj
    have hget:(s.heap.update d (Obj.mapDictKeys fun x=>x.eraseIdxIfInBounds j)).get? d = some (Obj.mapDictKeys (fun x=>x.eraseIdxIfInBounds j) o):=Heap.get?_update_self _ o1 (by obtain ⟨c1,c2,c3,c4⟩:=o; cases o2; rfl)
    have sb:=Heap.SameBut.update s.heap d (Obj.mapDictKeys fun x=>x.eraseIdxIfInBounds j)
    refine h1 (k,p) hxm rfl _ _ ⟨_,es.eraseIdxIfInBounds j,ep + 1,hget, ?_, ?_, ?_,fun x hx => ?_, ?_⟩ sb
    · obtain ⟨c1,c2,c3,c4⟩:=o
      cases o2
      exact oE
    · obtain ⟨c1,c2,c3,c4⟩:=o
      cases o2
      rfl
    · rw [er, ← hfl,o3]
      exact erase_map _ _ _
    · exact (dK prog w).keeps (o4 x (List.mem_filter.mp hx).1) o1 o2 sb
    · exact List.Nodup.sublist (List.Sublist.map _ List.filter_sublist) o5
end
end L2
namespace L2
open PySem PySem.Spec PyProof.Rows PySem.NumText
theorem drop_rel:∀ {es:List Ent} {xs:List Row},Paired EntR es xs→∀ m,Paired EntR (dropM es m) (xs.filter fun y => !decide (y.1 = mkK m))
  | _,_,.nil,m=>.nil
  | e :: es,x :: xs,.cons a b,m=>by
    unfold dropM
    by_cases h:e.1 = m
    · rw [List.filter_cons_of_neg (by simp [h]),List.filter_cons_of_neg (by rw [a.1,h]; simp)]
      exact drop_rel b m
    · rw [List.filter_cons_of_pos (by simp [h]),List.filter_cons_of_pos (by rw [a.1]; simp; exact fun z=>h (mkK_inj z))]
      exact .cons a (drop_rel b m)
theorem find_row:∀ {es:List Ent} {xs:List Row},Paired EntR es xs→∀ m,(findM es m = none→∀ x ∈ xs,x.1 ≠ mkK m)∧∀ v,findM es m = some v→∃ x ∈ xs,x.1 = mkK m
  | _,_,.nil,m=>⟨(fun _ x hx=>by cases hx),(fun v h=>by cases h)⟩
  | e :: es,x :: xs,.cons a b,m=>by
    obtain ⟨h1,h2⟩:=find_row b m
    unfold findM
    by_cases h:e.1 = m
    · rw [if_pos h]
      exact ⟨(fun z=>by cases z),fun v _=>⟨x,List.mem_cons_self,by rw [a.1,h]⟩⟩
    · rw [if_neg h]
      refine ⟨fun z y hy => ?_,fun v hv => ?_⟩
      · rcases List.mem_cons.mp hy with rfl | hy
        · rw [a.1]; exact fun z=>h (mkK_inj z)
        · exact h1 z y hy
      · obtain ⟨y,hy,e⟩:=h2 v hv
        exact ⟨y,List.mem_cons_of_mem _ hy,e⟩
theorem find_row2:∀ {es:List Ent} {xs:List Row},Paired EntR es xs→(xs.map (·.1)).Nodup→∀ {m:Mark} {x:Row},x ∈ xs→x.1 = mkK m→∃ v,findM es m = some v∧RelV v x.2.2
  | _,_,.nil,_,m,x,hx,_=>by cases hx
  | e :: es,y :: xs,.cons a b,nd,m,x,hx,ek=>by
    unfold findM
    obtain ⟨n1,n2⟩:=List.nodup_cons.mp nd
    by_cases h:e.1 = m
    · rw [if_pos h]
      rcases List.mem_cons.mp hx with rfl | hx
      · exact ⟨_,rfl,a.2.2⟩
      · exact absurd (show y.1 ∈ xs.map (·.1) by rw [a.1,h, ← ek]; exact List.mem_map_of_mem (f:=(·.1)) hx) n1
    · rw [if_neg h]
      rcases List.mem_cons.mp hx with rfl | hx
      · rw [a.1] at ek; exact absurd (mkK_inj ek) h
      · exact find_row2 b n2 hx ek
section
variable {prog:Program} {w:World} {A:Around} {E:Value→Shared→Prop} {s:Shared} {d q:Addr}
theorem pop_body {R:Result→Shared→Prop} {xs:List Row} {k:List Key} (dflt:Option Value) (room:(dK prog w).room A.in1) (hs:(d == sysModules) = false) (hk:(dK prog w).is s.heap k q) (hd:s.heap.DictOfH (dK prog w) d xs) (hn:xs.length ≤ 1000)
    (h0:(∀ x ∈ xs,x.1 ≠ k)→∃ v,dflt = some v∧∀ tk,R (.ok (.ret v)) { s with toks:=tk })
    (h1:∀ x ∈ xs,x.1 = k→∀ h' tk,h'.DictOfH (dK prog w) d (xs.filter fun y => !decide (y.1 = k))→Heap.SameBut d s.heap h'→R (.ok (.ret x.2.2)) { s with heap:=h',toks:=tk }) :
    wpAny (model prog w) A.in1 (Builtin.«dict.pop» ⟨.ref d :: .ref q :: dflt.toList,[]⟩) (fun fin s'=>match fin with | .done f=>R (.ok f) s' | .again c'=>c'.quiet = true∧codeAny (model prog w) A c' R s') (fun e s'=>R (.error e) s') s:=by
  obtain ⟨o,es,ep,o1,oE,o2,o3,o4,o5⟩:=id hd
  have tD:s.TypeIs (.ref d) "dict" := ⟨o,o1,oE.1⟩
  unfold Builtin.«dict.pop» Builtin.Dict.keyAndDefault
  refine wpAny_bind (wpAny_bind (wpAny_notOrdered_dict tD ?_))
  have hsz:es.size = xs.length:=by rw [← Array.length_toList,o3,List.length_map]
  have go:wpAny (model prog w) A.in1 (do
      let old ← if es.isEmpty = true then do rule "dict.pop.empty"; pure none else Builtin.Dict.takeOut d (.ref q)
      if old.isNone = true then Builtin.Dict.missedRemoval d (.ref q)
      match old,dflt with
      | some e,_=>do letGo [e.key] [e.val]; ret e.val
      | none,some x=>do rule "dict.pop.default"; ret x
      | none,none=>do rule "dict.pop.keyerror"; let x ← newExc (.type "KeyError") [.ref q]; raiseNew x) (fun fin s'=>match fin with | .done f=>R (.ok f) s' | .again c'=>c'.quiet = true∧codeAny (model prog w) A c' R s') (fun e s'=>R (.error e) s') s:=by
    have miss:Builtin.Dict.missedRemoval d (.ref q) = pure ():=by
      unfold Builtin.Dict.missedRemoval
      rw [hs]
      rfl
    have gone:∀ tk,(∀ x ∈ xs,x.1 ≠ k)→wpAny (model prog w) A.in1 (do
        if (none:Option DictEntry).isNone = true then Builtin.Dict.missedRemoval d (.ref q)
        match (none:Option DictEntry),dflt with
        | some e,_=>do letGo [e.key] [e.val]; ret e.val
        | none,some x=>do rule "dict.pop.default"; ret x
        | none,none=>do rule "dict.pop.keyerror"; let x ← newExc (.type "KeyError") [.ref q]; raiseNew x) (fun fin s'=>match fin with | .done f=>R (.ok f) s' | .again c'=>c'.quiet = true∧codeAny (model prog w) A c' R s') (fun e s'=>R (.error e) s') { s with toks:=tk }:=by
      intro tk hno
      obtain ⟨v,rfl,hv⟩:=h0 hno
      simp only [Option.isNone_none,if_true]
      rw [miss]
      refine wpAny_bind (wpAny_pure ?_)
      exact wpAny_bind (wpAny_rule (wpAny_pure (hv tk)))
    by_cases he:es.isEmpty = true
    · rw [if_pos he]
      refine wpAny_bind (wpAny_bind (wpAny_rule (wpAny_pure ?_)))
      refine gone s.toks fun x hx => ?_
      have:xs.length = 0:=by rw [← hsz]; simpa using he
      rw [List.length_eq_zero_iff.mp this] at hx
      cases hx
    · rw [if_neg he]
      refine wpAny_bind (take_out (m:=(0,0)) room hk hd hn (fun hno tk=>gone tk hno) (fun x hx e h' tk hd' sb => ?_))
      simp only [Option.isNone_some,Bool.false_eq_true,if_false]
      exact wpAny_bind (wpAny_letGo (wpAny_pure (h1 x hx e h' tk hd' sb)))
  refine wpAny_bind (wpAny_of_eq (a:=()) rfl ?_)
  cases dflt with
  | none =>
    refine wpAny_bind (wpAny_of_eq (a:=(Value.ref d,[Value.ref q])) rfl (wpAny_bind (wpAny_pure (wpAny_pure ?_))))
    dsimp only
    rw [if_neg (show ¬ (keyPart (Value.ref q)).isSome = true from Bool.false_ne_true)]
    refine wpAny_bind (wpAny_dictEntries o1 o2 (wpAny_bind (wpAny_pure ?_)))
    exact go
  | some v =>
    refine wpAny_bind (wpAny_of_eq (a:=(Value.ref d,[Value.ref q,v])) rfl (wpAny_bind (wpAny_pure (wpAny_pure ?_))))
    dsimp only
    rw [if_neg (show ¬ (keyPart (Value.ref q)).isSome = true from Bool.false_ne_true)]
    refine wpAny_bind (wpAny_dictEntries o1 o2 (wpAny_bind (wpAny_pure ?_)))
    exact go
end
section
variable {X:Cx} {o e:Expr} {td ty:TE} {apos cpos:Pos}
noncomputable def tMPop (P:Program) (w:World) (K:PySem.W.Frag) (td ty:TE) (dflt:Bool):TE:=fun σ H Q=>td σ H fun x H1=>∃ a es,x = .ref a∧DM P w K H1 a es∧ty σ H1 fun y H2=>∃ q m,y = .ref q∧DM P w K H2 a es∧SqT K H2 q (mkV m)∧es.length ≤ 1000∧(∀ v,findM es m = some v→∀ o,Q v (upd H2 a (dO P w a (dropM es m) o)))∧(findM es m = none→dflt = true∧Q .non H2)
theorem pop_ok {pins:List (Addr × Obj)} {s:Shared} {σ:St} {H:Hp} {Q:VK} (hu:X.A.units + 1 < cLine) (I:Inv X pins σ H s) {a q:Addr} {es:List Ent} {m:Mark} (D:DM X.prog X.w X.K H a es) (hm:SqT X.K H q (mkV m)) (hl:es.length ≤ 1000) (dflt:Bool)
    (q1:∀ v,findM es m = some v→∀ o,Q v (upd H a (dO X.prog X.w a (dropM es m) o))) (q0:findM es m = none→dflt = true∧Q .non H) :
    wpAny (model X.prog X.w) X.A (call (.builtin "dict.pop") (.ref a :: .ref q :: (if dflt = true then some Value.none else none).toList)) (EP X pins σ Q) X.xe s:=by
  obtain ⟨z,hd,xs,r,dd⟩:=I.dict D
  have hxl:xs.length ≤ 1000:=by rw [← Paired.length r]; exact hl
  obtain ⟨o1,o2⟩:=D.ob
  have nd:(xs.map (·.1)).Nodup:=by obtain ⟨_,_,_,_,_,_,_,_,h⟩:=dd; exact h
  obtain ⟨f1,f2⟩:=find_row r m
  have hT:s.TypeIs (.ref a) "dict" := dd.typeIs
  have args:argsOk "dict.pop" ⟨.ref a :: .ref q :: (if dflt = true then some Value.none else none).toList,[]⟩:=by
    cases dflt with
    | true=>exact F.args_dict_pop_3 _ _ _
    | false=>exact F.args_dict_pop_2 _ _
  refine call_meetsIn (S:=fun A R s'=>(dK X.prog X.w).room A.in1∧s' = s∧((∀ x ∈ xs,x.1 ≠ mkK m)→∃ v,(if dflt = true then some Value.none else none) = some v∧∀ tk,R (.ok (.ret v)) { s with toks:=tk })∧(∀ x ∈ xs,x.1 = mkK m→∀ h' tk,h'.DictOfH (dK X.prog X.w) a (xs.filter fun y => !decide (y.1 = mkK m))→Heap.SameBut a s.heap h'→R (.ok (.ret x.2.2)) { s with heap:=h',toks:=tk })) PySem.F.slot_dict_pop hT PySem.F.entry_dict_pop args ?_ ⟨tupleKind_room_in1 hu,rfl,fun hno => ?_,fun x hx e h' tk hd' sb => ?_⟩
  · rintro A R s' ⟨room,rfl,h0,h1⟩
    exact pop_body _ room hd (I.mark hm) dd hxl h0 h1
  · have hn:findM es m = none:=by
      cases h:findM es m with
      | none=>rfl
      | some v =>
        obtain ⟨x,hx,e⟩:=f2 v h
        exact absurd e (hno x hx)
    obtain ⟨rfl,q0'⟩:=q0 hn
    exact ⟨.none,rfl,fun tk=>⟨.non,H,I.kept (t':=tk) (fun _ _ e=>e),rfl,q0'⟩⟩
  · obtain ⟨v,hv,rv⟩:=find_row2 r nd hx e
    have he:∃ ob,h'.get? a = some ob:=let ⟨ob,_,_,hq,_⟩:=hd'; ⟨ob,hq⟩
    obtain ⟨ob,hob⟩:=dO_ok (P:=X.prog) (w:=X.w) (H:=H) (es:=dropM es m) (Nat.le_trans (List.length_filter_le _ _) z) hd (drop_rel r m) hd'
    exact ⟨v,_,I.write (t':=tk) (x:=a) (e:=a) (by rw [o2]; exact True.intro) (.inl rfl) (fun b ob hb z=>(sb.2 b hb).trans z) he hob,rv,q1 v hv ob⟩
theorem pe_mpop1 (hu:X.A.units + 1 < cLine) (ho:PE X o td) (he:PE X e ty) (hbase:attributeBase o "pop" X.env (eval o X.env) = eval o X.env:=by rfl)
    (hfew:((backTo cpos (starEach [e] X.env)).all (fun x => !x.1) && (backToKw cpos (keywordEach [] X.env)).all (fun x=>x.1.isSome)
      && decide (([e]:List Expr).length + ([]:List Keyword).length + (if ([]:List Keyword).isEmpty then 0 else 1) < 30)) = true:=by rfl)
    (hline:(apos.endLine == cpos.line) = true:=by rfl) (htr:backTo cpos (starEach [e] X.env) = [(false,eval e X.env)]:=by rfl):PE X (.Call (.Attribute o "pop" apos) [e] [] cpos) (tMPop X.prog X.w X.K td ty false) := .mk <| by
  intro pins s σ H Q I h
  refine wpAny_Call_method hbase hfew hline PySem.F.plainAttrs_dict PySem.F.slot_dict_pop PySem.F.type_dict_pop (thn (ho pins s σ H _ I h) fun u s1 ⟨x,H1,I1,rx,a,es,ex,D,q1⟩ => ?_)
  subst ex
  cases rx
  obtain ⟨_,_,xs,_,dd⟩:=I1.dict D
  refine ⟨dd.typeIs,fun b q => ?_, ?_⟩
  · cases q
    obtain ⟨ob,_,_,h1,h2,_⟩:=dd
    exact ⟨ob,h1,h2.2.1⟩
  rw [htr]
  refine Calls.callWith_builtin rfl (Calls.evalArgs_plain (Calls.spliced_cons (thn (he pins s1 σ H1 _ I1 q1) fun iv s2 ⟨y,H2,I2,ry,q,m,ey,D2,hm,hl,k1,k0⟩=>Calls.spliced_nil ?_)))
  subst ey
  cases ry
  exact pop_ok hu I2 D2 hm hl false k1 k0
end
end L2
namespace L2
open PySem PySem.Spec PyProof.Rows PySem.NumText
theorem slot_si_next:Slot "set_iterator" (Str.ofString "__next__") "set_iterator.__next__" := by
  refine Slot.of (owner := "set_iterator") (n := "__next__") ?_ ?_ ?_ ?_ ?_ ?_ ?_
  · rw [typeLookup_type,builtinLookup_eq_fast]; rfl
  · decide +kernel
  · decide +kernel
  · decide +kernel
  · exact Or.inl (by decide +kernel)
  · rw [isSubtype_type]; rfl
  · decide +kernel
theorem entry_si_next:entryFor table "set_iterator.__next__" = some Builtin.«set_iterator.__next__» := entryFor_of_tree (by rfl)
theorem entry_set_iterS:entryFor table "set.__iter__" = some Builtin.«frozenset.__iter__» := entryFor_alias (id' := "frozenset.__iter__") (by rfl) (by rfl) (by decide +kernel) (by rfl)
theorem args_si (a:Value):argsOk "set_iterator.__next__" ⟨[a],[]⟩:=by rfl
section
variable {prog:Program} {w:World} {A:Around} {E:Value→Shared→Prop} {s:Shared} {a it:Addr}
theorem hint_set {Q:Bool→Shared→Prop} {r:Addr} (hT:s.TypeIs (.ref r) "set") (h:Q false s):wpAny (model prog w) A (Builtin.List.listLengthHint (.ref r)) Q E s:=by
  unfold Builtin.List.listLengthHint
  refine wpAny_bind (wpAny_specialOf hT F.slot_set_len.lookup ?_)
  have sp:splitId "set.__len__" = some ("set", "__len__"):=by decide +kernel
  dsimp only
  rw [sp]
  have sub:isSubtype (.type "set") (.type "set") = pure true:=by rw [isSubtype_type]; rfl
  refine wpAny_bind (wpAny_isInstance hT sub ?_)
  rw [if_neg (by decide)]
  rw [if_pos (by decide +kernel)]
  refine wpAny_bind (wpAny_typeOf hT ?_)
  exact wpAny_pure h
end
end L2
namespace L2
open PySem PySem.Spec PyProof.Rows PySem.NumText
section
variable {prog:Program} {w:World} {A:Around} {E:Value→Shared→Prop} {s:Shared} {a it:Addr}
end
section
variable {X:Cx}
end
end L2
namespace L2
open PySem PySem.Spec PyProof.Rows PySem.NumText
theorem erase_perm {α:Type}:∀ (l:List α) (n:Nat) (h:n < l.length),(l[n] :: l.eraseIdx n).Perm l
  | [],n,h=>by simp at h
  | x :: l,0,_=>.refl _
  | x :: l,n + 1,h=>by
    have hl:n < l.length:=by simpa using h
    show (l[n] :: x :: l.eraseIdx n).Perm (x :: l)
    exact (List.Perm.swap _ _ _).trans (.cons _ (erase_perm l n hl))
theorem pick_go {α:Type} (next:Nat→Nat):∀ (fuel k:Nat) (left:List α) (out:Array α),left.length = fuel→(pickOrder.go next fuel k left out).toList.Perm (out.toList ++ left)
  | 0,k,left,out,h=>by
    rw [List.length_eq_zero_iff.mp h,List.append_nil]
    unfold pickOrder.go
    exact .refl _
  | fuel + 1,k,left,out,h=>by
    unfold pickOrder.go
    have hl:next k % left.length < left.length:=Nat.mod_lt _ (by omega)
    rw [List.getElem?_eq_getElem hl]
    dsimp only
    refine (pick_go next fuel (k + 1) _ _ (by rw [List.length_eraseIdx_of_lt hl]; omega)).trans ?_
    rw [Array.toList_push,List.append_assoc]
    refine List.Perm.append_left _ ?_
    show (left[next k % left.length] :: left.eraseIdx (next k % left.length)).Perm left
    exact erase_perm left _ hl
theorem pick_perm {α:Type} (next:Nat→Nat) (xs:Array α):(pickOrder next xs).toList.Perm xs.toList:=by
  unfold pickOrder
  have:=pick_go next xs.size 0 xs.toList #[] (by simp)
  simpa using this
noncomputable def byT (w:World):Bool:=w.params.followText "set-order"
noncomputable def walkOf (w:World) (a:Addr) (ep:Nat) (es:Array (Int × Value)):Array (Int × Value):=if byT w = true then pickOrder (w.params.setOrder a ep) es else es
theorem walk_perm {w:World} {a:Addr} {ep:Nat} {es:Array (Int × Value)}:(walkOf w a ep es).toList.Perm es.toList:=by
  unfold walkOf
  split
  · exact pick_perm _ _
  · exact .refl _
theorem walk_size {w:World} {a:Addr} {ep:Nat} {es:Array (Int × Value)}:(walkOf w a ep es).size = es.size:=by
  rw [← Array.length_toList,walk_perm.length_eq,Array.length_toList]
noncomputable def slotAt (b:Bool) (t:ST) (i:Nat):Nat:=if b = true then 0 else match i with | 0=>0 | i + 1=>(t.place[i]?).getD 0 + 1
theorem below_slot {t:ST} (hs:Mono t.place):∀ {i:Nat},i ≤ t.place.size→SetTable.below t.place (slotAt false t i) = i
  | 0,_=>by
    show SetTable.below t.place 0 = 0
    obtain ⟨h1,h2,_⟩:=below_spec hs 0
    cases h:SetTable.below t.place 0 with
    | zero=>rfl
    | succ n =>
      rw [h] at h1 h2
      have:=h2 0 _ (Nat.succ_pos _) (Array.getElem?_eq_getElem (by omega))
      omega
  | i + 1,hi=>by
    show SetTable.below t.place ((t.place[i]?).getD 0 + 1) = i + 1
    have hii:i < t.place.size:=hi
    have ge:t.place[i]? = some t.place[i]:=Array.getElem?_eq_getElem hii
    rw [ge]
    show SetTable.below t.place (t.place[i] + 1) = i + 1
    obtain ⟨h1,h2,h3⟩:=below_spec hs (t.place[i] + 1)
    have u1:¬ SetTable.below t.place (t.place[i] + 1) ≤ i:=fun z=>by
      have:=h3 i _ z ge
      omega
    have u2:¬ i + 1 < SetTable.below t.place (t.place[i] + 1):=fun z=>by
      have hj:i + 1 < t.place.size:=by omega
      have g2:t.place[i + 1]? = some t.place[i + 1]:=Array.getElem?_eq_getElem hj
      have:=h2 (i + 1) _ z g2
      have:=hs i (i + 1) _ _ (Nat.lt_succ_self _) ge g2
      omega
    omega
noncomputable def siObj (a:Addr) (slot i n ep:Nat):Obj:={ cls := .type "set_iterator",data := .fields #[rawInt slot,rawInt i,.ref a,rawInt n,rawInt ep] }
structure RawS (w:World) (h:Heap) (a:Addr) (es:Array (Int × Value)) (ep:Nat) (t:ST):Prop where
  ob:∃ o,h.get? a = some o∧o.cls = .type "set" ∧ o.data = .set es ep t
  fits:t.fits es.size = true
  mono:Mono t.place
  led:byT w = true ∨ (t.led = true∧t.plain = true)
theorem RawS.kept {w:World} {h h':Heap} {a:Addr} {es:Array (Int × Value)} {ep:Nat} {t:ST} (x:RawS w h a es ep t) (k:∀ o,h.get? a = some o→h'.get? a = some o):RawS w h' a es ep t :=
  let ⟨⟨o,h1,h2⟩,f,m,l⟩:=x; ⟨⟨o,k o h1,h2⟩,f,m,l⟩
theorem RawS.pls {w:World} {h:Heap} {a:Addr} {es:Array (Int × Value)} {ep:Nat} {t:ST} (x:RawS w h a es ep t):t.place.size = es.size:=by
  have:=x.fits
  unfold SetTable.fits at this
  rw [Bool.and_eq_true] at this
  exact eq_of_beq this.1
section
variable {prog:Program} {w:World} {A:Around} {E:Value→Shared→Prop} {s:Shared} {a it:Addr} {es:Array (Int × Value)} {ep i:Nat} {t:ST}
theorem iter_set {Q:Value→Shared→Prop} (hs:RawS w s.heap a es ep t)
    (k:Q (.ref s.heap.objs.size) { s with heap:=s.heap.push (siObj a 0 0 es.size ep) }) :
    wpAny (model prog w) A (pyIter (.ref a)) Q E s:=by
  obtain ⟨⟨o,ho,hc,hd⟩,fit,hm,hl⟩:=hs
  have ty:s.TypeIs (.ref a) "set" := ⟨_,ho,hc⟩
  refine wpAny_pyIter_slot ty F.slot_set_iter (wpAny_call_entry F.slot_set_iter ty entry_set_iterS ?_ (F.args_set_iter_1 _))
  unfold Builtin.«frozenset.__iter__» Builtin.Frozenset.slot0 Builtin.Frozenset.sizeOf
  refine wpAny_bind (wpAny_bind (wpAny_pure (wpAny_pure ?_)))
  refine wpAny_bind (wpAny_bind (wpAny_setEntries_of ho hd fit (wpAny_pure ?_)))
  unfold setDrawn setsByText
  refine wpAny_bind (wpAny_bind (wpAny_setState_of ho hd fit ?_))
  refine wpAny_bind (wpAny_bind (wpAny_askSetting (wpAny_pure (wpAny_pure ?_))))
  have e:(!byT w && (!t.plain && decide (es.size > 1))) = false:=by
    rcases hl with h | ⟨_,h⟩
    · rw [h]; rfl
    · rw [h]; cases byT w <;> rfl
  rw [if_neg (fun z=>by have:=e.symm.trans z; cases this)]
  refine wpAny_bind (wpAny_pure (wpAny_bind (wpAny_setEpoch_of ho hd fit (wpAny_bind (wpAny_newObj_type ?_ ?_)))))
  · exact wpAny_pure ⟨_,rfl, "set_iterator",_,⟨_,Heap.get?_push_size _ rfl,rfl⟩,slot_si_next.lookup,k⟩
  · simp only [sizeOk,List.size_toArray,List.length_cons,List.length_nil,sizeLine_eq]
    omega
theorem set_next {R:Option (Value × Nat)→Shared→Prop} (hs:RawS w s.heap a es ep t) (hi:i ≤ es.size)
    (k:R (((walkOf w a ep es)[i]?).map fun e=>(e.2,slotAt (byT w) t (i + 1))) s):wpAny (model prog w) A (setNext a (slotAt (byT w) t i) i ep) R E s:=by
  have pz:=hs.pls
  obtain ⟨⟨o,ho,hc,hd⟩,fit,hm,hl⟩:=hs
  unfold setNext
  refine wpAny_bind (wpAny_setState_of ho hd fit ?_)
  unfold setsByText
  refine wpAny_bind (wpAny_bind (wpAny_askSetting (wpAny_pure ?_)))
  unfold walkOf at k
  cases hb:byT w with
  | true =>
    rw [hb] at k
    rw [if_pos (show ({ program:=(model prog w).prog,params:=(model prog w).w.params }:Setting).params.followText "set-order" = true from hb)]
    dsimp only
    rw [if_neg (by simp)]
    unfold setWalk setsByText
    refine wpAny_bind (wpAny_bind (wpAny_setState_of ho hd fit ?_))
    refine wpAny_bind (wpAny_bind (wpAny_askSetting (wpAny_pure ?_)))
    rw [if_pos (show ({ program:=(model prog w).prog,params:=(model prog w).w.params }:Setting).params.followText "set-order" = true from hb)]
    refine wpAny_bind (wpAny_askSetting (wpAny_pure (wpAny_pure ?_)))
    exact k
  | false =>
    rw [hb] at k
    rw [if_neg (show ¬ ({ program:=(model prog w).prog,params:=(model prog w).w.params }:Setting).params.followText "set-order" = true from fun z=>by have:=hb.symm.trans z; cases this)]
    obtain ⟨l1,l2⟩:t.led = true∧t.plain = true:=by
      rcases hl with z | z
      · rw [hb] at z; cases z
      · exact z
    have e:(!t.plain && decide (es.size > 1)) = false:=by rw [l2]; rfl
    rw [if_neg (fun z=>by have:=e.symm.trans z; cases this)]
    have e2:(!t.led && !es.isEmpty) = false:=by rw [l1]; rfl
    refine wpAny_bind ?_
    refine (show ∀ {m:Sem Unit} {R':Unit→Shared→Prop},m = pure ()→R' () s→wpAny (model prog w) A m R' E s from fun em r'=>by rw [em]; exact wpAny_pure r') (if_neg (fun z=>by have:=e2.symm.trans z; cases this)) ?_
    dsimp only
    rw [below_slot hm (by rw [pz]; exact hi)]
    refine wpAny_pure ?_
    rw [if_neg Bool.false_ne_true] at k
    by_cases hlt:i < es.size
    · have g1:es[i]? = some es[i]:=Array.getElem?_eq_getElem hlt
      have g2:t.place[i]? = some t.place[i]:=Array.getElem?_eq_getElem (by rw [pz]; exact hlt)
      rw [g1] at k ⊢
      rw [g2]
      have e3:slotAt false t (i + 1) = t.place[i] + 1:=by
        show (t.place[i]?).getD 0 + 1 = _
        rw [g2]; rfl
      rw [e3] at k
      exact k
    · have g1:es[i]? = none:=Array.getElem?_eq_none (by omega)
      rw [g1] at k ⊢
      exact k
theorem next_set {Q:Option Value→Shared→Prop} {e:Int × Value} (hi:s.heap.get? it = some (siObj a (slotAt (byT w) t i) i es.size ep)) (hs:RawS w s.heap a es ep t) (he:(walkOf w a ep es)[i]? = some e)
    (k:∀ h',h'.get? it = some (siObj a (slotAt (byT w) t (i + 1)) (i + 1) es.size ep)→h'.objs.size = s.heap.objs.size→(∀ b o,b ≠ it→s.heap.get? b = some o→h'.get? b = some o)→Q (some e.2) { s with heap:=h' }):wpAny (model prog w) A (pyNext (.ref it)) Q E s:=by
  have ty:s.TypeIs (.ref it) "set_iterator" := ⟨_,hi,rfl⟩
  have hlt:i < es.size:=by rw [← walk_size (w:=w) (a:=a) (ep:=ep)]; exact (Array.getElem?_eq_some_iff.mp he).1
  obtain ⟨o,ho,hc,hd⟩:=hs.ob
  unfold pyNext
  refine wpAny_bind (wpAny_attempt (wpAny_callSpecial?_slot ty slot_si_next (wpAny_call_entry slot_si_next ty entry_si_next ?_ (args_si _))))
  unfold Builtin.«set_iterator.__next__»
  refine wpAny_bind (wpAny_pure (wpAny_bind (wpAny_fieldsOf hi rfl ?_)))
  show wpAny _ _ (do let x ← setEntries a; _) _ _ _
  refine wpAny_bind (wpAny_setEntries_of ho hd hs.fits ?_)
  rw [if_neg (by simp)]
  show wpAny _ _ (do let x ← setNext a ((slotAt (byT w) t i:Nat):Int).toNat ((i:Nat):Int).toNat ((ep:Nat):Int).toNat; _) _ _ _
  rw [Int.toNat_natCast,Int.toNat_natCast,Int.toNat_natCast]
  refine wpAny_bind (set_next hs (Nat.le_of_lt hlt) ?_)
  rw [he]
  show wpAny _ _ (do setField (.ref it) 0 (rawInt ((slotAt (byT w) t (i + 1):Nat):Int)); setField (.ref it) 1 (rawInt ((i:Nat) + 1:Int)); ret e.2) _ _ _
  refine wpAny_bind (wpAny_setField_rec (k:=0) hi (by show 0 < 5; decide) fun h1 g1 sb => ?_)
  refine wpAny_bind (wpAny_setField_rec (s:={ s with heap:=h1 }) (k:=1) g1 (by show 1 < 5; decide) fun h2 g2 sb2 => ?_)
  exact wpAny_pure ⟨_,rfl,wpAny_pure (k h2 g2 (sb2.1.trans sb.1) fun b o hb q=>(sb2.2 b hb).trans ((sb.2 b hb).trans q))⟩
theorem next_setOver {Q:Option Value→Shared→Prop} (hh:A.handled = none) (hi:s.heap.get? it = some (siObj a (slotAt (byT w) t i) i es.size ep)) (hs:RawS w s.heap a es ep t) (he:i = es.size)
    (k:∀ h',(∀ b o,b ≠ it→s.heap.get? b = some o→h'.get? b = some o)→Q none { s with heap:=h' }):wpAny (model prog w) A (pyNext (.ref it)) Q E s:=by
  have ty:s.TypeIs (.ref it) "set_iterator" := ⟨_,hi,rfl⟩
  obtain ⟨o,ho,hc,hd⟩:=hs.ob
  unfold pyNext
  refine wpAny_bind (wpAny_attempt (wpAny_callSpecial?_slot ty slot_si_next (wpAny_call_entry slot_si_next ty entry_si_next ?_ (args_si _))))
  unfold Builtin.«set_iterator.__next__»
  refine wpAny_bind (wpAny_pure (wpAny_bind (wpAny_fieldsOf hi rfl ?_)))
  show wpAny _ _ (do let x ← setEntries a; _) _ _ _
  refine wpAny_bind (wpAny_setEntries_of ho hd hs.fits ?_)
  rw [if_neg (by simp)]
  show wpAny _ _ (do let x ← setNext a ((slotAt (byT w) t i:Nat):Int).toNat ((i:Nat):Int).toNat ((ep:Nat):Int).toNat; _) _ _ _
  rw [Int.toNat_natCast,Int.toNat_natCast,Int.toNat_natCast]
  refine wpAny_bind (set_next hs (Nat.le_of_eq he) ?_)
  rw [Array.getElem?_eq_none (by rw [walk_size]; omega)]
  show wpAny _ _ (do setField (.ref it) 2 .none; let x ← newExc (.type "StopIteration") []; raiseNew x) _ _ _
  refine wpAny_bind (wpAny_setField_rec (k:=2) hi (by show 2 < 5; decide) fun h1 g1 sb => ?_)
  unfold newExc raiseNew
  refine wpAny_bind (wpAny_bind (wpAny_newObj_type ?_))
  have fa:firstArgMember (.type "StopIteration") [] = pure Value.none:=by
    rw [firstArgMember.eq_1]
    generalize (Manifest.find? "StopIteration").elim false (fun t=>t.mro.contains "StopIteration" || t.mro.contains "SystemExit") = b
    cases b <;> rfl
  refine wpAny_bind (wpAny_of_eq fa (wpAny_newObj_type ?_ (sizeOk_excFields _ _ _ _ _ _ _ _)))
  refine wpAny_bind (wpAny_handled ?_)
  rw [show A.in1.handled = none from hh]
  refine wpAny_throw ?_
  show wpAny _ _ (do let x ← isInstance _ (.type "StopIteration"); _) _ _ _
  refine wpAny_bind (wpAny_isInstance ⟨_,Heap.get?_push_size _ rfl,rfl⟩ isSubtype_stop ?_)
  rw [if_pos rfl]
  refine wpAny_pure (k _ fun b o hb e => ?_)
  exact Heap.get?_push_of_some _ (Heap.get?_push_of_some _ ((sb.2 b hb).trans e))
end
end L2
namespace L2
open PySem PySem.Spec PyProof.Rows PySem.NumText
section
variable {prog:Program} {w:World} {A:Around} {E:Value→Shared→Prop} {s:Shared} {a it S:Addr} {es:Array (Int × Value)} {ep:Nat} {t:ST}
theorem loop_set {R:Result→Shared→Prop} (hh:A.handled = none) (hn:es.size ≤ sizeLine) (nSI:S ≠ it) (ndS:a ≠ S) (ndI:a ≠ it) (res:Value) {h1:Heap}
    (k:∀ h' tk acc c,(∀ b o,b ≠ S→b ≠ it→h1.get? b = some o→h'.get? b = some o)→h'.get? S = some { cls := .type "list",data := .seq acc c }→acc.toList = (walkOf w a ep es).toList.map (·.2)→R (.ok (.ret res)) { s with heap:=h',toks:=tk }) :
    ∀ (n i:Nat) (h:Heap) (tk c:Nat) (acc:Array Value),es.size - i = n→i ≤ es.size→h.get? it = some (siObj a (slotAt (byT w) t i) i es.size ep)→RawS w h a es ep t →
      (∀ b o,b ≠ S→b ≠ it→h1.get? b = some o→h.get? b = some o)→h.get? S = some { cls := .type "list",data := .seq acc c }→acc.toList = ((walkOf w a ep es).toList.take i).map (·.2) →
      codeAny (model prog w) A (.builtin "list.extend.loop" ⟨[.ref S,.ref it,res],[]⟩) R { s with heap:=h,toks:=tk }:=by
  have wz:(walkOf w a ep es).size = es.size:=walk_size
  intro n
  induction n with
  | zero =>
    intro i h tk c acc hni hi hit hd kp hS hacc
    refine codeAny_builtin F.entry_extend_loop ?_
    rw [Around.under_plainId F.plain_extend_loop]
    refine wpAny_bind (next_setOver (s:={ s with heap:=h,toks:=tk }) hh hit hd (by omega) fun h' kp' => ?_)
    refine wpAny_pure (k h' tk acc c (fun b o h1' h2' e=>kp' b o h2' (kp b o h1' h2' e)) (kp' _ _ nSI hS) ?_)
    rw [hacc,List.take_of_length_le (by rw [Array.length_toList]; omega)]
  | succ n ih =>
    intro i h tk c acc hni hi hit hd kp hS hacc
    obtain ⟨e,he⟩:∃ e,(walkOf w a ep es)[i]? = some e:=⟨_,Array.getElem?_eq_getElem (by omega)⟩
    refine codeAny_builtin F.entry_extend_loop ?_
    rw [Around.under_plainId F.plain_extend_loop]
    refine wpAny_bind (next_set (s:={ s with heap:=h,toks:=tk }) hit hd he fun h' hit' hz kp' => ?_)
    have hS':=kp' _ _ nSI hS
    have haz:acc.size = i:=by rw [← Array.length_toList,hacc,List.length_map,List.length_take,Array.length_toList]; omega
    refine wpAny_bind (wpAny_updateSeq (a:=S) (s:={ s with heap:=h',toks:=tk }) hS' rfl ?_ (by omega) (by rw [Array.size_push]; omega))
    refine wpAny_pure ⟨plainId_quiet F.plain_extend_loop _, ?_⟩
    have oth:∀ b,b ≠ S→(h'.update S (Obj.mapSeq fun x=>x.push e.2)).get? b = h'.get? b:=fun b hb=>Heap.get?_update_other _ _ (Ne.symm hb)
    have self:(h'.update S (Obj.mapSeq fun x=>x.push e.2)).get? S = some { cls := .type "list",data := .seq (acc.push e.2) (if (acc.push e.2).size == acc.size then c else c + 1) }:=Heap.get?_update_self _ hS' rfl
    refine ih (i + 1) _ tk _ _ (by omega) (by omega) (by rw [oth _ nSI.symm]; exact hit') (hd.kept fun o o1=>by rw [oth _ ndS]; exact kp' _ _ ndI o1) ?_ self ?_
    · intro b o hb1 hb2 q
      rw [oth _ hb1]
      exact kp' _ _ hb2 (kp b o hb1 hb2 q)
    · have hil:i < (walkOf w a ep es).toList.length:=by rw [Array.length_toList]; omega
      rw [Array.toList_push,hacc,List.take_succ_eq_append_getElem hil,List.map_append]
      have:(walkOf w a ep es).toList[i] = e:=by
        have:=(Array.getElem?_eq_some_iff.mp he).2
        rw [Array.getElem_toList]; exact this
      rw [this]
      rfl
theorem collect_set {R:List Value→Shared→Prop} (hh:A.handled = none) (hd:RawS w s.heap a es ep t) (hn:es.size ≤ sizeLine)
    (k:∀ h' tk,(∀ b o,s.heap.get? b = some o→h'.get? b = some o)→R ((walkOf w a ep es).toList.map (·.2)) { s with heap:=h',toks:=tk }):wpAny (model prog w) A (collect (.ref a)) R E s:=by
  unfold collect
  refine wpAny_bind (wpAny_runValue (codeAny_builtin entry_proto_collect' ?_))
  rw [Around.under_plainId F.plain_proto_collect]
  refine wpAny_bind (wpAny_newObj_type (wpAny_pure ⟨plainId_quiet F.plain_list_iadd _,codeAny_builtin entry_list_iadd' ?_⟩))
  rw [Around.under_plainId F.plain_list_iadd]
  obtain ⟨o,d1,d2,d3⟩:=hd.ob
  obtain ⟨h1,hh1⟩:∃ h1,h1 = s.heap.push { cls := .type "list",data := .seq (#[]:Array Value) }:=⟨_,rfl⟩
  have hS1:h1.get? s.heap.objs.size = some { cls := .type "list",data := .seq #[] }:=by rw [hh1]; exact Heap.get?_push_size _ rfl
  have kp1:∀ b ob,s.heap.get? b = some ob→h1.get? b = some ob:=fun b ob e=>by rw [hh1]; exact Heap.get?_push_of_some _ e
  have z1:h1.objs.size = s.heap.objs.size + 1:=by rw [hh1,Heap.size_push]
  have hd1:RawS w h1 a es ep t:=hd.kept fun o e=>kp1 _ _ e
  have hT1:({ s with heap:=h1 }:Shared).TypeIs (.ref a) "set" := ⟨o,kp1 _ _ d1,d2⟩
  show wpAny _ _ (Builtin.«list.__iadd__» _) _ _ { s with heap:=s.heap.push { cls := .type "list",data := .seq (#[]:Array Value) } }
  rw [← hh1]
  unfold Builtin.«list.__iadd__»
  refine wpAny_bind (wpAny_pure ?_)
  show wpAny _ _ (Builtin.List.listExtendWith (.ref s.heap.objs.size) (.ref a) (.ref s.heap.objs.size)) _ _ _
  unfold Builtin.List.listExtendWith
  refine wpAny_bind (wpAny_typeOf hT1 ?_)
  have ndS:a ≠ s.heap.objs.size:=Nat.ne_of_lt (Heap.lt_size d1)
  rw [if_neg (by simp [Builtin.List.listSameRef,ndS.symm])]
  refine wpAny_bind (iter_set (s:={ s with heap:=h1 }) hd1 ?_)
  obtain ⟨h2,hh2⟩:∃ h2,h2 = h1.push (siObj a 0 0 es.size ep):=⟨_,rfl⟩
  have z2:h2.objs.size = h1.objs.size + 1:=by rw [hh2,Heap.size_push]
  have kp2:∀ b ob,h1.get? b = some ob→h2.get? b = some ob:=fun b ob e=>by rw [hh2]; exact Heap.get?_push_of_some _ e
  have i2:h2.get? h1.objs.size = some (siObj a 0 0 es.size ep):=by rw [hh2]; exact Heap.get?_push_size _ rfl
  show wpAny _ _ _ _ _ { s with heap:=h1.push (siObj a 0 0 es.size ep) }
  rw [← hh2]
  have hT2:({ s with heap:=h2 }:Shared).TypeIs (.ref a) "set" := ⟨o,kp2 _ _ (kp1 _ _ d1),d2⟩
  refine wpAny_bind (wpAny_holding (hint_set hT2 ?_))
  have nSI:s.heap.objs.size ≠ h1.objs.size:=by rw [z1]; exact Nat.ne_of_lt (Nat.lt_succ_self _)
  have ndI:a ≠ h1.objs.size:=Nat.ne_of_lt (Heap.lt_size (kp1 _ _ d1))
  have sl0:slotAt (byT w) t 0 = 0:=by
    unfold slotAt
    cases byT w <;> rfl
  have fin:∀ h3 c,h3.objs.size = h2.objs.size→(∀ b,b ≠ s.heap.objs.size→h3.get? b = h2.get? b)→h3.get? s.heap.objs.size = some { cls := .type "list",data := .seq #[] c } →
      codeAny (model prog w) A (.builtin "list.extend.loop" ⟨[.ref s.heap.objs.size,.ref h1.objs.size,.ref s.heap.objs.size],[]⟩) (fun r s'=>∃ h' tk acc c',r = .ok (.ret (.ref s.heap.objs.size))∧s' = { s with heap:=h',toks:=tk }∧(∀ b ob,s.heap.get? b = some ob→h'.get? b = some ob)∧h'.get? s.heap.objs.size = some { cls := .type "list",data := .seq acc c' }∧acc.toList = (walkOf w a ep es).toList.map (·.2)) { s with heap:=h3,toks:=s.toks }:=by
    intro h3 c z3 oth3 hS3
    refine loop_set (ep:=ep) (a:=a) (t:=t) (es:=es) (h1:=h2) hh hn nSI ndS ndI (.ref s.heap.objs.size) ?_ (es.size - 0) 0 h3 s.toks c #[] rfl (Nat.zero_le _) (by rw [oth3 _ nSI.symm,sl0]; exact i2) (hd.kept fun o d1=>by rw [oth3 _ ndS]; exact kp2 _ _ (kp1 _ _ d1)) (fun b ob hb1 hb2 e=>by rw [oth3 _ hb1]; exact e) hS3 rfl
    intro h' tk acc c' kp' hS' hacc
    exact ⟨h',tk,acc,c',rfl,rfl,fun b ob e=>kp' b ob (Nat.ne_of_lt (Heap.lt_size e)) (Nat.ne_of_lt (Heap.lt_size (kp1 _ _ e))) (kp2 _ _ (kp1 _ _ e)),hS',hacc⟩
  refine wpAny_ite_split (fun _ => ?_) (fun _ => ?_)
  · refine wpAny_bind (wpAny_rule (wpAny_bind (wpAny_bind (wpAny_updateSeq (a:=s.heap.objs.size) (s:={ s with heap:=h2 }) (kp2 _ _ hS1) rfl ?_ (Nat.zero_le _) (by show 1 ≤ _; rw [sizeLine_eq]; omega)))))
    have self:(h2.update s.heap.objs.size (Obj.mapSeq fun x=>x.push .none)).get? s.heap.objs.size = some { cls := .type "list",data := .seq #[.none] 1 }:=Heap.get?_update_self _ (kp2 _ _ hS1) rfl
    refine wpAny_updateSeq (a:=s.heap.objs.size) self rfl ?_ (by show 1 ≤ _; rw [sizeLine_eq]; omega) (Nat.zero_le _)
    refine wpAny_pure ⟨plainId_quiet F.plain_extend_loop _,codeAny_mono (fin _ 2 ?_ ?_ ?_) fun r s' ⟨h',tk,acc,c',e1,e2,kp',hS',hacc⟩ => ?_⟩
    · rw [Heap.size_update,Heap.size_update]
    · intro b hb
      rw [Heap.get?_update_other _ _ (Ne.symm hb),Heap.get?_update_other _ _ (Ne.symm hb)]
    · exact Heap.get?_update_self _ self rfl
    · subst e1 e2
      refine wpAny_bind (wpAny_load hS' ?_)
      dsimp only
      rw [hacc]
      exact wpAny_pure (k h' tk kp')
  · refine wpAny_pure ⟨plainId_quiet F.plain_extend_loop _,codeAny_mono (fin h2 0 rfl (fun _ _=>rfl) (kp2 _ _ hS1)) fun r s' ⟨h',tk,acc,c',e1,e2,kp',hS',hacc⟩ => ?_⟩
    subst e1 e2
    refine wpAny_bind (wpAny_load hS' ?_)
    dsimp only
    rw [hacc]
    exact wpAny_pure (k h' tk kp')
end
noncomputable def setWO (w:World) (a:Addr) (qs:List Mem):HO := .ext fun h=>SetX h a qs∧Led (!byT w) h a
theorem setWO_ok {P:Program} {w:World} {H:Hp} {h:Heap} {a:Addr} {qs:List Mem} (x:SetX h a qs) (l:Led (!byT w) h a):ObjOk P w H h a (setWO w a qs):=by
  obtain ⟨o,ho,r⟩:=x
  obtain ⟨o',es,ep,t,g,z⟩:=l
  exact ⟨⟨⟨o,ho,r⟩,o',es,ep,t,g,z⟩,⟨o,ho⟩,fun h1 h2 ⟨⟨o',ho',r'⟩,o2,es2,ep2,t2,g2,z2⟩ k=>⟨⟨o',k o' ho',r'⟩,o2,es2,ep2,t2,k o2 g2,z2⟩⟩
structure SWt (w:World) (K:PySem.W.Frag) (H:Hp) (a:Addr) (qs:List Mem):Prop where
  ob:H a = some (setWO w a qs)
  dv:∀ q ∈ qs,DV K H q.2 (.ref q.1)
  ok:∀ q ∈ qs,ok4 q.2
  nd:(qs.map (·.2)).Nodup
section
variable {X:Cx}
noncomputable def rSetW (w:World) (K:PySem.W.Frag):List V→Hp→VK→Prop:=fun xs H Q=>∃ (p:Addr) (ds:List PyData) (ys:List V),xs = [.ref p]∧SqL K H p ys∧DVs K H ds ys∧(∀ d ∈ ds,ok4 d)∧ds.length < 300 ∧
  ∀ (a:Addr) (qs:List Mem),H a = none→SWt w K (upd H a (setWO w a qs)) a qs→(∀ d,(∃ q ∈ qs,q.2 = d) ↔ d ∈ ds)→qs.length ≤ ds.length→Q (.ref a) (upd H a (setWO w a qs))
theorem call_setW (hc:X.calm = true) (hu:X.A.units + 100 < cLine):CallR X (.type "set") (rSetW X.w X.K):=by
  intro pins s σ H xs us Q I r h
  obtain ⟨p,ds,ys,rfl,hq,hds,hok,hlen,q⟩:=h
  obtain ⟨u,rfl,ru⟩:=vals1 r
  cases ru
  obtain ⟨its,rv,pl,hz⟩:=I.list hq
  have hyl:ys.length = ds.length:=hds.length
  have hil:its.length = ds.length:=by rw [← rv.length]; exact hyl
  have hat:∀ (i:Nat) v,its.toArray[i]? = some v→∃ x d,ys[i]? = some x∧ds[i]? = some d∧RelV x v∧DV X.K H d x:=fun i v hv=>by
    have hi:i < ds.length:=by
      have:=(Array.getElem?_eq_some_iff.mp hv).1
      rw [List.size_toArray,hil] at this
      exact this
    obtain ⟨x,hx,hd⟩:=hds.get (i:=i) (d:=ds[i]) (List.getElem?_eq_getElem hi)
    obtain ⟨u,hu',ru⟩:=rv.get hx
    have:v = u:=by
      rw [List.getElem?_toArray,hu'] at hv
      exact (Option.some.inj hv).symm
    subst this
    exact ⟨x,ds[i],hx,List.getElem?_eq_getElem hi,ru,hd⟩
  refine call_set_any (val:=fun i=>ds.getD i .none) (I.ok.hd hc) pl.isList (fun i v hv => ?_) (by rw [List.size_toArray,hil]; exact hlen) (by omega) fun h' tk hS hk => ?_
  · obtain ⟨x,d,_,hd,rx,dv⟩:=hat i v hv
    have e:ds.getD i .none = d:=by rw [List.getD_eq_getElem?_getD,hd]; rfl
    rw [e]
    exact I.el dv rx (hok d (List.mem_of_getElem? hd))
  · have hz2:its.toArray.size = ds.length:=by simp [hil]
    rw [hz2] at hS
    obtain ⟨qs,hX,hL,hin,hall,hnd,hle⟩:=hS
    have hn:=I.hok.fresh (Nat.le_refl s.heap.objs.size)
    have hqd:∀ q ∈ qs,q.2 ∈ ds∧DV X.K H q.2 (.ref q.1):=fun qq hqq=>by
      obtain ⟨j,hj,hP,e⟩:=hin qq hqq
      obtain ⟨x,d,_,hd,rx,dv⟩:=hat j _ hP
      have e1:ds.getD j .none = d:=by rw [List.getD_eq_getElem?_getD,hd]; rfl
      have e:qq.2 = d:=by rw [e]; exact e1
      obtain ⟨_,_,⟨zs,ez⟩⟩:=hok d (List.mem_of_getElem? hd)
      have ex:x = .ref qq.1:=by
        rw [ez] at dv
        obtain ⟨aa,vs,rfl,_⟩:=dv
        cases (show Value.ref qq.1 = Value.ref aa from rx)
        rfl
      rw [e, ← ex]
      exact ⟨List.mem_of_getElem? hd,dv⟩
    refine ⟨.ref s.heap.objs.size,_,I.laid (t':=tk) (o:=setWO X.w s.heap.objs.size qs) (fun b ob e=>hk b ob (Heap.lt_size e) e) (Nat.le_refl _) (setWO_ok hX hL),rfl,q _ qs hn ⟨upd_same,fun qq hqq=>DV.same (same_upd hn) _ _ (hqd qq hqq).2,fun qq hqq=>hok _ (hqd qq hqq).1,hnd⟩ (fun d=>⟨fun ⟨qq,hqq,e⟩=>e ▸ (hqd qq hqq).1,fun hd => ?_⟩) hle⟩
    obtain ⟨j,hj⟩:=List.getElem?_of_mem hd
    obtain ⟨qq,hqq,e⟩:=hall j (List.getElem?_eq_some_iff.mp hj).1
    exact ⟨qq,hqq,by rw [e]; show ds.getD j .none = d; rw [List.getD_eq_getElem?_getD,hj]; rfl⟩
noncomputable def rSortS (w:World) (K:PySem.W.Frag):List V→Hp→VK→Prop:=fun xs H Q=>∃ (a:Addr) (qs:List Mem),xs = [.ref a]∧SWt w K H a qs∧(∀ q ∈ qs,∃ m,q.2 = markD m)∧qs.length < 64 ∧
  ∀ (l:Addr) (bs:List Mark) (ws:List V),H l = none→bs.Pairwise (fun a b=>mLt a b = true)→(∀ m,m ∈ bs ↔ ∃ q ∈ qs,q.2 = markD m)→bs.length = qs.length→DVs K H (bs.map markD) ws→Q (.ref l) (upd H l (.lst ws))
theorem marks_of_mems:∀ (qs:List Mem),(∀ q ∈ qs,∃ m,q.2 = markD m)→∃ ms,Paired (fun (q:Mem) (m:Mark)=>q.2 = markD m) qs ms
  | [],_=>⟨[],.nil⟩
  | q :: qs,h=>by
    obtain ⟨m,e⟩:=h q List.mem_cons_self
    obtain ⟨ms,r⟩:=marks_of_mems qs fun q' hq'=>h q' (List.mem_cons_of_mem _ hq')
    exact ⟨m :: ms,.cons e r⟩
theorem mems_map:∀ {qs:List Mem} {ms:List Mark},Paired (fun (q:Mem) (m:Mark)=>q.2 = markD m) qs ms→qs.map (·.2) = ms.map markD
  | _,_,.nil=>rfl
  | _,_,.cons a b=>by rw [List.map_cons,List.map_cons,a,mems_map b]
theorem mems_vals:∀ {us:List (Int × Value)} {qs:List Mem},Paired MemR us qs→Vals (qs.map fun q=>V.ref q.1) (us.map (·.2))
  | _,_,.nil=>.nil
  | _,_,.cons a b=>.cons (by show RelV (.ref _) (Prod.snd _); rw [a.1]; rfl) (mems_vals b)
theorem mems_dvs {K:PySem.W.Frag} {H:Hp}:∀ {qs:List Mem} {ms:List Mark},Paired (fun (q:Mem) (m:Mark)=>q.2 = markD m) qs ms→(∀ q ∈ qs,DV K H q.2 (.ref q.1))→DVs K H (ms.map fun (m:Mark)=>PyData.tuple [.int m.1,.int m.2]) (qs.map fun q=>V.ref q.1)
  | _,_,.nil,_=>rfl
  | _,_,.cons a b,h=>⟨_,_,rfl,by have:=h _ List.mem_cons_self; rw [a] at this; exact this,mems_dvs b fun q hq=>h q (List.mem_cons_of_mem _ hq)⟩
theorem call_sortedS (hc:X.calm = true) (hu:X.A.units + 100 < cLine):CallR X (.builtin "sorted") (rSortS X.w X.K):=by
  intro pins s σ H xs us Q I r h
  obtain ⟨a,qs,rfl,S,hm,few,q⟩:=h
  obtain ⟨u,rfl,ru⟩:=vals1 r
  cases ru
  obtain ⟨⟨⟨o,ho,es,ep,t,qs1,hex,hd,hf,f,hfull,wp,pm,hp⟩,o',es',ep',t',g',d',l1,l2⟩,_,_⟩:=I.hok a _ S.ob
  rw [ho] at g'
  cases g'
  rw [hd] at d'
  cases d'
  have hraw:RawS X.w s.heap a es ep t:=⟨⟨o,ho,hex.1,hd⟩,hf,wp.mono,by
    cases hb:byT X.w with
    | true=>exact .inl rfl
    | false=>rw [hb] at l1; exact .inr ⟨l1,l2⟩⟩
  have hz:es.size = qs.length:=by rw [← Array.length_toList,Paired.length hp,pm.length_eq]
  refine sorted_shell (collect_set (I.ok.hd hc) hraw (by rw [hz,sizeLine_eq]; omega) fun h' tk kp => ?_)
  have I1:Inv X pins σ H { s with heap:=h',toks:=tk }:=I.kept (t':=tk) kp
  obtain ⟨qs2,pm2,hp2⟩:=paired_perm (walk_perm (w:=X.w) (a:=a) (ep:=ep) (es:=es)) hp
  have pm3:qs2.Perm qs:=pm2.trans pm
  obtain ⟨ms,hms⟩:=marks_of_mems qs2 fun q' hq'=>hm q' (pm3.mem_iff.mp hq')
  have emap:=mems_map hms
  have nd2:(qs2.map (·.2)).Nodup:=(pm3.map (·.2)).nodup_iff.mpr S.nd
  have ndm:ms.Nodup:=by
    rw [emap] at nd2
    exact List.Pairwise.of_map markD (fun a b hab e=>hab (congrArg markD e)) nd2
  have hl:ms.length = qs.length:=by rw [← Paired.length hms,pm3.length_eq]
  refine sort_go (s:=s) hu (marks_srt ndm (by omega)) I1 (mems_vals hp2) (mems_dvs hms fun q' hq'=>S.dv q' (pm3.mem_iff.mp hq')) ?_
  intro l bs ws hl' hpm hpw hds
  refine q l bs ws hl' hpw (fun m => ?_) (by rw [hpm.length_eq,hl]) hds
  have e1:m ∈ ms ↔ ∃ q ∈ qs,q.2 = markD m:=by
    constructor
    · intro hmm
      have:markD m ∈ qs2.map (·.2):=by rw [emap]; exact List.mem_map_of_mem hmm
      obtain ⟨q',hq',e⟩:=List.mem_map.mp this
      exact ⟨q',pm3.mem_iff.mp hq',e⟩
    · rintro ⟨q',hq',e⟩
      have:markD m ∈ ms.map markD:=by rw [← emap, ← e]; exact List.mem_map_of_mem (pm3.mem_iff.mpr hq')
      obtain ⟨m',hm',e'⟩:=List.mem_map.mp this
      have:m' = m:=by
        obtain ⟨x,y⟩:=m'
        obtain ⟨x',y'⟩:=m
        unfold markD at e'
        simp at e'
        rw [e'.1,e'.2]
      rw [← this]
      exact hm'
  rw [← e1]
  exact hpm.mem_iff
end
end L2
namespace L2
open PySem PySem.Spec PyProof.Rows PySem.NumText
section
variable {prog:Program} {w:World} {A:Around} {R:Result→Shared→Prop} {s:Shared}
theorem eval_setComp {env:Env} (elt:Expr) (gens:List Comprehension) (scope:Scope) (pos:Pos):eval (elt.SetComp gens scope pos) env =
    comprehension (elt.SetComp gens scope pos) scope env (firstIterPos gens pos) (newSet (.type "set")) (firstAsync gens) (firstIter gens env):=by rw [eval]
theorem start_setComp {elt target iter:Expr} {ifs:List Expr} {rest:List Comprehension} {scope:Scope} {pos:Pos} {it acc:Value} {env:Env}
    (h0:codeAny (model prog w) A (.compLoop (elt.SetComp (⟨target,iter,ifs,0⟩ :: rest) scope pos) 0 it acc env) R s)
    (h:wpAny (model prog w) A (pyIter it) (fun it' s'=>codeAny (model prog w) A (.compLoop (elt.SetComp (⟨target,iter,ifs,0⟩ :: rest) scope pos) 0 it' acc env) R s') (notedBy (model prog w) A env fun x s'=>R (.error x) s') s) :
    codeAny (model prog w) A (.compStart (elt.SetComp (⟨target,iter,ifs,0⟩ :: rest) scope pos) 0 it acc env) R s:=by
  refine codeAny_of_tree (wpAny_notedAt (wpAny_bind (wpAny_askSetting (wpAny_ite ?_))))
  split
  · exact wpAny_bind (wpAny_pure (wpAny_pure ⟨rfl,h0⟩))
  · exact wpAny_bind (wpAny_rule (wpAny_bind (wpAny_standAt (wpAny_bind (wpAny_mono h (fun it' s' h'=>wpAny_pure ⟨rfl,h'⟩) fun _ _ z=>z)))))
end
section
variable {X:Cx}
end
end L2
namespace L2
open PySem PySem.Spec PyProof.Rows PySem.NumText
mutual
theorem noL_of:∀ d:PyData,onlyI d = true→noL d = true
  | .int _,_=>rfl
  | .tuple xs,h=>noLs_of xs h
  | .none,h=>by cases h
  | .bool _,h=>by cases h
  | .str _,h=>by cases h
  | .list _,h=>by cases h
theorem noLs_of:∀ ds:List PyData,onlyIs ds = true→noLs ds = true
  | [],_=>rfl
  | d :: ds,h=>by
    rw [onlyIs,Bool.and_eq_true] at h
    rw [noLs,noL_of d h.1,noLs_of ds h.2]
    rfl
end
theorem noTup_setWO {w:World} {a:Addr} {qs:List Mem}:NoTup (setWO w a qs):=⟨fun xs z=>(by cases z),fun ob u z=>(by cases z)⟩
theorem SWt.add {w:World} {K:PySem.W.Frag} {H:Hp} {a ax:Addr} {qs:List Mem} {dx:PyData} (S:SWt w K H a qs) (hd:DV K H dx (.ref ax)) (ok:ok4 dx) (hn:∀ q ∈ qs,q.2 ≠ dx):SWt w K (upd H a (setWO w a ((ax,dx) :: qs))) a ((ax,dx) :: qs) where
  ob:=upd_same
  dv:=fun q hq=>by
    rcases List.mem_cons.mp hq with rfl | hq
    · exact dv_other S.ob noTup_setWO _ _ (noL_of _ ok.1) hd
    · exact dv_other S.ob noTup_setWO _ _ (noL_of _ (S.ok q hq).1) (S.dv q hq)
  ok:=fun q hq=>by
    rcases List.mem_cons.mp hq with rfl | hq
    · exact ok
    · exact S.ok q hq
  nd:=by
    rw [List.map_cons]
    refine List.nodup_cons.mpr ⟨fun hm => ?_,S.nd⟩
    obtain ⟨q,hq,e⟩:=List.mem_map.mp hm
    exact hn q hq e
theorem SWt.same {w:World} {K:PySem.W.Frag} {H H':Hp} {a:Addr} {qs:List Mem} (S:SWt w K H a qs) (e:Same H H'):SWt w K H' a qs:=⟨e _ _ S.ob,fun q hq=>DV.same e _ _ (S.dv q hq),S.ok,S.nd⟩
section
variable {prog:Program} {w:World} {A:Around} {E:Value→Shared→Prop} {R:Result→Shared→Prop} {s:Shared}
theorem compTurn_set (elt target iter:Expr) (ifs:List Expr) (scope:Scope) (pos:Pos) (it acc:Value) (env:Env) :
    compTurn (.SetComp elt [⟨target,iter,ifs,0⟩] scope pos) 0 it acc env = (do
      standAt iter.pos
      match ← pyNext it with
      | none=>pure (.done .next)
      | some v =>
        letOwnedTupleGo target it v
        assign target env v
        let mut ok:=true
        for c in ifs do
          if ok then ok ← isTrue c env (eval c env)
        if ok then
          (do let v ← eval elt env; standAt elt.pos; let _ ← call (.builtin "set.add") [acc,v])
        again (.compLoop (.SetComp elt [⟨target,iter,ifs,0⟩] scope pos) 0 it acc env)):=by rfl
theorem compLoop_set {elt target iter:Expr} {ifs:List Expr} {scope:Scope} {pos:Pos} {it acc:Value} {env:Env} (I:Nat→Shared→Prop)
    (turn:∀ n s,I n s→wpAny (model prog w) A (pyNext it) (fun r s₁=>match r with
      | none=>R (.ok .next) s₁
      | some v=>wpAny (model prog w) A (letOwnedTupleGo target it v) (fun _ s₁'=>wpAny (model prog w) A (assign target env v) (fun _ s₂ =>
          wpAny (model prog w) A (forIn ifs true fun c r=>if r = true then do let ok ← isTrue c env (eval c env); pure (ForInStep.yield ok) else pure (ForInStep.yield r)) (fun ok s₃ =>
            if ok = true then wpAny (model prog w) A (eval elt env) (fun x s₄ =>
              wpAny (model prog w) A (call (.builtin "set.add") [acc,x]) (fun _ s₅=>∃ m,m < n∧I m s₅) (notedBy (model prog w) A env fun e s'=>R (.error e) s') s₄) (notedBy (model prog w) A env fun e s'=>R (.error e) s') s₃
            else ∃ m,m < n∧I m s₃) (notedBy (model prog w) A env fun e s'=>R (.error e) s') s₂) (notedBy (model prog w) A env fun e s'=>R (.error e) s') s₁') (notedBy (model prog w) A env fun e s'=>R (.error e) s') s₁) (notedBy (model prog w) A env fun e s'=>R (.error e) s') s)
    (n:Nat) (h:I n s):codeAny (model prog w) A (.compLoop (.SetComp elt [⟨target,iter,ifs,0⟩] scope pos) 0 it acc env) R s:=by
  refine codeAny_loop rfl I (fun n s hI => ?_) n h
  show wpAny _ A ((compTurn (.SetComp elt [⟨target,iter,ifs,0⟩] scope pos) 0 it acc env).onRaise (fun x=>do noteFrame x env; theTreesLotGoes x)) _ _ s
  refine wpAny_noted ?_
  rw [compTurn_set]
  refine wpAny_bind (wpAny_standAt (wpAny_bind (wpAny_mono (turn n s hI) (fun r s₁ h₁ => ?_) fun _ _ h'=>h')))
  cases r with
  | none=>exact wpAny_pure h₁
  | some v =>
    refine wpAny_bind (wpAny_mono h₁ (fun _ s₁' h₁' => ?_) fun _ _ h'=>h')
    refine wpAny_bind (wpAny_mono h₁' (fun _ s₂ h₂=>wpAny_bind (wpAny_mono h₂ (fun ok s₃ h₃ => ?_) fun _ _ h'=>h')) fun _ _ h'=>h')
    cases ok with
    | false=>exact wpAny_pure ⟨rfl,h₃⟩
    | true =>
      exact wpAny_bind (wpAny_bind (wpAny_mono h₃ (fun x s₄ h₄=>wpAny_bind (wpAny_standAt (wpAny_bind (wpAny_mono h₄ (fun _ s₅ h₅=>wpAny_pure (wpAny_pure ⟨rfl,h₅⟩)) fun _ _ h'=>h')))) fun _ _ h'=>h'))
end
section
variable {X:Cx}
theorem set_add {pins:List (Addr × Obj)} {s:Shared} {σ:St} {H:Hp} {Q:Hp→Prop} {D ax:Addr} {u:Value} {qs:List Mem} {dx:PyData} (hu:X.A.units + 100 < cLine) (I:Inv X pins σ H s) (S:SWt X.w X.K H D qs) (hl:qs.length < 299) (r:RelV (.ref ax) u) (hd:DV X.K H dx (.ref ax)) (ok:ok4 dx)
    (q0:(∃ q ∈ qs,q.2 = dx)→Q H) (q1:(∀ q ∈ qs,q.2 ≠ dx)→Q (upd H D (setWO X.w D ((ax,dx) :: qs)))) :
    wpAny (model X.prog X.w) X.A (call (.builtin "set.add") [.ref D,u]) (fun _ s'=>∃ H',Inv X pins σ H' s'∧Q H') E s:=by
  cases r
  obtain ⟨⟨hX,hL⟩,_,_⟩:=I.hok D _ S.ob
  have hT:s.TypeIs (.ref D) "set" := let ⟨o,ho,_,_,_,_,hex,_⟩:=hX; ⟨o,ho,hex.1⟩
  have hx:=I.el hd rfl ok
  refine wpAny_call_entry F.slot_set_add hT F.entry_set_add ?_ (F.args_set_add_2 _ _)
  unfold Builtin.«set.add» Builtin.Frozenset.oneOther
  simp only [List.isEmpty_nil,bind_assoc]
  unfold Builtin.Frozenset.addrOf setAdd
  refine wpAny_bind (wpAny_pure ?_)
  try dsimp only
  refine wpAny_bind (wpAny_pure ?_)
  try dsimp only
  refine wpAny_bind (wpAny_holding ?_)
  obtain ⟨as,rx⟩:=hx.rd
  refine wpAny_bind (hash_fun 4 dx _ _ s _ as hx.dp rx hx.oi (by show X.A.units + 1 + 4 < cLine; omega) _ fun tk htk => ?_)
  refine add_any (s:={ s with toks:=tk }) hX (fun q hq=>I.el (S.dv q hq) rfl (S.ok q hq)) hx (by omega) (by show X.A.units + 1 + 10 < cLine; omega) (fun hold => ?_) (fun hnew h' sb hS2 hlk => ?_)
  · exact wpAny_pure ⟨_,rfl,H,I.kept (t':=tk) (fun _ _ e=>e),q0 hold⟩
  · have he:∃ ob,h'.get? D = some ob:=let ⟨ob,hq,_⟩:=hS2; ⟨ob,hq⟩
    exact wpAny_pure ⟨_,rfl,_,I.write (t':=tk) (x:=D) (e:=D) (by rw [S.ob]; exact True.intro) (.inl rfl) (fun b ob hb z=>(sb.2 b hb).trans z) he (setWO_ok hS2 (hlk _ hL)),q1 hnew⟩
noncomputable def CompSW (w:World) (K:PySem.W.Frag) (J:It) (D:Addr) (nt:Nat) (cap:List Nat) (g:TG) (ti:TT) (te:TE) (σ:St) (H1:Hp) (Q:VK):Prop:=∃ W:Nat→Nat→List Mem→Hp→Prop,(∃ m,W 0 m [] (upd H1 D (setWO w D []))) ∧
  ∀ i m qs H2,W i m qs H2→SWt w K H2 D qs∧((J.stop i H2∧Q (.ref D) H2) ∨ (J.go i H2∧qs.length < 299∧∀ x H3,J.yld i H2 x H3→g x (List.replicate nt none ++ caps cap σ) H3 fun σ4 H4=>ti σ4 H4 fun b H5 =>
    if b = true then te σ4 H5 fun y H6=>∃ ax dx,y = .ref ax∧DV K H6 dx (.ref ax)∧ok4 dx∧SWt w K H6 D qs∧((∃ q ∈ qs,q.2 = dx)→∃ m',m' < m∧W (i + 1) m' qs H6)∧((∀ q ∈ qs,q.2 ≠ dx)→∃ m',m' < m∧W (i + 1) m' ((ax,dx) :: qs) (upd H6 D (setWO w D ((ax,dx) :: qs))))
    else ∃ m',m' < m∧W (i + 1) m' qs H5))
noncomputable def tCompS (w:World) (K:PySem.W.Frag) (wi:TI) (nt:Nat) (cap:List Nat) (g:TG) (ti:TT) (te:TE):TE:=fun σ H Q=>wi σ H fun J H1=>∀ D,H1 D = none→CompSW w K J D nt cap g ti te σ H1 Q
theorem pe_setcomp {elt tg iter:Expr} {ifs:List Expr} {scope:Scope} {pos:Pos} {wi:TI} {g:TG} {ti:TT} {te:TE} (N':List Str) (nt:Nat) (cap:List Nat)
    (hc:X.calm = true) (hu:X.A.units + 100 < cLine) (hi:PI X tg iter wi) (hgk:GKeeps nt g)
    (hg:∀ C s₀ H₀ fp E',PG (X.comp scope C s₀ H₀ fp N' E') tg g)
    (hif:∀ C s₀ H₀ fp E',PIf (X.comp scope C s₀ H₀ fp N' E') ifs ti)
    (he:∀ C s₀ H₀ fp E',PE (X.comp scope C s₀ H₀ fp N' E') elt te)
    (hk:scope.kind = .function:=by rfl) (hb:compOk scope X.env = true:=by rfl) (hcap:capOk X scope N' nt cap = true:=by rfl)
    (hs:∀ x,foldedSetIterable iter X.env x = pure x:=by intro _; rfl):PE X (.SetComp elt [⟨tg,iter,ifs,0⟩] scope pos) (tCompS X.w X.K wi nt cap g ti te) := .mk <| by
  intro pins s σ H Q I h
  rw [eval_setComp]
  have hclos:closureFor scope X.env = pure (clOf scope X.env):=closure_is fun p hp e=>I.ok.has p.1 (compOk_free hb p hp e)
  refine wpAny_comprehension_free (use:=none) rfl hs hclos hk (compOk_local hb) (thn (hi pins s σ H _ I h) fun v s1 h1=>thn h1 fun itv s2 h2 => ?_)
  obtain ⟨it,fp,tn,J,H2,e,I2,T,st2,f2,q2⟩:=h2
  subst e
  refine newSetL (wpAny_newFunctionEnv (compOk_cell hb) (by intro y hy; simp at hy) (fun h₁ hns₁ hsb₁ => ?_) hk)
  obtain ⟨ob,hob⟩:∃ ob:Obj,ob = { cls := .type "set",data := .set #[] 0 (SetTable.fresh 0 0 (!X.w.params.followText "set-order")) }:=⟨_,rfl⟩
  rw [← hob] at hns₁ hsb₁ ⊢
  have g3:(s2.heap.push ob).get? s2.heap.objs.size = some ob:=by rw [hob]; exact Heap.get?_push_size _ rfl
  have I3:Inv X pins σ (upd H2 s2.heap.objs.size (setWO X.w s2.heap.objs.size [])) { s2 with heap:=s2.heap.push ob }:=by
    refine I2.laid (t':=s2.toks) (fun b u e=>Heap.get?_push_of_some _ e) (Nat.le_refl _) (setWO_ok ?_ ?_)
    · rw [hob]
      rw [hob] at g3
      exact ⟨_,g3, #[],0,_,[],⟨rfl,rfl,rfl⟩,rfl,rfl,⟨rfl,by show 0 ≤ 7; decide,.inl rfl⟩,by show 0 * 5 < 7 * 3; decide,⟨(fun a b u v _ e _=>by simp [SetTable.fresh] at e),fun i j e h1=>by simp [SetTable.fresh] at h1⟩,.refl _,.nil⟩
    · rw [hob]
      rw [hob] at g3
      exact ⟨_,_,_,_,g3,rfl,rfl,rfl⟩
  have hfl:∀ b ∈ fp,b < s2.heap.objs.size:=fun b hb'=>let ⟨o,e,_⟩:=T.obj 0 _ st2 b hb'; Heap.lt_size e
  obtain ⟨W,⟨m0,w0⟩,turn⟩:=q2 s2.heap.objs.size (I2.hok.fresh (Nat.le_refl _))
  have nD:∀ b ∈ fp,b ≠ s2.heap.objs.size:=fun b hb'=>Nat.ne_of_lt (hfl b hb')
  have f3:∀ b ∈ fp,FpOk X pins (upd H2 s2.heap.objs.size (setWO X.w s2.heap.objs.size [])) b:=fun b hb'=>⟨by rw [upd_ne (nD b hb')]; exact (f2 b hb').1,(f2 b hb').2⟩
  obtain ⟨s3,hs3⟩:∃ s3:Shared,s3 = { s2 with heap:=s2.heap.push ob }:=⟨_,rfl⟩
  have hs3':s3.heap = s2.heap.push ob:=by rw [hs3]
  rw [← hs3] at I3
  have hsz:s3.heap.objs.size = s2.heap.objs.size + 1:=by rw [hs3',Heap.size_push]
  have hfl3:∀ b ∈ fp,b < s3.heap.objs.size:=fun b hb'=>by rw [hsz]; exact Nat.lt_succ_of_lt (hfl b hb')
  have hC:(s2.heap.push ob).objs.size = s3.heap.objs.size:=by rw [hs3']
  dsimp only at hns₁ hsb₁ ⊢
  rw [hC] at hns₁ hsb₁ ⊢
  rw [← hs3'] at hsb₁
  have kp:∀ b o,s3.heap.get? b = some o→h₁.get? b = some o:=fun b o e=>hsb₁.extBut b o (Nat.ne_of_lt (Heap.lt_size e)) (Heap.get?_push_of_some _ e)
  generalize hE':(notedBy (model X.prog X.w) X.A (compEnvC scope (clOf scope X.env) s3.heap.objs.size X.env) fun e s'=>compPost (model X.prog X.w) X.A X.xe none (EP X pins σ Q) (.ref s2.heap.objs.size) s3.heap.objs.size (.error e) s') = E'
  have I4:=comp_start (t4:=s2.toks + ([]:List (Str × Value)).length) (E':=E') I3 hk hb hcap f3 hfl3 hns₁ kp
  have st4:tn 0 h₁:=T.keep 0 _ _ st2 fun b hb' o e=>kp b o (by rw [hs3']; exact Heap.get?_push_of_some _ e)
  obtain ⟨s4,hs4⟩:∃ s4:Shared,s4 = { s3 with heap:=h₁,toks:=s2.toks + ([]:List (Str × Value)).length }:=⟨_,rfl⟩
  rw [← hs4] at I4
  have st4':tn 0 s4.heap:=by rw [hs4]; exact st4
  have cin:∀ x c,(clOf scope X.env).lookup x = some c→X.env.cells.lookup x = some c:=fun x c e=>cl_in scope.names [] (fun y d q=>by simp at q) e
  have stat:∀ {H':Hp},(∀ b ∈ fp,H' b = none)→∀ b ∈ fp,FpOk (X.comp scope s3.heap.objs.size s3 (upd H2 s2.heap.objs.size (setWO X.w s2.heap.objs.size [])) fp N' E') [] H' b:=fun hn b hb'=>by
    refine ⟨hn b hb',Nat.ne_of_lt (hfl3 b hb'),fun z => ?_,.inl hb',fun x c e=>(f3 b hb').2.2.2.2.1 x c (cin x c e),fun p hp=>absurd hp (by simp [Cx.comp])⟩
    rcases List.mem_cons.mp (I3.stkSub b z) with z | z
    · exact (f3 b hb').2.1 z
    · exact (f3 b hb').2.2.1 z
  have loop:codeAny (model X.prog X.w) X.A (.compLoop (.SetComp elt [⟨tg,iter,ifs,0⟩] scope pos) 0 (.ref it) (.ref s2.heap.objs.size) (compEnvC scope (clOf scope X.env) s3.heap.objs.size X.env))
      (compPost (model X.prog X.w) X.A X.xe none (EP X pins σ Q) (.ref s2.heap.objs.size) s3.heap.objs.size) s4:=by
    refine compLoop_set (fun n s'=>∃ i qs H',Inv (X.comp scope s3.heap.objs.size s3 (upd H2 s2.heap.objs.size (setWO X.w s2.heap.objs.size [])) fp N' E') [] (List.replicate nt none ++ caps cap σ) H' s'∧tn i s'.heap∧(∀ b ∈ fp,H' b = none)∧W i n qs H') ?_ m0
      ⟨0,[],_,I4,st4',fun b hb'=>(f3 b hb').1,w0⟩
    rintro n s5 ⟨i,qs,H5,I5,st5,fr5,w5⟩
    rw [hE']
    obtain ⟨hD5,alt⟩:=turn i n qs H5 w5
    rcases alt with ⟨stop,qn⟩ | ⟨go,hyl,step⟩
    · refine thn (T.done (X.comp scope s3.heap.objs.size s3 (upd H2 s2.heap.objs.size (setWO X.w s2.heap.objs.size [])) fp N' E') rfl rfl rfl hc i [] s5 _ H5 E' I5 (stat fr5) st5 stop) fun r s6 ⟨hr,I6⟩ => ?_
      subst hr
      obtain ⟨m6,hn6,_⟩:=I6.loc
      refine ⟨m6,hn6,fun h' hsb' => ?_⟩
      have I7:=comp_back I3 f3 I6
      refine ⟨.ref s2.heap.objs.size,H5, ?_,rfl,qn⟩
      refine I7.turnedL (ch:=[s3.heap.objs.size]) (t':=s6.toks) (fun b hb' => ?_) fun b u hb' e=>(hsb'.2 b fun z=>hb' (by simp [z])).trans e
      have eb:b = s3.heap.objs.size:=by simpa using hb'
      subst eb
      exact I3.fpOk (Nat.le_refl _) I6.free
    · refine thn (T.item (X.comp scope s3.heap.objs.size s3 (upd H2 s2.heap.objs.size (setWO X.w s2.heap.objs.size [])) fp N' E') rfl rfl rfl hc i [] s5 _ H5 E' I5 (stat fr5) st5 go) fun r s6 ⟨u,hr,h6⟩ => ?_
      subst hr
      refine thn h6 fun _ s7 ⟨x,H7,I7,r7,y7,st7,fr7⟩ => ?_
      have I7':=I7.pinned (stat fr7) (T.obj _ _ st7)
      have again:∀ {σ8:St} {H8:Hp} {qs':List Mem} {s8:Shared},Inv (X.comp scope s3.heap.objs.size s3 (upd H2 s2.heap.objs.size (setWO X.w s2.heap.objs.size [])) fp N' E') ([] ++ pinsAt fp s7.heap) σ8 H8 s8→(∃ m',m' < n∧W (i + 1) m' qs' H8)→(∀ (j:Nat) v,(List.replicate nt none ++ caps cap σ)[j]? = some (some v)→σ8[j]? = some (some v)) →
          ∃ m,m < n∧∃ i qs H',Inv (X.comp scope s3.heap.objs.size s3 (upd H2 s2.heap.objs.size (setWO X.w s2.heap.objs.size [])) fp N' E') [] (List.replicate nt none ++ caps cap σ) H' s8∧tn i s8.heap∧(∀ b ∈ fp,H' b = none)∧W i m qs H':=fun {σ8 H8 qs' s8} I8 ⟨m',hm,w8⟩ hσ=>by
        refine ⟨m',hm,i + 1,qs',H8,I8.unpinned.weak (by rw [I8.len,I5.len]) hσ,T.keep _ _ _ st7 fun b hb o e=>(I8.pin (b,o) (List.mem_append_right _ (List.mem_append_right _ (mem_pinsAt hb e)))).1,fun b hb => ?_,w8⟩
        obtain ⟨o,e,d⟩:=T.obj _ _ st7 b hb
        exact (I8.pin (b,o) (List.mem_append_right _ (List.mem_append_right _ (mem_pinsAt hb e)))).2.1
      refine thn (hg _ _ _ _ _ _ s7 _ H7 x u _ I7' r7 (hgk x _ H7 _ (step x H7 y7))) fun _ s8 ⟨σ8,H8,I8,q8,hσ⟩ => ?_
      refine thn (hif _ _ _ _ _ _ s8 σ8 H8 _ I8 q8) fun ok s9 ⟨H9,I9,q9⟩ => ?_
      cases ok with
      | false =>
        rw [if_neg Bool.false_ne_true] at q9 ⊢
        exact again I9 q9 hσ
      | true =>
        rw [if_pos rfl] at q9 ⊢
        refine thn (he _ _ _ _ _ _ s9 σ8 H9 _ I9 q9) fun y s10 ⟨vy,H10,I10,r10,ax,dx,ey,hd10,ok10,S10,k0,k1⟩ => ?_
        subst ey
        refine thn (set_add (X:=X.comp scope s3.heap.objs.size s3 (upd H2 s2.heap.objs.size (setWO X.w s2.heap.objs.size [])) fp N' E') (Q:=fun H'=>∃ m',m' < n∧∃ qs',W (i + 1) m' qs' H') hu I10 S10 hyl r10 hd10 ok10 (fun z=>let ⟨m',a,b⟩:=k0 z; ⟨m',a,_,b⟩) (fun z=>let ⟨m',a,b⟩:=k1 z; ⟨m',a,_,b⟩)) fun _ s11 ⟨H11,I11,m',hm',qs',w11⟩ => ?_
        exact again I11 ⟨m',hm',w11⟩ hσ
  have e4:({ s2 with heap:=h₁,toks:=s2.toks + ([]:List (Str × Value)).length }:Shared) = s4:=by rw [hs4,hs3]
  show codeAny _ _ _ _ { s2 with heap:=h₁,toks:=s2.toks + ([]:List (Str × Value)).length }
  rw [e4]
  exact start_setComp loop (T.self X.A 0 s4 _ _ st4' loop)
end
theorem comp_setW {w:World} {K:PySem.W.Frag} {J:It} {n:Nat} {nt:Nat} {cap:List Nat} {g:TG} {te:TE} {σ:St} {H1:Hp} {Q:VK} {D:Addr} (val:Nat→V) (dat:Nat→PyData) (hD:H1 D = none) (hP:Plain H1) (hx:n < 299) (hok:∀ i,i < n→ok4 (dat i))
    (hJ:∀ i H2,Same H1 H2→(i < n→J.go i H2)∧(J.stop n H2)∧∀ x H3,i < n→J.yld i H2 x H3→H3 = H2∧x = val i)
    (step:∀ (i:Nat) H2 (Tt:VK),i < n→Plain H2→Same H1 H2→(∀ ax H6,DV K H6 (dat i) (.ref ax)→Same H2 H6→Plain H6→Tt (.ref ax) H6) →
      g (val i) (List.replicate nt none ++ caps cap σ) H2 fun σ4 H4=>te σ4 H4 Tt)
    (fin:∀ qs H2,SWt w K H2 D qs→(∀ d,(∃ q ∈ qs,q.2 = d) ↔ ∃ i,i < n∧dat i = d)→qs.length ≤ n→Same H1 H2→Plain H2→Q (.ref D) H2) :
    CompSW w K J D nt cap g tYes te σ H1 Q:=by
  refine ⟨fun i m qs H2=>m = n - i∧i ≤ n∧qs.length ≤ i∧SWt w K H2 D qs∧Same H1 H2∧Plain H2∧(∀ d,(∃ q ∈ qs,q.2 = d) ↔ ∃ j,j < i∧dat j = d),⟨_,rfl,Nat.zero_le _,Nat.le_refl _,⟨upd_same,(fun q hq=>by cases hq),(fun q hq=>by cases hq),List.nodup_nil⟩,same_upd hD,hP.upd trivial,fun d=>⟨(fun ⟨q,hq,_⟩=>by cases hq),(fun ⟨j,hj,_⟩=>by omega)⟩⟩, ?_⟩
  rintro i m qs H2 ⟨rfl,hi,hl,hS,hs,hp,hr⟩
  refine ⟨hS, ?_⟩
  obtain ⟨j1,j2,j3⟩:=hJ i H2 hs
  by_cases hlt:i < n
  · refine .inr ⟨j1 hlt,by omega,fun v H3 hy => ?_⟩
    obtain ⟨rfl,rfl⟩:=j3 v H3 hlt hy
    simp only [tYes,if_true]
    refine step i _ _ hlt hp hs fun ax H6 hd hs6 hp6=>⟨ax,dat i,rfl,hd,hok i hlt,hS.same hs6,fun hold=>⟨_,by omega,rfl,hlt,by omega,hS.same hs6,hs.trans hs6,hp6,fun d => ?_⟩,fun hnew=>⟨_,by omega,rfl,hlt,by rw [List.length_cons]; omega,(hS.same hs6).add hd (hok i hlt) hnew,(hs.trans hs6).upd hD,hp6.upd trivial,fun d => ?_⟩⟩
    · constructor
      · intro z
        obtain ⟨j,hj,e⟩:=(hr d).mp z
        exact ⟨j,by omega,e⟩
      · rintro ⟨j,hj,e⟩
        rcases Nat.lt_or_ge j i with h | h
        · exact (hr d).mpr ⟨j,h,e⟩
        · have:j = i:=by omega
          subst this
          rw [← e]
          exact hold
    · constructor
      · rintro ⟨q,hq,e⟩
        rcases List.mem_cons.mp hq with rfl | hq
        · exact ⟨i,by omega,e⟩
        · obtain ⟨j,hj,e'⟩:=(hr d).mp ⟨q,hq,e⟩
          exact ⟨j,by omega,e'⟩
      · rintro ⟨j,hj,e⟩
        rcases Nat.lt_or_ge j i with h | h
        · obtain ⟨q,hq,e'⟩:=(hr d).mpr ⟨j,h,e⟩
          exact ⟨q,List.mem_cons_of_mem _ hq,e'⟩
        · have:j = i:=by omega
          subst this
          exact ⟨_,List.mem_cons_self,e⟩
  · have e:i = n:=by omega
    subst e
    exact .inl ⟨j2,fin qs H2 hS hr hl hs hp⟩
end L2
namespace L2
open PySem PySem.Spec PyProof.Rows PySem.NumText
section
variable {X:Cx}
theorem ix_MK {P:Program} {w:World} {K:PySem.W.Frag} (hP:X.prog = P) (hw:X.w = w) (hK:X.K = K) (hu:X.A.units + 1 < cLine):IxR X (rIxM P w K):=by
  subst hP hw hK
  exact ix_M hu
end
end L2
namespace L2
open PySem PySem.Spec PyProof.Rows PySem.NumText
theorem comp_filt {J:It} {n:Nat} {nt:Nat} {cap:List Nat} {g:TG} {ti:TT} {te:TE} {σ:St} {H1:Hp} {Q:VK} {D:Addr} (val:Nat→V) (kb:Nat→Bool) (R:Nat→V→Hp→Prop) (hD:H1 D = none) (hP:Plain H1) (hx:n ≤ sizeLine)
    (hJ:∀ i H2,Same H1 H2→(i < n→J.go i H2)∧(J.stop n H2)∧∀ x H3,i < n→J.yld i H2 x H3→H3 = H2∧x = val i)
    (mono:∀ i y H H',R i y H→(∀ b o,b ≠ D→H b = some o→H' b = some o)→(∃ zs,H D = some (.lst zs))→R i y H')
    (step:∀ (i:Nat) H2 (Tt:VK) (Tf:Hp→Prop),i < n→Plain H2→Same H1 H2→(kb i = true→∀ y H6,R i y H6→Same H2 H6→Plain H6→Tt y H6)→(kb i = false→∀ H6,Same H2 H6→Plain H6→Tf H6) →
      g (val i) (List.replicate nt none ++ caps cap σ) H2 fun σ4 H4=>ti σ4 H4 fun b H5=>if b = true then te σ4 H5 Tt else Tf H5)
    (fin:∀ ys H2,Paired (fun i y=>R i y H2) ((List.range n).filter kb) ys→H2 D = some (.lst ys)→Same H1 H2→Plain H2→Q (.ref D) H2) :
    CompW J D nt cap g ti te σ H1 Q:=by
  refine ⟨fun i m ys H2=>m = n - i∧i ≤ n∧ys.length ≤ i∧H2 D = some (.lst ys)∧Same H1 H2∧Plain H2∧Paired (fun i y=>R i y H2) ((List.range i).filter kb) ys,⟨_,rfl,Nat.zero_le _,Nat.le_refl _,upd_same,same_upd hD,hP.lst,.nil⟩, ?_⟩
  rintro i m ys H2 ⟨rfl,hi,hl,hd,hs,hp,hr⟩
  refine ⟨hd, ?_⟩
  obtain ⟨j1,j2,j3⟩:=hJ i H2 hs
  by_cases hlt:i < n
  · refine .inr ⟨j1 hlt,by omega,fun v H3 hy => ?_⟩
    obtain ⟨rfl,rfl⟩:=j3 v H3 hlt hy
    refine step i _ _ _ hlt hp hs (fun hk y H6 hR hs6 hp6=>⟨hs6 _ _ hd,_,by omega,rfl,hlt,by simp; omega,upd_same,(hs.trans hs6).upd hD,hp6.lst, ?_⟩) (fun hk H6 hs6 hp6=>⟨_,by omega,rfl,hlt,by omega,hs6 _ _ hd,hs.trans hs6,hp6, ?_⟩)
    · have up:∀ b o,b ≠ D→H6 b = some o→(upd H6 D (.lst (ys ++ [y]))) b = some o:=fun b o hb e=>by rw [upd_ne hb]; exact e
      rw [List.range_succ,List.filter_append,show [i].filter kb = [i] by simp [hk]]
      refine Paired.snoc (Paired.mapP hr fun e' y' hr'=>mono e' y' H6 _ (mono e' y' _ H6 hr' (fun b o _ q=>hs6 b o q) ⟨_,hd⟩) up ⟨_,hs6 _ _ hd⟩) (mono i y H6 _ hR up ⟨_,hs6 _ _ hd⟩)
    · rw [List.range_succ,List.filter_append,show [i].filter kb = [] by simp [hk],List.append_nil]
      exact Paired.mapP hr fun e' y' hr'=>mono e' y' _ H6 hr' (fun b o _ q=>hs6 b o q) ⟨_,hd⟩
  · have e:i = n:=by omega
    subst e
    exact .inl ⟨j2,fin ys H2 hr hd hs hp⟩
theorem ver_lay {v:Ver} (h:okV v):PyData.canLay0 (ver v) = true:=by
  show (true && (PyData.canLay0 (plc v.2.1) && (PyData.strOk v.2.2 && true))) = true
  rw [plc_lay,show PyData.strOk v.2.2 = true from h]
  rfl
theorem ver_depth (v:Ver):PyData.depth (ver v) ≤ 4:=by
  have h2:PyData.depth (ver v) = max 0 (max (PyData.depthAll (v.2.1.map stp) + 1) (max 0 0)) + 1:=rfl
  have:=depth_stps v.2.1
  rw [h2]
  omega
end L2
namespace L2
open PySem PySem.Spec PyProof.Rows PySem.NumText
noncomputable def mks (a:Sh):List Mark:=a.map (·.1)
theorem look_some:∀ {a:Sh} {m:Mark} {v:Ver},look a m = some v→(m,v) ∈ a
  | [],_,_,h=>by cases h
  | x :: a,m,v,h=>by
    unfold look at h
    by_cases e:x.1 = m
    · rw [if_pos e] at h
      cases h
      rw [← e]
      exact List.mem_cons_self
    · rw [if_neg e] at h
      exact List.mem_cons_of_mem _ (look_some h)
theorem look_no:∀ {a:Sh} {m:Mark},look a m = none→m ∉ mks a
  | [],_,_=>List.not_mem_nil
  | x :: a,m,h=>by
    unfold look at h
    by_cases e:x.1 = m
    · rw [if_pos e] at h; cases h
    · rw [if_neg e] at h
      intro z
      rcases List.mem_cons.mp z with z | z
      · exact e z.symm
      · exact look_no h z
theorem look_no' {a:Sh} {m:Mark} (h:m ∉ mks a):look a m = none:=by
  cases e:look a m with
  | none=>rfl
  | some v=>exact absurd (List.mem_map_of_mem (f:=(·.1)) (look_some e)) h
theorem mem_mks {a:Sh} {m:Mark} (h:m ∈ mks a):∃ v,(m,v) ∈ a:=by
  obtain ⟨x,hx,rfl⟩:=List.mem_map.mp h
  exact ⟨x.2,hx⟩
theorem nodup_perm {α:Type}:∀ {l1 l2:List α},l1.Nodup→l2.Nodup→(∀ x,x ∈ l1 ↔ x ∈ l2)→l1.Perm l2:=fun h1 h2 h=>(List.perm_ext_iff_of_nodup h1 h2).mpr h
theorem nodup_le {α:Type} [DecidableEq α]:∀ {l U:List α},l.Nodup→(∀ x ∈ l,x ∈ U)→l.length ≤ U.length
  | [],U,_,_=>Nat.zero_le _
  | x :: l,U,h,hs=>by
    obtain ⟨h1,h2⟩:=List.nodup_cons.mp h
    have hx:=hs x List.mem_cons_self
    have:=nodup_le (l:=l) (U:=U.erase x) h2 fun y hy=>(List.mem_erase_of_ne (fun (z:y = x)=>h1 (by rw [← z]; exact hy))).mpr (hs y (List.mem_cons_of_mem _ hy))
    rw [List.length_erase_of_mem hx] at this
    have hp:=List.length_pos_of_mem hx
    rw [List.length_cons]
    omega
noncomputable def IsMk (a b:Sh) (ks:List Mark):Prop:=ks.Pairwise (fun x y=>mLt x y = true)∧∀ m,m ∈ ks ↔ m ∈ mks a ∨ m ∈ mks b
theorem IsMk.sym {a b:Sh} {ks:List Mark} (h:IsMk a b ks):IsMk b a ks:=⟨h.1,fun m=>(h.2 m).trans Or.comm⟩
theorem toE {X:Cx} {e:Expr} {t t':TE} (h:PE X e t) (z:t = t'):PE X e t':=z ▸ h
theorem toS {X:Cx} {e:Stmt} {t t':TS} (h:PS X e t) (z:t = t'):PS X e t':=z ▸ h
theorem ens_drop {K:PySem.W.Frag} {H:Hp} (m:Mark):∀ {es:List Ent} {ns:Sh},EnS K H es ns→EnS K H (dropM es m) (ns.filter fun n => !decide (n.1 = m))
  | _,_,.nil=>.nil
  | e :: es,n :: ns,.cons a b=>by
    have ih:=ens_drop m b
    unfold dropM at ih ⊢
    by_cases h:e.1 = m
    · rw [List.filter_cons_of_neg (by simp [h]),List.filter_cons_of_neg (by rw [← a.1]; simp [h])]
      exact ih
    · rw [List.filter_cons_of_pos (by simp [h]),List.filter_cons_of_pos (by rw [← a.1]; simp [h])]
      exact .cons a ih
theorem find_put {es:List Ent} {m:Mark} {q:Addr} {v:V}:∃ z,findM (putM es m q v) m = some z:=by
  have:m ∈ (putM es m q v).map (·.1):=by
    rw [putM_marks]
    cases h:findM es m with
    | none=>simp
    | some z =>
      rw [if_pos (show (some z).isSome = true from rfl)]
      exact Classical.byContradiction fun hn=>by rw [find_none hn] at h; cases h
  have:=find_some this
  cases h:findM (putM es m q v) m with
  | none=>rw [h] at this; cases this
  | some z=>exact ⟨z,rfl⟩
end L2
namespace L2
open PySem PySem.Spec PyProof.Rows PySem.NumText
section
variable {prog:Program} {w:World} {A:Around} {E:Value→Shared→Prop} {s:Shared} {d a:Addr} {ds:Array DictEntry} {ep:Nat} {o:Obj}
end
section
variable {X:Cx}
end
end L2
namespace L2
open PySem PySem.Spec PyProof.Rows PySem.NumText
section
variable {prog:Program} {w:World} {A:Around} {E:Value→Shared→Prop} {s:Shared} {d r:Addr} {ds:Array DictEntry} {ep:Nat}
end
section
variable {X:Cx}
end
end L2
namespace L2
open PySem PySem.Spec PyProof.Rows PySem.NumText
noncomputable def boxM (A B:Nat):List Mark:=(List.range A).flatMap fun (a:Nat)=>(List.range B).map fun (b:Nat)=>(Int.ofNat a,Int.ofNat b)
theorem mem_box {A B:Nat} {m:Mark} (h1:0 ≤ m.1) (h2:m.1 < A) (h3:0 ≤ m.2) (h4:m.2 < B):m ∈ boxM A B:=by
  obtain ⟨x,y⟩:=m
  refine List.mem_flatMap.mpr ⟨x.toNat,List.mem_range.mpr (by dsimp only at *; omega),List.mem_map.mpr ⟨y.toNat,List.mem_range.mpr (by dsimp only at *; omega), ?_⟩⟩
  dsimp only at h1 h3
  show (Int.ofNat x.toNat,Int.ofNat y.toNat) = (x,y)
  rw [show Int.ofNat x.toNat = x from Int.toNat_of_nonneg h1,show Int.ofNat y.toNat = y from Int.toNat_of_nonneg h3]
theorem look_app {ns:Sh} {m:Mark} {v:Ver} (hn:m ∉ mks ns):∀ k,look (ns ++ [(m,v)]) k = if m = k then some v else look ns k:=by
  intro k
  induction ns with
  | nil=>rfl
  | cons n ns ih =>
    have hn':m ∉ mks ns:=fun z=>hn (List.mem_cons_of_mem _ z)
    have hm:n.1 ≠ m:=fun z=>hn (by rw [← z]; exact List.mem_cons_self)
    show (if n.1 = k then some n.2 else look (ns ++ [(m,v)]) k) = if m = k then some v else if n.1 = k then some n.2 else look ns k
    rw [ih hn']
    by_cases h1:n.1 = k
    · rw [if_pos h1,if_neg (fun z=>hm (h1.trans z.symm)),if_pos h1]
    · rw [if_neg h1,if_neg h1]
theorem look_rep {m:Mark} {v:Ver}:∀ {ns:Sh},m ∈ mks ns→∀ k,look (ns.map fun n=>if n.1 = m then (n.1,v) else n) k = if m = k then some v else look ns k
  | [],h,k=>by cases h
  | n :: ns,h,k=>by
    have step:look ((n :: ns).map fun n=>if n.1 = m then (n.1,v) else n) k = if n.1 = k then some (if n.1 = m then v else n.2) else look (ns.map fun n=>if n.1 = m then (n.1,v) else n) k:=by
      show (if (if n.1 = m then (n.1,v) else n).1 = k then some (if n.1 = m then (n.1,v) else n).2 else _) = _
      by_cases h1:n.1 = m
      · rw [if_pos h1,if_pos h1]
      · rw [if_neg h1,if_neg h1]
    rw [step]
    show _ = if m = k then some v else if n.1 = k then some n.2 else look ns k
    by_cases h2:n.1 = k
    · rw [if_pos h2,if_pos h2]
      by_cases h1:n.1 = m
      · rw [if_pos h1,if_pos (h1.symm.trans h2)]
      · rw [if_neg h1,if_neg (fun z=>h1 (h2.trans z.symm))]
    · rw [if_neg h2,if_neg h2]
      by_cases h3:m ∈ mks ns
      · rw [look_rep h3]
      · have hm:m = n.1:=(List.mem_cons.mp h).resolve_right h3
        rw [if_neg (fun z=>h2 (hm ▸ z))]
        congr 1
        have:∀ x ∈ ns,(if x.1 = m then (x.1,v) else x) = x:=fun x hx=>if_neg fun z=>h3 (by rw [← z]; exact List.mem_map_of_mem (f:=(·.1)) hx)
        exact (List.map_congr_left this).trans (List.map_id _)
noncomputable def putS (ns:Sh) (m:Mark) (v:Ver):Sh:=if m ∈ mks ns then ns.map (fun n=>if n.1 = m then (n.1,v) else n) else ns ++ [(m,v)]
theorem putS_look (ns:Sh) (m:Mark) (v:Ver) (k:Mark):look (putS ns m v) k = if m = k then some v else look ns k:=by
  unfold putS
  by_cases h:m ∈ mks ns
  · rw [if_pos h]; exact look_rep h k
  · rw [if_neg h]; exact look_app h k
theorem putS_marks (ns:Sh) (m:Mark) (v:Ver):mks (putS ns m v) = if m ∈ mks ns then mks ns else mks ns ++ [m]:=by
  unfold putS
  by_cases h:m ∈ mks ns
  · rw [if_pos h,if_pos h]
    unfold mks
    rw [List.map_map]
    exact List.map_congr_left fun n _=>by
      show (if n.1 = m then (n.1,v) else n).1 = n.1
      split <;> rfl
  · rw [if_neg h,if_neg h]
    unfold mks
    rw [List.map_append]
    rfl
theorem putS_mem {ns:Sh} {m:Mark} {v:Ver} {k:Mark} (h:k ∈ mks (putS ns m v)):k = m ∨ k ∈ mks ns:=by
  rw [putS_marks] at h
  split at h
  · exact .inr h
  · rcases List.mem_append.mp h with z | z
    · exact .inr z
    · exact .inl (List.mem_singleton.mp z)
theorem putS_nd {ns:Sh} (nd:(mks ns).Nodup) (m:Mark) (v:Ver):(mks (putS ns m v)).Nodup:=by
  rw [putS_marks]
  by_cases h:m ∈ mks ns
  · rw [if_pos h]; exact nd
  · rw [if_neg h]
    refine List.nodup_append.mpr ⟨nd,List.nodup_cons.mpr ⟨by simp,List.nodup_nil⟩,fun a ha b hb z => ?_⟩
    exact h ((show a = m from z.trans (List.mem_singleton.mp hb)) ▸ ha)
theorem putS_len (ns:Sh) (m:Mark) (v:Ver):(putS ns m v).length ≤ ns.length + 1:=by
  unfold putS
  split <;> simp
theorem putS_ok {ns:Sh} (ok:∀ n ∈ ns,okV n.2) (m:Mark) {v:Ver} (okv:okV v):∀ n ∈ putS ns m v,okV n.2:=fun n hn=>by
  unfold putS at hn
  split at hn
  · obtain ⟨y,hy,rfl⟩:=List.mem_map.mp hn
    split
    · exact okv
    · exact ok y hy
  · rcases List.mem_append.mp hn with z | z
    · exact ok n z
    · rw [List.mem_singleton.mp z]; exact okv
theorem ens_putS {K:PySem.W.Frag} {H:Hp} {es:List Ent} {ns:Sh} (he:EnS K H es ns) {m:Mark} {q:Addr} {v:Ver} {x:V} (hq:SqT K H q (mkV m)) (hx:DV K H (ver v) x):EnS K H (putM es m q x) (putS ns m v):=by
  have em:=ens_marks he
  unfold putM putS
  by_cases hm:m ∈ mks ns
  · have hf:(findM es m).isSome = true:=find_some (by rw [em]; exact hm)
    rw [if_pos hf,if_pos hm]
    clear hm hf em
    induction he with
    | nil=>exact .nil
    | cons a b ih =>
      rename_i e n _ _
      refine .cons ?_ ih
      obtain ⟨a1,a2,a3⟩:=a
      dsimp only
      by_cases z:e.1 = m
      · have z2:n.1 = m:=a1 ▸ z
        rw [if_pos z,if_pos z2]
        exact ⟨a1,a2,hx⟩
      · have z2:¬ n.1 = m:=a1 ▸ z
        rw [if_neg z,if_neg z2]
        exact ⟨a1,a2,a3⟩
  · have hf:findM es m = none:=find_none (by rw [em]; exact hm)
    rw [hf,if_neg hm]
    rw [if_neg (show ¬ (none:Option V).isSome = true from Bool.false_ne_true)]
    exact Paired.snoc he ⟨rfl,hq,hx⟩
noncomputable abbrev Giv:=Mark × Option Ver
noncomputable def lookF (f:Mark→Option Ver) (gs:List Giv):Mark→Option Ver:=gs.foldl (fun f g k=>if g.1 = k then g.2 else f k) f
theorem lookF_snoc (f:Mark→Option Ver) (gs:List Giv) (g:Giv):lookF f (gs ++ [g]) = fun k=>if g.1 = k then g.2 else lookF f gs k:=by
  unfold lookF
  rw [List.foldl_append]
  rfl
end L2
namespace L2
open PySem PySem.Spec PyProof.Rows PySem.NumText
noncomputable def gmk (gs:List Giv):List Mark:=gs.map (·.1)
noncomputable def lookG (gs:List Giv) (k:Mark):Option Ver:=lookF (fun _=>none) gs k
theorem lookF_miss (gs:List Giv) {k:Mark}:∀ {f:Mark→Option Ver},k ∉ gmk gs→lookF f gs k = f k:=by
  induction gs with
  | nil=>intro f _; rfl
  | cons g gs ih =>
    intro f h
    have h1:g.1 ≠ k:=fun z=>h (by rw [← z]; exact List.mem_cons_self)
    have h2:k ∉ gmk gs:=fun z=>h (List.mem_cons_of_mem _ z)
    show lookF (fun k=>if g.1 = k then g.2 else f k) gs k = f k
    rw [ih h2,if_neg h1]
theorem lookF_hit {gs:List Giv} (nd:(gmk gs).Nodup) {g:Giv}:∀ {f:Mark→Option Ver},g ∈ gs→lookF f gs g.1 = g.2:=by
  induction gs with
  | nil=>intro f h; cases h
  | cons g0 gs ih =>
    intro f h
    obtain ⟨n1,n2⟩:=List.nodup_cons.mp (show (g0.1 :: gmk gs).Nodup from nd)
    show lookF (fun k=>if g0.1 = k then g0.2 else f k) gs g.1 = g.2
    rcases List.mem_cons.mp h with rfl | h
    · rw [lookF_miss gs n1,if_pos rfl]
    · exact ih n2 h
noncomputable def allG (ms:Sh):List Giv:=ms.map fun m=>(m.1,some m.2)
theorem allG_look {ms:Sh} (nd:(mks ms).Nodup) (k:Mark):lookG (allG ms) k = look ms k:=by
  have e1:gmk (allG ms) = mks ms:=by
    unfold gmk allG mks
    rw [List.map_map]
    rfl
  unfold lookG
  by_cases h:k ∈ mks ms
  · obtain ⟨m,hm,rfl⟩:=List.mem_map.mp h
    rw [show look ms m.1 = some m.2 from look_in nd hm]
    exact lookF_hit (g:=(m.1,some m.2)) (by rw [e1]; exact nd) (List.mem_map_of_mem (f:=fun m:Mark × Ver=>((m.1,some m.2):Giv)) hm)
  · rw [lookF_miss _ (by rw [e1]; exact h),look_no' h]
end L2
namespace L2
open PySem PySem.Spec PyProof.Rows PySem.NumText
section
variable {X:Cx} {tg:Expr}
end
end L2
namespace L2
open PySem PySem.Spec PyProof.Rows PySem.NumText
section
variable {prog:Program} {w:World} {A:Around} {E:Value→Shared→Prop} {s:Shared}
end
section
variable {X:Cx}
end
end L2
namespace L2
open PySem PySem.Spec PyProof.Rows PySem.NumText
end L2
namespace L2
open PySem PySem.Spec PyProof.Rows PySem.NumText
section
variable {X:Cx} {tg:Expr}
end
end L2
namespace L2
open PySem PySem.Spec PyProof.Rows PySem.NumText
theorem comp_genD {J:It} {n:Nat} {nt:Nat} {cap:List Nat} {g:TG} {te:TE} {σ:St} {H1:Hp} {Q:VK} {D:Addr} (val:Nat→V) (R:Nat→V→Hp→Prop) (hD:H1 D = none) (hP:Plain H1) (hx:n ≤ sizeLine)
    (hJ:∀ i H2,Same H1 H2→(i < n→J.go i H2)∧(J.stop n H2)∧∀ x H3,i < n→J.yld i H2 x H3→H3 = H2∧x = val i)
    (mono:∀ i y H H',R i y H→(∀ b o,b ≠ D→H b = some o→H' b = some o)→(∃ zs,H D = some (.lst zs))→R i y H')
    (step:∀ (i:Nat) H2 (T:VK),i < n→Plain H2→Same H1 H2→(∃ zs,H2 D = some (.lst zs))→(∀ y H6,R i y H6→Same H2 H6→Plain H6→T y H6)→g (val i) (List.replicate nt none ++ caps cap σ) H2 fun σ4 H4=>te σ4 H4 T)
    (fin:∀ ys H2,ys.length = n→(∀ (i:Nat) y,ys[i]? = some y→R i y H2)→H2 D = some (.lst ys)→Same H1 H2→Plain H2→Q (.ref D) H2) :
    CompW J D nt cap g tYes te σ H1 Q:=by
  refine ⟨fun i m ys H2=>m = n - i∧i ≤ n∧ys.length = i∧H2 D = some (.lst ys)∧Same H1 H2∧Plain H2∧∀ (j:Nat) y,ys[j]? = some y→R j y H2,⟨_,rfl,Nat.zero_le _,rfl,upd_same,same_upd hD,hP.lst,fun j y e=>by simp at e⟩, ?_⟩
  rintro i m ys H2 ⟨rfl,hi,hl,hd,hs,hp,hr⟩
  refine ⟨hd, ?_⟩
  obtain ⟨j1,j2,j3⟩:=hJ i H2 hs
  by_cases hlt:i < n
  · refine .inr ⟨j1 hlt,by omega,fun v H3 hy => ?_⟩
    obtain ⟨rfl,rfl⟩:=j3 v H3 hlt hy
    simp only [tYes,if_true]
    refine step i _ _ hlt hp hs ⟨_,hd⟩ fun y H6 hR hs6 hp6=>⟨hs6 _ _ hd,_,by omega,rfl,hlt,by simp [hl],upd_same, ?_,hp6.lst, ?_⟩
    · exact (hs.trans hs6).upd hD
    · intro j z e
      have up:∀ b o,b ≠ D→H6 b = some o→(upd H6 D (.lst (ys ++ [y]))) b = some o:=fun b o hb e=>by rw [upd_ne hb]; exact e
      rcases Nat.lt_or_ge j ys.length with hj | hj
      · rw [List.getElem?_append_left hj] at e
        refine mono j z H6 _ (mono j z _ H6 (hr j z e) (fun b o _ e=>hs6 b o e) ⟨_,hd⟩) up ⟨_,hs6 _ _ hd⟩
      · rw [List.getElem?_append_right hj] at e
        have hj0:j - ys.length = 0:=by
          rcases Nat.eq_zero_or_pos (j - ys.length) with h0 | h0
          · exact h0
          · rw [List.getElem?_eq_none (by simp; omega)] at e; cases e
        rw [hj0] at e
        simp at e
        subst e
        have:j = i:=by omega
        subst this
        exact mono j y H6 _ hR up ⟨_,hs6 _ _ hd⟩
  · have e:i = n:=by omega
    subst e
    exact .inl ⟨j2,fin ys H2 hl hr hd hs hp⟩
end L2
namespace L2
open PySem PySem.Spec PyProof.Rows PySem.NumText
end L2
namespace L2
open PySem PySem.Spec PyProof.Rows PySem.NumText PySem.W
noncomputable def two {α:Type} (lt:α→α→Bool):List α→List α
  | [a,b]=>if lt b a = true then [b,a] else [a,b]
  | as=>as
section
variable {prog:Program} {w:World} {A:Around} {E:Value→Shared→Prop} {s:Shared} {a:Addr} {vs:List Value}
noncomputable def pOf (n:Nat) (b:Bool):Array Nat:=if n = 2∧b = true then #[1,0] else (List.range n).toArray
theorem sort2_wp {cmp:Nat→Nat→(Bool→Shared→Prop)→Shared→Prop} {b0:Bool} (hc:∀ C:Bool→Shared→Prop,C b0 s→cmp 1 0 C s) {Q:Array Nat→Shared→Prop} (q:Q (pOf 2 b0) s):(kas_sort 2).kasWp cmp Q s:=by
  refine hc _ ?_
  cases b0 with
  | true=>exact q
  | false=>exact q
theorem sort_shell2 {c:Nat} {P:PySem.Fin→Shared→Prop} {b0:Bool} (ho:s.heap.get? a = some (seqObj "list" vs.toArray c)) (few:vs.length ≤ 2)
    (hk:vs.length = 2→∀ h',(∀ b o,b ≠ a→s.heap.get? b = some o→h'.get? b = some o)→∃ κ,(∀ (R:SortKind→Shared→Prop) (E':Value→Shared→Prop),R κ { s with heap:=h' }→wpAny (model prog w) A (keyKind' vs.toArray) R E' { s with heap:=h' })∧∀ C:Bool→Shared→Prop,C b0 { s with heap:=h' }→kas_ask prog w A κ vs 1 0 C { s with heap:=h' })
    (h:∀ (h':Heap) (c':Nat),h'.get? a = some (seqObj "list" (outOf vs (pOf vs.length b0)).toArray c')→(∀ b o,b ≠ a→s.heap.get? b = some o→h'.get? b = some o)→P (.done (.ret .none)) { s with heap:=h' }) :
    wpAny (model prog w) A (Builtin.«list.sort» ⟨[.ref a],[]⟩) P E s:=by
  have la:a < s.heap.objs.size:=Heap.lt_size ho
  have line:vs.length ≤ sizeLine:=by rw [sizeLine_eq]; omega
  have psz:(pOf vs.length b0).toList.length = vs.length:=by
    unfold pOf
    split
    · rename_i z; rw [z.1]; rfl
    · simp
  obtain ⟨e1,ho1⟩:∃ e1,(s.heap.update a (Obj.mapSeq fun _=>(#[]:Array Value))).get? a = some (seqObj "list" #[] e1):=⟨_,get?_update_seq ho fun _ => #[]⟩
  generalize hh:((s.heap.update a (Obj.mapSeq fun _=>(#[]:Array Value))).push (seqObj "tuple" vs.toArray 0)).push (seqObj "list" #[] 0) = h3
  have keep3:∀ b o,b ≠ a→s.heap.get? b = some o→h3.get? b = some o:=fun b o nb q=>by
    rw [← hh]
    refine Heap.get?_push_of_some _ (Heap.get?_push_of_some _ ?_)
    rw [Heap.get?_update_other _ _ (Ne.symm nb)]
    exact q
  have at3:h3.get? a = some (seqObj "list" #[] e1):=by rw [← hh]; exact Heap.get?_push_of_some _ (Heap.get?_push_of_some _ ho1)
  have fin:P (.done (.ret .none)) { s with heap:=h3.update a (Obj.mapSeq fun _=>(outOf vs (pOf vs.length b0)).toArray) }:=by
    obtain ⟨c2,hc2⟩:∃ c2,(h3.update a (Obj.mapSeq fun _=>(outOf vs (pOf vs.length b0)).toArray)).get? a = some (seqObj "list" (outOf vs (pOf vs.length b0)).toArray c2):=⟨_,get?_update_seq at3 fun _=>(outOf vs (pOf vs.length b0)).toArray⟩
    refine h _ c2 hc2 fun b o nb q => ?_
    rw [Heap.get?_update_other _ _ (Ne.symm nb)]
    exact keep3 b o nb q
  rw [list_sort_plain]
  refine wpAny_bind (listItems_at ho rfl (wpAny_bind (listUpdate_at ho rfl ?_ (by rw [List.size_toArray]; exact line) (Nat.zero_le _))))
  refine wpAny_bind (seqEpoch_at ho1 rfl (wpAny_bind (wpAny_newTuple (wpAny_bind (wpAny_newList (wpAny_holding ?_) (Nat.zero_le _))) line)))
  show wpAny (model prog w) A _ P E { s with heap:=((s.heap.update a (Obj.mapSeq fun _=>(#[]:Array Value))).push (seqObj "tuple" vs.toArray 0)).push (seqObj "list" #[] 0) }
  rw [hh]
  dsimp only
  by_cases few2:vs.toArray.size < 2
  · rw [if_pos few2,if_pos few2]
    refine wpAny_bind (wpAny_pure ?_)
    rw [StateT.run_pure]
    refine wpAny_bind (wpAny_pure ?_)
    dsimp only
    have hsz:vs.length < 2:=by simpa using few2
    have ep:pOf vs.length b0 = (List.range vs.length).toArray:=by
      unfold pOf
      rw [if_neg (fun z=>by omega)]
    have e:(arrOf (SortSt.mk' general' (vs.toArray.zip vs.toArray) #[] 7 none)).map (·.2) = (outOf vs (pOf vs.length b0)).toArray:=by
      rw [ep,out_range]
      show (vs.toArray.zip vs.toArray).map (·.2) = vs.toArray
      refine Array.ext (by simp) fun i h1 h2 => ?_
      simp
    refine wpAny_bind (seqEpoch_at at3 rfl (wpAny_bind (listUpdate_at at3 rfl ?_ (Nat.zero_le _) ?_)))
    · simp only [bne_self_eq_false,Bool.false_eq_true,if_false]
      refine wpAny_pure ?_
      rw [e]
      exact fin
    · rw [e]
      simp only [outOf,List.size_toArray,List.length_map,psz]
      omega
  · rw [if_neg few2,if_neg few2]
    have two:vs.length = 2:=by
      have:¬ vs.length < 2:=by simpa using few2
      omega
    obtain ⟨κ,kind,asks⟩:=hk two h3 keep3
    refine wpAny_bind (kind _ _ ?_)
    refine wpAny_bind (wpAny_mono (kat_run (Q:=fun st' s'=>s' = { s with heap:=h3 }∧∃ p:Array Nat,p = pOf vs.length b0∧arrOf st' = p.map (kas_item (vs.toArray.zip vs.toArray))∧failedOf st' = none)
      (G:=fun p s'=>s' = { s with heap:=h3 }∧p = pOf vs.length b0) rfl (by omega) (by omega) (fun p' st' s' _ a2 a3 a4=>⟨a4.1,p',a4.2,a2,a3⟩) (by rw [two]; exact sort2_wp asks ⟨rfl,rfl⟩)) ?_ fun _ _ e=>e)
    rintro ⟨⟨⟩,st'⟩ s' ⟨rfl,p,rfl,har,hf⟩
    have e:=kat_snds rfl har
    dsimp only
    rw [e]
    refine wpAny_bind (seqEpoch_at at3 rfl (wpAny_bind (listUpdate_at at3 rfl ?_ (Nat.zero_le _) ?_)))
    · rw [hf]
      simp only [bne_self_eq_false,Bool.false_eq_true,if_false]
      exact wpAny_pure fin
    · rw [List.size_toArray,List.length_map,psz]
      omega
noncomputable def SortGo2 (prog:Program) (w:World) (A:Around) (vs:List Value) (s:Shared) (Q:Value→Shared→Prop):Prop:=∃ b0,vs.length ≤ 2 ∧
  (vs.length = 2→∀ h',(∀ b o,s.heap.get? b = some o→h'.get? b = some o)→∃ κ,(∀ (R:SortKind→Shared→Prop) (E':Value→Shared→Prop),R κ { s with heap:=h' }→wpAny (model prog w) A.in1.in1 (keyKind' vs.toArray) R E' { s with heap:=h' })∧∀ C:Bool→Shared→Prop,C b0 { s with heap:=h' }→kas_ask prog w A.in1.in1 κ vs 1 0 C { s with heap:=h' }) ∧
  ∀ (h':Heap) (l c:Nat),s.heap.objs.size ≤ l→h'.get? l = some (seqObj "list" (outOf vs (pOf vs.length b0)).toArray c)→(∀ b o,s.heap.get? b = some o→h'.get? b = some o)→Q (.ref l) { s with heap:=h' }
theorem sorted_shell2 {x:Value} {Q:Value→Shared→Prop} (hc:wpAny (model prog w) A.in1 (collect x) (fun us s1=>SortGo2 prog w A us s1 Q) E s) :
    wpAny (model prog w) A (call (.builtin "sorted") [x]) Q E s:=by
  refine Calls.call_function_entry kind_sorted plain_sorted entry_sorted (args_sorted1 _) ?_
  unfold Builtin.«sorted»
  refine wpAny_bind (m:=checkCount "sorted" 1 1 _) (wpAny_pure (wpAny_bind (wpAny_mono hc (fun us s1 hg => ?_) fun _ _ e=>e)))
  obtain ⟨b0,few,hk,h⟩:=hg
  have line:us.length ≤ sizeLine:=by rw [sizeLine_eq]; omega
  refine wpAny_bind (wpAny_newList ?_ line)
  have at2:(s1.heap.push (seqObj "list" us.toArray 0)).get? s1.heap.objs.size = some (seqObj "list" us.toArray 0):=Heap.get?_push_size _ rfl
  have old:∀ b o,s1.heap.get? b = some o→b ≠ s1.heap.objs.size:=fun b o q=>Nat.ne_of_lt (Heap.lt_size q)
  refine wpAny_bind (wpAny_holding (wpAny_call_entry slot_list_sort ⟨_,at2,rfl⟩ entry_list_sort (sort_shell2 at2 few (fun two h' kp=>hk two h' fun b o q=>kp b o (old b o q) (Heap.get?_push_of_some _ q)) fun h' c hl kp=>⟨_,rfl, ?_⟩) (args_list_sort _)))
  exact wpAny_pure ⟨_,rfl,h h' _ c (Nat.le_refl _) hl fun b o q=>kp b o (old b o q) (Heap.get?_push_of_some _ q)⟩
end
section
variable {X:Cx}
noncomputable def rSort2 (K:PySem.W.Frag):List V→Hp→VK→Prop:=fun xs H Q=>∃ (α:Type) (as:List α) (enc:α→List PyData) (lt:α→α→Bool) (f:FirstTy) (p:Addr) (vs:List V),xs = [.ref p]∧SqL K H p vs∧DVs K H (as.map fun a=>.tuple (enc a)) vs∧as.length ≤ 2 ∧
  (∀ a ∈ as,∀ b ∈ as,ltDs (enc a) (enc b) = some (lt a b))∧(∀ a ∈ as,∃ x r,enc a = x :: r∧f.of x)∧(∀ a ∈ as,SeqAt.shaped (.tuple (enc a)) = true) ∧
  ∀ (l:Addr) (ws:List V),H l = none→DVs K H ((two lt as).map fun a=>.tuple (enc a)) ws→Q (.ref l) (upd H l (.lst ws))
theorem call_sorted2 (hu:X.A.units + 100 < cLine):CallR X (.builtin "sorted") (rSort2 X.K):=by
  intro pins s σ H xs us0 Q I r h
  obtain ⟨α,as,enc,lt,f,p,vs,rfl,hq,hd,few,lts,fst,shp,q⟩:=h
  obtain ⟨u,rfl,rx⟩:=vals1 r
  cases rx
  obtain ⟨us,rv,pl,hz⟩:=I.list hq
  refine sorted_shell2 (collect_list pl.isList ?_ (by rw [← rv.length]; exact hz))
  have kp0:∀ b o,s.heap.get? b = some o→((s.heap.push (seqObj "list" #[] 0)).update s.heap.objs.size (Obj.mapSeq (· ++ us.toArray))).get? b = some o:=fun b o e=>by
    rw [Heap.get?_update_other _ _ (Nat.ne_of_gt (Heap.lt_size e))]
    exact Heap.get?_push_of_some _ e
  have I1:=I.kept (t':=s.toks) kp0
  generalize hs1:({ s with heap:=(s.heap.push (seqObj "list" #[] 0)).update s.heap.objs.size (Obj.mapSeq (· ++ us.toArray)),toks:=s.toks }:Shared) = s1 at I1
  have hl:vs.length = as.length:=by rw [hd.length,List.length_map]
  have hul:us.length = as.length:=by rw [← rv.length,hl]
  obtain ⟨bs,ra⟩:=DVs.reads I1 _ _ _ hd rv
  have go:SortGo2 X.prog X.w X.A us s1 (EP X pins σ Q):=by
    have lay:∀ (is:List Nat) (as':List α) (h':Heap) (l c:Nat),(∀ i ∈ is,i < vs.length)→DVs X.K H (as'.map fun a=>.tuple (enc a)) (is.map fun i=>vs.getD i .non)→as' = two lt as→is.length ≤ 2→s1.heap.objs.size ≤ l→h'.get? l = some (seqObj "list" (is.map fun i=>us.getD i .none).toArray c)→(∀ b o,s1.heap.get? b = some o→h'.get? b = some o)→EP X pins σ Q (.ref l) { s1 with heap:=h' }:=fun is as' h' l c hin hdv has hfew hle hat kp=>by
      have hn:=I1.hok.fresh hle
      refine ⟨.ref l,_,I1.laid (t':=s1.toks) (o := .lst (is.map fun i=>vs.getD i .non)) kp hle ⟨?_,_,c,vals_pick rv is hin,hat⟩,rfl,q l _ hn (by rw [← has]; exact hdv)⟩
      rw [List.length_map,sizeLine_eq]
      omega
    match as,hd,lts,fst,shp,few,hl,hul,ra,lay with
    | [],hd,lts,fst,shp,few,hl,hul,ra,lay =>
      refine ⟨false,by rw [hul]; exact few,fun two=>by rw [hul] at two; exact absurd two (by simp),fun h' l c hle hat kp=>lay [] [] h' l c (fun i h=>by cases h) rfl rfl (by decide) hle ?_ kp⟩
      rw [hat,hul]
      rfl
    | [a],hd,lts,fst,shp,few,hl,hul,ra,lay =>
      refine ⟨false,by rw [hul]; exact few,fun two=>by rw [hul] at two; exact absurd two (by simp),fun h' l c hle hat kp=>lay [0] [a] h' l c (fun i h=>by rw [List.mem_singleton.mp h,hl]; exact Nat.zero_lt_one) (dvs_pick hd a [0] (fun i h=>by rw [List.mem_singleton.mp h]; exact Nat.zero_lt_one)) rfl (by decide) hle ?_ kp⟩
      rw [hat,hul]
      rfl
    | [a,b],hd,lts,fst,shp,few,hl,hul,ra,lay =>
      refine ⟨lt b a,by rw [hul]; exact few,fun two h' kp => ?_,fun h' l c hle hat kp => ?_⟩
      · have r':=readsAll_ext kp ra
        obtain ⟨fs,k,lf,tf⟩:=tups_of (prog:=X.prog) (w:=X.w) (f:=f) r' (fun x hx=>by
          obtain ⟨a,ha,rfl⟩:=List.mem_map.mp hx
          obtain ⟨y,t,e,hy⟩:=fst a ha
          exact ⟨y,t,by rw [e],hy⟩)
        refine ⟨tuples' (f.ty != .type "tuple"),fun R E' hR=>kat_kind (s:={ s1 with heap:=h' }) k (by omega) tf (by cases f <;> decide) hR,fun C hC => ?_⟩
        have mi:b ∈ [a,b]:=by simp
        have mj:a ∈ [a,b]:=by simp
        obtain ⟨v,b1,hv,rv'⟩:=readsAll_ix r' (i:=1) (d := .tuple (enc b)) rfl
        obtain ⟨x,b2,hx,rx'⟩:=readsAll_ix r' (i:=0) (d := .tuple (enc a)) rfl
        have evi:us.getD 1 .none = v:=by rw [List.getD_eq_getElem?_getD,hv]; rfl
        have evj:us.getD 0 .none = x:=by rw [List.getD_eq_getElem?_getD,hx]; rfl
        unfold kas_ask
        rw [evi,evj]
        have sa:=shp b mi
        have sb:=shp a mj
        have la:PyData.canLayAll0 (enc b) = true:=SeqAt.canLay_of_shaped sa
        have lb:PyData.canLayAll0 (enc a) = true:=SeqAt.canLay_of_shaped sb
        have da:PyData.depth (.tuple (enc b)) ≤ 64:=SeqAt.depth_of_shaped sa
        have da:PyData.depthAll (enc b) + 1 ≤ 64:=da
        have first:∀ d e r t,enc b = d :: r→enc a = e :: t→f = .int→∃ m n,d = .int m∧e = .int n:=fun d e r t e1 e2 hf=>by
          subst hf
          obtain ⟨y,t1,e3,m,hm⟩:=fst b mi
          obtain ⟨z,t2,e4,n,hn⟩:=fst a mj
          rw [e1] at e3
          rw [e2] at e4
          cases e3
          cases e4
          exact ⟨m,n,hm,hn⟩
        cases rv' with
        | @tuple l1 o1 x1 n1 _ _ h1 h2 h3 h4 =>
          cases rx' with
          | @tuple l2 o2 x2 n2 _ _ g1 g2 g3 g4 =>
            refine kat_lt h1 h3 g1 g3 (katLex_data (by show X.A.units + 1 + 1 + 70 < cLine; omega) _ _ _ _ _ _ 0 (lt b a) h4 g4 la lb (by omega) (fun hb _ d e r t e1 e2=>first d e r t e1 e2 ?_) (by simp) (lts b mi a mj) hC)
            cases f with
            | int=>rfl
            | tup=>exact absurd hb (by decide)
      · have hl2:vs.length = 2:=hl
        have h2:∀ i ∈ [0,1],i < vs.length:=fun i h=>by simp at h; omega
        have h2':∀ i ∈ [1,0],i < vs.length:=fun i h=>by simp at h; omega
        rw [hul] at hat
        cases e:lt b a with
        | true =>
          rw [e] at hat
          refine lay [1,0] [b,a] h' l c h2' (dvs_pick hd a [1,0] (fun i h=>by rw [← hl]; exact h2' i h)) ?_ (by decide) hle hat kp
          show [b,a] = if lt b a = true then [b,a] else [a,b]
          rw [e]; rfl
        | false =>
          rw [e] at hat
          refine lay [0,1] [a,b] h' l c h2 (dvs_pick hd a [0,1] (fun i h=>by rw [← hl]; exact h2 i h)) ?_ (by decide) hle hat kp
          show [a,b] = if lt b a = true then [b,a] else [a,b]
          rw [e]; rfl
    | a :: b :: c :: r,hd,lts,fst,shp,few,hl,hul,ra,lay=>exact absurd few (by simp)
  exact hs1 ▸ go
end
end L2
local macro_rules | `(tactic| walk_at "rd") => `(tactic| repeat (first
  | refine ⟨_,rfl, ?_⟩
  | refine ⟨_,_,rfl,rfl, ?_⟩
  | refine ⟨(by show (0:Int) < _; decide), ?_⟩
  | refine ⟨⟨by decide,by decide⟩, ?_⟩
  | refine ⟨Or.inr ⟨by decide,by decide⟩, ?_⟩
  | refine ⟨⟨by decide,by decide,by decide⟩, ?_⟩
  | refine ⟨_,_,_,_,rfl,rfl,L2.SqL.of L2.upd_same,rfl, ?_⟩
  | refine ⟨_,_,_,_,rfl,rfl,L2.SqL.of (by assumption),rfl, ?_⟩))
namespace My
open PySem L2 PySem.Spec PyProof.Rows PySem.NumText
noncomputable def top (i:Nat):Stmt:=PySem.Challenge.pw_twotabs_k23_merged.main.body.getD i (.Pass ⟨0,0,0,0⟩)
noncomputable abbrev s_alike:Stmt:=top 7
noncomputable abbrev s_later:Stmt:=top 8
noncomputable abbrev s_Sheet____init__:Stmt:=inClass (top 10) 0
noncomputable abbrev s_Sheet__pairs:Stmt:=inClass (top 10) 1
noncomputable abbrev s_Sheet__version:Stmt:=inClass (top 10) 4
noncomputable abbrev s_marks_of:Stmt:=top 11
noncomputable abbrev s_clash_due:Stmt:=top 14
noncomputable abbrev s_merged:Stmt:=top 13
noncomputable abbrev s__law_digits:Stmt:=top 16
noncomputable abbrev s__law_signs:Stmt:=top 17
noncomputable abbrev s__law_words:Stmt:=top 18
noncomputable abbrev s__law_version:Stmt:=top 19
noncomputable abbrev s__law_pairs:Stmt:=top 20
noncomputable abbrev s__law_bent:Stmt:=top 21
noncomputable abbrev s__law_table:Stmt:=top 22
noncomputable abbrev s__law_alike_too:Stmt:=top 23
noncomputable abbrev s__law_due:Stmt:=top 24
noncomputable abbrev s_law:Stmt:=top 25
structure Adr where
  f_alike:Addr
  d_alike:FuncData
  f_later:Addr
  d_later:FuncData
  f_Sheet____init__:Addr
  d_Sheet____init__:FuncData
  f_Sheet__pairs:Addr
  d_Sheet__pairs:FuncData
  f_Sheet__version:Addr
  d_Sheet__version:FuncData
  f_marks_of:Addr
  d_marks_of:FuncData
  f_clash_due:Addr
  d_clash_due:FuncData
  f_merged:Addr
  d_merged:FuncData
  f__law_digits:Addr
  d__law_digits:FuncData
  f__law_signs:Addr
  d__law_signs:FuncData
  f__law_words:Addr
  d__law_words:FuncData
  f__law_version:Addr
  d__law_version:FuncData
  f__law_pairs:Addr
  d__law_pairs:FuncData
  f__law_bent:Addr
  d__law_bent:FuncData
  f__law_table:Addr
  d__law_table:FuncData
  f__law_alike_too:Addr
  d__law_alike_too:FuncData
  f__law_due:Addr
  d__law_due:FuncData
  f_law:Addr
  d_law:FuncData
  NoSheet:Addr
  Sheet:Addr
structure Txt (K:PySem.W.Frag) (mg:Str→Option Value) (A:Adr):Prop where
  F_alike:Fun K "alike" "alike" s_alike A.f_alike A.d_alike
  g_alike:mg "alike" = some (.ref A.f_alike)
  k_alike:PySem.W.keepIn K (.ref A.f_alike) = true
  b_alike:Binds K A.d_alike ["one", "other"] []
  F_later:Fun K "later" "later" s_later A.f_later A.d_later
  g_later:mg "later" = some (.ref A.f_later)
  k_later:PySem.W.keepIn K (.ref A.f_later) = true
  b_later:Binds K A.d_later ["one", "other"] []
  F_Sheet____init__:Fun K "__init__" "Sheet.__init__" s_Sheet____init__ A.f_Sheet____init__ A.d_Sheet____init__
  b_Sheet____init__:Binds K A.d_Sheet____init__ ["self", "pairs"] []
  mk_Sheet:Mk K A.Sheet A.f_Sheet____init__
  F_Sheet__pairs:Fun K "pairs" "Sheet.pairs" s_Sheet__pairs A.f_Sheet__pairs A.d_Sheet__pairs
  b_Sheet__pairs:Binds K A.d_Sheet__pairs ["self"] []
  m_Sheet__pairs:Meth K A.Sheet "pairs" A.f_Sheet__pairs
  F_Sheet__version:Fun K "version" "Sheet.version" s_Sheet__version A.f_Sheet__version A.d_Sheet__version
  b_Sheet__version:Binds K A.d_Sheet__version ["self", "mark"] []
  m_Sheet__version:Meth K A.Sheet "version" A.f_Sheet__version
  F_marks_of:Fun K "marks_of" "marks_of" s_marks_of A.f_marks_of A.d_marks_of
  g_marks_of:mg "marks_of" = some (.ref A.f_marks_of)
  k_marks_of:PySem.W.keepIn K (.ref A.f_marks_of) = true
  b_marks_of:Binds K A.d_marks_of ["one", "other"] []
  F_clash_due:Fun K "clash_due" "clash_due" s_clash_due A.f_clash_due A.d_clash_due
  g_clash_due:mg "clash_due" = some (.ref A.f_clash_due)
  k_clash_due:PySem.W.keepIn K (.ref A.f_clash_due) = true
  b_clash_due:Binds K A.d_clash_due ["before", "there", "here"] []
  F_merged:Fun K "merged" "merged" s_merged A.f_merged A.d_merged
  g_merged:mg "merged" = some (.ref A.f_merged)
  k_merged:PySem.W.keepIn K (.ref A.f_merged) = true
  b_merged:Binds K A.d_merged ["base", "last", "mine"] []
  F__law_digits:Fun K "_law_digits" "_law_digits" s__law_digits A.f__law_digits A.d__law_digits
  g__law_digits:mg "_law_digits" = some (.ref A.f__law_digits)
  k__law_digits:PySem.W.keepIn K (.ref A.f__law_digits) = true
  b__law_digits:Binds K A.d__law_digits ["_law_cell", "_law_place"] []
  F__law_signs:Fun K "_law_signs" "_law_signs" s__law_signs A.f__law_signs A.d__law_signs
  g__law_signs:mg "_law_signs" = some (.ref A.f__law_signs)
  k__law_signs:PySem.W.keepIn K (.ref A.f__law_signs) = true
  b__law_signs:Binds K A.d__law_signs [] []
  F__law_words:Fun K "_law_words" "_law_words" s__law_words A.f__law_words A.d__law_words
  g__law_words:mg "_law_words" = some (.ref A.f__law_words)
  k__law_words:PySem.W.keepIn K (.ref A.f__law_words) = true
  b__law_words:Binds K A.d__law_words ["_law_one", "_law_other"] []
  F__law_version:Fun K "_law_version" "_law_version" s__law_version A.f__law_version A.d__law_version
  g__law_version:mg "_law_version" = some (.ref A.f__law_version)
  k__law_version:PySem.W.keepIn K (.ref A.f__law_version) = true
  b__law_version:Binds K A.d__law_version ["_law_some"] []
  F__law_pairs:Fun K "_law_pairs" "_law_pairs" s__law_pairs A.f__law_pairs A.d__law_pairs
  g__law_pairs:mg "_law_pairs" = some (.ref A.f__law_pairs)
  k__law_pairs:PySem.W.keepIn K (.ref A.f__law_pairs) = true
  b__law_pairs:Binds K A.d__law_pairs ["_law_cells"] []
  F__law_bent:Fun K "_law_bent" "_law_bent" s__law_bent A.f__law_bent A.d__law_bent
  g__law_bent:mg "_law_bent" = some (.ref A.f__law_bent)
  k__law_bent:PySem.W.keepIn K (.ref A.f__law_bent) = true
  b__law_bent:Binds K A.d__law_bent ["_law_pairs_here", "_law_cells", "_law_by"] []
  F__law_table:Fun K "_law_table" "_law_table" s__law_table A.f__law_table A.d__law_table
  g__law_table:mg "_law_table" = some (.ref A.f__law_table)
  k__law_table:PySem.W.keepIn K (.ref A.f__law_table) = true
  b__law_table:Binds K A.d__law_table ["_law_pairs_here"] []
  F__law_alike_too:Fun K "_law_alike_too" "_law_alike_too" s__law_alike_too A.f__law_alike_too A.d__law_alike_too
  g__law_alike_too:mg "_law_alike_too" = some (.ref A.f__law_alike_too)
  k__law_alike_too:PySem.W.keepIn K (.ref A.f__law_alike_too) = true
  b__law_alike_too:Binds K A.d__law_alike_too ["_law_pairs_here", "_law_others", "_law_cells"] []
  F__law_due:Fun K "_law_due" "_law_due" s__law_due A.f__law_due A.d__law_due
  g__law_due:mg "_law_due" = some (.ref A.f__law_due)
  k__law_due:PySem.W.keepIn K (.ref A.f__law_due) = true
  b__law_due:Binds K A.d__law_due ["_law_base", "_law_last", "_law_mine"] []
  F_law:Fun K "law" "law" s_law A.f_law A.d_law
  g_law:mg "law" = some (.ref A.f_law)
  k_law:PySem.W.keepIn K (.ref A.f_law) = true
  b_law:Binds K A.d_law ["_law_script"] []
  g_NoSheet:mg "NoSheet" = some (.ref A.NoSheet)
  x_NoSheet:XCls K A.NoSheet
  g_Sheet:mg "Sheet" = some (.ref A.Sheet)
  cl_Sheet:Cls K A.Sheet
  na_Sheet_versions:NoAttr K A.Sheet "versions"
  n_dict:mg "dict" = none
  n_enumerate:mg "enumerate" = none
  n_isinstance:mg "isinstance" = none
  n_len:mg "len" = none
  n_max:mg "max" = none
  n_range:mg "range" = none
  n_set:mg "set" = none
  n_sorted:mg "sorted" = none
  n_tuple:mg "tuple" = none
noncomputable def sp_law (K:PySem.W.Frag):Sp:=fun vs H Q _=>∃ (a:Addr) (ns:List Int),vs = [.ref a]∧SqL K H a (ns.map V.int)∧ns.length ≤ 63∧(∀ H',Q (.bl true) H')∧Plain H
noncomputable def sp_digits:Sp:=newSp (fun (a:Int × Int) vs=>vs = [.int a.1,.int a.2]) (fun _ o=>∃ d0 d1 d2 d3 d4 d5 d6 d7:Int,o = .lst [.int d0,.int d1,.int d2,.int d3,.int d4,.int d5,.int d6,.int d7]∧Dig d0∧Dig d1∧Dig d2∧Dig d3∧Dig d4∧Dig d5∧Dig d6∧Dig d7)
theorem new_digits {P:Program} {w:World} {K:PySem.W.Frag} {mg:Str→Option Value} {base:Heap} {CX:CXT} {k:Nat} {f:Addr} {fd:FuncData} {ps:List Str}
    (F:FnOk P w K mg base CX k f fd ps (newRaw (fun (a:Int × Int) vs=>vs = [.int a.1,.int a.2]) (fun _ o=>∃ d0 d1 d2 d3 d4 d5 d6 d7:Int,o = .lst [.int d0,.int d1,.int d2,.int d3,.int d4,.int d5,.int d6,.int d7]∧Dig d0∧Dig d1∧Dig d2∧Dig d3∧Dig d4∧Dig d5∧Dig d6∧Dig d7))) :
    FnOk P w K mg base CX k f fd ps sp_digits:=F.new fun a o ⟨d0,d1,d2,d3,d4,d5,d6,d7,e,_⟩=>.inl ⟨_,e⟩
theorem eight {ds:List Int} (h:ds.length = 8) (hd:∀ d ∈ ds,Dig d):∃ d0 d1 d2 d3 d4 d5 d6 d7:Int,HO.lst (ds.map V.int) = .lst [.int d0,.int d1,.int d2,.int d3,.int d4,.int d5,.int d6,.int d7]∧Dig d0∧Dig d1∧Dig d2∧Dig d3∧Dig d4∧Dig d5∧Dig d6∧Dig d7:=by
  match ds,h with
  | [a,b,c,d,e,f,g,i],_=>exact ⟨a,b,c,d,e,f,g,i,rfl,hd a (by simp),hd b (by simp),hd c (by simp),hd d (by simp),hd e (by simp),hd f (by simp),hd g (by simp),hd i (by simp)⟩
noncomputable abbrev SMALL:Str := "abcdefghijklmnopqrstuvwxyz"
noncomputable def SIGNS:Str:=((((" !\"#$&'()*+,-./0123456789:;<=>?@" : Str) ++ Txt.upper SMALL) ++ ("[\\]^_`" : Str)) ++ SMALL) ++ ("{|}~" : Str)
theorem signs_len:SIGNS.length = 94:=by decide +kernel
noncomputable def sp_signs:Sp:=pureSp (fun (_:Unit) vs=>vs = []) (fun _ v=>v = .str SIGNS)
noncomputable def sp_words:Sp:=pureSp (fun (a:Int × Int) vs=>vs = [.int a.1,.int a.2]) (fun _ v=>∃ z:Str,v = .str z∧z.length ≤ 6∧PyData.strOk z = true)
theorem all_join {P:Nat→Bool} {g:Str} (hg:g.cps.all P = true):∀ {ps:List Str},(∀ p ∈ ps,p.cps.all P = true)→(Txt.join g ps).cps.all P = true:=by
  intro ps h
  show ((ps.drop 1).foldl (fun acc p=>acc ++ g.cps ++ p.cps) (ps.headD Str.empty).cps).all P = true
  have go:∀ (qs:List Str) (a:Array Nat),a.all P = true→(∀ p ∈ qs,p.cps.all P = true)→(qs.foldl (fun acc p=>acc ++ g.cps ++ p.cps) a).all P = true:=by
    intro qs
    induction qs with
    | nil=>intro a ha _; exact ha
    | cons q qs ih =>
      intro a ha hq
      refine ih _ ?_ fun p hp=>hq p (List.mem_cons_of_mem _ hp)
      rw [Array.all_append,Array.all_append,ha,hg,hq q List.mem_cons_self]
      rfl
  refine go _ _ ?_ fun p hp=>h p (List.mem_of_mem_drop hp)
  cases ps with
  | nil=>show (#[]:Array Nat).all P = true; simp
  | cons p ps=>exact h p List.mem_cons_self
theorem signs_ok (i:Nat):SIGNS.cps.toList.getD i 0 < 0x110000:=by
  have h:SIGNS.cps.toList.all (fun c=>decide (c < 0x110000)) = true:=by decide +kernel
  rw [List.getD_eq_getElem?_getD]
  cases e:SIGNS.cps.toList[i]? with
  | none=>decide
  | some c=>exact of_decide_eq_true (List.all_eq_true.mp h c (List.mem_of_getElem? e))
noncomputable def digL (l:Addr) (H:Hp):Prop:=∃ d0 d1 d2 d3 d4 d5 d6 d7:Int,H l = some (.lst [.int d0,.int d1,.int d2,.int d3,.int d4,.int d5,.int d6,.int d7])∧Dig d0∧Dig d1∧Dig d2∧Dig d3∧Dig d4∧Dig d5∧Dig d6∧Dig d7
noncomputable def sp_ver (K:PySem.W.Frag):Sp:=genSp (fun (a:Addr) vs H=>vs = [.ref a]∧digL a H) (fun _ r H=>∃ v:Ver,DV K H (ver v) r∧okV v∧v.2.2.length ≤ 6) (fun _ _=>False)
theorem iteDF {p:Prop} [Decidable p] {A B:Prop} (h:¬ p) (b:B):if decide p = true then A else B:=by rw [decide_eq_false h]; exact iteF b
theorem iteDT {p:Prop} [Decidable p] {A B:Prop} (h:p) (a:A):if decide p = true then A else B:=by rw [decide_eq_true h]; exact iteT a
theorem iteNT {p:Prop} [Decidable p] {A B:Prop} (h:¬ p) (a:A):if (!decide p) = true then A else B:=by rw [decide_eq_false h]; exact iteT a
theorem empty_dv {K:PySem.W.Frag} {H:Hp} {t:Addr} (h:H t = some (.tup [])):DV K H (plc []) (.ref t):=⟨t,[],rfl,SqT.of h,rfl⟩
theorem Plain.ins {H:Hp} {l C dx:Addr} {fs:List (Str × V)} (p:Plain H):Plain (upd H l (.ins C dx fs)):=p.upd trivial
theorem Plain.ext {H:Hp} {l:Addr} {φ:Heap→Prop} (p:Plain H):Plain (upd H l (.ext φ)):=p.upd trivial
theorem sqT_ins {K:PySem.W.Frag} {H:Hp} {p C dx:Addr} {fs fs':List (Str × V)} {a:Addr} {xs:List V} (hp:H p = some (.ins C dx fs)) (h:SqT K H a xs):SqT K (upd H p (.ins C dx fs')) a xs:=by
  rcases h with (h | ⟨o,h⟩) | h
  · exact .inl (.inl (by rw [upd_ne (ne_of h hp (by intro z; cases z))]; exact h))
  · exact .inl (.inr ⟨o,by rw [upd_ne (ne_of h hp (by intro z; cases z))]; exact h⟩)
  · exact .inr h
mutual
theorem dv_ins {K:PySem.W.Frag} {H:Hp} {p C dx:Addr} {fs fs':List (Str × V)} (hp:H p = some (.ins C dx fs)):∀ (d:PyData) (v:V),noL d = true→DV K H d v→DV K (upd H p (.ins C dx fs')) d v
  | .none,v,_,h=>h
  | .bool b,v,_,h=>h
  | .int i,v,_,h=>h
  | .str x,v,_,h=>h
  | .list xs,v,n,_=>by cases n
  | .tuple xs,v,n,⟨a,vs,h1,h2,h3⟩=>⟨a,vs,h1,sqT_ins hp h2,dvs_ins hp xs vs n h3⟩
  | .dict _,v,_,h=>h.elim
theorem dvs_ins {K:PySem.W.Frag} {H:Hp} {p C dx:Addr} {fs fs':List (Str × V)} (hp:H p = some (.ins C dx fs)):∀ (ds:List PyData) (vs:List V),noLs ds = true→DVs K H ds vs→DVs K (upd H p (.ins C dx fs')) ds vs
  | [],vs,_,h=>h
  | d :: ds,vs,n,⟨v,r,h1,h2,h3⟩=>by
    have n:noL d = true∧noLs ds = true:=by rw [noLs,Bool.and_eq_true] at n; exact n
    exact ⟨v,r,h1,dv_ins hp d v n.1 h2,dvs_ins hp ds r n.2 h3⟩
end
structure Good (ms:Sh):Prop where
  nd:(ms.map (·.1)).Nodup
  ok:∀ m ∈ ms,okV m.2∧m.2.2.2.length ≤ 6∧(0 ≤ m.1.1∧m.1.1 ≤ 3)∧(1 ≤ m.1.2∧m.1.2 ≤ 20)
  few:ms.length ≤ 59
theorem prD_of {K:PySem.W.Frag} {H:Hp} {m:Mark × Ver} {y:V} (h:DV K H (prD m) y):∃ t q x,y = .ref t∧SqT K H t [.ref q,x]∧SqT K H q (mkV m.1)∧DV K H (ver m.2) x:=by
  obtain ⟨t,vs,rfl,ht,x1,r1,rfl,e1,x2,r2,rfl,e2,e3⟩:=h
  cases (show r2 = [] from e3)
  obtain ⟨q,rfl,hq⟩:=mark_of e1
  exact ⟨t,q,x2,rfl,ht,hq,e2⟩
theorem ens_find {K:PySem.W.Frag} {H:Hp} {es:List Ent} {ms:Sh} (he:EnS K H es ms) (nd:(ms.map (·.1)).Nodup) {m:Mark × Ver} (h:m ∈ ms):∃ x,findM es m.1 = some x∧DV K H (ver m.2) x:=by
  have h1:=look_find he m.1
  rw [look_in nd h] at h1
  cases e:findM es m.1 with
  | none =>
    rw [e] at h1
    obtain ⟨t,pv,z,_⟩:=ver_of (show DV K H (ver m.2) V.non from h1)
    cases z
  | some x =>
    rw [e] at h1
    exact ⟨x,rfl,h1⟩
theorem uniq {α:Type} {r:α→α→Prop} (as:∀ a b,r a b→r b a→False):∀ {l1 l2:List α},l1.Perm l2→l1.Pairwise r→l2.Pairwise r→l1 = l2
  | [],l2,p,_,_=>(List.nil_perm.mp p).symm
  | a :: l1,[],p,_,_=>absurd p.symm.nil_eq (by simp)
  | a :: l1,b :: l2,p,h1,h2=>by
    have h1':=List.pairwise_cons.mp h1
    have h2':=List.pairwise_cons.mp h2
    by_cases e:a = b
    · subst e
      rw [uniq as ((List.perm_cons a).mp p) h1'.2 h2'.2]
    · have m1:a ∈ l2:=by
        rcases List.mem_cons.mp (p.mem_iff.mp List.mem_cons_self) with z | z
        · exact absurd z e
        · exact z
      have m2:b ∈ l1:=by
        rcases List.mem_cons.mp (p.mem_iff.mpr List.mem_cons_self) with z | z
        · exact absurd z.symm e
        · exact z
      exact absurd (h2'.1 a m1) (fun z=>as _ _ (h1'.1 b m2) z)
theorem mLt_as (a b:Mark) (h1:mLt a b = true) (h2:mLt b a = true):False:=by rw [mLt_sto.asym h1] at h2; cases h2
theorem prL_lay:∀ (ms:Sh),(∀ m ∈ ms,okV m.2)→PyData.canLayAll0 (ms.map prD) = true∧PyData.depthAll (ms.map prD) ≤ 30
  | [],_=>⟨rfl,Nat.zero_le _⟩
  | m :: ms,h=>by
    obtain ⟨h1,h2⟩:=prL_lay ms fun x hx=>h x (List.mem_cons_of_mem _ hx)
    have h3:=prD_shaped (m:=m) (h m List.mem_cons_self)
    unfold SeqAt.shaped at h3
    rw [Bool.and_eq_true] at h3
    refine ⟨?_, ?_⟩
    · show (PyData.canLay0 (prD m) && PyData.canLayAll0 (ms.map prD)) = true
      rw [h3.1,h1]
      rfl
    · show max (PyData.depth (prD m)) (PyData.depthAll (ms.map prD)) ≤ 30
      have h4:PyData.depth (prD m) = max 1 (max (max 0 (max (PyData.depthAll (m.2.2.1.map stp) + 1) (max 0 0)) + 1) 0) + 1:=rfl
      have:=depth_stps m.2.2.1
      omega
theorem prL_shaped {ms:Sh} (h:∀ m ∈ ms,okV m.2):SeqAt.shaped (.list (ms.map prD)) = true:=by
  obtain ⟨h1,h2⟩:=prL_lay ms h
  unfold SeqAt.shaped
  rw [show PyData.canLay0 (.list (ms.map prD)) = true from h1,Bool.true_and]
  refine decide_eq_true ?_
  show PyData.depthAll (ms.map prD) + 1 ≤ 64
  omega
noncomputable def sp_prs (K:PySem.W.Frag):Sp:=fun vs H Q _=>Plain H∧∃ (c:Addr) (xs:List V),vs = [.ref c]∧H c = some (.lst xs)∧xs.length ≤ 59∧(∀ x ∈ xs,∃ n,x = .int n)∧∀ (H':Hp) (l:Addr) (ws:List V) (ms:Sh),Same H H'→Plain H'→H' l = some (.lst ws)→DVs K H' (ms.map prD) ws→Good ms→ms.length ≤ xs.length→Q (.ref l) H'
theorem join2 {α β:Type} {ok G:α→β→Prop} {C:Prop} (h1:(∀ y z,ok y z→G y z)→C) (h2:∀ y z,ok y z→G y z):C:=h1 h2
noncomputable def sp_shi (P:Program) (w:World) (K:PySem.W.Frag) (C NS:Addr):Sp:=fun vs H Q E=>Plain H∧∃ (p dx l:Addr) (ws:List V) (ms:Sh),vs = [.ref p,.ref l]∧H p = some (.ins C dx [])∧SqL K H l ws∧DVs K H (ms.map prD) ws∧(∀ m ∈ ms,okV m.2)∧ms.length < 64 ∧
  ((ms.map (·.1)).Nodup→∀ H',(∀ b o,b ≠ p→H b = some o→H' b = some o)→ShAt P w K C H' p ms→Plain H'→Q .non H')∧(¬ (ms.map (·.1)).Nodup→∀ H',(∀ b o,b ≠ p→H b = some o→H' b = some o)→Plain H'→E (.ref NS) none H')
noncomputable def sp_shp (P:Program) (w:World) (K:PySem.W.Frag) (C:Addr):Sp:=fun vs H Q _=>Plain H∧∃ (p:Addr) (ms:Sh),vs = [.ref p]∧ShAt P w K C H p ms∧∀ (H':Hp) (l:Addr) (bs:Sh) (ws:List V),H l = none→Same H H'→Plain H'→H' l = some (.lst ws)→bs.Perm ms→bs.Pairwise (fun a b=>mLt a.1 b.1 = true)→DVs K H' (bs.map prD) ws→Q (.ref l) H'
noncomputable def sp_shv (P:Program) (w:World) (K:PySem.W.Frag) (C:Addr):Sp:=fun vs H Q _=>Plain H∧∃ (p q:Addr) (m:Mark) (ms:Sh),vs = [.ref p,.ref q]∧ShAt P w K C H p ms∧SqT K H q (mkV m)∧∀ x,DV K H (vdat (look ms m)) x→Q x H
noncomputable def okSh (a:Sh):Prop:=(∀ m ∈ a,okV m.2)∧(mks a).Nodup
noncomputable def srtd (a:Sh):Prop:=a.Pairwise fun x y=>mLt x.1 y.1 = true
noncomputable def Both (P:Program) (w:World) (K:PySem.W.Frag) (C:Addr) (H:Hp) (vs:List V) (a b:Sh):Prop:=∃ (p1 p2:Addr) (U:List Mark),vs = [.ref p1,.ref p2]∧ShAt P w K C H p1 a∧ShAt P w K C H p2 b∧(∀ m,m ∈ mks a ∨ m ∈ mks b→m ∈ U)∧U.length < 64
noncomputable def sp_mof (P:Program) (w:World) (K:PySem.W.Frag) (A:Adr):Sp:=fun vs H Q _=>Plain H∧∃ (a b:Sh),Both P w K A.Sheet H vs a b∧∀ (l:Addr) (ks:List Mark) (ws:List V) (H':Hp),H l = none→Same H H'→Plain H'→H' l = some (.lst ws)→IsMk a b ks→ks.length < 64→DVs K H' (ks.map markD) ws→Q (.ref l) H'
theorem ens_upd {P:Program} {w:World} {K:PySem.W.Frag} {H:Hp} {d:Addr} {es0 es:List Ent} {o:Obj} {ns:Sh} {x:HO} (hd:H d = some (dO P w d es0 o)) (he:EnS K H es ns):EnS K (upd H d x) es ns:=he.imp (fun _ _ q=>sqT_other hd (noT_ext _) q) fun v _ q=>dv_other hd (noT_ext _) _ _ (noL_ver v) q
theorem ens_same {K:PySem.W.Frag} {H H':Hp} {es:List Ent} {ns:Sh} (s:Same H H') (he:EnS K H es ns):EnS K H' es ns:=he.imp (fun _ _ q=>s.seqT q) fun _ _ q=>DV.same s _ _ q
theorem ens_has {K:PySem.W.Frag} {H:Hp} {es:List Ent} {ns:Sh} (he:EnS K H es ns) (nd:(mks ns).Nodup) {m:Mark} {z:V} (h:findM es m = some z):∃ v,(m,v) ∈ ns∧DV K H (ver v) z:=by
  have hm:m ∈ mks ns:=by
    unfold mks
    rw [← ens_marks he]
    exact Classical.byContradiction fun hn=>by rw [find_none hn] at h; cases h
  obtain ⟨v,hv⟩:=mem_mks hm
  obtain ⟨x,h1,h2⟩:=ens_find he nd hv
  rw [h] at h1
  cases h1
  exact ⟨v,hv,h2⟩
theorem markD_inj {a b:Mark} (e:markD a = markD b):a = b:=by
  have e:=PyData.tuple.inj e
  injection e with e1 e2
  injection e2 with e2 _
  exact Prod.ext (PyData.int.inj e1) (PyData.int.inj e2)
theorem mof_iff {a b as bs:Sh} (p1:as.Perm a) (p2:bs.Perm b) (d:Mark × Ver) (m:Mark):(∃ i,i < (as ++ bs).length∧markD ((as ++ bs).getD i d).1 = markD m) ↔ m ∈ mks a ∨ m ∈ mks b:=by
  have h1:m ∈ mks as ↔ m ∈ mks a:=(p1.map (·.1)).mem_iff
  have h2:m ∈ mks bs ↔ m ∈ mks b:=(p2.map (·.1)).mem_iff
  rw [← h1, ← h2]
  have h3:m ∈ mks (as ++ bs) ↔ m ∈ mks as ∨ m ∈ mks bs:=by unfold mks; rw [List.map_append,List.mem_append]
  rw [← h3]
  constructor
  · rintro ⟨i,hi,e⟩
    rw [List.getD_eq_getElem?_getD,List.getElem?_eq_getElem hi] at e
    rw [← markD_inj e]
    exact List.mem_map_of_mem (f:=(·.1)) (List.getElem_mem hi)
  · intro h
    obtain ⟨x,hx,rfl⟩:=List.mem_map.mp h
    obtain ⟨i,hi,e⟩:=List.getElem_of_mem hx
    refine ⟨i,hi, ?_⟩
    rw [List.getD_eq_getElem?_getD,List.getElem?_eq_getElem hi, ← e]
    rfl
theorem prs_eqv {a:Sh} (h:∀ m ∈ a,okV m.2):PyData.eqv (.list (a.map prD)) (.list (a.map prD)) = true:=SeqAt.eqvAll_refl _ (prL_lay a h).1
theorem prs_srt {ms:Sh} (nd:(mks ms).Nodup) (ok:∀ m ∈ ms,okV m.2) (few:ms.length < 64):Srt (ms.map (·.1)) (fun m=>[L2.markD m,vdat (look ms m)]) mLt .tup:=by
  have:=pair_srt (es:=ms.map fun m=>(m.1,0,V.non)) (val:=fun m=>vdat (look ms m)) (fun e he=>by
    obtain ⟨m,hm,rfl⟩:=List.mem_map.mp he
    show SeqAt.shaped (.tuple [L2.markD m.1,vdat (look ms m.1)]) = true
    rw [look_in nd hm]
    exact prD_shaped (ok m hm)) (by rw [List.map_map]; exact nd) (by rw [List.length_map]; exact few)
  rw [List.map_map] at this
  exact this
theorem prs_dvs {K:PySem.W.Frag} {H:Hp} {ms:Sh} {ws:List V} (nd:(mks ms).Nodup) (hw:DVs K H (ms.map prD) ws):DVs K H ((ms.map (·.1)).map fun a=>.tuple [L2.markD a,vdat (look ms a)]) ws:=by
  have:=toSh_map nd (List.Perm.refl (ms.map (·.1)))
  rw [toSh_self nd] at this
  show DVs K H ((ms.map (·.1)).map (pairD fun m=>vdat (look ms m))) ws
  rw [this]
  exact hw
noncomputable def inBox (ks:List Mark):Prop:=∀ k ∈ ks,k ∈ boxM 4 21
noncomputable def okW (a:Sh):Prop:=∀ m ∈ a,m.2.2.2.length ≤ 6
theorem okW_put {ns:Sh} {m:Mark} {v:Ver} (h:okW ns) (hv:v.2.2.length ≤ 6):okW (putS ns m v):=fun x hx=>by
  unfold putS at hx
  split at hx
  · obtain ⟨y,hy,e⟩:=List.mem_map.mp hx
    split at e
    · rw [← e]; exact hv
    · rw [← e]; exact h y hy
  · rcases List.mem_append.mp hx with hx | hx
    · exact h x hx
    · rw [List.mem_singleton.mp hx]; exact hv
noncomputable def sp_bnt (K:PySem.W.Frag):Sp:=fun vs H Q _=>Plain H∧∃ (p c:Addr) (by_:Int) (ws xs:List V) (ms:Sh),vs = [.ref p,.ref c,.int by_]∧SqL K H p ws∧DVs K H (ms.map prD) ws∧okSh ms∧okW ms∧inBox (mks ms)∧H c = some (.lst xs)∧(∀ x ∈ xs,∃ n,x = .int n)∧ms.length + xs.length < 64∧∀ (l:Addr) (ws':List V) (ns:Sh) (Ex:List Mark) (H':Hp),H l = none→Same H H'→Plain H'→H' l = some (.lst ws')→DVs K H' (ns.map prD) ws'→okSh ns→okW ns→srtd ns→inBox (mks ns)→ns.length ≤ ms.length + xs.length→Ex.length ≤ xs.length→(∀ m,m ∉ Ex→(m ∈ mks ns ↔ m ∈ mks ms))→Q (.ref l) H'
theorem putS_iff {ns:Sh} {m:Mark} {v:Ver} {k:Mark}:k ∈ mks (putS ns m v) ↔ k = m ∨ k ∈ mks ns:=by
  rw [putS_marks]
  by_cases h:m ∈ mks ns
  · rw [if_pos h]
    exact ⟨.inr,fun z=>z.elim (fun e=>by rw [e]; exact h) id⟩
  · rw [if_neg h,List.mem_append,List.mem_singleton,Or.comm]
theorem mks_snoc (a:Sh) (x:Mark × Ver) (k:Mark):k ∈ mks (a ++ [x]) ↔ k ∈ mks a ∨ k = x.1:=by
  unfold mks
  rw [List.map_append,List.mem_append,List.map_singleton,List.mem_singleton]
noncomputable def sp_tbl (P:Program) (w:World) (K:PySem.W.Frag):Sp:=fun vs H Q _=>Plain H∧∃ (p:Addr) (ws:List V) (ms:Sh),vs = [.ref p]∧SqL K H p ws∧DVs K H (ms.map prD) ws∧okSh ms∧ms.length < 64 ∧
  ∀ (d:Addr) (es:List Ent) (o:Obj) (ns:Sh) (H':Hp),H d = none→Same H H'→Plain H'→H' d = some (dO P w d es o)→EnS K H' es ns→okSh ns→ns.length ≤ ms.length→(∀ k,look ns k = look ms k)→Q (.ref d) H'
noncomputable def sp_al (K:PySem.W.Frag):Sp:=genSp (fun (a:Ver × Ver) vs H=>∃ x y,vs = [x,y]∧DV K H (ver a.1) x∧DV K H (ver a.2) y∧okV a.1∧okV a.2) (fun a r _=>r = .bl (decide (a.1.2 = a.2.2))) (fun _ _=>False)
noncomputable def sp_later (K:PySem.W.Frag):Sp:=genSp (fun (a:Option Ver × Option Ver) vs H=>∃ x y,vs = [x,y]∧DV K H (vdat a.1) x∧DV K H (vdat a.2) y∧okO a.1∧okO a.2) (fun a r H=>DV K H (vdat (mx a.1 a.2)) r) (fun _ _=>False)
noncomputable def pwd (p:List Stp × Str):PyData := .tuple [plc p.1,.str p.2]
theorem pwd_shaped {p:List Stp × Str} (h:PySem.PyData.strOk p.2 = true):SeqAt.shaped (pwd p) = true:=by
  unfold SeqAt.shaped
  have h1:PyData.canLay0 (pwd p) = true:=by
    show (PyData.canLay0 (plc p.1) && (PySem.PyData.strOk p.2 && true)) = true
    rw [plc_lay,h]
    rfl
  rw [h1,Bool.true_and]
  have h2:PyData.depth (pwd p) = max (PyData.depthAll (p.1.map stp) + 1) (max 0 0) + 1:=rfl
  have:=depth_stps p.1
  exact decide_eq_true (by omega)
theorem pwd_eqv (a b:List Stp × Str):PyData.eqv (pwd a) (pwd b) = decide (a = b):=by
  obtain ⟨a2,a3⟩:=a
  obtain ⟨b2,b3⟩:=b
  have e:PyData.eqv (pwd (a2,a3)) (pwd (b2,b3)) = (PyData.eqv (plc a2) (plc b2) && (a3 == b3 && true)):=rfl
  rw [e,plc_eqv,Bool.eq_iff_iff]
  simp
theorem none_or (o:Option Ver):o = none ∨ ∃ v,o = some v:=by cases o with | none=>exact .inl rfl | some v=>exact .inr ⟨v,rfl⟩
theorem vd_non {K:PySem.W.Frag} {H:Hp} {o:Option Ver} {x:V} (h:DV K H (vdat o) x):(x = .non ↔ o = none):=by
  cases o with
  | none=>exact ⟨fun _=>rfl,fun _=>h⟩
  | some v =>
    obtain ⟨t,pv,rfl,_⟩:=ver_of h
    exact ⟨fun e=>absurd e (by intro z; cases z),fun e=>absurd e (by intro z; cases z)⟩
theorem vd_ver {K:PySem.W.Frag} {H:Hp} {o:Option Ver} {v:Ver} {x:V} (h:DV K H (vdat o) x) (e:o = some v):DV K H (ver v) x:=by subst e; exact h
noncomputable def gr (a b:Ver):Ver:=if verLt a b = true then b else a
noncomputable def ls (a b:Ver):Ver:=if verLt a b = true then a else b
noncomputable abbrev Cl3:=Mark × Ver × Ver
noncomputable def cl3D (c:Cl3):PyData := .tuple [L2.markD c.1,ver c.2.1,ver c.2.2]
noncomputable def mrgV (a b:Option Ver):Ver:=(mx a b).getD (0,[], "")
noncomputable def mrg (L M:Sh) (ks:List Mark):Sh:=ks.map fun m=>(m,mrgV (look L m) (look M m))
noncomputable def dueB (b t h:Option Ver):Bool:=match t,h with
  | some t',some h' => !decide (some t' = b) && (!decide (some h' = b) && !decide (t'.2 = h'.2))
  | _,_=>false
noncomputable def cl1 (b t h:Option Ver) (m:Mark):List Cl3:=if dueB b t h = true then [(m,gr (t.getD (0,[], "")) (h.getD (0,[], "")),ls (t.getD (0,[], "")) (h.getD (0,[], "")))] else []
noncomputable def clsh (B L M:Sh) (ks:List Mark):List Cl3:=ks.flatMap fun m=>cl1 (look B m) (look L m) (look M m) m
noncomputable def sp_cdu (K:PySem.W.Frag):Sp:=fun vs H Q _=>Plain H∧∃ (x y z:V) (b t h:Option Ver),vs = [x,y,z]∧DV K H (vdat b) x∧DV K H (vdat t) y∧DV K H (vdat h) z∧okO b∧okO t∧okO h∧∀ H',Same H H'→Plain H'→Q (.bl (dueB b t h)) H'
noncomputable def sp_mrg (P:Program) (w:World) (K:PySem.W.Frag) (A:Adr):Sp:=fun vs H Q _=>Plain H∧∃ (pb pl pm:Addr) (B L M:Sh) (U:List Mark),vs = [.ref pb,.ref pl,.ref pm]∧ShAt P w K A.Sheet H pb B∧ShAt P w K A.Sheet H pl L∧ShAt P w K A.Sheet H pm M∧(∀ m,m ∈ mks L ∨ m ∈ mks M→m ∈ U)∧U.length < 64∧∀ (t x l:Addr) (ks:List Mark) (ws:List V) (H':Hp),H l = none→Same H H'→Plain H'→SqT K H' t [.ref x,.ref l]→ShAt P w K A.Sheet H' x (mrg L M ks)→H' l = some (.lst ws)→DVs K H' ((clsh B L M ks).map cl3D) ws→IsMk L M ks→ks.length < 64→Q (.ref t) H'
theorem dueB_of {b t h:Option Ver} (e:dueB b t h = true):∃ t' h',t = some t'∧h = some h'∧t'.2 ≠ h'.2:=by
  cases t with
  | none=>cases e
  | some t' =>
    cases h with
    | none=>cases e
    | some h' =>
      refine ⟨t',h',rfl,rfl,fun z => ?_⟩
      have e:(!decide (some t' = b) && (!decide (some h' = b) && !decide (t'.2 = h'.2))) = true:=e
      rw [decide_eq_true z] at e
      simp at e
theorem mlt_nodup {ks:List Mark} (h:ks.Pairwise fun x y=>mLt x y = true):ks.Nodup:=h.imp fun {a b} e z=>by
  rw [z,mLt_sto.irr] at e
  cases e
theorem noL_vdat (o:Option Ver):noL (vdat o) = true:=by
  cases o with
  | none=>rfl
  | some v=>exact noL_ver v
theorem noL_cl3 (c:Cl3):noL (cl3D c) = true:=by
  show (noL (L2.markD c.1) && (noL (ver c.2.1) && (noL (ver c.2.2) && true))) = true
  rw [noL_ver,noL_ver]
  rfl
theorem noLs_cl3:∀ cs:List Cl3,noLs (cs.map cl3D) = true
  | []=>rfl
  | c :: cs=>by
    show (noL (cl3D c) && noLs (cs.map cl3D)) = true
    rw [noL_cl3,noLs_cl3 cs]
    rfl
theorem noLs_ver:∀ vs:List Ver,noLs (vs.map ver) = true
  | []=>rfl
  | c :: cs=>by
    show (noL (ver c) && noLs (cs.map ver)) = true
    rw [noL_ver,noLs_ver cs]
    rfl
theorem noLs_mk:∀ ks:List Mark,noLs (ks.map L2.markD) = true
  | []=>rfl
  | c :: cs=>by
    show (noL (L2.markD c) && noLs (cs.map L2.markD)) = true
    rw [noLs_mk cs]
    rfl
theorem mrg_succ {L M:Sh} {ks:List Mark} {i:Nat} (h:i < ks.length):mrg L M (ks.take (i + 1)) = mrg L M (ks.take i) ++ [(ks[i],mrgV (look L ks[i]) (look M ks[i]))]:=by
  unfold mrg
  rw [List.take_succ_eq_append_getElem h,List.map_append]
  rfl
theorem clsh_succ {B L M:Sh} {ks:List Mark} {i:Nat} (h:i < ks.length):clsh B L M (ks.take (i + 1)) = clsh B L M (ks.take i) ++ cl1 (look B ks[i]) (look L ks[i]) (look M ks[i]) ks[i]:=by
  unfold clsh
  rw [List.take_succ_eq_append_getElem h,List.flatMap_append,List.flatMap_singleton]
structure MB (P:Program) (w:World) (K:PySem.W.Frag) (C:Addr) (pb pl pm l0:Addr) (B L M:Sh) (ks:List Mark) (w0:List V) (H:Hp):Prop where
  b:ShAt P w K C H pb B
  l:ShAt P w K C H pl L
  m:ShAt P w K C H pm M
  h:H l0 = some (.lst w0)
  d:DVs K H (ks.map L2.markD) w0
theorem MB.same {P:Program} {w:World} {K:PySem.W.Frag} {C pb pl pm l0:Addr} {B L M:Sh} {ks:List Mark} {w0:List V} {H H':Hp} (x:MB P w K C pb pl pm l0 B L M ks w0 H) (s:Same H H'):MB P w K C pb pl pm l0 B L M ks w0 H':=⟨x.b.same s,x.l.same s,x.m.same s,s _ _ x.h,DVs.same s _ _ x.d⟩
theorem MB.upd {P:Program} {w:World} {K:PySem.W.Frag} {C pb pl pm l0 D:Addr} {B L M:Sh} {ks:List Mark} {w0 xs ys:List V} {H:Hp} (x:MB P w K C pb pl pm l0 B L M ks w0 H) (hd:H D = some (.lst xs)) (n:l0 ≠ D):MB P w K C pb pl pm l0 B L M ks w0 (L2.upd H D (.lst ys)):=by
  have k:∀ c o,c ≠ D→H c = some o→(L2.upd H D (.lst ys)) c = some o:=fun c o n e=>by rw [upd_ne n]; exact e
  exact ⟨x.b.mono (D:=D) k ⟨_,hd⟩,x.l.mono (D:=D) k ⟨_,hd⟩,x.m.mono (D:=D) k ⟨_,hd⟩,k _ _ n x.h,dvs_other hd (noT_lst _) _ _ (noLs_mk _) x.d⟩
theorem mx_gr (a b:Ver):mx (some a) (some b) = some (gr a b):=by
  show (if verLt a b = true then some b else some a) = some (if verLt a b = true then b else a)
  split <;> rfl
theorem mx_ok {a b:Option Ver} (ha:okO a) (hb:okO b):okO (mx a b):=fun v e=>by
  cases a with
  | none=>exact hb v e
  | some x =>
    cases b with
    | none=>exact ha v e
    | some y =>
      rw [mx_gr] at e
      have e:=Option.some.inj e
      unfold gr at e
      split at e
      · exact hb v (by rw [e])
      · exact ha v (by rw [e])
theorem mx_some {a b:Option Ver} (h:a ≠ none ∨ b ≠ none):mx a b = some (mrgV a b):=by
  unfold mrgV
  cases a with
  | none =>
    cases b with
    | none=>exact absurd rfl (h.elim id id)
    | some y=>rfl
  | some x =>
    cases b with
    | none=>rfl
    | some y=>rw [mx_gr]; rfl
theorem mem_look' {a:Sh} {m:Mark} (h:m ∈ mks a):look a m ≠ none:=fun z=>look_no z h
theorem isk_look {L M:Sh} {ks:List Mark} (h:IsMk L M ks) {m:Mark} (hm:m ∈ ks):look L m ≠ none ∨ look M m ≠ none:=((h.2 m).mp hm).imp mem_look' mem_look'
noncomputable def sp_alk (K:PySem.W.Frag):Sp:=fun vs H Q _=>Plain H∧∃ (p o c:Addr) (ws zs xs:List V) (ms ns:Sh),vs = [.ref p,.ref o,.ref c]∧SqL K H p ws∧DVs K H (ms.map prD) ws∧okSh ms∧inBox (mks ms)∧ms.length < 50∧SqL K H o zs∧DVs K H (ns.map prD) zs∧okSh ns∧okW ns∧inBox (mks ns)∧ns.length < 64∧H c = some (.lst xs)∧(∀ x ∈ xs,∃ n,x = .int n)∧xs.length ≤ 6∧∀ (l:Addr) (ws':List V) (rs:Sh) (H':Hp),H l = none→Same H H'→Plain H'→H' l = some (.lst ws')→DVs K H' (rs.map prD) ws'→okSh rs→srtd rs→inBox (mks rs)→rs.length ≤ ms.length + xs.length→(∀ m ∈ mks rs,m ∈ mks ms ∨ m ∈ mks ns)→Q (.ref l) H'
noncomputable def sp_dum (P:Program) (w:World) (K:PySem.W.Frag):Sp:=fun vs H Q _=>Plain H∧∃ (p1 p2 p3:Addr) (w1 w2 w3:List V) (B L M:Sh) (U:List Mark),vs = [.ref p1,.ref p2,.ref p3]∧H p1 = some (.lst w1)∧DVs K H (B.map prD) w1∧okSh B∧B.length < 64∧H p2 = some (.lst w2)∧DVs K H (L.map prD) w2∧okSh L∧L.length < 64∧H p3 = some (.lst w3)∧DVs K H (M.map prD) w3∧okSh M∧M.length < 64∧(∀ m,m ∈ mks L ∨ m ∈ mks M→m ∈ U)∧U.length < 64∧∀ (t l1 l2:Addr) (ks:List Mark) (ws zs:List V) (H':Hp),H l1 = none→H l2 = none→Same H H'→Plain H'→SqT K H' t [.ref l1,.ref l2]→H' l1 = some (.lst ws)→DVs K H' ((mrg L M ks).map prD) ws→H' l2 = some (.lst zs)→DVs K H' ((clsh B L M ks).map cl3D) zs→IsMk L M ks→ks.length < 64→Q (.ref t) H'
noncomputable def Tb (P:Program) (w:World) (K:PySem.W.Frag) (H:Hp) (d:Addr) (X:Sh):Prop:=∃ (es:List Ent) (o:Obj) (ns:Sh),H d = some (dO P w d es o)∧EnS K H es ns∧∀ k,look ns k = look X k
theorem Tb.same {P:Program} {w:World} {K:PySem.W.Frag} {H H':Hp} {d:Addr} {X:Sh} (h:Tb P w K H d X) (s:Same H H'):Tb P w K H' d X:=by
  obtain ⟨es,o,ns,h1,h2,h3⟩:=h
  exact ⟨es,o,ns,s _ _ h1,ens_same s h2,h3⟩
theorem Tb.upd {P:Program} {w:World} {K:PySem.W.Frag} {H:Hp} {D d:Addr} {X:Sh} {xs ys:List V} (h:Tb P w K H d X) (hd:H D = some (.lst xs)):Tb P w K (L2.upd H D (.lst ys)) d X:=by
  obtain ⟨es,o,ns,h1,h2,h3⟩:=h
  exact ⟨es,o,ns,by rw [upd_ne (ne_of h1 hd (by intro z; cases z))]; exact h1,h2.imp (fun _ _ q=>sqT_other hd (noT_lst _) q) fun v _ q=>dv_other hd (noT_lst _) _ _ (noL_ver v) q,h3⟩
theorem Tb.get {P:Program} {w:World} {K:PySem.W.Frag} {H:Hp} {d:Addr} {X:Sh} (h:Tb P w K H d X) (m:Mark):∃ es,DM P w K H d es∧DV K H (vdat (look X m)) ((findM es m).getD .non):=by
  obtain ⟨es,o,ns,h1,h2,h3⟩:=h
  exact ⟨es,⟨⟨o,h1⟩,fun e h=>(ens_val h2 e h).1⟩,by rw [← h3]; exact look_find h2 m⟩
structure DB (P:Program) (w:World) (K:PySem.W.Frag) (tl d1 d2 d3 l0:Addr) (B L M:Sh) (ks:List Mark) (w0:List V) (H:Hp):Prop where
  t:H tl = some (.lst [.ref d1,.ref d2,.ref d3])
  b:Tb P w K H d1 B
  l:Tb P w K H d2 L
  m:Tb P w K H d3 M
  h:H l0 = some (.lst w0)
  d:DVs K H (ks.map L2.markD) w0
theorem DB.same {P:Program} {w:World} {K:PySem.W.Frag} {tl d1 d2 d3 l0:Addr} {B L M:Sh} {ks:List Mark} {w0:List V} {H H':Hp} (x:DB P w K tl d1 d2 d3 l0 B L M ks w0 H) (s:Same H H'):DB P w K tl d1 d2 d3 l0 B L M ks w0 H':=⟨s _ _ x.t,x.b.same s,x.l.same s,x.m.same s,s _ _ x.h,DVs.same s _ _ x.d⟩
theorem DB.upd {P:Program} {w:World} {K:PySem.W.Frag} {tl d1 d2 d3 l0 D:Addr} {B L M:Sh} {ks:List Mark} {w0 xs ys:List V} {H:Hp} (x:DB P w K tl d1 d2 d3 l0 B L M ks w0 H) (hd:H D = some (.lst xs)) (n:l0 ≠ D) (n2:tl ≠ D):DB P w K tl d1 d2 d3 l0 B L M ks w0 (L2.upd H D (.lst ys)) :=
  ⟨by rw [upd_ne n2]; exact x.t,x.b.upd hd,x.l.upd hd,x.m.upd hd,by rw [upd_ne n]; exact x.h,dvs_other hd (noT_lst _) _ _ (noLs_mk _) x.d⟩
noncomputable def sm (t h:Option Ver):List Ver:=match t,h with
  | some a,some b=>[a,b]
  | some a,none=>[a]
  | none,some b=>[b]
  | none,none=>[]
theorem sm_len (t h:Option Ver):(sm t h).length ≤ 2:=by cases t <;> cases h <;> simp [sm]
theorem sm_ok {t h:Option Ver} (ht:okO t) (hh:okO h):∀ v ∈ sm t h,okV v:=fun v hv=>by
  cases t with
  | none =>
    cases h with
    | none=>cases hv
    | some b=>rw [List.mem_singleton.mp hv]; exact hh b rfl
  | some a =>
    cases h with
    | none=>rw [List.mem_singleton.mp hv]; exact ht a rfl
    | some b =>
      rcases List.mem_cons.mp hv with e | hv
      · rw [e]; exact ht a rfl
      · rw [List.mem_singleton.mp hv]; exact hh b rfl
theorem sm_filt (t h:Option Ver):((List.range 2).filter fun i=>(([t,h].getD i none).isSome)).map (fun i=>vdat ([t,h].getD i none)) = (sm t h).map ver:=by
  cases t <;> cases h <;> rfl
theorem gr_two (a b:Ver):(two verLt [a,b]) = if verLt b a = true then [b,a] else [a,b]:=rfl
theorem two_last {t h:Option Ver} (hn:t ≠ none ∨ h ≠ none):(two verLt (sm t h))[(two verLt (sm t h)).length - 1]? = some (mrgV t h):=by
  cases t with
  | none =>
    cases h with
    | none=>exact absurd rfl (hn.elim id id)
    | some b=>rfl
  | some a =>
    cases h with
    | none=>rfl
    | some b =>
      show (two verLt [a,b])[(two verLt [a,b]).length - 1]? = some ((mx (some a) (some b)).getD _)
      rw [mx_gr,gr_two]
      unfold gr
      by_cases e:verLt b a = true
      · rw [if_pos e,if_neg (by rw [verLt_sto.asym e]; decide)]; rfl
      · rw [if_neg e]
        by_cases e2:verLt a b = true
        · rw [if_pos e2]; rfl
        · rw [if_neg e2]
          have:a = b:=Classical.byContradiction fun n=>e2 (by
            have:=verLt_sto.tri b a (fun z=>n z.symm) (Bool.not_eq_true _ ▸ e)
            exact this)
          rw [this]; rfl
theorem two_both {a b:Ver} (ne:a.2 ≠ b.2):two verLt (sm (some a) (some b)) = [ls a b,gr a b]:=by
  show two verLt [a,b] = _
  rw [gr_two]
  unfold ls gr
  by_cases e:verLt b a = true
  · have e2:=verLt_sto.asym e
    rw [if_pos e,e2]; rfl
  · have e2:=verLt_sto.tri b a (fun z=>ne (by rw [z])) (Bool.not_eq_true _ ▸ e)
    rw [if_neg e,e2]; rfl
theorem two_pair (a b:Ver):∃ x y,two verLt (sm (some a) (some b)) = [x,y]∧(x.2 = y.2 ↔ a.2 = b.2)∧(∀ P:Ver→Prop,P a→P b→P x∧P y):=by
  show ∃ x y,two verLt [a,b] = [x,y]∧_
  rw [gr_two]
  by_cases e:verLt b a = true
  · rw [if_pos e]
    exact ⟨b,a,rfl,⟨fun z=>z.symm,fun z=>z.symm⟩,fun P h1 h2=>⟨h2,h1⟩⟩
  · rw [if_neg e]
    exact ⟨a,b,rfl,Iff.rfl,fun P h1 h2=>⟨h1,h2⟩⟩
theorem atI_last {xs:List V} {v:V} (h:xs[xs.length - 1]? = some v):atI xs (-1) = some v:=by
  have hl:=(List.getElem?_eq_some_iff.mp h).1
  have e:ixN xs.length (-1) = some (xs.length - 1):=by
    unfold ixN
    rw [if_neg (by decide),if_pos (by omega)]
    congr 1
    omega
  unfold atI
  rw [e]
  exact h
theorem cut_le (xs:List V) (a b:Nat):(cutV xs (some (a:Int)) (some (b:Int))).length ≤ b - a:=by
  unfold cutV
  rw [List.length_take,List.length_drop,show HT.sIx xs.length 0 (some (a:Int)) = min a xs.length from HT.sIx_nat ..,show HT.sIx xs.length xs.length (some (b:Int)) = min b xs.length from HT.sIx_nat ..]
  omega
theorem cut_le0 (xs:List V) (b:Nat):(cutV xs none (some (b:Int))).length ≤ b:=by
  unfold cutV
  rw [List.length_take,show HT.sIx xs.length xs.length (some (b:Int)) = min b xs.length from HT.sIx_nat ..]
  omega
theorem gr_comm (a b:Ver):gr a b = gr b a:=by
  unfold gr
  by_cases e:verLt a b = true
  · rw [if_pos e,if_neg (by rw [verLt_sto.asym e]; decide)]
  · rw [if_neg e]
    by_cases e2:verLt b a = true
    · rw [if_pos e2]
    · rw [if_neg e2]
      exact Classical.byContradiction fun n=>e2 (verLt_sto.tri a b n (Bool.not_eq_true _ ▸ e))
theorem ls_comm (a b:Ver):ls a b = ls b a:=by
  unfold ls
  by_cases e:verLt a b = true
  · rw [if_pos e,if_neg (by rw [verLt_sto.asym e]; decide)]
  · rw [if_neg e]
    by_cases e2:verLt b a = true
    · rw [if_pos e2]
    · rw [if_neg e2]
      exact (Classical.byContradiction fun n=>e2 (verLt_sto.tri a b n (Bool.not_eq_true _ ▸ e))).symm
theorem mrgV_comm (a b:Option Ver):mrgV a b = mrgV b a:=by
  unfold mrgV
  cases a with
  | none=>cases b <;> rfl
  | some x =>
    cases b with
    | none=>rfl
    | some y=>rw [mx_gr,mx_gr,gr_comm]
theorem mrg_comm (L M:Sh) (ks:List Mark):mrg L M ks = mrg M L ks:=by
  unfold mrg
  exact List.map_congr_left fun m _=>by rw [mrgV_comm]
theorem dueB_comm (b t h:Option Ver):dueB b t h = dueB b h t:=by
  cases t with
  | none=>cases h <;> rfl
  | some x =>
    cases h with
    | none=>rfl
    | some y =>
      show (!decide (some x = b) && (!decide (some y = b) && !decide (x.2 = y.2))) = (!decide (some y = b) && (!decide (some x = b) && !decide (y.2 = x.2)))
      rw [show decide (x.2 = y.2) = decide (y.2 = x.2) from decide_eq_decide.mpr ⟨fun z=>z.symm,fun z=>z.symm⟩]
      cases decide (some x = b) <;> cases decide (some y = b) <;> rfl
theorem clsh_comm (B L M:Sh) (ks:List Mark):clsh B L M ks = clsh B M L ks:=by
  unfold clsh
  congr 1
  funext m
  unfold cl1
  rw [dueB_comm,gr_comm,ls_comm]
theorem isk_uniq {L M:Sh} {ks js:List Mark} (h:IsMk L M ks) (g:IsMk L M js):ks = js :=
  uniq (r:=fun a b=>mLt a b = true) mLt_as (nodup_perm (mlt_nodup h.1) (mlt_nodup g.1) fun m=>(h.2 m).trans (g.2 m).symm) h.1 g.1
theorem mrg_srtd {L M:Sh} {ks:List Mark} (h:ks.Pairwise fun x y=>mLt x y = true):srtd (mrg L M ks):=by
  unfold srtd mrg
  exact List.pairwise_map.mpr h
theorem mrg_ok {L M:Sh} {ks:List Mark} (isk:IsMk L M ks) (oL:∀ m ∈ L,okV m.2) (oM:∀ m ∈ M,okV m.2):∀ e ∈ mrg L M ks,okV e.2:=fun e he=>by
  obtain ⟨m,hm,rfl⟩:=List.mem_map.mp he
  refine mx_ok (a:=look L m) (b:=look M m) (fun v e=>oL _ (look_some e)) (fun v e=>oM _ (look_some e)) _ ?_
  exact mx_some (isk_look isk hm)
theorem clsh_ok {B L M:Sh} {ks:List Mark} (oL:∀ m ∈ L,okV m.2) (oM:∀ m ∈ M,okV m.2):∀ c ∈ clsh B L M ks,okV c.2.1∧okV c.2.2:=fun c hc=>by
  obtain ⟨m,hm,h⟩:=List.mem_flatMap.mp hc
  unfold cl1 at h
  split at h
  · rename_i ed
    obtain ⟨a,b,ea,eb,_⟩:=dueB_of ed
    rw [List.mem_singleton.mp h,ea,eb]
    have h1:okV a:=oL _ (look_some ea)
    have h2:okV b:=oM _ (look_some eb)
    constructor
    · show okV (gr a b)
      unfold gr
      split
      · exact h2
      · exact h1
    · show okV (ls a b)
      unfold ls
      split
      · exact h1
      · exact h2
  · cases h
theorem cl3_lay:∀ (cs:List Cl3),(∀ c ∈ cs,okV c.2.1∧okV c.2.2)→PyData.canLayAll0 (cs.map cl3D) = true∧PyData.depthAll (cs.map cl3D) ≤ 30
  | [],_=>⟨rfl,Nat.zero_le _⟩
  | c :: cs,h=>by
    obtain ⟨h1,h2⟩:=cl3_lay cs fun y hy=>h y (List.mem_cons_of_mem _ hy)
    obtain ⟨o1,o2⟩:=h c List.mem_cons_self
    refine ⟨?_, ?_⟩
    · show ((PyData.canLay0 (L2.markD c.1) && (PyData.canLay0 (ver c.2.1) && (PyData.canLay0 (ver c.2.2) && true))) && PyData.canLayAll0 (cs.map cl3D)) = true
      rw [ver_lay o1,ver_lay o2,h1]
      rfl
    · have e:PyData.depth (cl3D c) = max (PyData.depth (L2.markD c.1)) (max (PyData.depth (ver c.2.1)) (max (PyData.depth (ver c.2.2)) 0)) + 1:=rfl
      have h3:PyData.depth (L2.markD c.1) ≤ 1:=Nat.le_refl _
      have h4:=ver_depth c.2.1
      have h5:=ver_depth c.2.2
      show max (PyData.depth (cl3D c)) (PyData.depthAll (cs.map cl3D)) ≤ 30
      rw [e]
      omega
theorem cl3_shaped {cs:List Cl3} (h:∀ c ∈ cs,okV c.2.1∧okV c.2.2):SeqAt.shaped (.list (cs.map cl3D)) = true:=by
  obtain ⟨h1,h2⟩:=cl3_lay cs h
  unfold SeqAt.shaped
  rw [show PyData.canLay0 (.list (cs.map cl3D)) = true from h1,Bool.true_and]
  refine decide_eq_true ?_
  show PyData.depthAll (cs.map cl3D) + 1 ≤ 64
  omega
theorem cl3_eqv {cs:List Cl3} (h:∀ c ∈ cs,okV c.2.1∧okV c.2.2):PyData.eqv (.list (cs.map cl3D)) (.list (cs.map cl3D)) = true:=SeqAt.eqvAll_refl _ (cl3_lay cs h).1
theorem self_ks {a:Sh} (srt:srtd a) (nd:(mks a).Nodup) {ks:List Mark} (h:IsMk a a ks):ks = mks a :=
  uniq (r:=fun a b=>mLt a b = true) mLt_as (nodup_perm (mlt_nodup h.1) nd fun m=>(h.2 m).trans (or_self_iff)) h.1 (List.pairwise_map.mpr srt)
theorem mrg_self {a:Sh} (srt:srtd a) (nd:(mks a).Nodup) {ks:List Mark} (h:IsMk a a ks):mrg a a ks = a:=by
  rw [self_ks srt nd h]
  unfold mrg mks
  rw [List.map_map]
  refine (List.map_congr_left fun x hx => ?_).trans (List.map_id a)
  show (x.1,mrgV (look a x.1) (look a x.1)) = x
  rw [look_in nd hx]
  show (x.1,(mx (some x.2) (some x.2)).getD _) = x
  rw [mx_gr]
  unfold gr
  split <;> rfl
theorem clsh_self (B a:Sh) (ks:List Mark):clsh B a a ks = []:=by
  unfold clsh
  refine List.flatMap_eq_nil_iff.mpr fun m _ => ?_
  unfold cl1
  cases e:look a m with
  | none=>rfl
  | some v =>
    rw [if_neg]
    show ¬ (!decide (some v = look B m) && (!decide (some v = look B m) && !decide (v.2 = v.2))) = true
    rw [decide_eq_true (rfl:v.2 = v.2)]
    simp
theorem rowsD_lay {a:Sh} (h:∀ m ∈ a,okV m.2):PyData.canLay0 (.list (a.map prD)) = true∧PyData.depth (.list (a.map prD)) ≤ 31:=by
  obtain ⟨h1,h2⟩:=prL_lay a h
  exact ⟨h1,by show PyData.depthAll (a.map prD) + 1 ≤ 31; omega⟩
theorem rows3 {a b c:Sh} (ha:∀ m ∈ a,okV m.2) (hb:∀ m ∈ b,okV m.2) (hc:∀ m ∈ c,okV m.2):SeqAt.shaped (.list [.list (a.map prD),.list (b.map prD),.list (c.map prD)]) = true∧PyData.eqv (.list [.list (a.map prD),.list (b.map prD),.list (c.map prD)]) (.list [.list (a.map prD),.list (b.map prD),.list (c.map prD)]) = true:=by
  obtain ⟨a1,a2⟩:=rowsD_lay ha
  obtain ⟨b1,b2⟩:=rowsD_lay hb
  obtain ⟨c1,c2⟩:=rowsD_lay hc
  have h:PyData.canLayAll0 [.list (a.map prD),.list (b.map prD),.list (c.map prD)] = true:=by
    show (PyData.canLay0 (.list (a.map prD)) && (PyData.canLay0 (.list (b.map prD)) && (PyData.canLay0 (.list (c.map prD)) && true))) = true
    rw [a1,b1,c1]
    rfl
  refine ⟨?_,SeqAt.eqvAll_refl _ h⟩
  unfold SeqAt.shaped
  rw [show PyData.canLay0 (.list [.list (a.map prD),.list (b.map prD),.list (c.map prD)]) = true from h,Bool.true_and]
  refine decide_eq_true ?_
  show max (PyData.depth (.list (a.map prD))) (max (PyData.depth (.list (b.map prD))) (max (PyData.depth (.list (c.map prD))) 0)) + 1 ≤ 64
  omega
section
variable {P:Program} {w:World} {K:PySem.W.Frag} {mg:Str→Option Value} {base:Heap} {A:Adr}
theorem sc_alike:FnScope ["one", "other"] ["one", "other"] (defScope s_alike):=⟨rfl,rfl,rfl,by decide +kernel,rfl,by decide +kernel,by decide +kernel⟩
noncomputable abbrev Ok_alike (P:Program) (w:World) (K:PySem.W.Frag) (mg:Str→Option Value) (base:Heap) (A:Adr):Prop:=FnOk P w K mg base (CX1 P w base) 1 A.f_alike A.d_alike ["one", "other"] (sp_al K)
set_option maxHeartbeats 4000000 in
theorem ok_alike (T:Txt K mg A)  : Ok_alike P w K mg base A:=by
  refine T.F_alike.okN sc_alike (fun vs H Q E h => ?_) (fun cdv Ar outer s H vs Q E hr h => ?_)
  · obtain ⟨_,a,⟨x,y,rfl,_⟩,_⟩:=h
    rfl
  · obtain ⟨hp,⟨a,b⟩,⟨x,y,hv,hx,hy,oa,ob⟩,q,_⟩:=h
    obtain rfl:vs = [x,y]:=hv
    obtain ⟨t,pa,rfl,hq,hd⟩:=ver_of hx
    obtain ⟨t2,pa2,rfl,hq2,hd2⟩:=ver_of hy
    dsimp only at *
    refine ⟨_,(pss_one (ps_ret (pe_cmpR (op_eqD hr.units) (pe_slice sl_tupG (pv 0) (po_some pe_int) po_none) (pe_slice sl_tupG (pv 1) (po_some pe_int) po_none) (nomark _)))), ?_⟩
    refine ⟨_,rfl,_,rfl,t,_,rfl,hq,fun p1 H1 g1 s1 pg1 => ?_⟩
    refine ⟨_,rfl,_,rfl,t2,_,rfl,s1.seqT hq2,fun p2 H2 g2 s2 pg2 => ?_⟩
    have e1:DV K H2 (pwd a.2) (.ref p1):=⟨p1,_,rfl,s2.seqT g1,_,_,rfl,DV.same (s1.trans s2) _ _ hd,_,_,rfl,rfl,rfl⟩
    have e2:DV K H2 (pwd b.2) (.ref p2):=⟨p2,_,rfl,g2,_,_,rfl,DV.same (s1.trans s2) _ _ hd2,_,_,rfl,rfl,rfl⟩
    refine ⟨pwd a.2,pwd b.2,e1,e2,pwd_shaped oa,pwd_shaped ob,q _ _ ?_ (s1.trans s2) (pg2 (pg1 hp))⟩
    rw [pwd_eqv]
theorem sc_later:FnScope ["one", "other"] ["one", "other"] (defScope s_later):=⟨rfl,rfl,rfl,by decide +kernel,rfl,by decide +kernel,by decide +kernel⟩
noncomputable abbrev Ok_later (P:Program) (w:World) (K:PySem.W.Frag) (mg:Str→Option Value) (base:Heap) (A:Adr):Prop:=FnOk P w K mg base (CX1 P w base) 1 A.f_later A.d_later ["one", "other"] (sp_later K)
set_option maxHeartbeats 4000000 in
theorem ok_later (T:Txt K mg A)  : Ok_later P w K mg base A:=by
  refine T.F_later.okN sc_later (fun vs H Q E h => ?_) (fun cdv Ar outer s H vs Q E hr h => ?_)
  · obtain ⟨_,a,⟨x,y,rfl,_⟩,_⟩:=h
    rfl
  · obtain ⟨hp,⟨a,b⟩,⟨x,y,hv,hx,hy,ha,hb⟩,q,_⟩:=h
    obtain rfl:vs = [x,y]:=hv
    dsimp only at *
    refine ⟨_,(pss_cons (ps_if (pt_cmpR op_isN (pv 0) pe_non (nomark _)) (pss_one (ps_ret (pv 1))) pss_nil)
      (pss_cons (ps_if (pt_cmpR op_isN (pv 1) pe_non (nomark _)) (pss_one (ps_ret (pv 0))) pss_nil)
      (pss_one (ps_ret (pe_callB (call_max2G rfl hr.u100) rfl T.n_max (by decide +kernel) (pa_cons (pv 0) (pa_cons (pv 1) pa_nil))))))), ?_⟩
    rcases none_or a with ea | ⟨va,ea⟩
    · refine ⟨_,rfl,rfl,_,rfl,iteDT ((vd_non hx).mpr ea) ⟨_,rfl,q _ _ ?_ (Same.refl _) hp⟩⟩
      rw [ea]; exact hy
    · refine ⟨_,rfl,rfl,_,rfl,iteDF (fun z=>by rw [(vd_non hx).mp z] at ea; cases ea) ?_⟩
      rcases none_or b with eb | ⟨vb,eb⟩
      · refine ⟨_,rfl,rfl,_,rfl,iteDT ((vd_non hy).mpr eb) ⟨_,rfl,q _ _ ?_ (Same.refl _) hp⟩⟩
        rw [eb,mx_none]; exact hx
      · refine ⟨_,rfl,rfl,_,rfl,iteDF (fun z=>by rw [(vd_non hy).mp z] at eb; cases eb) ?_⟩
        refine ⟨_,rfl,_,rfl,x,y,ver va,ver vb,_,rfl,vd_ver hx ea,vd_ver hy eb,ver_shaped (ha va ea),ver_shaped (hb vb eb),ltD_ver va vb,q _ _ ?_ (Same.refl _) hp⟩
        have em:mx a b = if verLt va vb = true then some vb else some va:=by rw [ea,eb]; rfl
        rw [em]
        cases verLt va vb with
        | true=>rw [if_pos rfl,if_pos rfl, ← eb]; exact hy
        | false=>rw [if_neg Bool.false_ne_true,if_neg Bool.false_ne_true, ← ea]; exact hx
theorem sc_Sheet____init__:FnScope ["self", "pairs"] ["self", "pairs"] (defScope s_Sheet____init__):=⟨rfl,rfl,rfl,by decide +kernel,rfl,by decide +kernel,by decide +kernel⟩
noncomputable abbrev Ok_Sheet____init__ (P:Program) (w:World) (K:PySem.W.Frag) (mg:Str→Option Value) (base:Heap) (A:Adr):Prop:=FnOk P w K mg base (CX1 P w base) 1 A.f_Sheet____init__ A.d_Sheet____init__ ["self", "pairs"] (sp_shi P w K A.Sheet A.NoSheet)
set_option maxHeartbeats 4000000 in
theorem ok_Sheet____init__ (T:Txt K mg A)  : Ok_Sheet____init__ P w K mg base A:=by
  refine T.F_Sheet____init__.okX sc_Sheet____init__ (fun vs H Q E h => ?_) (fun cdv Ar outer s H vs Q E hr h => ?_)
  · obtain ⟨_,p,dx,l,ws,ms,rfl,_⟩:=h
    rfl
  · obtain ⟨hP,p,dx,l,ws,ms,rfl,hp,hl,hd,hok,few,q,qe⟩:=h
    refine ⟨_,(pss_cons (ps_fld (pv 0) (pe_callTy (call_dictL rfl hr.u100) rfl T.n_dict (by decide +kernel) (pa_cons (pv 1) pa_nil)) rfl)
      (pss_one (ps_if (pt_cmpR op_ne (pe_callB call_lenM rfl T.n_len (by decide +kernel) (pa_cons (pe_fld (pv 0) rfl) pa_nil)) (pe_callB call_len_seq rfl T.n_len (by decide +kernel) (pa_cons (pv 1) pa_nil)) (nomark _)) (pss_one (ps_raise T.x_NoSheet wants_fn rfl rfl T.g_NoSheet (pa_cons pe_str pa_nil))) pss_nil))), ?_⟩
    obtain ⟨ps,h1,h2⟩:=pairs_of hd
    have hpl:ps.length = ws.length:=Paired.length h1
    have hpm:ps.length = ms.length:=Paired.length h2
    have emk:=ens_marks h2
    refine ⟨_,rfl,l,ws,ps,rfl,hl,h1,by omega,fun d o hd0 => ?_⟩
    have npd:p ≠ d:=ne_of_none hp hd0
    refine ⟨_,rfl,p,A.Sheet,dx,[],rfl,(by rw [upd_ne npd]; exact hp),T.cl_Sheet,T.na_Sheet_versions,(by show 0 < 1000; decide), ?_⟩
    have keep:∀ b o',b ≠ p→H b = some o'→(upd (upd H d (dO P w d (putAll [] ps) o)) p (.ins A.Sheet dx (putF "versions" (.ref d) []))) b = some o':=fun b o' hb e=>by
      rw [upd_ne hb,upd_ne (ne_of_none e hd0)]; exact e
    have P2:Plain (upd (upd H d (dO P w d (putAll [] ps) o)) p (.ins A.Sheet dx (putF "versions" (.ref d) []))):=Plain.ins (Plain.ext hP)
    have hp2:(upd (upd H d (dO P w d (putAll [] ps) o)) p (.ins A.Sheet dx (putF "versions" (.ref d) []))) p = some (.ins A.Sheet dx [("versions",.ref d)]):=upd_same
    have hd2:(upd (upd H d (dO P w d (putAll [] ps) o)) p (.ins A.Sheet dx (putF "versions" (.ref d) []))) d = some (dO P w d (putAll [] ps) o):=by rw [upd_ne npd.symm]; exact upd_same
    have hl2:SqL K (upd (upd H d (dO P w d (putAll [] ps) o)) p (.ins A.Sheet dx (putF "versions" (.ref d) []))) l ws:=by
      rcases hl with (z | ⟨o',z⟩) | z
      · exact .inl (.inl (keep _ _ (ne_of z hp (by intro z; cases z)) z))
      · exact .inl (.inr ⟨o',keep _ _ (ne_of z hp (by intro z; cases z)) z⟩)
      · exact .inr z
    have he2:EnS K (upd (upd H d (dO P w d (putAll [] ps) o)) p (.ins A.Sheet dx (putF "versions" (.ref d) []))) ps ms:=by
      have sd:Same H (upd H d (dO P w d (putAll [] ps) o)):=same_upd hd0
      have hpd:(upd H d (dO P w d (putAll [] ps) o)) p = some (.ins A.Sheet dx []):=sd _ _ hp
      refine (h2.imp (H':=upd H d (dO P w d (putAll [] ps) o)) (fun _ _ q=>sd.seqT q) fun _ _ q=>DV.same sd _ _ q).imp (fun a m q=>sqT_ins hpd q) fun v x q=>dv_ins hpd _ _ (noL_ver v) q
    refine ⟨_,rfl,p,A.Sheet,dx,_,_,rfl,hp2,T.cl_Sheet,T.na_Sheet_versions,rfl,d,_,o,rfl,hd2,_,rfl,l,ws,rfl,.inl hl2,rfl,_,rfl, ?_⟩
    by_cases nd:(ms.map (·.1)).Nodup
    · have e:putAll [] ps = ps:=putAll_new ps [] (by rw [List.nil_append,emk]; exact nd)
      refine iteNS (by rw [e,hpl]) ?_
      exact q nd _ keep ⟨⟨dx,d,ps,o,hp2,hd2.trans (by rw [e]),he2⟩,nd,hok,few⟩ P2
    · have e:=putAll_less ps [] List.nodup_nil (by rw [List.nil_append,emk]; exact nd)
      rw [List.length_nil] at e
      refine iteNT (fun z=>by have:=V.int.inj z; omega) ?_
      exact ⟨by show 1 ≤ sizeLine; decide,qe nd _ keep P2⟩
theorem sc_Sheet__pairs:FnScope ["self"] ["self"] (defScope s_Sheet__pairs):=⟨rfl,rfl,rfl,by decide +kernel,rfl,by decide +kernel,by decide +kernel⟩
noncomputable abbrev Ok_Sheet__pairs (P:Program) (w:World) (K:PySem.W.Frag) (mg:Str→Option Value) (base:Heap) (A:Adr):Prop:=FnOk P w K mg base (CX1 P w base) 1 A.f_Sheet__pairs A.d_Sheet__pairs ["self"] (sp_shp P w K A.Sheet)
set_option maxHeartbeats 4000000 in
theorem ok_Sheet__pairs (T:Txt K mg A)  : Ok_Sheet__pairs P w K mg base A:=by
  refine T.F_Sheet__pairs.okN sc_Sheet__pairs (fun vs H Q E h => ?_) (fun cdv Ar outer s H vs Q E hr h => ?_)
  · obtain ⟨_,p,ms,rfl,_⟩:=h
    rfl
  · obtain ⟨hP,p,ms,rfl,S,q⟩:=h
    refine ⟨_,(pss_one (ps_ret (pe_callB (call_sortedI rfl hr.u100) rfl T.n_sorted (by decide +kernel) (pa_cons (pe_items (pe_fld (pv 0) rfl)) pa_nil)))), ?_⟩
    obtain ⟨dx,d,es,o,hp,hd,he⟩:=S.ex
    refine ⟨_,rfl,p,A.Sheet,dx,_,_,rfl,hp,T.cl_Sheet,T.na_Sheet_versions,rfl,d,es,o,rfl,hd,fun v hv => ?_⟩
    have sv:Same H (upd H v (viewO v d)):=same_upd hv
    have emk:=ens_marks he
    have hpm:es.length = ms.length:=Paired.length he
    refine ⟨v,d,es,o,fun m=>vdat (look ms m),rfl,upd_same,sv _ _ hd,fun e h=>sv.seqT (ens_val he e h).1,fun e h => ?_,fun e h => ?_,by rw [emk]; exact S.nd,by have:=S.few; omega,fun H' l bs ws s' p' hl pm pw hw => ?_⟩
    · obtain ⟨_,x,h1,h2⟩:=ens_val he e h
      dsimp only
      rw [look_in S.nd h1]
      exact DV.same sv _ _ h2
    · obtain ⟨_,x,h1,h2⟩:=ens_val he e h
      show SeqAt.shaped (.tuple [markD e.1,vdat (look ms e.1)]) = true
      rw [look_in S.nd h1]
      exact prD_shaped (m:=(e.1,x)) (S.ok _ h1)
    · rw [emk] at pm
      rw [toSh_map S.nd pm] at hw
      exact q _ l _ ws ((sv.trans s').free hl) ((sv.trans s').trans (same_upd hl)) (p' (Plain.ext hP)).lst upd_same (toSh_perm S.nd pm) (toSh_pw pw) (DVs.same (same_upd hl) _ _ hw)
theorem sc_Sheet__version:FnScope ["self", "mark"] ["self", "mark"] (defScope s_Sheet__version):=⟨rfl,rfl,rfl,by decide +kernel,rfl,by decide +kernel,by decide +kernel⟩
noncomputable abbrev Ok_Sheet__version (P:Program) (w:World) (K:PySem.W.Frag) (mg:Str→Option Value) (base:Heap) (A:Adr):Prop:=FnOk P w K mg base (CX1 P w base) 1 A.f_Sheet__version A.d_Sheet__version ["self", "mark"] (sp_shv P w K A.Sheet)
set_option maxHeartbeats 4000000 in
theorem ok_Sheet__version (T:Txt K mg A)  : Ok_Sheet__version P w K mg base A:=by
  refine T.F_Sheet__version.okN sc_Sheet__version (fun vs H Q E h => ?_) (fun cdv Ar outer s H vs Q E hr h => ?_)
  · obtain ⟨_,p,q0,m,ms,rfl,_⟩:=h
    rfl
  · obtain ⟨hP,p,q0,m,ms,rfl,S,hm,q⟩:=h
    refine ⟨_,(pss_one (ps_ret (pe_mget (hu_of hr) (pe_fld (pv 0) rfl) (pv 1)))), ?_⟩
    obtain ⟨dx,d,es,o,hp,hd,he⟩:=S.ex
    have D:DM P w K H d es:=⟨⟨o,hd⟩,fun e h=>(ens_val he e h).1⟩
    exact ⟨_,rfl,p,A.Sheet,dx,_,_,rfl,hp,T.cl_Sheet,T.na_Sheet_versions,rfl,d,es,rfl,D,_,rfl,q0,m,rfl,D,hm,q _ (look_find he m)⟩
theorem sc_marks_of:FnScope ["one", "other"] ["one", "other"] (defScope s_marks_of):=⟨rfl,rfl,rfl,by decide +kernel,rfl,by decide +kernel,by decide +kernel⟩
noncomputable abbrev Ok_marks_of (P:Program) (w:World) (K:PySem.W.Frag) (mg:Str→Option Value) (base:Heap) (A:Adr):Prop:=FnOk P w K mg base (CX1 P w base) 2 A.f_marks_of A.d_marks_of ["one", "other"] (sp_mof P w K A)
set_option maxHeartbeats 4000000 in
theorem ok_marks_of (T:Txt K mg A) (G_Sheet__pairs:Ok_Sheet__pairs P w K mg base A):Ok_marks_of P w K mg base A:=by
  have B_Sheet__pairs:=T.b_Sheet__pairs
  refine T.F_marks_of.okN sc_marks_of (fun vs H Q E h => ?_) (fun cdv Ar outer s H vs Q E hr h => ?_)
  · obtain ⟨_,a,b,⟨p1,p2,U,rfl,_⟩,_⟩:=h
    rfl
  · obtain ⟨hP,a,b,⟨p1,p2,U,rfl,Sa,Sb,hU,few⟩,q⟩:=h
    refine ⟨_,(pss_one (ps_ret (pe_callB (call_sortedS rfl hr.u100) rfl T.n_sorted (by decide +kernel) (pa_cons (pe_setcomp ["mark", "version"] 2 [] rfl hr.u100 (pi_list (pe_op op_cat (pe_meth0 (pv 0) T.cl_Sheet T.m_Sheet__pairs G_Sheet__pairs (hr.mono (by decide)) B_Sheet__pairs .nil pass1) (pe_meth0 (pv 1) T.cl_Sheet T.m_Sheet__pairs G_Sheet__pairs (hr.mono (by decide)) B_Sheet__pairs .nil pass1))) gk2 (fun _ _ _ _ _=>pg_tup rfl (pgs_cons (pg_name (i:=0) (show List.Nodup (["mark", "version"]:List Str) by decide +kernel) rfl (Or.inl rfl)) (pgs_cons (pg_name (i:=1) (show List.Nodup (["mark", "version"]:List Str) by decide +kernel) rfl (Or.inl rfl)) pgs_nil))) (fun _ _ _ _ _=>pif_nil) (fun _ _ _ _ _=>(pv 0))) pa_nil)))), ?_⟩
    obtain ⟨dx1,_,_,_,hx1,_⟩:=id Sa.ex
    refine ⟨_,rfl,p1,dx1,_,rfl,hx1,rfl,hP,p1,a,rfl,Sa,fun H1 l1 as ws1 n1 s1 P1 hl1 pm1 pw1 hw1 => ?_⟩
    obtain ⟨dx2,_,_,_,hx2,_⟩:=id (Sb.same s1).ex
    refine ⟨_,rfl,p2,dx2,_,rfl,hx2,rfl,P1,p2,b,rfl,Sb.same s1,fun H2 l2 bs ws2 n2 s2 P2 hl2 pm2 pw2 hw2 => ?_⟩
    have fa:=Sa.few
    have fb:=Sb.few
    have hz1:ws1.length = as.length:=by rw [hw1.length,List.length_map]
    have hz2:ws2.length = bs.length:=by rw [hw2.length,List.length_map]
    have hy1:=pm1.length_eq
    have hy2:=pm2.length_eq
    refine ⟨l1,l2,ws1,ws2,rfl,rfl,s2 _ _ hl1,hl2,Nat.le_of_lt (small1000 (by omega)),fun pc hp3 => ?_⟩
    have s3:Same H2 (upd H2 pc (.lst (ws1 ++ ws2))):=same_upd hp3
    have P3:Plain (upd H2 pc (.lst (ws1 ++ ws2))):=P2.lst
    have h3:(upd H2 pc (.lst (ws1 ++ ws2))) pc = some (.lst (ws1 ++ ws2)):=upd_same
    generalize upd H2 pc (.lst (ws1 ++ ws2)) = H3 at s3 P3 h3 ⊢
    have S3:=(s1.trans s2).trans s3
    have hw12:DVs K H3 ((as ++ bs).map prD) (ws1 ++ ws2):=by
      rw [List.map_append]
      exact (DVs.same (s2.trans s3) _ _ hw1).append (DVs.same s3 _ _ hw2)
    have hzl:(ws1 ++ ws2).length = (as ++ bs).length:=by rw [List.length_append,List.length_append,hz1,hz2]
    refine ⟨pc,rfl,⟨_,SqL.of h3⟩,fun D hD=>comp_setW (fun i=>(ws1 ++ ws2).getD i .non) (fun i=>L2.markD ((as ++ bs).getD i ((0,0),(0,[], ""))).1) hD P3 (n:=(ws1 ++ ws2).length) (by rw [List.length_append]; omega) (fun i _=>ok4_mark _) (itl_ok (SqL.of h3)) ?_ ?_⟩
    · intro i H4 Tt hi P4 S4 ht
      have hic:i < (as ++ bs).length:=by omega
      obtain ⟨y,hy,hyd⟩:=hw12.get (i:=i) (d:=prD (as ++ bs)[i]) (by rw [List.getElem?_map,List.getElem?_eq_getElem hic]; rfl)
      have ec:(as ++ bs).getD i ((0,0),(0,[], "")) = (as ++ bs)[i]:=by rw [List.getD_eq_getElem?_getD,List.getElem?_eq_getElem hic]; rfl
      rw [ec] at ht
      obtain ⟨t,q0,vx,ey,hq,hm,_⟩:=prD_of hyd
      have eg:(ws1 ++ ws2).getD i .non = .ref t:=by rw [List.getD_eq_getElem?_getD,hy,ey]; rfl
      rw [eg]
      exact ⟨t,_,rfl,S4.seqT hq,rfl,_,_,rfl,_,_,rfl,rfl,_,rfl,ht q0 H4 (mkV_dv (S4.seqT hm)) (Same.refl _) P4⟩
    · intro qs H4 SW hin hle S4 P4
      have hmk:∀ q ∈ qs,∃ m,q.2 = L2.markD m:=fun q hq=>by
        obtain ⟨i,_,e⟩:=(hin q.2).mp ⟨q,hq,rfl⟩
        exact ⟨_,e.symm⟩
      have hiff:∀ m,(∃ q ∈ qs,q.2 = L2.markD m) ↔ m ∈ mks a ∨ m ∈ mks b:=fun m=>by
        rw [hin (L2.markD m),hzl]
        exact mof_iff pm1 pm2 _ m
      have hql:qs.length < 64:=by
        have:(qs.map (·.2)).length ≤ (U.map L2.markD).length:=by
          classical
          refine nodup_le SW.nd fun d hd => ?_
          obtain ⟨q,hq,rfl⟩:=List.mem_map.mp hd
          obtain ⟨m,e⟩:=hmk q hq
          rw [e]
          exact List.mem_map_of_mem (hU m ((hiff m).mp ⟨q,hq,e⟩))
        rw [List.length_map,List.length_map] at this
        omega
      refine ⟨D,qs,rfl,SW,hmk,hql,fun l ks ws hl pw hk hkl hds => ?_⟩
      exact q l ks ws _ ((S3.trans S4).free hl) ((S3.trans S4).trans (same_upd hl)) P4.lst upd_same ⟨pw,fun m=>(hk m).trans (hiff m)⟩ (by omega) (DVs.same (same_upd hl) _ _ hds)
theorem sc_clash_due:FnScope ["before", "there", "here"] ["before", "there", "here"] (defScope s_clash_due):=⟨rfl,rfl,rfl,by decide +kernel,rfl,by decide +kernel,by decide +kernel⟩
noncomputable abbrev Ok_clash_due (P:Program) (w:World) (K:PySem.W.Frag) (mg:Str→Option Value) (base:Heap) (A:Adr):Prop:=FnOk P w K mg base (CX1 P w base) 2 A.f_clash_due A.d_clash_due ["before", "there", "here"] (sp_cdu K)
set_option maxHeartbeats 4000000 in
theorem ok_clash_due (T:Txt K mg A) (G_alike:Ok_alike P w K mg base A):Ok_clash_due P w K mg base A:=by
  have B_alike:=T.b_alike
  refine T.F_clash_due.okN sc_clash_due (fun vs H Q E h => ?_) (fun cdv Ar outer s H vs Q E hr h => ?_)
  · obtain ⟨_,x,y,z,b,t,h0,rfl,_⟩:=h
    rfl
  · obtain ⟨hP,x,y,z,b,t,h0,rfl,hx,hy,hz,okb,okt,okh,q⟩:=h
    refine ⟨_,(pss_cons (ps_if (PW.pt (pw_or (pt_cmpR op_isN (pv 1) pe_non (nomark _)) (pw_or1 (pt_cmpR op_isN (pv 2) pe_non (nomark _))))) (pss_one (ps_ret pe_bl)) pss_nil)
      (pss_one (ps_ret (pe_and (pe_cmpR (op_neD hr.units) (pv 1) (pv 0) (nomark _)) (pe_and (pe_cmpR (op_neD hr.units) (pv 2) (pv 0) (nomark _)) (pe_one (pe_not (pe_call G_alike (hr.mono (by decide)) rfl T.g_alike T.k_alike B_alike .nil pass1 (pa_cons (pv 1) (pa_cons (pv 2) pa_nil)))))))))), ?_⟩
    rcases none_or t with et | ⟨vt,et⟩
    · refine ⟨_,rfl,rfl,_,rfl,iteDT ((vd_non hy).mpr et) (iteT ?_)⟩
      rw [et] at q
      exact q _ (Same.refl _) hP
    rcases none_or h0 with eh | ⟨vh,eh⟩
    · refine ⟨_,rfl,rfl,_,rfl,iteDF (fun z=>by rw [(vd_non hy).mp z] at et; cases et) ?_⟩
      refine ⟨_,rfl,rfl,_,rfl,iteDT ((vd_non hz).mpr eh) ?_⟩
      rw [et,eh] at q
      exact q _ (Same.refl _) hP
    refine ⟨_,rfl,rfl,_,rfl,iteDF (fun z=>by rw [(vd_non hy).mp z] at et; cases et) ?_⟩
    refine ⟨_,rfl,rfl,_,rfl,iteDF (fun z=>by rw [(vd_non hz).mp z] at eh; cases eh) ?_⟩
    refine ⟨_,rfl,_,rfl,vdat t,vdat b,hy,hx,vdat_shaped okt,vdat_shaped okb,_,rfl, ?_⟩
    rw [vdat_eqv]
    have eD:dueB b t h0 = (!decide (t = b) && (!decide (h0 = b) && !decide (vt.2 = vh.2))):=by rw [et,eh]; rfl
    rw [eD] at q
    by_cases e1:t = b
    · rw [decide_eq_true e1] at q ⊢
      exact iteF (q _ (Same.refl _) hP)
    rw [decide_eq_false e1] at q ⊢
    refine iteT ?_
    refine ⟨_,rfl,_,rfl,vdat h0,vdat b,hz,hx,vdat_shaped okh,vdat_shaped okb,_,rfl, ?_⟩
    rw [vdat_eqv]
    by_cases e2:h0 = b
    · rw [decide_eq_true e2] at q ⊢
      exact iteF (q _ (Same.refl _) hP)
    rw [decide_eq_false e2] at q ⊢
    refine iteT ?_
    refine ⟨_,rfl,_,rfl,hP,(vt,vh),⟨_,_,rfl,vd_ver hy et,vd_ver hz eh,okt vt et,okh vh eh⟩,fun r H5 hr s5 P5=>⟨_,hr, ?_⟩,fun _ _ h=>h.elim⟩
    exact q _ s5 P5
theorem sc_merged:FnScope ["base", "last", "mine", "pairs", "clashes", "mark", "there", "here", "stands"] ["base", "last", "mine"] (defScope s_merged):=⟨rfl,rfl,rfl,by decide +kernel,rfl,by decide +kernel,by decide +kernel⟩
noncomputable abbrev Ok_merged (P:Program) (w:World) (K:PySem.W.Frag) (mg:Str→Option Value) (base:Heap) (A:Adr):Prop:=FnOk P w K mg base (CX1 P w base) 3 A.f_merged A.d_merged ["base", "last", "mine"] (sp_mrg P w K A)
set_option maxHeartbeats 4000000 in
theorem ok_merged (T:Txt K mg A) (G_later:Ok_later P w K mg base A) (G_Sheet____init__:Ok_Sheet____init__ P w K mg base A) (G_Sheet__version:Ok_Sheet__version P w K mg base A) (G_marks_of:Ok_marks_of P w K mg base A) (G_clash_due:Ok_clash_due P w K mg base A):Ok_merged P w K mg base A:=by
  have B_later:=T.b_later
  have B_Sheet____init__:=T.b_Sheet____init__
  have B_Sheet__version:=T.b_Sheet__version
  have B_marks_of:=T.b_marks_of
  have B_clash_due:=T.b_clash_due
  refine T.F_merged.okX sc_merged (fun vs H Q E h => ?_) (fun cdv Ar outer s H vs Q E hr h => ?_)
  · obtain ⟨_,pb,pl,pm,B,L,M,U,rfl,_⟩:=h
    rfl
  · obtain ⟨hP,pb,pl,pm,B,L,M,U,rfl,SB,SL,SM,hU,few,q⟩:=h
    refine ⟨_,(pss_cons (ps_set (i:=3) sc_merged.nd rfl (Or.inl rfl) (pe_lst pa_nil))
      (pss_cons (ps_set (i:=4) sc_merged.nd rfl (Or.inl rfl) (pe_lst pa_nil))
      (pss_cons (ps_for PassesOwn.leaving rfl (pi_list (pe_call G_marks_of (hr.mono (by decide)) rfl T.g_marks_of T.k_marks_of B_marks_of .nil pass1 (pa_cons (pv 1) (pa_cons (pv 2) pa_nil)))) (pg_name (i:=5) sc_merged.nd rfl (Or.inl rfl)) (pss_cons (ps_par (i:=6) (j:=7) rfl sc_merged.nd rfl rfl (by decide) rfl rfl (pa_cons (pe_meth (pv 1) T.cl_Sheet T.m_Sheet__version G_Sheet__version (hr.mono (by decide)) B_Sheet__version .nil pass1 (pa_cons (pv 5) pa_nil)) (pa_cons (pe_meth (pv 2) T.cl_Sheet T.m_Sheet__version G_Sheet__version (hr.mono (by decide)) B_Sheet__version .nil pass1 (pa_cons (pv 5) pa_nil)) pa_nil)) (by rfl))
      (pss_cons (ps_set (i:=8) sc_merged.nd rfl (Or.inl rfl) (pe_call G_later (hr.mono (by decide)) rfl T.g_later T.k_later B_later .nil pass1 (pa_cons (pv 6) (pa_cons (pv 7) pa_nil))))
      (pss_cons (ps_expr (pe_bm PySem.F.plainAttrs_list PySem.F.slot_list_append PySem.F.type_list_append mt_append (pv 3) (pa_cons (pe_tup (pa_cons (pv 5) (pa_cons (pv 8) pa_nil))) pa_nil)))
      (pss_one (ps_if (pt_val (pe_call G_clash_due (hr.mono (by decide)) rfl T.g_clash_due T.k_clash_due B_clash_due .nil pass1 (pa_cons (pe_meth (pv 0) T.cl_Sheet T.m_Sheet__version G_Sheet__version (hr.mono (by decide)) B_Sheet__version .nil pass1 (pa_cons (pv 5) pa_nil)) (pa_cons (pv 6) (pa_cons (pv 7) pa_nil))))) (pss_one (ps_expr (pe_bm PySem.F.plainAttrs_list PySem.F.slot_list_append PySem.F.type_list_append mt_append (pv 4) (pa_cons (pe_tup (pa_cons (pv 5) (pa_cons (pv 8) (pa_cons (pe_ifExp (pt_cmpR (op_eqD hr.units) (pv 8) (pv 6) (nomark _)) (pv 7) (pv 6)) pa_nil)))) pa_nil)))) pss_nil))))))
      (pss_one (ps_ret (pe_tup (pa_cons (pe_make T.mk_Sheet G_Sheet____init__ (hr.mono (by decide)) rfl T.g_Sheet B_Sheet____init__ .nil (Wants.passes wants_fn) (pa_cons (pv 3) pa_nil)) (pa_cons (pv 4) pa_nil)))))))), ?_⟩
    refine ⟨Nat.zero_le _,fun fl hfl => ?_⟩
    generalize hH1:upd H fl (HO.lst _) = H1
    have s1:Same H H1:=hH1 ▸ same_upd hfl
    have P1:Plain H1:=hH1 ▸ hP.lst
    have h1:=(congrFun hH1 fl).symm.trans upd_same
    refine ⟨Nat.zero_le _,fun cl hcl => ?_⟩
    generalize hH2:upd H1 cl (HO.lst _) = H2
    have s2:Same H1 H2:=hH2 ▸ same_upd hcl
    have P2:Plain H2:=hH2 ▸ P1.lst
    have h2:=(congrFun hH2 cl).symm.trans upd_same
    have S2:=s1.trans s2
    have nfc:fl ≠ cl:=ne_of_none h1 hcl
    refine ⟨_,rfl,_,rfl,P2,L,M,⟨pl,pm,U,rfl,SL.same S2,SM.same S2,hU,few⟩,fun l0 ks w0 H3 n3 s3 P3 h3 isk hkl hw3 => ?_⟩
    have S3:=S2.trans s3
    have nlf:l0 ≠ fl:=(ne_of_none (s2 _ _ h1) n3).symm
    have nlc:l0 ≠ cl:=(ne_of_none h2 n3).symm
    have hwl:w0.length = ks.length:=by rw [hw3.length,List.length_map]
    have M3:MB P w K A.Sheet pb pl pm l0 B L M ks w0 H3:=⟨SB.same S3,SL.same S3,SM.same S3,h3,hw3⟩
    have hfl0:H fl = none:=hfl
    have hcl0:H cl = none:=s1.free hcl
    refine ⟨l0,rfl,⟨_,SqL.of h3⟩,for_list (K:=K) (a:=l0) (xs:=w0) (fun i σ H4=>∃ (o5 o6 o7 o8:Option V) (ys zs:List V),σ = [some (.ref pb),some (.ref pl),some (.ref pm),some (.ref fl),some (.ref cl),o5,o6,o7,o8]∧Plain H4∧Same H H4∧MB P w K A.Sheet pb pl pm l0 B L M ks w0 H4∧H4 fl = some (.lst ys)∧H4 cl = some (.lst zs)∧DVs K H4 ((mrg L M (ks.take i)).map prD) ys∧DVs K H4 ((clsh B L M (ks.take i)).map cl3D) zs∧ys.length ≤ i∧zs.length ≤ i)
      ⟨_,_,_,_,[],[],rfl,P3,S3,M3,(s2.trans s3) _ _ h1,s3 _ _ h2,rfl,rfl,Nat.le_refl _,Nat.le_refl _⟩ (fun i σ H4 _ ⟨_,_,_,_,_,_,_,_,_,m,_⟩=>SqL.of m.h) ?_ ?_⟩
    · rintro i y σ H4 hy ⟨o5,o6,o7,o8,ys,zs,rfl,P4,S4,M4,f4,c4,hys,hzs,lys,lzs⟩
      have hi:i < ks.length:=by have:=(List.getElem?_eq_some_iff.mp hy).1; omega
      obtain ⟨y',hy',hyd⟩:=M4.d.get (i:=i) (d:=L2.markD ks[i]) (by rw [List.getElem?_map,List.getElem?_eq_getElem hi]; rfl)
      rw [hy] at hy'
      cases hy'
      obtain ⟨q1,rfl,hq1⟩:=mark_of hyd
      have hne:=isk_look isk (List.getElem_mem hi)
      obtain ⟨m,hm⟩:∃ m,m = ks[i]:=⟨_,rfl⟩
      rw [← hm] at hq1 hne
      have okL:okO (look L m):=fun v e=>SL.ok _ (look_some e)
      have okM:okO (look M m):=fun v e=>SM.ok _ (look_some e)
      have okB:okO (look B m):=fun v e=>SB.ok _ (look_some e)
      obtain ⟨dx1,_,_,_,hx1,_⟩:=id M4.l.ex
      obtain ⟨dx2,_,_,_,hx2,_⟩:=id M4.m.ex
      refine ⟨_,rfl,pl,dx1,_,rfl,hx1,rfl,_,rfl,P4,pl,q1,m,L,rfl,M4.l,hq1,fun x hx => ?_⟩
      refine ⟨_,rfl,pm,dx2,_,rfl,hx2,rfl,_,rfl,P4,pm,q1,m,M,rfl,M4.m,hq1,fun y hy => ?_⟩
      refine ⟨x,y,rfl, ?_⟩
      refine ⟨_,rfl,_,rfl,P4,(look L m,look M m),⟨x,y,rfl,hx,hy,okL,okM⟩,fun r H5 hr s5 P5 => ?_,fun _ _ h=>h.elim⟩
      have hr:DV K H5 (vdat (mx (look L m) (look M m))) r:=hr
      have hx5:=DV.same s5 _ _ hx
      have hy5:=DV.same s5 _ _ hy
      have f5:=s5 _ _ f4
      rw [mx_some hne] at hr
      obtain ⟨tr,pr,rfl,htr,hpr⟩:=ver_of (show DV K H5 (ver (mrgV (look L m) (look M m))) r from hr)
      refine ⟨_,rfl,.inl ⟨rfl,_,SqL.of f5⟩,_,rfl,_,rfl,by show 2 ≤ sizeLine; decide,fun t6 hp6 => ?_⟩
      have s6:Same H5 (upd H5 t6 (.tup [.ref q1,.ref tr])):=same_upd hp6
      have P6:Plain (upd H5 t6 (.tup [.ref q1,.ref tr])):=P5.tup
      have h6:(upd H5 t6 (.tup [.ref q1,.ref tr])) t6 = some (.tup [.ref q1,.ref tr]):=upd_same
      generalize upd H5 t6 (.tup [.ref q1,.ref tr]) = H6 at s6 P6 h6 ⊢
      have S46:=s5.trans s6
      have f6:=s6 _ _ f5
      have c6:=S46 _ _ c4
      have M6:=M4.same S46
      refine ⟨fl,ys,_,rfl,rfl,f6,small1000 (by omega), ?_⟩
      have kf:∀ c o,c ≠ fl→H6 c = some o→(upd H6 fl (.lst (ys ++ [.ref t6]))) c = some o:=fun c o n e=>by rw [upd_ne n]; exact e
      have M7:=M6.upd (ys:=ys ++ [.ref t6]) f6 nlf
      have f7:(upd H6 fl (.lst (ys ++ [.ref t6]))) fl = some (.lst (ys ++ [.ref t6])):=upd_same
      have c7:=kf _ _ nfc.symm c6
      have P7:Plain (upd H6 fl (.lst (ys ++ [.ref t6]))):=P6.lst
      have S7:Same H (upd H6 fl (.lst (ys ++ [.ref t6]))):=fun c o e=>kf _ _ (ne_of_none e hfl0) (S46 _ _ (S4 _ _ e))
      have hq7:=sqT_other (o' := .lst (ys ++ [.ref t6])) f6 (noT_lst _) (S46.seqT hq1)
      have hr7:DV K (upd H6 fl (.lst (ys ++ [.ref t6]))) (ver (mrgV (look L m) (look M m))) (.ref tr):=dv_other f6 (noT_lst _) _ _ (noL_ver _) (DV.same s6 _ _ hr)
      have hx7:DV K (upd H6 fl (.lst (ys ++ [.ref t6]))) (vdat (look L m)) x:=dv_other f6 (noT_lst _) _ _ (noL_vdat _) (DV.same s6 _ _ hx5)
      have hy7:DV K (upd H6 fl (.lst (ys ++ [.ref t6]))) (vdat (look M m)) y:=dv_other f6 (noT_lst _) _ _ (noL_vdat _) (DV.same s6 _ _ hy5)
      have hys7:DVs K (upd H6 fl (.lst (ys ++ [.ref t6]))) ((mrg L M (ks.take (i + 1))).map prD) (ys ++ [.ref t6]):=by
        refine dvs_other f6 (noT_lst _) _ _ (noLs_pr _) ?_
        rw [mrg_succ hi, ← hm,List.map_append]
        exact (DVs.same S46 _ _ hys).append ⟨_,_,rfl,⟨t6,_,rfl,SqT.of h6,_,_,rfl,mkV_dv (S46.seqT hq1),_,_,rfl,DV.same s6 _ _ hr,rfl⟩,rfl⟩
      have hzs7:DVs K (upd H6 fl (.lst (ys ++ [.ref t6]))) ((clsh B L M (ks.take i)).map cl3D) zs:=dvs_other f6 (noT_lst _) _ _ (noLs_cl3 _) (DVs.same S46 _ _ hzs)
      have ly7:(ys ++ [V.ref t6]).length ≤ i + 1:=by rw [List.length_append,List.length_singleton]; omega
      generalize upd H6 fl (.lst (ys ++ [.ref t6])) = H7 at M7 f7 c7 P7 S7 hq7 hr7 hx7 hy7 hys7 hzs7 ⊢
      generalize ys ++ [V.ref t6] = ys7 at f7 hys7 ly7
      obtain ⟨dx3,_,_,_,hx3,_⟩:=id M7.b.ex
      refine ⟨_,rfl,pb,dx3,_,rfl,hx3,rfl,_,rfl,P7,pb,q1,m,B,rfl,M7.b,hq7,fun z hz => ?_⟩
      refine ⟨_,rfl,_,rfl,P7,z,x,y,look B m,look L m,look M m,rfl,hz,hx7,hy7,okB,okL,okM,fun H8 s8 P8=>⟨_,rfl, ?_⟩⟩
      have ecl:=clsh_succ (B:=B) (L:=L) (M:=M) hi
      rw [← hm] at ecl
      cases ed:dueB (look B m) (look L m) (look M m) with
      | false =>
        refine iteF ?_
        refine ⟨_,_,_,_,ys7,zs,rfl,P8,S7.trans s8,M7.same s8,s8 _ _ f7,s8 _ _ c7,DVs.same s8 _ _ hys7, ?_,ly7,by omega⟩
        rw [ecl,show cl1 (look B m) (look L m) (look M m) m = [] by unfold cl1; rw [ed]; rfl,List.append_nil]
        exact DVs.same s8 _ _ hzs7
      | true =>
        refine iteT ?_
        obtain ⟨vt,vh,et,eh,ne2⟩:=dueB_of ed
        have em:mrgV (look L m) (look M m) = gr vt vh:=by unfold mrgV; rw [et,eh,mx_gr]; rfl
        have c8:=s8 _ _ c7
        have hr8:=DV.same s8 _ _ hr7
        have hx8:=DV.same s8 _ _ hx7
        have hy8:=DV.same s8 _ _ hy7
        rw [em] at hr8
        have okg:okV (gr vt vh):=mx_ok okL okM _ (by rw [et,eh]; exact mx_gr vt vh)
        refine ⟨_,rfl,.inl ⟨rfl,_,SqL.of c8⟩,_,rfl,_,rfl, ?_⟩
        have ecl1:cl1 (look B m) (look L m) (look M m) m = [(m,gr vt vh,ls vt vh)]:=by
          unfold cl1
          rw [if_pos ed,et,eh]
          rfl
        refine ⟨_,rfl,_,rfl,vdat (some (gr vt vh)),vdat (look L m),hr8,hx8,vdat_shaped (fun v e=>by cases e; exact okg),vdat_shaped okL,_,rfl, ?_⟩
        rw [vdat_eqv,et]
        by_cases el:verLt vt vh = true
        · have eg:gr vt vh = vh:=by unfold gr; rw [if_pos el]
          rw [decide_eq_false (fun z=>ne2 (by rw [eg] at z; rw [← Option.some.inj z]))]
          refine iteF ?_
          refine ⟨_,rfl,by show 3 ≤ sizeLine; decide,fun t9 hp9 => ?_⟩
          have hv9:DV K H8 (ver (ls vt vh)) x:=by
            rw [show ls vt vh = vt by unfold ls; rw [if_pos el]]
            exact vd_ver hx8 et
          have s9:Same H8 (upd H8 t9 (.tup [.ref q1,.ref tr,x])):=same_upd hp9
          have P9:Plain (upd H8 t9 (.tup [.ref q1,.ref tr,x])):=P8.tup
          have h9:(upd H8 t9 (.tup [.ref q1,.ref tr,x])) t9 = some (.tup [.ref q1,.ref tr,x]):=upd_same
          generalize upd H8 t9 (.tup [.ref q1,.ref tr,x]) = H9 at s9 P9 h9 ⊢
          have c9:=s9 _ _ c8
          refine ⟨cl,zs,_,rfl,rfl,c9,small1000 (by omega), ?_⟩
          have kc:∀ c o,c ≠ cl→H9 c = some o→(upd H9 cl (.lst (zs ++ [.ref t9]))) c = some o:=fun c o n e=>by rw [upd_ne n]; exact e
          have S79:=s8.trans s9
          refine ⟨_,_,_,_,ys7,zs ++ [.ref t9],rfl,P9.lst,fun c o e=>kc _ _ (ne_of_none e hcl0) (S79 _ _ (S7 _ _ e)),(M7.same S79).upd c9 nlc,kc _ _ nfc (S79 _ _ f7),upd_same,dvs_other c9 (noT_lst _) _ _ (noLs_pr _) (DVs.same S79 _ _ hys7), ?_,ly7,by rw [List.length_append,List.length_singleton]; omega⟩
          refine dvs_other c9 (noT_lst _) _ _ (noLs_cl3 _) ?_
          rw [ecl,ecl1,List.map_append]
          exact (DVs.same S79 _ _ hzs7).append ⟨_,_,rfl,⟨t9,_,rfl,SqT.of h9,_,_,rfl,mkV_dv (S79.seqT hq7),_,_,rfl,DV.same s9 _ _ hr8,_,_,rfl,DV.same s9 _ _ hv9,rfl⟩,rfl⟩
        · have eg:gr vt vh = vt:=by unfold gr; rw [if_neg el]
          rw [decide_eq_true (by rw [eg])]
          refine iteT ?_
          refine ⟨_,rfl,by show 3 ≤ sizeLine; decide,fun t9 hp9 => ?_⟩
          have hv9:DV K H8 (ver (ls vt vh)) y:=by
            rw [show ls vt vh = vh by unfold ls; rw [if_neg el]]
            exact vd_ver hy8 eh
          have s9:Same H8 (upd H8 t9 (.tup [.ref q1,.ref tr,y])):=same_upd hp9
          have P9:Plain (upd H8 t9 (.tup [.ref q1,.ref tr,y])):=P8.tup
          have h9:(upd H8 t9 (.tup [.ref q1,.ref tr,y])) t9 = some (.tup [.ref q1,.ref tr,y]):=upd_same
          generalize upd H8 t9 (.tup [.ref q1,.ref tr,y]) = H9 at s9 P9 h9 ⊢
          have c9:=s9 _ _ c8
          refine ⟨cl,zs,_,rfl,rfl,c9,small1000 (by omega), ?_⟩
          have kc:∀ c o,c ≠ cl→H9 c = some o→(upd H9 cl (.lst (zs ++ [.ref t9]))) c = some o:=fun c o n e=>by rw [upd_ne n]; exact e
          have S79:=s8.trans s9
          refine ⟨_,_,_,_,ys7,zs ++ [.ref t9],rfl,P9.lst,fun c o e=>kc _ _ (ne_of_none e hcl0) (S79 _ _ (S7 _ _ e)),(M7.same S79).upd c9 nlc,kc _ _ nfc (S79 _ _ f7),upd_same,dvs_other c9 (noT_lst _) _ _ (noLs_pr _) (DVs.same S79 _ _ hys7), ?_,ly7,by rw [List.length_append,List.length_singleton]; omega⟩
          refine dvs_other c9 (noT_lst _) _ _ (noLs_cl3 _) ?_
          rw [ecl,ecl1,List.map_append]
          exact (DVs.same S79 _ _ hzs7).append ⟨_,_,rfl,⟨t9,_,rfl,SqT.of h9,_,_,rfl,mkV_dv (S79.seqT hq7),_,_,rfl,DV.same s9 _ _ hr8,_,_,rfl,DV.same s9 _ _ hv9,rfl⟩,rfl⟩
    rintro σ H4 ⟨o5,o6,o7,o8,ys,zs,rfl,P4,S4,M4,f4,c4,hys,hzs,lys,lzs⟩
    rw [hwl,List.take_length] at hys hzs
    refine ⟨_,rfl,fun x dx nx ndx nex => ?_⟩
    have sx:Same H4 (upd (upd H4 dx (.own x)) x (.ins A.Sheet dx [])):=fun b o e=>by
      rw [upd_ne (ne_of_none e nx),upd_ne (ne_of_none e ndx)]
      exact e
    have ndm:(mks (mrg L M ks)).Nodup:=by
      have:mks (mrg L M ks) = ks:=by unfold mks mrg; rw [List.map_map]; exact List.map_id _
      rw [this]
      exact mlt_nodup isk.1
    have okm:∀ e ∈ mrg L M ks,okV e.2:=fun e he=>by
      obtain ⟨m,hm,rfl⟩:=List.mem_map.mp he
      refine mx_ok (a:=look L m) (b:=look M m) (fun v e=>SL.ok _ (look_some e)) (fun v e=>SM.ok _ (look_some e)) _ ?_
      exact mx_some (isk_look isk hm)
    have lmk:(mrg L M ks).length = ks.length:=List.length_map _
    refine ⟨Plain.ins (P4.upd trivial),x,dx,fl,ys,mrg L M ks,rfl,upd_same,SqL.of (sx _ _ f4),DVs.same sx _ _ hys,okm,by omega,fun _ H5 k5 Sh5 P5=>⟨rfl, ?_⟩,fun h=>absurd ndm h⟩
    have s5:Same H4 H5:=fun b o e=>k5 b o (ne_of_none e nx) (sx b o e)
    refine ⟨_,rfl,by show 2 ≤ sizeLine; decide,fun t hp6 => ?_⟩
    generalize hH6:upd H5 t (HO.tup _) = H6
    have s6:Same H5 H6:=hH6 ▸ same_upd hp6
    have P6:Plain H6:=hH6 ▸ P5.tup
    have h6:=(congrFun hH6 t).symm.trans upd_same
    exact q t x cl ks zs H6 hcl0 ((S4.trans s5).trans s6) P6 (SqT.of h6) (Sh5.same s6) ((s5.trans s6) _ _ c4) (DVs.same (s5.trans s6) _ _ hzs) isk hkl
theorem sc__law_digits:FnScope ["_law_cell", "_law_place", "_law_found", "_law_seed", "_law_k"] ["_law_cell", "_law_place"] (defScope s__law_digits):=⟨rfl,rfl,rfl,by decide +kernel,rfl,by decide +kernel,by decide +kernel⟩
noncomputable abbrev Ok__law_digits (P:Program) (w:World) (K:PySem.W.Frag) (mg:Str→Option Value) (base:Heap) (A:Adr):Prop:=FnOk P w K mg base (CX1 P w base) 1 A.f__law_digits A.d__law_digits ["_law_cell", "_law_place"] sp_digits
set_option maxHeartbeats 4000000 in
theorem ok__law_digits (T:Txt K mg A)  : Ok__law_digits P w K mg base A:=by
  refine new_digits (T.F__law_digits.okN sc__law_digits (fun vs H Q E h => ?_) (fun cdv Ar outer s H vs Q E hr h => ?_))
  · obtain ⟨_,a,rfl,_⟩:=h
    rfl
  · obtain ⟨hp,⟨c,p⟩,rfl,q⟩:=h
    refine ⟨_,(pss_cons (ps_set (i:=2) sc__law_digits.nd rfl (Or.inl rfl) (pe_lst pa_nil))
      (pss_cons (ps_if (pt_chain op_lt op_lt (pe_op op_sub pe_int pe_int) (pv 0) pe_int) (pss_cons (ps_set (i:=3) sc__law_digits.nd rfl (Or.inl rfl) (pe_op op_add (pe_op op_mul (pe_op op_add (pe_op op_mod (pv 0) pe_int) pe_int) pe_int) (pe_op op_mul (pe_op op_add (pe_op op_mod (pv 1) pe_int) pe_int) pe_int)))
      (pss_cons (ps_for PassesOwn.never rfl (pi_range1 rfl T.n_range (pa_cons pe_int pa_nil)) (pg_name (i:=4) sc__law_digits.nd rfl (Or.inl rfl)) (pss_cons (ps_set (i:=3) sc__law_digits.nd rfl (Or.inl rfl) (pe_op op_mod (pe_op op_mul (pv 3) pe_int) pe_int))
      (pss_one (ps_expr (pe_bm PySem.F.plainAttrs_list PySem.F.slot_list_append PySem.F.type_list_append mt_append (pv 2) (pa_cons (pe_op op_mod (pe_op op_fdiv (pv 3) pe_int) pe_int) pa_nil))))))
      (pss_one (ps_ret (pv 2))))) pss_nil)
      (pss_cons (ps_set (i:=3) sc__law_digits.nd rfl (Or.inl rfl) (pe_op op_mod (pv 0) (pe_op op_pow pe_int pe_int)))
      (pss_cons (ps_for PassesOwn.never rfl (pi_range1 rfl T.n_range (pa_cons pe_int pa_nil)) (pg_name (i:=4) sc__law_digits.nd rfl (Or.inl rfl)) (pss_cons (ps_expr (pe_bm PySem.F.plainAttrs_list PySem.F.slot_list_append PySem.F.type_list_append mt_append (pv 2) (pa_cons (pe_op op_mod (pv 3) pe_int) pa_nil)))
      (pss_one (ps_set (i:=3) sc__law_digits.nd rfl (Or.inl rfl) (pe_op op_fdiv (pv 3) pe_int)))))
      (pss_one (ps_ret (pv 2))))))), ?_⟩
    refine ⟨Nat.zero_le _,fun l hl => ?_⟩
    refine ⟨_,_,rfl,rfl,_,rfl,_,_,rfl,rfl,_,rfl, ?_⟩
    refine ite2d (fun h1=>⟨_,_,rfl,rfl,_,rfl,ite2d (fun h2 => ?a) (fun h2 => ?b1)⟩) (fun h1=>⟨_,rfl,iteF ?b2⟩)
    case a =>
      walk_at "rd"
      refine ⟨by decide,by decide,for_range (n:=8) (fun i σ H2=>∃ (seed:Int) (ds:List Int) (k:Option V),σ = [some (.int c),some (.int p),some (.ref l),some (.int seed),k]∧H2 = upd H l (.lst (ds.map V.int))∧ds.length = i∧∀ d ∈ ds,Dig d)
        ⟨_,[],_,rfl,rfl,rfl,fun _ z=>nomatch z⟩ ?_ ?_⟩
      · rintro i σ H2 hi ⟨seed,ds,k,rfl,rfl,hlen,hd⟩
        walk_at "rd"
        refine ⟨.inl ⟨rfl,_,SqL.of upd_same⟩, ?_⟩
        walk_at "rd"
        refine ⟨l,_,_,rfl,rfl,upd_same,small1000 (by rw [List.length_map]; omega), ?_⟩
        refine ⟨_,ds ++ [_],_,rfl,by rw [upd_upd,List.map_append]; rfl,by simp [hlen],fun d hd' => ?_⟩
        rcases List.mem_append.mp hd' with z | z
        · exact hd d z
        · rw [List.mem_singleton.mp z]; exact dig_mod _
      · rintro σ H2 ⟨seed,ds,k,rfl,rfl,hlen,hd⟩
        refine ⟨_,rfl, ?_⟩
        exact q l _ _ hl upd_same (eight hlen hd) (same_upd hl)
    case b1 | b2 =>
      walk_at "rd"
      refine ⟨by decide,by decide,for_range (n:=8) (fun i σ H2=>∃ (seed:Int) (ds:List Int) (k:Option V),σ = [some (.int c),some (.int p),some (.ref l),some (.int seed),k]∧H2 = upd H l (.lst (ds.map V.int))∧ds.length = i∧∀ d ∈ ds,Dig d)
        ⟨_,[],_,rfl,rfl,rfl,fun _ z=>nomatch z⟩ ?_ ?_⟩
      · rintro i σ H2 hi ⟨seed,ds,k,rfl,rfl,hlen,hd⟩
        walk_at "rd"
        refine ⟨.inl ⟨rfl,_,SqL.of upd_same⟩, ?_⟩
        walk_at "rd"
        refine ⟨l,_,_,rfl,rfl,upd_same,small1000 (by rw [List.length_map]; omega), ?_⟩
        walk_at "rd"
        refine ⟨_,ds ++ [_],_,rfl,by rw [upd_upd,List.map_append]; rfl,by simp [hlen],fun d hd' => ?_⟩
        rcases List.mem_append.mp hd' with z | z
        · exact hd d z
        · rw [List.mem_singleton.mp z]; exact dig_mod _
      · rintro σ H2 ⟨seed,ds,k,rfl,rfl,hlen,hd⟩
        refine ⟨_,rfl, ?_⟩
        exact q l _ _ hl upd_same (eight hlen hd) (same_upd hl)
theorem sc__law_signs:FnScope ["_law_small"] [] (defScope s__law_signs):=⟨rfl,rfl,rfl,by decide +kernel,rfl,by decide +kernel,by decide +kernel⟩
noncomputable abbrev Ok__law_signs (P:Program) (w:World) (K:PySem.W.Frag) (mg:Str→Option Value) (base:Heap) (A:Adr):Prop:=FnOk P w K mg base (CX1 P w base) 1 A.f__law_signs A.d__law_signs [] sp_signs
set_option maxHeartbeats 4000000 in
theorem ok__law_signs (T:Txt K mg A)  : Ok__law_signs P w K mg base A:=by
  refine FnOk.pure (T.F__law_signs.okN sc__law_signs (fun vs H Q E h => ?_) (fun cdv Ar outer s H vs Q E hr h => ?_))
  · obtain ⟨_,a,rfl,_⟩:=h
    rfl
  · obtain ⟨hp,_,rfl,q⟩:=h
    refine ⟨_,(pss_cons (ps_set (i:=0) sc__law_signs.nd rfl (Or.inl rfl) pe_str)
      (pss_one (ps_ret (pe_op op_add_str (pe_op op_add_str (pe_op op_add_str (pe_op op_add_str pe_str (pe_bm0 PySem.F.plainAttrs_str PySem.F.slot_str_upper PySem.F.type_str_upper mt_upper (pv 0))) pe_str) (pv 0)) pe_str)))), ?_⟩
    refine ⟨_,rfl,rfl,⟨_,rfl,rfl,by decide +kernel, ?_⟩⟩
    refine ⟨_,_,rfl,rfl,by decide +kernel,_,_,rfl,rfl,by decide +kernel, ?_⟩
    refine ⟨_,rfl,_,_,rfl,rfl,by decide +kernel,_,_,rfl,rfl,by decide +kernel, ?_⟩
    exact q _ _ rfl (Same.refl _)
theorem sc__law_words:FnScope ["_law_one", "_law_other", "_law_signs_here"] ["_law_one", "_law_other"] (defScope s__law_words):=⟨rfl,rfl,rfl,by decide +kernel,rfl,by decide +kernel,by decide +kernel⟩
noncomputable abbrev Ok__law_words (P:Program) (w:World) (K:PySem.W.Frag) (mg:Str→Option Value) (base:Heap) (A:Adr):Prop:=FnOk P w K mg base (CX1 P w base) 2 A.f__law_words A.d__law_words ["_law_one", "_law_other"] sp_words
set_option maxHeartbeats 4000000 in
theorem ok__law_words (T:Txt K mg A) (G__law_signs:Ok__law_signs P w K mg base A):Ok__law_words P w K mg base A:=by
  have B__law_signs:=T.b__law_signs
  refine FnOk.pure (T.F__law_words.okN sc__law_words (fun vs H Q E h => ?_) (fun cdv Ar outer s H vs Q E hr h => ?_))
  · obtain ⟨_,a,rfl,_⟩:=h
    rfl
  · obtain ⟨hp,⟨one,other⟩,rfl,q⟩:=h
    refine ⟨_,(pss_cons (ps_set (i:=2) sc__law_words.nd rfl (Or.inr rfl) (pe_call0 G__law_signs (hr.mono (by decide)) rfl T.g__law_signs T.k__law_signs B__law_signs .nil pass1))
      (pss_one (ps_ret (pe_bm PySem.F.plainAttrs_str PySem.F.slot_str_join PySem.F.type_str_join mt_join pe_str (pa_cons (pe_comp ["_law_k", "_law_one", "_law_other", "_law_signs_here"] 1 [0,1,2] rfl (pi_range1 rfl T.n_range (pa_cons (pe_op op_mod (pv 1) pe_int) pa_nil)) gk1 (fun _ _ _ _ _=>pg_name (i:=0) (show List.Nodup (["_law_k", "_law_one", "_law_other", "_law_signs_here"]:List Str) by decide +kernel) rfl (Or.inl rfl)) (fun _ _ _ _ _=>pif_nil) (fun _ _ _ _ _=>(pe_ix ix_str (pv 3) (pe_op op_mod (pe_op op_add (pv 1) (pe_op op_mul (pv 0) (pe_op op_add (pe_op op_fdiv (pv 2) pe_int) pe_int))) pe_int) (fun _ _=>rfl)))) pa_nil))))), ?_⟩
    refine ⟨hp,(),rfl,fun v hv => ?_⟩
    subst hv
    refine ⟨rfl, ?_⟩
    walk_at "rd"
    have h7:=Int.emod_nonneg other (show (7:Int) ≠ 0 by decide)
    have h8:=Int.emod_lt_of_pos other (show (0:Int) < 7 by decide)
    have hk:(other % 7).toNat ≤ 1000:=by omega
    refine ⟨by omega,by omega,fun D hD=>comp_range (fun k=>.str ⟨#[SIGNS.cps.toList.getD ((one + (0 + (k:Int)) * (other / 7 + 1)) % 94).toNat 0]⟩) (Nat.le_of_lt (small1000 hk)) ?_ ?_⟩
    · intro i H2 R hi hR
      walk_at "rd"
      refine ⟨Or.inl ⟨by omega,by omega⟩, ?_⟩
      walk_at "rd"
      refine ⟨_,_,_,rfl,rfl,by decide +kernel,atI_in (Int.emod_nonneg _ (by decide)) ?_,hR _ rfl⟩
      have e:SIGNS.cps.toList.length = 94:=by have:=signs_len; simpa [Str.length] using this
      rw [e]
      exact Int.emod_lt_of_pos _ (by decide)
    · refine ⟨_,D,(List.range (other % 7).toNat).map fun (k:Nat)=>⟨#[SIGNS.cps.toList.getD ((one + (0 + (k:Int)) * (other / 7 + 1)) % 94).toNat 0]⟩,rfl,rfl,SqL.of (by rw [upd_same,List.map_map]; rfl), ?_, ?_⟩
      · rw [sum_ones fun _=>rfl]
        show (other % 7).toNat + _ * 0 ≤ 16777216
        omega
      · refine q _ _ ⟨_,rfl, ?_, ?_⟩ (same_upd hD)
        · have:=len_join0 ((List.range (other % 7).toNat).map fun (k:Nat)=>(⟨#[SIGNS.cps.toList.getD ((one + (0 + (k:Int)) * (other / 7 + 1)) % 94).toNat 0]⟩:Str))
          rw [sum_ones fun _=>rfl] at this
          have e:(⟨#[]⟩:Str) = "" := rfl
          rw [e] at this
          omega
        · refine all_join (by decide +kernel) fun p hp => ?_
          obtain ⟨k,_,rfl⟩:=List.mem_map.mp hp
          have:=signs_ok ((one + (0 + (k:Int)) * (other / 7 + 1)) % 94).toNat
          simpa using this
theorem sc__law_version:FnScope ["_law_some", "_law_beat", "_law_steps", "_law_k"] ["_law_some"] (defScope s__law_version):=⟨rfl,rfl,rfl,by decide +kernel,rfl,by decide +kernel,by decide +kernel⟩
noncomputable abbrev Ok__law_version (P:Program) (w:World) (K:PySem.W.Frag) (mg:Str→Option Value) (base:Heap) (A:Adr):Prop:=FnOk P w K mg base (CX1 P w base) 3 A.f__law_version A.d__law_version ["_law_some"] (sp_ver K)
set_option maxHeartbeats 4000000 in
theorem ok__law_version (T:Txt K mg A) (G__law_words:Ok__law_words P w K mg base A):Ok__law_version P w K mg base A:=by
  have B__law_words:=T.b__law_words
  refine T.F__law_version.okN sc__law_version (fun vs H Q E h => ?_) (fun cdv Ar outer s H vs Q E hr h => ?_)
  · obtain ⟨_,a,⟨rfl,_⟩,_⟩:=h
    rfl
  · obtain ⟨hp,l,⟨rfl,hd⟩,q,_⟩:=h
    obtain ⟨d0,d1,d2,d3,d4,d5,d6,d7,hl,e0,e1,e2,e3,e4,e5,e6,e7⟩:=hd
    refine ⟨_,(pss_cons (ps_set (i:=1) sc__law_version.nd rfl (Or.inl rfl) (pe_op op_add (pe_op op_add pe_int (pe_op op_mod (pe_ix ix_list (pv 0) pe_int (fun _ _=>rfl)) pe_int)) (pe_op op_mul (pe_op op_mod (pe_op op_fdiv (pe_ix ix_list (pv 0) pe_int (fun _ _=>rfl)) pe_int) pe_int) (pe_op op_pow pe_int pe_int))))
      (pss_cons (ps_if (pt_cmpR op_eq (pe_op op_mod (pe_ix ix_list (pv 0) pe_int (fun _ _=>rfl)) pe_int) pe_int (nomark _)) (pss_one (ps_ret (pe_tup (pa_cons (pv 1) (pa_cons (pe_tup pa_nil) (pa_cons pe_str pa_nil)))))) pss_nil)
      (pss_cons (ps_set (i:=2) sc__law_version.nd rfl (Or.inl rfl) (pe_lst (pa_cons (pe_tup (pa_cons (pe_op op_sub (pe_op op_mod (pe_ix ix_list (pv 0) pe_int (fun _ _=>rfl)) pe_int) pe_int) (pa_cons (pe_op op_mod (pe_ix ix_list (pv 0) pe_int (fun _ _=>rfl)) pe_int) (pa_cons (pe_op op_add pe_int (pe_op op_mod (pe_op op_fdiv (pe_ix ix_list (pv 0) pe_int (fun _ _=>rfl)) pe_int) pe_int)) pa_nil)))) pa_nil)))
      (pss_cons (ps_for PassesOwn.never rfl (pi_range1 rfl T.n_range (pa_cons (pe_op op_mod (pe_op op_fdiv (pe_ix ix_list (pv 0) pe_int (fun _ _=>rfl)) pe_int) pe_int) pa_nil)) (pg_name (i:=3) sc__law_version.nd rfl (Or.inl rfl)) (pss_one (ps_expr (pe_bm PySem.F.plainAttrs_list PySem.F.slot_list_append PySem.F.type_list_append mt_append (pv 2) (pa_cons (pe_tup (pa_cons (pe_op op_sub (pe_op op_mod (pe_op op_fdiv (pe_ix ix_list (pv 0) pe_int (fun _ _=>rfl)) (pe_op op_add (pv 3) pe_int)) pe_int) pe_int) (pa_cons (pe_op op_add pe_int (pe_op op_mod (pe_op op_fdiv (pe_ix ix_list (pv 0) pe_int (fun _ _=>rfl)) (pe_op op_add (pv 3) pe_int)) pe_int)) (pa_cons (pe_op op_add pe_int (pe_op op_mod (pe_op op_fdiv (pe_ix ix_list (pv 0) pe_int (fun _ _=>rfl)) (pe_op op_add (pv 3) pe_int)) pe_int)) pa_nil)))) pa_nil)))))
      (pss_one (ps_ret (pe_tup (pa_cons (pv 1) (pa_cons (pe_callTy call_tuple_of rfl T.n_tuple (by decide +kernel) (pa_cons (pv 2) pa_nil)) (pa_cons (pe_call G__law_words (hr.mono (by decide)) rfl T.g__law_words T.k__law_words B__law_words .nil pass1 (pa_cons (pe_ix ix_list (pv 0) pe_int (fun _ _=>rfl)) (pa_cons (pe_ix ix_list (pv 0) pe_int (fun _ _=>rfl)) pa_nil))) pa_nil)))))))))), ?_⟩
    unfold Dig at *
    walk_at "rd"
    refine ⟨rfl,_,rfl,ite2d (fun _ => ?a) (fun _ => ?b)⟩
    case a =>
      dsimp only
      generalize 1 + d2 % 50 + d2 / 50 % 2 * 10 ^ Int.toNat 15 = b
      refine ⟨_,rfl,by show 0 ≤ sizeLine; decide,fun te hp2 => ?_⟩
      generalize hH2:upd H te (HO.tup _) = H2
      have s2:Same H H2:=hH2 ▸ same_upd hp2
      have P2:Plain H2:=hH2 ▸ hp.tup
      have h2:=(congrFun hH2 te).symm.trans upd_same
      refine ⟨by show 3 ≤ sizeLine; decide,fun t hp3 => ?_⟩
      generalize hH3:upd H2 t (HO.tup _) = H3
      have s3:Same H2 H3:=hH3 ▸ same_upd hp3
      have P3:Plain H3:=hH3 ▸ P2.tup
      have h3:=(congrFun hH3 t).symm.trans upd_same
      exact q _ _ ⟨(b,[], ""),ver_mk (v:=(b,[], "")) (SqT.of h3) (DV.same s3 _ _ (empty_dv h2)),ok_lit "",by show 0 ≤ 6; decide⟩ (s2.trans s3) P3
    case b =>
      dsimp only
      generalize 1 + d2 % 50 + d2 / 50 % 2 * 10 ^ Int.toNat 15 = b
      walk_at "rd"
      refine ⟨by show 3 ≤ sizeLine; decide,fun t1 hp1 => ?_⟩
      dsimp only
      generalize d4 % 3 - 1 = r1
      generalize d5 % 3 = r2
      generalize 1 + d5 / 3 % 3 = r3
      generalize hH1:upd H t1 (HO.tup _) = H1
      have s1:Same H H1:=hH1 ▸ same_upd hp1
      have P1:Plain H1:=hH1 ▸ hp.tup
      have h1:=(congrFun hH1 t1).symm.trans upd_same
      refine ⟨by show 1 ≤ sizeLine; decide,fun st hp4 => ?_⟩
      have S4:Same H1 (upd H1 st (.lst [.ref t1])):=same_upd hp4
      have hl1:=s1 _ _ hl
      have hl4:=S4 _ _ hl1
      have z1:=Int.emod_nonneg (d4 / 3) (show (3:Int) ≠ 0 by decide)
      have z2:=Int.emod_lt_of_pos (d4 / 3) (show (0:Int) < 3 by decide)
      refine ⟨_,rfl,_,_,_,_,rfl,rfl,SqL.of hl4,rfl,_,_,rfl,rfl,⟨by decide,by decide⟩,_,_,rfl,rfl,(by show (0:Int) < 3; decide),_,rfl,by omega,by omega,for_range (lo:=0) (n:=(d4 / 3 % 3).toNat) (fun i σ H2=>∃ (k:Option V) (xs:List V) (ss:List Stp),σ = [some (.ref l),some (.int b),some (.ref st),k]∧Plain H2∧Same H1 H2∧H2 st = some (.lst xs)∧DVs K H2 (ss.map stp) xs∧ss.length = i + 1)
        ⟨_,[.ref t1],[(r1,r2,r3)],rfl,P1.lst,S4,upd_same,⟨_,_,rfl,stp_mk (SqT.of (S4 _ _ h1)),rfl⟩,rfl⟩ ?_ ?_⟩
      · rintro i σ H2 hi ⟨k,xs,ss,rfl,hP2,hs2,hst,hds,hi2⟩
        have hl2:=hs2 _ _ hl1
        have hxl:xs.length = i + 1:=by rw [hds.length,List.length_map]; exact hi2
        have hi3:i ≤ 2:=by omega
        refine ⟨_,rfl,.inl ⟨rfl,_,SqL.of hst⟩, ?_⟩
        refine ⟨_,rfl,_,_,_,_,rfl,rfl,SqL.of hl2,rfl,_,rfl,_,_,rfl,rfl,_,_,rfl,rfl,⟨by show (0:Int) < 0 + (i:Int) + 2; omega,by show 0 + (i:Int) + 2 < 1073741824; omega⟩,_,_,rfl,rfl,(by show (0:Int) < 3; decide),_,_,rfl,rfl, ?_⟩
        refine ⟨_,rfl,_,_,_,_,rfl,rfl,SqL.of hl2,rfl,_,rfl,_,_,rfl,rfl,_,_,rfl,rfl,⟨by show (0:Int) < 0 + (i:Int) + 3; omega,by show 0 + (i:Int) + 3 < 1073741824; omega⟩,_,_,rfl,rfl,(by show (0:Int) < 2; decide),_,_,rfl,rfl, ?_⟩
        refine ⟨_,rfl,_,_,_,_,rfl,rfl,SqL.of hl2,rfl,_,rfl,_,_,rfl,rfl,_,_,rfl,rfl,⟨by show (0:Int) < 0 + (i:Int) + 5; omega,by show 0 + (i:Int) + 5 < 1073741824; omega⟩,_,_,rfl,rfl,(by show (0:Int) < 3; decide),_,_,rfl,rfl,by show 3 ≤ sizeLine; decide,fun t hp5 => ?_⟩
        dsimp only
        generalize d6 / (0 + (i:Int) + 2) % 3 - 1 = q1
        generalize 1 + d6 / (0 + (i:Int) + 3) % 2 = q2
        generalize 1 + d6 / (0 + (i:Int) + 5) % 3 = q3
        generalize hH5:upd H2 t (HO.tup _) = H5
        have s5:Same H2 H5:=hH5 ▸ same_upd hp5
        have P5:Plain H5:=hH5 ▸ hP2.tup
        have h5:=(congrFun hH5 t).symm.trans upd_same
        have hst5:=s5 _ _ hst
        refine ⟨st,_,_,rfl,rfl,hst5,small1000 (by omega), ?_⟩
        refine ⟨_,xs ++ [.ref t],ss ++ [(q1,q2,q3)],rfl,P5.lst, ?_,upd_same, ?_,by simp [hi2]⟩
        · exact fun b' o' e=>by rw [upd_ne (ne_of_none e hp4)]; exact s5 _ _ (hs2 b' o' e)
        · rw [List.map_append]
          refine DVs.mono (D:=st) (fun b' o' hb' e=>by rw [upd_ne hb']; exact e) ⟨_,hst5⟩ _ _ (by rw [← List.map_singleton, ← List.map_append]; exact noLs_stp _) ?_
          exact (DVs.same s5 _ _ hds).append ⟨_,_,rfl,stp_mk (SqT.of h5),rfl⟩
      · rintro σ H2 ⟨k,xs,ss,rfl,hP2,hs2,hst,hds,hi2⟩
        have hl2:=hs2 _ _ hl1
        refine ⟨_,rfl,_,rfl,st,xs,rfl,.inl ⟨SqL.of hst,fun pt hp6 => ?_⟩⟩
        generalize hH6:upd H2 pt (HO.tup _) = H6
        have s6:Same H2 H6:=hH6 ▸ same_upd hp6
        have P6:Plain H6:=hH6 ▸ hP2.tup
        have h6:=(congrFun hH6 pt).symm.trans upd_same
        have hl6:=s6 _ _ hl2
        refine ⟨_,rfl,_,_,_,_,rfl,rfl,SqL.of hl6,rfl,_,rfl,_,_,_,_,rfl,rfl,SqL.of hl6,rfl,P6,(d6,d7),rfl,fun v hv => ?_⟩
        obtain ⟨z,rfl,hz,hok⟩:=hv
        refine ⟨by show 3 ≤ sizeLine; decide,fun t hp7 => ?_⟩
        generalize hH7:upd H6 t (HO.tup _) = H7
        have s7:Same H6 H7:=hH7 ▸ same_upd hp7
        have P7:Plain H7:=hH7 ▸ P6.tup
        have h7:=(congrFun hH7 t).symm.trans upd_same
        refine q _ _ ⟨(b,ss,z),ver_mk (v:=(b,ss,z)) (SqT.of h7) ⟨pt,xs,rfl,SqT.of (s7 _ _ h6),DVs.same (s6.trans s7) _ _ hds⟩,hok,hz⟩ (((s1.trans hs2).trans s6).trans s7) P7
theorem sc__law_pairs:FnScope ["_law_cells", "_law_found", "_law_marks", "_law_j", "_law_cell", "_law_some", "_law_mark"] ["_law_cells"] (defScope s__law_pairs):=⟨rfl,rfl,rfl,by decide +kernel,rfl,by decide +kernel,by decide +kernel⟩
noncomputable abbrev Ok__law_pairs (P:Program) (w:World) (K:PySem.W.Frag) (mg:Str→Option Value) (base:Heap) (A:Adr):Prop:=FnOk P w K mg base (CX1 P w base) 4 A.f__law_pairs A.d__law_pairs ["_law_cells"] (sp_prs K)
set_option maxHeartbeats 4000000 in
theorem ok__law_pairs (T:Txt K mg A) (G__law_digits:Ok__law_digits P w K mg base A) (G__law_version:Ok__law_version P w K mg base A):Ok__law_pairs P w K mg base A:=by
  have B__law_digits:=T.b__law_digits
  have B__law_version:=T.b__law_version
  refine T.F__law_pairs.okN sc__law_pairs (fun vs H Q E h => ?_) (fun cdv Ar outer s H vs Q E hr h => ?_)
  · obtain ⟨_,c,xs,rfl,_⟩:=h
    rfl
  · obtain ⟨hP,c,xs,rfl,hc,hxl,hxi,q⟩:=h
    refine ⟨_,(pss_cons (ps_set (i:=1) sc__law_pairs.nd rfl (Or.inl rfl) (pe_lst pa_nil))
      (pss_cons (ps_set (i:=2) sc__law_pairs.nd rfl (Or.inl rfl) (toE pe_mnew (show _ = tMNew P w from rfl)))
      (pss_cons (ps_for PassesOwn.never rfl (pi_enum rfl T.n_enumerate (by decide +kernel) (pa_cons (pv 0) pa_nil)) (pg_tup rfl (pgs_cons (pg_name (i:=3) sc__law_pairs.nd rfl (Or.inl rfl)) (pgs_cons (pg_name (i:=4) sc__law_pairs.nd rfl (Or.inl rfl)) pgs_nil))) (pss_cons (ps_set (i:=5) sc__law_pairs.nd rfl (Or.inl rfl) (pe_call G__law_digits (hr.mono (by decide)) rfl T.g__law_digits T.k__law_digits B__law_digits .nil pass1 (pa_cons (pv 4) (pa_cons (pv 3) pa_nil))))
      (pss_cons (ps_set (i:=6) sc__law_pairs.nd rfl (Or.inl rfl) (pe_tup (pa_cons (pe_op op_mod (pe_ix ix_list (pv 5) pe_int (fun _ _=>rfl)) pe_int) (pa_cons (pe_op op_add pe_int (pe_op op_mod (pe_ix ix_list (pv 5) pe_int (fun _ _=>rfl)) pe_int)) pa_nil))))
      (pss_one (ps_if (pt_cmpR (op_notInM (hu_of hr)) (pv 6) (pv 2) (by rfl)) (pss_cons (toS (ps_mput (hu_of hr) (pv 2) (pv 6) pe_bl rfl) (show _ = sMPut P w K _ _ _ from rfl))
      (pss_one (ps_expr (pe_bm PySem.F.plainAttrs_list PySem.F.slot_list_append PySem.F.type_list_append mt_append (pv 1) (pa_cons (pe_tup (pa_cons (pv 6) (pa_cons (pe_call G__law_version (hr.mono (by decide)) rfl T.g__law_version T.k__law_version B__law_version .nil pass1 (pa_cons (pv 5) pa_nil)) pa_nil))) pa_nil))))) pss_nil)))))
      (pss_one (ps_ret (pv 1)))))), ?_⟩
    refine ⟨Nat.zero_le _,fun fl hfl => ?_⟩
    intro mk o hmk
    have s1:Same H (upd (upd H fl (.lst [])) mk (dO P w mk [] o)):=(same_upd hfl).trans (same_upd hmk)
    have hmk0:H mk = none:=(same_upd hfl).free hmk
    have nfm:fl ≠ mk:=ne_of_none upd_same hmk
    refine ⟨_,rfl,c,rfl,⟨_,SqL.of (s1 _ _ hc)⟩, ?_⟩
    refine for_enum (K:=K) (a:=c) (xs:=xs) (fun i σ H2=>∃ o1 o2 o3 o4 es ob ws ms,σ = [some (.ref c),some (.ref fl),some (.ref mk),o1,o2,o3,o4]∧Plain H2∧Same H H2∧H2 fl = some (.lst ws)∧H2 mk = some (dO P w mk es ob)∧(∀ e ∈ es,SqT K H2 e.2.1 (mkV e.1))∧es.map (·.1) = List.map (·.1) ms∧DVs K H2 (ms.map prD) ws∧(List.map (·.1) ms).Nodup∧(∀ m ∈ ms,okV m.2∧m.2.2.2.length ≤ 6∧(0 ≤ m.1.1∧m.1.1 ≤ 3)∧(1 ≤ m.1.2∧m.1.2 ≤ 20))∧ms.length ≤ i)
      ⟨_,_,_,_,[],o,[],[],rfl,Plain.ext hP.lst,s1,by rw [upd_ne nfm]; exact upd_same,upd_same,(fun e h=>by cases h),rfl,rfl,List.nodup_nil,(fun m h=>by cases h),Nat.le_refl _⟩ (fun i σ H2 _ ⟨_,_,_,_,_,_,_,_,_,_,s,_⟩=>SqL.of (s _ _ hc)) ?_ ?_
    · rintro i x T' σ H2 hx ⟨o1,o2,o3,o4,es,ob,ws,ms,rfl,hP2,hs2,hf2,hm2,hk2,hem,hw2,nd,ok,hi⟩ hT
      obtain ⟨cell,rfl⟩:=hxi x (List.mem_of_getElem? hx)
      have hix:i < xs.length:=(List.getElem?_eq_some_iff.mp hx).1
      have hesl:es.length = ms.length:=by rw [← List.length_map (·.1),hem,List.length_map]
      refine ⟨T',_,rfl,SqT.of upd_same,rfl,_,_,rfl,_,_,rfl,rfl, ?_⟩
      refine ⟨_,rfl,_,rfl,hP2.tup,(cell,i),rfl,fun l o hl ho => ?_⟩
      obtain ⟨d0,d1,d2,d3,d4,d5,d6,d7,rfl,e0,e1,e2,e3,e4,e5,e6,e7⟩:=ho
      have hP3:Plain (upd (upd H2 T' (.tup [.int i,.int cell])) l (.lst [.int d0,.int d1,.int d2,.int d3,.int d4,.int d5,.int d6,.int d7])):=hP2.tup.lst
      have hs3:Same H2 (upd (upd H2 T' (.tup [.int i,.int cell])) l (.lst [.int d0,.int d1,.int d2,.int d3,.int d4,.int d5,.int d6,.int d7])):=(same_upd hT).trans (same_upd hl)
      have hl3:(upd (upd H2 T' (.tup [.int i,.int cell])) l (.lst [.int d0,.int d1,.int d2,.int d3,.int d4,.int d5,.int d6,.int d7])) l = some (.lst [.int d0,.int d1,.int d2,.int d3,.int d4,.int d5,.int d6,.int d7]):=upd_same
      generalize upd (upd H2 T' (.tup [.int i,.int cell])) l (.lst [.int d0,.int d1,.int d2,.int d3,.int d4,.int d5,.int d6,.int d7]) = H3 at hP3 hs3 hl3 ⊢
      have dig:∀ H',H' l = some (.lst [.int d0,.int d1,.int d2,.int d3,.int d4,.int d5,.int d6,.int d7])→digL l H':=fun H' s=>⟨d0,d1,d2,d3,d4,d5,d6,d7,s,e0,e1,e2,e3,e4,e5,e6,e7⟩
      have a0:=Int.emod_nonneg d0 (show (4:Int) ≠ 0 by decide)
      have a1:=Int.emod_lt_of_pos d0 (show (0:Int) < 4 by decide)
      have b0:=Int.emod_nonneg d1 (show (20:Int) ≠ 0 by decide)
      have b1:=Int.emod_lt_of_pos d1 (show (0:Int) < 20 by decide)
      walk_at "rd"
      refine ⟨by show 2 ≤ sizeLine; decide,fun t hp4 => ?_⟩
      dsimp only
      obtain ⟨m,hm⟩:∃ m:Mark,m = (d0 % 4,1 + d1 % 20):=⟨_,rfl⟩
      have mb:(0 ≤ m.1∧m.1 ≤ 3)∧(1 ≤ m.2∧m.2 ≤ 20):=by rw [hm]; exact ⟨⟨by omega,by omega⟩,⟨by omega,by omega⟩⟩
      have hmv:[V.int (d0 % 4),V.int (1 + d1 % 20)] = mkV m:=by rw [hm]; rfl
      rw [hmv]
      generalize hH4:upd H3 t (HO.tup _) = H4
      have s4:Same H3 H4:=hH4 ▸ same_upd hp4
      have P4:Plain H4:=hH4 ▸ hP3.tup
      have h4:=(congrFun hH4 t).symm.trans upd_same
      have hf4:=s4 _ _ (hs3 _ _ hf2)
      have hm4:=s4 _ _ (hs3 _ _ hm2)
      have hk4:∀ e ∈ es,SqT K H4 e.2.1 (mkV e.1):=fun e h=>(hs3.trans s4).seqT (hk2 e h)
      have hw4:=DVs.same (hs3.trans s4) _ _ hw2
      have hl4:=s4 _ _ hl3
      have nlm:l ≠ mk:=ne_of hl4 hm4 (by intro z; cases z)
      refine ⟨_,rfl,_,rfl,t,m,mk,es,rfl,SqT.of h4,rfl,⟨⟨ob,hm4⟩,hk4⟩,_,rfl, ?_⟩
      cases hfm:findM es m with
      | some v =>
        refine iteF ?_
        exact ⟨_,_,_,_,es,ob,ws,ms,rfl,P4,(hs2.trans hs3).trans s4,hf4,hm4,hk4,hem,hw4,nd,ok,by omega⟩
      | none =>
        refine iteT ?_
        refine ⟨_,rfl,_,rfl,mk,es,t,m,rfl,⟨⟨ob,hm4⟩,hk4⟩,rfl,SqT.of h4,small1000 (by omega),fun o5 => ?_⟩
        have epm:putM es m t (.bl true) = es ++ [(m,t,.bl true)]:=by unfold putM; rw [hfm]; rfl
        rw [epm]
        have P5:Plain (upd H4 mk (dO P w mk (es ++ [(m,t,.bl true)]) o5)):=Plain.ext P4
        have hf5:(upd H4 mk (dO P w mk (es ++ [(m,t,.bl true)]) o5)) fl = some (.lst ws):=by rw [upd_ne nfm]; exact hf4
        have hm5:(upd H4 mk (dO P w mk (es ++ [(m,t,.bl true)]) o5)) mk = some (dO P w mk (es ++ [(m,t,.bl true)]) o5):=upd_same
        have hk5:∀ e ∈ es ++ [(m,t,V.bl true)],SqT K (upd H4 mk (dO P w mk (es ++ [(m,t,.bl true)]) o5)) e.2.1 (mkV e.1):=fun e h=>by
          rcases List.mem_append.mp h with h | h
          · exact sqT_other hm4 (noT_ext _) (hk4 e h)
          · rw [List.mem_singleton.mp h]; exact sqT_other hm4 (noT_ext _) (SqT.of h4)
        have hw5:DVs K (upd H4 mk (dO P w mk (es ++ [(m,t,.bl true)]) o5)) (ms.map prD) ws:=dvs_other hm4 (noT_ext _) _ _ (noLs_pr ms) hw4
        have hl5:(upd H4 mk (dO P w mk (es ++ [(m,t,.bl true)]) o5)) l = some (.lst [.int d0,.int d1,.int d2,.int d3,.int d4,.int d5,.int d6,.int d7]):=by rw [upd_ne nlm]; exact hl4
        have s5:Same H (upd H4 mk (dO P w mk (es ++ [(m,t,.bl true)]) o5)):=fun b z e=>by rw [upd_ne (ne_of_none e hmk0)]; exact s4 _ _ (hs3 _ _ (hs2 _ _ e))
        have ht5:SqT K (upd H4 mk (dO P w mk (es ++ [(m,t,.bl true)]) o5)) t (mkV m):=sqT_other hm4 (noT_ext _) (SqT.of h4)
        refine ⟨_,rfl,.inl ⟨rfl,_,SqL.of hf5⟩,_,rfl,_,rfl,P5,l,⟨rfl,dig _ hl5⟩,fun x H6 hx6 s6 P6 => ?_,fun _ _ h=>h.elim⟩
        obtain ⟨v,hv6,okv,hvl⟩:=hx6
        refine ⟨by show 2 ≤ sizeLine; decide,fun t2 hp7 => ?_⟩
        generalize hH7:upd H6 t2 (HO.tup _) = H7
        have s7:Same H6 H7:=hH7 ▸ same_upd hp7
        have P7:Plain H7:=hH7 ▸ P6.tup
        have h7:=(congrFun hH7 t2).symm.trans upd_same
        have hf7:=s7 _ _ (s6 _ _ hf5)
        have hm7:=s7 _ _ (s6 _ _ hm5)
        have hwl:ws.length = ms.length:=by rw [hw4.length,List.length_map]
        refine ⟨fl,ws,_,rfl,rfl,hf7,small1000 (by omega), ?_⟩
        have hnm:m ∉ es.map (·.1):=fun z=>by have:=find_some z; rw [hfm] at this; cases this
        refine ⟨_,_,_,_,es ++ [(m,t,.bl true)],o5,ws ++ [.ref t2],ms ++ [(m,v)],rfl,P7.lst,fun b z e => ?_,upd_same,by rw [upd_ne nfm.symm]; exact hm7,fun e h => ?_, ?_, ?_, ?_, ?_,by simp; omega⟩
        · rw [upd_ne (ne_of_none e hfl)]; exact s7 _ _ (s6 _ _ (s5 _ _ e))
        · exact sqT_other hf7 (noT_lst _) ((s6.trans s7).seqT (hk5 e h))
        · rw [List.map_append,List.map_append,hem]; rfl
        · refine dvs_other hf7 (noT_lst _) _ _ (noLs_pr _) ?_
          rw [List.map_append]
          refine (DVs.same (s6.trans s7) _ _ hw5).append ⟨_,_,rfl,⟨t2,_,rfl,SqT.of h7,_,_,rfl,mkV_dv ((s6.trans s7).seqT ht5),_,_,rfl,DV.same s7 _ _ hv6,rfl⟩,rfl⟩
        · rw [List.map_append]
          refine List.nodup_append.mpr ⟨nd,List.nodup_cons.mpr ⟨by simp,List.nodup_nil⟩,fun x hx y hy z => ?_⟩
          rw [← hem] at hx
          exact hnm ((show x = m from z.trans (List.mem_singleton.mp hy)) ▸ hx)
        · intro y hy
          rcases List.mem_append.mp hy with hy | hy
          · exact ok y hy
          · rw [List.mem_singleton.mp hy]; exact ⟨okv,hvl,mb⟩
    · rintro σ H2 ⟨o1,o2,o3,o4,es,ob,ws,ms,rfl,hP2,hs2,hf2,hm2,hk2,hem,hw2,nd,ok,hi⟩
      exact ⟨_,rfl,q H2 fl ws ms hs2 hP2 hf2 hw2 ⟨nd,ok,by omega⟩ hi⟩
theorem sc__law_bent:FnScope ["_law_pairs_here", "_law_cells", "_law_by", "_law_versions", "_law_mark", "_law_version_here", "_law_j", "_law_cell", "_law_some"] ["_law_pairs_here", "_law_cells", "_law_by"] (defScope s__law_bent):=⟨rfl,rfl,rfl,by decide +kernel,rfl,by decide +kernel,by decide +kernel⟩
noncomputable abbrev Ok__law_bent (P:Program) (w:World) (K:PySem.W.Frag) (mg:Str→Option Value) (base:Heap) (A:Adr):Prop:=FnOk P w K mg base (CX1 P w base) 4 A.f__law_bent A.d__law_bent ["_law_pairs_here", "_law_cells", "_law_by"] (sp_bnt K)
set_option maxHeartbeats 4000000 in
theorem ok__law_bent (T:Txt K mg A) (G__law_digits:Ok__law_digits P w K mg base A) (G__law_version:Ok__law_version P w K mg base A):Ok__law_bent P w K mg base A:=by
  have B__law_digits:=T.b__law_digits
  have B__law_version:=T.b__law_version
  refine T.F__law_bent.okN sc__law_bent (fun vs H Q E h => ?_) (fun cdv Ar outer s H vs Q E hr h => ?_)
  · obtain ⟨_,p,c,by_,ws,xs,ms,rfl,_⟩:=h
    rfl
  · obtain ⟨hP,p,c,by_,ws,xs,ms,rfl,hp,hw,okm,okw0,bm,hc,hxi,few,q⟩:=h
    refine ⟨_,(pss_cons (ps_set (i:=3) sc__law_bent.nd rfl (Or.inr rfl) (toE pe_mnew (show _ = tMNew P w from rfl)))
      (pss_cons (ps_for PassesOwn.never rfl (pi_list (pv 0)) (pg_tup rfl (pgs_cons (pg_name (i:=4) sc__law_bent.nd rfl (Or.inl rfl)) (pgs_cons (pg_name (i:=5) sc__law_bent.nd rfl (Or.inl rfl)) pgs_nil))) (pss_one (toS (ps_mput (hu_of hr) (pv 3) (pv 4) (pv 5) rfl) (show _ = sMPut P w K _ _ _ from rfl))))
      (pss_cons (ps_for PassesOwn.never rfl (pi_enum rfl T.n_enumerate (by decide +kernel) (pa_cons (pv 1) pa_nil)) (pg_tup rfl (pgs_cons (pg_name (i:=6) sc__law_bent.nd rfl (Or.inl rfl)) (pgs_cons (pg_name (i:=7) sc__law_bent.nd rfl (Or.inl rfl)) pgs_nil))) (pss_cons (ps_set (i:=8) sc__law_bent.nd rfl (Or.inl rfl) (pe_call G__law_digits (hr.mono (by decide)) rfl T.g__law_digits T.k__law_digits B__law_digits .nil pass1 (pa_cons (pv 7) (pa_cons (pe_op op_add (pv 6) (pv 2)) pa_nil))))
      (pss_cons (ps_set (i:=4) sc__law_bent.nd rfl (Or.inl rfl) (pe_tup (pa_cons (pe_op op_mod (pe_ix ix_list (pv 8) pe_int (fun _ _=>rfl)) pe_int) (pa_cons (pe_op op_add pe_int (pe_op op_mod (pe_ix ix_list (pv 8) pe_int (fun _ _=>rfl)) pe_int)) pa_nil))))
      (pss_cons (ps_if (PW.pt (pw_and (pt_cmpR (op_neE hr.u100) (pv 3) (toE pe_mnew (show _ = tMNew P w from rfl)) (nomark _)) (pw_and1 (pt_cmpR op_eq (pe_op op_mod (pe_ix ix_list (pv 8) pe_int (fun _ _=>rfl)) pe_int) pe_int (nomark _))))) (pss_one (ps_set (i:=4) sc__law_bent.nd rfl (Or.inl rfl) (pe_ix ix_list (pe_callB (call_sortedK rfl hr.u100) rfl T.n_sorted (by decide +kernel) (pa_cons (pv 3) pa_nil)) (pe_op op_mod (pe_ix ix_list (pv 8) pe_int (fun _ _=>rfl)) (pe_callB call_lenM rfl T.n_len (by decide +kernel) (pa_cons (pv 3) pa_nil))) (fun _ _=>rfl)))) pss_nil)
      (pss_cons (ps_set (i:=5) sc__law_bent.nd rfl (Or.inl rfl) (pe_call G__law_version (hr.mono (by decide)) rfl T.g__law_version T.k__law_version B__law_version .nil pass1 (pa_cons (pv 8) pa_nil)))
      (pss_cons (ps_if (PW.pt (pw_and (pt_cmpR op_eq (pe_op op_mod (pe_ix ix_list (pv 8) pe_int (fun _ _=>rfl)) pe_int) pe_int (nomark _)) (pw_and1 (pt_cmpR (op_inM (hu_of hr)) (pv 4) (pv 3) (by rfl))))) (pss_one (ps_set (i:=5) sc__law_bent.nd rfl (Or.inl rfl) (pe_tup (pa_cons (pe_op op_add (pe_op op_add (pe_ix ix_tup (pe_ix (ix_M (hu_of hr)) (pv 3) (pv 4) (fun _ _=>rfl)) pe_int (fun _ _=>rfl)) pe_int) (pe_op op_mod (pe_ix ix_list (pv 8) pe_int (fun _ _=>rfl)) pe_int)) (pa_cons (pe_ix ix_tup (pe_ix (ix_M (hu_of hr)) (pv 3) (pv 4) (fun _ _=>rfl)) pe_int (fun _ _=>rfl)) (pa_cons (pe_ix ix_tup (pe_ix (ix_M (hu_of hr)) (pv 3) (pv 4) (fun _ _=>rfl)) pe_int (fun _ _=>rfl)) pa_nil)))))) pss_nil)
      (pss_cons (toS (ps_mput (hu_of hr) (pv 3) (pv 4) (pv 5) rfl) (show _ = sMPut P w K _ _ _ from rfl))
      (pss_one (ps_if (pt_cmpR op_eq (pe_op op_mod (pe_ix ix_list (pv 8) pe_int (fun _ _=>rfl)) pe_int) pe_int (nomark _)) (pss_one (ps_expr (toE (pe_mpop1 (hu_of hr) (pv 3) (pv 4)) (show _ = tMPop P w K _ _ _ from rfl)))) pss_nil)))))))))
      (pss_one (ps_ret (pe_comp ["_law_mark", "_law_versions"] 1 [3] rfl (pi_list (pe_callB (call_sortedK rfl hr.u100) rfl T.n_sorted (by decide +kernel) (pa_cons (pv 3) pa_nil))) gk1 (fun _ _ _ _ _=>pg_name (i:=0) (show List.Nodup (["_law_mark", "_law_versions"]:List Str) by decide +kernel) rfl (Or.inl rfl)) (fun _ _ _ _ _=>pif_nil) (fun _ _ _ _ _=>(pe_tup (pa_cons (pv 0) (pa_cons (pe_ix (ix_MK (P:=P) (w:=w) (K:=K) rfl rfl rfl (hu_of hr)) (pv 1) (pv 0) (fun _ _=>rfl)) pa_nil)))))))))), ?_⟩
    refine fun d o hd0 => ?_
    have s1:Same H (upd H d (dO P w d [] o)):=same_upd hd0
    have P1:Plain (upd H d (dO P w d [] o)):=Plain.ext hP
    have h1:(upd H d (dO P w d [] o)) d = some (dO P w d [] o):=upd_same
    generalize upd H d (dO P w d [] o) = H1 at s1 P1 h1 ⊢
    have hwl:ws.length = ms.length:=by rw [hw.length,List.length_map]
    refine ⟨_,rfl,p,rfl,⟨_,s1.seq hp⟩,for_list (K:=K) (a:=p) (xs:=ws) (fun i σ H2=>∃ (o4 o5 o6 o7 o8:Option V) (es:List Ent) (ob:Obj) (ns:Sh),σ = [some (.ref p),some (.ref c),some (.int by_),some (.ref d),o4,o5,o6,o7,o8]∧Plain H2∧Same H H2∧H2 d = some (dO P w d es ob)∧EnS K H2 es ns∧okSh ns∧okW ns∧ns.length ≤ i∧∀ m,m ∈ mks ns ↔ m ∈ mks (ms.take i))
      ⟨_,_,_,_,_,[],o,[],rfl,P1,s1,h1,.nil,⟨(fun m h=>by cases h),List.nodup_nil⟩,(fun m h=>by cases h),Nat.le_refl _,fun m=>Iff.rfl⟩ (fun i σ H2 _ ⟨_,_,_,_,_,_,_,_,_,_,s,_⟩=>s.seq hp) ?_ ?_⟩
    · rintro i y σ H2 hy ⟨o4,o5,o6,o7,o8,es,ob,ns,rfl,P2,S2,hd2,he2,okn,okw,hnl,hmem⟩
      have hi:i < ms.length:=by have:=(List.getElem?_eq_some_iff.mp hy).1; omega
      obtain ⟨y',hy',hyd⟩:=(DVs.same S2 _ _ hw).get (i:=i) (d:=prD ms[i]) (by rw [List.getElem?_map,List.getElem?_eq_getElem hi]; rfl)
      rw [hy] at hy'
      cases hy'
      obtain ⟨t,q1,vx,rfl,ht,hq1,hvx⟩:=prD_of hyd
      refine ⟨t,_,rfl,ht,rfl,_,_,rfl,_,_,rfl,rfl, ?_⟩
      have ky:∀ e ∈ es,SqT K H2 e.2.1 (mkV e.1):=fun e h=>(ens_val he2 e h).1
      have hel:es.length = ns.length:=Paired.length he2
      refine ⟨_,rfl,_,rfl,_,rfl,d,es,q1,ms[i].1,rfl,⟨⟨ob,hd2⟩,ky⟩,rfl,hq1,small1000 (by omega),fun o' => ?_⟩
      have hl':=putS_len ns ms[i].1 ms[i].2
      exact ⟨_,_,_,_,_,putM es ms[i].1 q1 vx,o',putS ns ms[i].1 ms[i].2,rfl,Plain.ext P2,fun b z e=>by rw [upd_ne (ne_of_none e hd0)]; exact S2 _ _ e,upd_same,ens_upd hd2 (ens_putS he2 hq1 hvx),⟨putS_ok okn.1 _ (okm.1 _ (List.getElem_mem hi)),putS_nd okn.2 _ _⟩,okW_put okw (okw0 _ (List.getElem_mem hi)),by omega,fun m=>by
        rw [List.take_succ_eq_append_getElem hi]
        exact putS_iff.trans ((or_congr Iff.rfl (hmem m)).trans (Or.comm.trans (mks_snoc _ _ _).symm))⟩
    rintro σ H2 ⟨o4,o5,o6,o7,o8,es2,ob2,ns2,rfl,P2,S2,hd2,he2,okn2,okw2,hnl2,hmem2⟩
    rw [hwl,List.take_length] at hmem2
    refine ⟨_,rfl,c,rfl,⟨_,SqL.of (S2 _ _ hc)⟩,for_enum (K:=K) (a:=c) (xs:=xs) (fun i σ H3=>∃ (o4 o5 o6 o7 o8:Option V) (es:List Ent) (ob:Obj) (ns:Sh),σ = [some (.ref p),some (.ref c),some (.int by_),some (.ref d),o4,o5,o6,o7,o8]∧Plain H3∧Same H H3∧H3 d = some (dO P w d es ob)∧EnS K H3 es ns∧okSh ns∧okW ns∧ns.length ≤ ms.length + i∧inBox (mks ns)∧∃ Ex:List Mark,Ex.length ≤ i∧∀ m,m ∉ Ex→(m ∈ mks ns ↔ m ∈ mks ms))
      ⟨_,_,_,_,_,es2,ob2,ns2,rfl,P2,S2,hd2,he2,okn2,okw2,by omega,fun k hk=>bm k ((hmem2 k).mp hk),[],Nat.zero_le _,fun m _=>hmem2 m⟩ (fun i σ H3 _ ⟨_,_,_,_,_,_,_,_,_,_,s,_⟩=>SqL.of (s _ _ hc)) ?_ ?_⟩
    · rintro i x T' σ H3 hx ⟨o4,o5,o6,o7,o8,es,ob,ns,rfl,P3,S3,hd3,he3,okn,okw,hnl,bn,Ex,hEx,hMx⟩ hT
      obtain ⟨cell,rfl⟩:=hxi x (List.mem_of_getElem? hx)
      have hix:i < xs.length:=(List.getElem?_eq_some_iff.mp hx).1
      have hel:es.length = ns.length:=Paired.length he3
      refine ⟨T',_,rfl,SqT.of upd_same,rfl,_,_,rfl,_,_,rfl,rfl, ?_⟩
      refine ⟨_,rfl,_,rfl,_,rfl,_,_,rfl,rfl,P3.tup,(cell,(i:Int) + by_),rfl,fun l ol hl ho => ?_⟩
      obtain ⟨d0,d1,d2,d3,d4,d5,d6,d7,rfl,e0,e1,e2,e3,e4,e5,e6,e7⟩:=ho
      have P4:Plain (upd (upd H3 T' (.tup [.int i,.int cell])) l (.lst [.int d0,.int d1,.int d2,.int d3,.int d4,.int d5,.int d6,.int d7])):=P3.tup.lst
      have s4:Same H3 (upd (upd H3 T' (.tup [.int i,.int cell])) l (.lst [.int d0,.int d1,.int d2,.int d3,.int d4,.int d5,.int d6,.int d7])):=(same_upd hT).trans (same_upd hl)
      have hl4:(upd (upd H3 T' (.tup [.int i,.int cell])) l (.lst [.int d0,.int d1,.int d2,.int d3,.int d4,.int d5,.int d6,.int d7])) l = some (.lst [.int d0,.int d1,.int d2,.int d3,.int d4,.int d5,.int d6,.int d7]):=upd_same
      generalize upd (upd H3 T' (.tup [.int i,.int cell])) l (.lst [.int d0,.int d1,.int d2,.int d3,.int d4,.int d5,.int d6,.int d7]) = H4 at P4 s4 hl4 ⊢
      have dig:∀ H',H' l = some (.lst [.int d0,.int d1,.int d2,.int d3,.int d4,.int d5,.int d6,.int d7])→digL l H':=fun H' s=>⟨d0,d1,d2,d3,d4,d5,d6,d7,s,e0,e1,e2,e3,e4,e5,e6,e7⟩
      walk_at "rd"
      refine ⟨by show 2 ≤ sizeLine; decide,fun t hp5 => ?_⟩
      dsimp only
      obtain ⟨m,hm⟩:∃ m:Mark,m = (d0 % 4,1 + d1 % 20):=⟨_,rfl⟩
      have a0:=Int.emod_nonneg d0 (show (4:Int) ≠ 0 by decide)
      have a1:=Int.emod_lt_of_pos d0 (show (0:Int) < 4 by decide)
      have b0:=Int.emod_nonneg d1 (show (20:Int) ≠ 0 by decide)
      have b1:=Int.emod_lt_of_pos d1 (show (0:Int) < 20 by decide)
      have hmb:m ∈ boxM 4 21:=by
        rw [hm]
        exact mem_box (by show (0:Int) ≤ d0 % 4; omega) (by show d0 % 4 < 4; omega) (by show (0:Int) ≤ 1 + d1 % 20; omega) (by show 1 + d1 % 20 < 21; omega)
      have hmv:[V.int (d0 % 4),V.int (1 + d1 % 20)] = mkV m:=by rw [hm]; rfl
      rw [hmv]
      generalize hH5:upd H4 t (HO.tup _) = H5
      have s5:Same H4 H5:=hH5 ▸ same_upd hp5
      have P5:Plain H5:=hH5 ▸ P4.tup
      have h5:=(congrFun hH5 t).symm.trans upd_same
      have S35:Same H3 H5:=s4.trans s5
      apply join2 (α:=Addr) (β:=Hp) (ok:=fun q' H'=>Plain H'∧Same H5 H'∧∃ m',SqT K H' q' (mkV m')∧m' ∈ boxM 4 21)
      · intro go
        refine ⟨_,rfl,fun nd no hnd => ?_⟩
        have s6:Same H5 (upd H5 nd (dO P w nd [] no)):=same_upd hnd
        have P6:Plain (upd H5 nd (dO P w nd [] no)):=Plain.ext P5
        have h6:(upd H5 nd (dO P w nd [] no)) nd = some (dO P w nd [] no):=upd_same
        generalize upd H5 nd (dO P w nd [] no) = H6 at s6 P6 h6 ⊢
        have hd6:=s6 _ _ (S35 _ _ hd3)
        have S36:=S35.trans s6
        refine ⟨d,nd,es,ob,no,rfl,rfl,hd6,h6,_,rfl, ?_⟩
        by_cases hes:es = []
        · rw [decide_eq_true hes]
          refine iteF (iteF ?_)
          obtain ⟨z,hz⟩:∃ z,z = t:=⟨_,rfl⟩
          rw [← hz]
          exact go z H6 ⟨P6,s6,m,by rw [hz]; exact SqT.of (s6 _ _ h5),hmb⟩
        · rw [decide_eq_false hes]
          refine iteT ?_
          have hl6:=s6 _ _ (s5 _ _ hl4)
          refine ⟨_,rfl,_,_,_,_,rfl,rfl,SqL.of hl6,rfl,_,_,rfl,rfl,(by show (0:Int) < 2; decide),rfl,_,rfl,ite2d (fun _ => ?_) (fun _ => ?_)⟩
          · have hep:0 < es.length:=List.length_pos_iff.mpr hes
            refine ⟨_,rfl,d,es,ob,rfl,hd6,(fun e h=>S36.seqT (ens_val he3 e h).1),(by rw [ens_marks he3]; exact okn.2),by omega,fun sl ks ws2 hsl pmk pwk hwk => ?_⟩
            have s7:Same H6 (upd H6 sl (.lst ws2)):=same_upd hsl
            have P7:Plain (upd H6 sl (.lst ws2)):=P6.lst
            have h7:(upd H6 sl (.lst ws2)) sl = some (.lst ws2):=upd_same
            generalize upd H6 sl (.lst ws2) = H7 at s7 P7 h7 ⊢
            have y1:=Int.emod_nonneg d1 (show (es.length:Int) ≠ 0 by omega)
            have y2:=Int.emod_lt_of_pos d1 (show (0:Int) < (es.length:Int) by omega)
            obtain ⟨jn,hjn⟩:∃ jn:Nat,d1 % (es.length:Int) = jn:=⟨(d1 % (es.length:Int)).toNat,by omega⟩
            have hkl:ks.length = es.length:=by rw [pmk.length_eq,List.length_map]
            have hjl:jn < ks.length:=by omega
            obtain ⟨z,hz,hzd⟩:=(DVs.same s7 _ _ hwk).get (i:=jn) (d:=L2.markD ks[jn]) (by rw [List.getElem?_map,List.getElem?_eq_getElem hjl]; rfl)
            obtain ⟨q1,rfl,hq1⟩:=mark_of hzd
            refine ⟨_,rfl,_,_,_,_,rfl,rfl,SqL.of (s7 _ _ hl6),rfl,_,rfl,d,es,ob,rfl,s7 _ _ hd6,_,_,rfl,rfl,(by show (0:Int) < (es.length:Int); omega),sl,ws2,_,_,rfl,rfl,SqL.of h7,(by show atI ws2 (d1 % (es.length:Int)) = _; rw [hjn]; exact atI_nat hz), ?_⟩
            exact go q1 H7 ⟨P7,s6.trans s7,ks[jn],hq1,bn _ (show ks[jn] ∈ List.map (·.1) ns by rw [← ens_marks he3]; exact pmk.mem_iff.mp (List.getElem_mem hjl))⟩
          · exact go t H6 ⟨P6,s6,m,SqT.of (s6 _ _ h5),hmb⟩
      rintro q1 H6 ⟨P6,s6,m1,hm1,hm1b⟩
      have S36:=S35.trans s6
      have hl6:=s6 _ _ (s5 _ _ hl4)
      refine ⟨_,rfl,P6,l,⟨rfl,dig _ hl6⟩,fun x H7 hx7 s7 P7 => ?_,fun _ _ h=>h.elim⟩
      obtain ⟨v,hv7,okv,hvl⟩:=hx7
      have S37:=S36.trans s7
      have hl7:=s7 _ _ hl6
      have hd7:=S37 _ _ hd3
      have he7:=ens_same S37 he3
      have hm7:=s7.seqT hm1
      have ky7:∀ e ∈ es,SqT K H7 e.2.1 (mkV e.1):=fun e h=>(ens_val he7 e h).1
      apply join2 (α:=V) (β:=Hp) (ok:=fun y H'=>Plain H'∧Same H7 H'∧∃ v',DV K H' (ver v') y∧okV v'∧v'.2.2.length ≤ 6)
      · intro go
        refine ⟨_,rfl,_,_,_,_,rfl,rfl,SqL.of hl7,rfl,_,_,rfl,rfl,(by show (0:Int) < 5; decide),rfl,_,rfl,ite2d (fun _ => ?a) (fun _ => ?b)⟩
        case b =>
          refine iteF ?_
          obtain ⟨z,hz⟩:∃ z,z = x:=⟨_,rfl⟩
          obtain ⟨Hz,hHz⟩:∃ Hz,Hz = H7:=⟨_,rfl⟩
          rw [← hz, ← hHz]
          exact go z Hz ⟨by rw [hHz]; exact P7,by rw [hHz]; exact Same.refl _,v,by rw [hHz,hz]; exact hv7,okv,hvl⟩
        refine ⟨_,rfl,_,rfl,q1,m1,d,es,rfl,hm7,rfl,⟨⟨ob,hd7⟩,ky7⟩,_,rfl, ?_⟩
        cases hfm:findM es m1 with
        | none=>exact iteF (go x H7 ⟨P7,Same.refl _,v,hv7,okv,hvl⟩)
        | some z =>
          refine iteT ?_
          obtain ⟨v0,hv0,hz0⟩:=ens_has he7 okn.2 hfm
          obtain ⟨tv,pvv,rfl,hqv,hplc⟩:=ver_of hz0
          refine ⟨_,rfl,_,rfl,d,es,q1,m1,_,rfl,⟨⟨ob,hd7⟩,ky7⟩,rfl,hm7,hfm,tv,_,_,_,rfl,rfl,hqv,rfl,_,_,rfl,rfl, ?_⟩
          refine ⟨_,rfl,_,_,_,_,rfl,rfl,SqL.of hl7,rfl,_,_,rfl,rfl,(by show (0:Int) < 3; decide),_,_,rfl,rfl, ?_⟩
          refine ⟨_,rfl,_,rfl,d,es,q1,m1,_,rfl,⟨⟨ob,hd7⟩,ky7⟩,rfl,hm7,hfm,tv,_,_,_,rfl,rfl,hqv,rfl, ?_⟩
          refine ⟨_,rfl,_,rfl,d,es,q1,m1,_,rfl,⟨⟨ob,hd7⟩,ky7⟩,rfl,hm7,hfm,tv,_,_,_,rfl,rfl,hqv,rfl, ?_⟩
          refine ⟨by show 3 ≤ sizeLine; decide,fun t9 hp9 => ?_⟩
          dsimp only
          generalize hH9:upd H7 t9 (HO.tup _) = H9
          have s9:Same H7 H9:=hH9 ▸ same_upd hp9
          have P9:Plain H9:=hH9 ▸ P7.tup
          have h9:=(congrFun hH9 t9).symm.trans upd_same
          obtain ⟨y,hy⟩:∃ y,y = V.ref t9:=⟨_,rfl⟩
          rw [← hy]
          exact go y H9 ⟨P9,s9,(v0.1 + 1 + d4 % 3,v0.2),by rw [hy]; exact ver_mk (v:=(v0.1 + 1 + d4 % 3,v0.2)) (SqT.of h9) (DV.same s9 _ _ hplc),okn.1 _ hv0,okw _ hv0⟩
      rintro x8 H8 ⟨P8,s8,v8,hv8,okv8,lv8⟩
      have S38:=S37.trans s8
      have hl8:=s8 _ _ hl7
      have hd8:=S38 _ _ hd3
      have he8:=ens_same S38 he3
      have hm8:=s8.seqT hm7
      have ky8:∀ e ∈ es,SqT K H8 e.2.1 (mkV e.1):=fun e h=>(ens_val he8 e h).1
      refine ⟨_,rfl,_,rfl,_,rfl,d,es,q1,m1,rfl,⟨⟨ob,hd8⟩,ky8⟩,rfl,hm8,small1000 (by omega),fun o9 => ?_⟩
      obtain ⟨ns',hns'⟩:∃ ns',ns' = putS ns m1 v8:=⟨_,rfl⟩
      have he':EnS K H8 (putM es m1 q1 x8) ns':=by rw [hns']; exact ens_putS he8 hm8 hv8
      have nd':(mks ns').Nodup:=by rw [hns']; exact putS_nd okn.2 _ _
      have okw':okW ns':=by rw [hns']; exact okW_put okw lv8
      have ok':∀ n ∈ ns',okV n.2:=by rw [hns']; exact putS_ok okn.1 _ okv8
      have hl':ns'.length ≤ ns.length + 1:=by rw [hns']; exact putS_len _ _ _
      have bn':inBox (mks ns'):=fun k hk=>by
        rw [hns'] at hk
        rcases putS_mem hk with rfl | hk
        · exact hm1b
        · exact bn _ hk
      have hEx':(Ex ++ [m1]).length ≤ i + 1:=by rw [List.length_append,List.length_singleton]; omega
      have hMx':∀ m,m ∉ Ex ++ [m1]→(m ∈ mks ns' ↔ m ∈ mks ms):=fun m hm=>by
        have h1:m ∉ Ex:=fun z=>hm (List.mem_append_left _ z)
        have h2:m ≠ m1:=fun z=>hm (List.mem_append_right _ (List.mem_singleton.mpr z))
        rw [hns',putS_iff, ← hMx m h1]
        exact ⟨fun z=>z.resolve_left h2,.inr⟩
      have nld:l ≠ d:=ne_of hl8 hd8 (by intro z; cases z)
      have P9:Plain (upd H8 d (dO P w d (putM es m1 q1 x8) o9)):=Plain.ext P8
      have hd9:(upd H8 d (dO P w d (putM es m1 q1 x8) o9)) d = some (dO P w d (putM es m1 q1 x8) o9):=upd_same
      have he9:=ens_upd (x:=dO P w d (putM es m1 q1 x8) o9) hd8 he'
      have hm9:SqT K (upd H8 d (dO P w d (putM es m1 q1 x8) o9)) q1 (mkV m1):=sqT_other hd8 (noT_ext _) hm8
      have hl9:(upd H8 d (dO P w d (putM es m1 q1 x8) o9)) l = some (.lst [.int d0,.int d1,.int d2,.int d3,.int d4,.int d5,.int d6,.int d7]):=by rw [upd_ne nld]; exact hl8
      have S9:Same H (upd H8 d (dO P w d (putM es m1 q1 x8) o9)):=fun b z e=>by rw [upd_ne (ne_of_none e hd0)]; exact S38 _ _ (S3 _ _ e)
      generalize upd H8 d (dO P w d (putM es m1 q1 x8) o9) = H9 at P9 hd9 he9 hm9 hl9 S9 ⊢
      have ky9:∀ e ∈ putM es m1 q1 x8,SqT K H9 e.2.1 (mkV e.1):=fun e h=>(ens_val he9 e h).1
      have hel9:(putM es m1 q1 x8).length = ns'.length:=Paired.length he9
      refine ⟨_,rfl,_,_,_,_,rfl,rfl,SqL.of hl9,rfl,_,_,rfl,rfl,(by show (0:Int) < 7; decide),rfl,_,rfl,ite2d (fun _ => ?_) (fun _ => ?_)⟩
      · refine ⟨_,rfl,d,putM es m1 q1 x8,rfl,⟨⟨o9,hd9⟩,ky9⟩,_,rfl,q1,m1,rfl,⟨⟨o9,hd9⟩,ky9⟩,hm9,by omega,fun v hv o2 => ?_,fun z=>by obtain ⟨u,hu⟩:=find_put (es:=es) (m:=m1) (q:=q1) (v:=x8); rw [hu] at z; cases z⟩
        refine ⟨_,_,_,_,_,dropM (putM es m1 q1 x8) m1,o2,ns'.filter fun n => !decide (n.1 = m1),rfl,Plain.ext P9,fun b z e=>by rw [upd_ne (ne_of_none e hd0)]; exact S9 _ _ e,upd_same,ens_upd hd9 (ens_drop m1 he9),⟨fun y hy=>ok' y (List.mem_filter.mp hy).1,(show (List.map (fun x:Mark × Ver=>x.1) (ns'.filter fun n => !decide (n.1 = m1))).Nodup from List.Nodup.sublist ((List.filter_sublist (l:=ns')).map (fun x:Mark × Ver=>x.1)) nd')⟩,(fun y hy=>okw' y (List.mem_filter.mp hy).1), ?_⟩
        have:=List.length_filter_le (fun n:Mark × Ver => !decide (n.1 = m1)) ns'
        refine ⟨by omega,fun k hk => ?_,Ex ++ [m1],hEx',fun m hm => ?_⟩
        · obtain ⟨z,hz,rfl⟩:=List.mem_map.mp hk
          exact bn' _ (List.mem_map_of_mem (f:=fun x:Mark × Ver=>x.1) (List.mem_filter.mp hz).1)
        · rw [← hMx' m hm]
          have h2:m ≠ m1:=fun z=>hm (List.mem_append_right _ (List.mem_singleton.mpr z))
          constructor
          · intro hk
            obtain ⟨z,hz,rfl⟩:=List.mem_map.mp hk
            exact List.mem_map_of_mem (f:=fun x:Mark × Ver=>x.1) (List.mem_filter.mp hz).1
          · intro hk
            obtain ⟨z,hz,rfl⟩:=List.mem_map.mp hk
            exact List.mem_map_of_mem (f:=fun x:Mark × Ver=>x.1) (List.mem_filter.mpr ⟨hz,by simpa using h2⟩)
      · exact ⟨_,_,_,_,_,putM es m1 q1 x8,o9,ns',rfl,P9,S9,hd9,he9,⟨ok',nd'⟩,okw',by omega,bn',Ex ++ [m1],hEx',hMx'⟩
    rintro σ H3 ⟨o4,o5,o6,o7,o8,es,ob,ns,rfl,P3,S3,hd3,he3,okn,okw,hnl,bn,Ex,hEx,hMx⟩
    have hel:es.length = ns.length:=Paired.length he3
    have emk:=ens_marks he3
    refine ⟨_,rfl,d,es,ob,rfl,hd3,(fun e h=>(ens_val he3 e h).1),(by rw [emk]; exact okn.2),by omega,fun sl ks ws2 hsl pmk pwk hwk => ?_⟩
    have s4:Same H3 (upd H3 sl (.lst ws2)):=same_upd hsl
    have P4:Plain (upd H3 sl (.lst ws2)):=P3.lst
    have h4:(upd H3 sl (.lst ws2)) sl = some (.lst ws2):=upd_same
    generalize upd H3 sl (.lst ws2) = H4 at s4 P4 h4 ⊢
    have S4:=S3.trans s4
    have hw4:=DVs.same s4 _ _ hwk
    have hkl:ks.length = ns.length:=by rw [pmk.length_eq,List.length_map,hel]
    have hwl2:ws2.length = ks.length:=by rw [hw4.length,List.length_map]
    have pmn:ks.Perm (List.map (·.1) ns):=by rw [← emk]; exact pmk
    have hin:∀ (i:Nat) (h:i < ks.length),∃ v,(ks[i],v) ∈ ns:=fun i h=>mem_mks (pmn.mem_iff.mp (List.getElem_mem h))
    refine ⟨sl,rfl,⟨_,SqL.of h4⟩,fun D hD=>comp_gen (fun i=>ws2.getD i .non) (fun i y H=>∀ m,(toSh ns ks)[i]? = some m→DV K H (prD m) y) hD P4 (n:=ws2.length) (Nat.le_of_lt (small1000 (by omega))) (itl_ok (SqL.of h4)) ?_ ?_ ?_⟩
    · exact fun i y Ha Hb h k hz m e=>DV.mono k hz _ _ (by have:=noLs_pr [m]; rw [List.map_cons,noLs,Bool.and_eq_true] at this; exact this.1) (h m e)
    · intro i H5 R hi P5 S5 hR
      have hic:i < ks.length:=by omega
      obtain ⟨y,hy,hyd⟩:=hw4.get (i:=i) (d:=L2.markD ks[i]) (by rw [List.getElem?_map,List.getElem?_eq_getElem hic]; rfl)
      obtain ⟨q1,ey,hm⟩:=mark_of hyd
      have eg:ws2.getD i .non = .ref q1:=by rw [List.getD_eq_getElem?_getD,hy,ey]; rfl
      rw [eg]
      obtain ⟨v,hv⟩:=hin i hic
      have he5:=ens_same (s4.trans S5) he3
      obtain ⟨z,hf,hz⟩:=ens_find he5 okn.2 hv
      have hm5:=S5.seqT hm
      refine ⟨_,rfl,_,rfl,_,rfl,d,es,q1,ks[i],z,rfl,⟨⟨ob,S5 _ _ (s4 _ _ hd3)⟩,fun e h=>(ens_val he5 e h).1⟩,rfl,hm5,hf,by show 2 ≤ sizeLine; decide,fun t hp6 => ?_⟩
      have s6:Same H5 (upd H5 t (.tup [.ref q1,z])):=same_upd hp6
      refine hR _ _ (fun m e => ?_) s6 P5.tup
      have em:m = (ks[i],v):=by
        unfold toSh at e
        rw [List.getElem?_map,List.getElem?_eq_getElem hic] at e
        have e:=Option.some.inj e
        rw [← e]
        show (ks[i],(look ns ks[i]).getD (0,[], "")) = _
        rw [show look ns ks[i] = some v from look_in okn.2 hv]
        rfl
      rw [em]
      exact ⟨t,_,rfl,SqT.of upd_same,_,_,rfl,mkV_dv (s6.seqT hm5),_,_,rfl,DV.same s6 _ _ hz,rfl⟩
    · intro zs H5 hzl hzs hD5 S5 P5
      have pms:=toSh_perm okn.2 pmn
      have mko:∀ k,k ∈ mks (toSh ns ks) ↔ k ∈ mks ns:=fun k=>(pms.map (fun x:Mark × Ver=>x.1)).mem_iff
      refine q D zs (toSh ns ks) Ex H5 ((S4).free hD) (S4.trans S5) P5 hD5 ?_ ⟨fun m h=>okn.1 m (pms.mem_iff.mp h),(show (List.map (fun x:Mark × Ver=>x.1) (toSh ns ks)).Nodup from (pms.map (fun x:Mark × Ver=>x.1)).nodup_iff.mpr okn.2)⟩ (fun m h=>okw m (pms.mem_iff.mp h)) (toSh_pw pwk) (fun k hk=>bn k ((mko k).mp hk)) (by rw [pms.length_eq]; omega) hEx fun m hm=>(mko m).trans (hMx m hm)
      refine DVs.of (f:=prD) (by rw [hzl,hwl2]; unfold toSh; rw [List.length_map]) fun i v m hv hm=>hzs i v hv m hm
theorem sc__law_table:FnScope ["_law_pairs_here", "_law_found", "_law_mark", "_law_version_here"] ["_law_pairs_here"] (defScope s__law_table):=⟨rfl,rfl,rfl,by decide +kernel,rfl,by decide +kernel,by decide +kernel⟩
noncomputable abbrev Ok__law_table (P:Program) (w:World) (K:PySem.W.Frag) (mg:Str→Option Value) (base:Heap) (A:Adr):Prop:=FnOk P w K mg base (CX1 P w base) 1 A.f__law_table A.d__law_table ["_law_pairs_here"] (sp_tbl P w K)
set_option maxHeartbeats 4000000 in
theorem ok__law_table (T:Txt K mg A)  : Ok__law_table P w K mg base A:=by
  refine T.F__law_table.okN sc__law_table (fun vs H Q E h => ?_) (fun cdv Ar outer s H vs Q E hr h => ?_)
  · obtain ⟨_,p,ws,ms,rfl,_⟩:=h
    rfl
  · obtain ⟨hP,p,ws,ms,rfl,hp,hw,okm,few,q⟩:=h
    refine ⟨_,(pss_cons (ps_set (i:=1) sc__law_table.nd rfl (Or.inl rfl) (toE pe_mnew (show _ = tMNew P w from rfl)))
      (pss_cons (ps_for PassesOwn.never rfl (pi_list (pv 0)) (pg_tup rfl (pgs_cons (pg_name (i:=2) sc__law_table.nd rfl (Or.inl rfl)) (pgs_cons (pg_name (i:=3) sc__law_table.nd rfl (Or.inl rfl)) pgs_nil))) (pss_one (toS (ps_mput (hu_of hr) (pv 1) (pv 2) (pv 3) rfl) (show _ = sMPut P w K _ _ _ from rfl))))
      (pss_one (ps_ret (pv 1))))), ?_⟩
    refine fun d o hd0 => ?_
    have s1:Same H (upd H d (dO P w d [] o)):=same_upd hd0
    have P1:Plain (upd H d (dO P w d [] o)):=Plain.ext hP
    have h1:(upd H d (dO P w d [] o)) d = some (dO P w d [] o):=upd_same
    generalize upd H d (dO P w d [] o) = H1 at s1 P1 h1 ⊢
    have hwl:ws.length = ms.length:=by rw [hw.length,List.length_map]
    refine ⟨_,rfl,p,rfl,⟨_,s1.seq hp⟩,for_list (K:=K) (a:=p) (xs:=ws) (fun i σ H2=>∃ (o2 o3:Option V) (es:List Ent) (ob:Obj) (ns:Sh),σ = [some (.ref p),some (.ref d),o2,o3]∧Plain H2∧Same H H2∧H2 d = some (dO P w d es ob)∧EnS K H2 es ns∧okSh ns∧ns.length ≤ i∧∀ k,look ns k = lookF (fun _=>none) (allG (ms.take i)) k)
      ⟨_,_,[],o,[],rfl,P1,s1,h1,.nil,⟨(fun m h=>by cases h),List.nodup_nil⟩,Nat.le_refl _,fun k=>rfl⟩ (fun i σ H2 _ ⟨_,_,_,_,_,_,_,s,_⟩=>s.seq hp) ?_ ?_⟩
    · rintro i y σ H2 hy ⟨o2,o3,es,ob,ns,rfl,P2,S2,hd2,he2,okn,hnl,hlk⟩
      have hi:i < ms.length:=by have:=(List.getElem?_eq_some_iff.mp hy).1; omega
      obtain ⟨y',hy',hyd⟩:=(DVs.same S2 _ _ hw).get (i:=i) (d:=prD ms[i]) (by rw [List.getElem?_map,List.getElem?_eq_getElem hi]; rfl)
      rw [hy] at hy'
      cases hy'
      obtain ⟨t,q1,vx,rfl,ht,hq1,hvx⟩:=prD_of hyd
      refine ⟨t,_,rfl,ht,rfl,_,_,rfl,_,_,rfl,rfl, ?_⟩
      have ky:∀ e ∈ es,SqT K H2 e.2.1 (mkV e.1):=fun e h=>(ens_val he2 e h).1
      have hel:es.length = ns.length:=Paired.length he2
      refine ⟨_,rfl,_,rfl,_,rfl,d,es,q1,ms[i].1,rfl,⟨⟨ob,hd2⟩,ky⟩,rfl,hq1,small1000 (by omega),fun o' => ?_⟩
      have hl':=putS_len ns ms[i].1 ms[i].2
      exact ⟨_,_,putM es ms[i].1 q1 vx,o',putS ns ms[i].1 ms[i].2,rfl,Plain.ext P2,fun b z e=>by rw [upd_ne (ne_of_none e hd0)]; exact S2 _ _ e,upd_same,ens_upd hd2 (ens_putS he2 hq1 hvx),⟨putS_ok okn.1 _ (okm.1 _ (List.getElem_mem hi)),putS_nd okn.2 _ _⟩,by omega,fun k=>by
        rw [putS_look,hlk,List.take_succ_eq_append_getElem hi]
        unfold allG
        rw [List.map_append,List.map_singleton,lookF_snoc]⟩
    rintro σ H2 ⟨o2,o3,es,ob,ns,rfl,P2,S2,hd2,he2,okn,hnl,hlk⟩
    rw [hwl,List.take_length] at hlk
    exact ⟨_,rfl,q d es ob ns H2 hd0 S2 P2 hd2 he2 okn (by omega) fun k=>(hlk k).trans (allG_look okm.2 k)⟩
theorem sc__law_alike_too:FnScope ["_law_pairs_here", "_law_others", "_law_cells", "_law_found", "_law_j", "_law_cell", "_law_some", "_law_mark", "_law_version_here", "_law_beat"] ["_law_pairs_here", "_law_others", "_law_cells"] (defScope s__law_alike_too):=⟨rfl,rfl,rfl,by decide +kernel,rfl,by decide +kernel,by decide +kernel⟩
noncomputable abbrev Ok__law_alike_too (P:Program) (w:World) (K:PySem.W.Frag) (mg:Str→Option Value) (base:Heap) (A:Adr):Prop:=FnOk P w K mg base (CX1 P w base) 2 A.f__law_alike_too A.d__law_alike_too ["_law_pairs_here", "_law_others", "_law_cells"] (sp_alk K)
set_option maxHeartbeats 4000000 in
theorem ok__law_alike_too (T:Txt K mg A) (G__law_digits:Ok__law_digits P w K mg base A) (G__law_table:Ok__law_table P w K mg base A):Ok__law_alike_too P w K mg base A:=by
  have B__law_digits:=T.b__law_digits
  have B__law_table:=T.b__law_table
  refine T.F__law_alike_too.okN sc__law_alike_too (fun vs H Q E h => ?_) (fun cdv Ar outer s H vs Q E hr h => ?_)
  · obtain ⟨_,p,o,c,ws,zs,xs,ms,ns,rfl,_⟩:=h
    rfl
  · obtain ⟨hP,p,o,c,ws,zs,xs,ms,ns0,rfl,hp,hw,okm,bm,fm,ho,hzs,ok0,okw0,b0,f0,hc,hxi,fx,q⟩:=h
    refine ⟨_,(pss_cons (ps_set (i:=3) sc__law_alike_too.nd rfl (Or.inr rfl) (pe_call G__law_table (hr.mono (by decide)) rfl T.g__law_table T.k__law_table B__law_table .nil pass1 (pa_cons (pv 0) pa_nil)))
      (pss_cons (ps_for PassesOwn.never rfl (pi_enum rfl T.n_enumerate (by decide +kernel) (pa_cons (pv 2) pa_nil)) (pg_tup rfl (pgs_cons (pg_name (i:=4) sc__law_alike_too.nd rfl (Or.inl rfl)) (pgs_cons (pg_name (i:=5) sc__law_alike_too.nd rfl (Or.inl rfl)) pgs_nil))) (pss_cons (ps_set (i:=6) sc__law_alike_too.nd rfl (Or.inl rfl) (pe_call G__law_digits (hr.mono (by decide)) rfl T.g__law_digits T.k__law_digits B__law_digits .nil pass1 (pa_cons (pv 5) (pa_cons (pe_op op_add (pv 4) pe_int) pa_nil))))
      (pss_one (ps_if (pt_cmpR (op_neD hr.units) (pv 1) (pe_lst pa_nil) (nomark _)) (pss_cons (ps_asg (pe_ix ix_list (pv 1) (pe_op op_mod (pe_ix ix_list (pv 6) pe_int (fun _ _=>rfl)) (pe_callB call_len_seq rfl T.n_len (by decide +kernel) (pa_cons (pv 1) pa_nil))) (fun _ _=>rfl)) (pg_tup rfl (pgs_cons (pg_name (i:=7) sc__law_alike_too.nd rfl (Or.inl rfl)) (pgs_cons (pg_name (i:=8) sc__law_alike_too.nd rfl (Or.inl rfl)) pgs_nil))))
      (pss_cons (ps_set (i:=9) sc__law_alike_too.nd rfl (Or.inl rfl) (pe_op op_add (pe_ix ix_tup (pv 8) pe_int (fun _ _=>rfl)) (pe_op op_mod (pe_ix ix_list (pv 6) pe_int (fun _ _=>rfl)) pe_int)))
      (pss_one (ps_if (pt_cmpR op_eq (pe_op op_mod (pe_ix ix_list (pv 6) pe_int (fun _ _=>rfl)) pe_int) pe_int (nomark _)) (pss_one (toS (ps_mput (hu_of hr) (pv 3) (pv 7) (pe_tup (pa_cons (pv 9) (pa_cons (pe_ix ix_tup (pv 8) pe_int (fun _ _=>rfl)) (pa_cons (pe_ix ix_tup (pv 8) pe_int (fun _ _=>rfl)) pa_nil)))) rfl) (show _ = sMPut P w K _ _ _ from rfl))) (pss_one (ps_if (PW.pt (pw_and (pt_cmpR (op_inM (hu_of hr)) (pv 7) (pv 3) (by rfl)) (pw_and1 (pt_cmpR (op_neD hr.units) (pe_ix ix_tup (pv 8) pe_int (fun _ _=>rfl)) (pe_tup pa_nil) (nomark _))))) (pss_one (toS (ps_mput (hu_of hr) (pv 3) (pv 7) (pe_tup (pa_cons (pe_ix ix_tup (pv 8) pe_int (fun _ _=>rfl)) (pa_cons (pe_ix ix_tup (pv 8) pe_int (fun _ _=>rfl)) (pa_cons (pe_op op_add_str (pe_ix ix_tup (pv 8) pe_int (fun _ _=>rfl)) pe_str) pa_nil)))) rfl) (show _ = sMPut P w K _ _ _ from rfl))) pss_nil)))))) pss_nil))))
      (pss_one (ps_ret (pe_comp ["_law_mark", "_law_found"] 1 [3] rfl (pi_list (pe_callB (call_sortedK rfl hr.u100) rfl T.n_sorted (by decide +kernel) (pa_cons (pv 3) pa_nil))) gk1 (fun _ _ _ _ _=>pg_name (i:=0) (show List.Nodup (["_law_mark", "_law_found"]:List Str) by decide +kernel) rfl (Or.inl rfl)) (fun _ _ _ _ _=>pif_nil) (fun _ _ _ _ _=>(pe_tup (pa_cons (pv 0) (pa_cons (pe_ix (ix_MK (P:=P) (w:=w) (K:=K) rfl rfl rfl (hu_of hr)) (pv 1) (pv 0) (fun _ _=>rfl)) pa_nil))))))))), ?_⟩
    have hzl:zs.length = ns0.length:=by rw [hzs.length,List.length_map]
    refine ⟨_,rfl,hP,p,ws,ms,rfl,hp,hw,okm,by omega,fun d es0 ob0 nsA H1 n1 s1 P1 hd1 he1 ok1 nl1 lk1 => ?_⟩
    have mkA:∀ k,k ∈ mks nsA→k ∈ mks ms:=fun k h=>Classical.byContradiction fun n=>by
      obtain ⟨x,hx,rfl⟩:=List.mem_map.mp h
      have:=lk1 x.1
      rw [look_no' n,look_in ok1.2 hx] at this
      cases this
    refine ⟨_,rfl,c,rfl,⟨_,SqL.of (s1 _ _ hc)⟩,for_enum (K:=K) (a:=c) (xs:=xs) (fun i σ H3=>∃ (o4 o5 o6 o7 o8 o9:Option V) (es:List Ent) (ob:Obj) (ns:Sh),σ = [some (.ref p),some (.ref o),some (.ref c),some (.ref d),o4,o5,o6,o7,o8,o9]∧Plain H3∧Same H H3∧H3 d = some (dO P w d es ob)∧EnS K H3 es ns∧okSh ns∧ns.length ≤ ms.length + i∧inBox (mks ns)∧∀ m ∈ mks ns,m ∈ mks ms ∨ m ∈ mks ns0)
      ⟨_,_,_,_,_,_,es0,ob0,nsA,rfl,P1,s1,hd1,he1,ok1,by omega,fun k hk=>bm k (mkA k hk),fun k hk=>.inl (mkA k hk)⟩ (fun i σ H3 _ ⟨_,_,_,_,_,_,_,_,_,_,_,s,_⟩=>SqL.of (s _ _ hc)) ?_ ?_⟩
    · rintro i x T' σ H3 hx ⟨o4,o5,o6,o7,o8,o9,es,ob,ns,rfl,P3,S3,hd3,he3,okn,hnl,bn,hsub⟩ hT
      obtain ⟨cell,rfl⟩:=hxi x (List.mem_of_getElem? hx)
      have hix:i < xs.length:=(List.getElem?_eq_some_iff.mp hx).1
      have hel:es.length = ns.length:=Paired.length he3
      refine ⟨T',_,rfl,SqT.of upd_same,rfl,_,_,rfl,_,_,rfl,rfl, ?_⟩
      refine ⟨_,rfl,_,rfl,_,_,rfl,rfl,P3.tup,(cell,(i:Int) + 80),rfl,fun l ol hl ho' => ?_⟩
      obtain ⟨d0,d1,d2,d3,d4,d5,d6,d7,rfl,e0,e1,e2,e3,e4,e5,e6,e7⟩:=ho'
      have P4:Plain (upd (upd H3 T' (.tup [.int i,.int cell])) l (.lst [.int d0,.int d1,.int d2,.int d3,.int d4,.int d5,.int d6,.int d7])):=P3.tup.lst
      have s4:Same H3 (upd (upd H3 T' (.tup [.int i,.int cell])) l (.lst [.int d0,.int d1,.int d2,.int d3,.int d4,.int d5,.int d6,.int d7])):=(same_upd hT).trans (same_upd hl)
      have hl4:(upd (upd H3 T' (.tup [.int i,.int cell])) l (.lst [.int d0,.int d1,.int d2,.int d3,.int d4,.int d5,.int d6,.int d7])) l = some (.lst [.int d0,.int d1,.int d2,.int d3,.int d4,.int d5,.int d6,.int d7]):=upd_same
      generalize upd (upd H3 T' (.tup [.int i,.int cell])) l (.lst [.int d0,.int d1,.int d2,.int d3,.int d4,.int d5,.int d6,.int d7]) = H4 at P4 s4 hl4 ⊢
      have S4:=S3.trans s4
      refine ⟨_,rfl,Nat.zero_le _,fun el hp5 => ?_⟩
      generalize hH5:upd H4 el (HO.lst _) = H5
      have s5:Same H4 H5:=hH5 ▸ same_upd hp5
      have P5:Plain H5:=hH5 ▸ P4.lst
      have h5:=(congrFun hH5 el).symm.trans upd_same
      have S5:=S4.trans s5
      have S35:=s4.trans s5
      refine ⟨.list (ns0.map prD),.list [],⟨o,zs,rfl,S5.seq ho,DVs.same S5 _ _ hzs⟩,⟨el,[],rfl,SqL.of h5,rfl⟩,prL_shaped ok0.1,rfl,_,rfl, ?_⟩
      have keep:∀ H',Same H3 H'→Plain H'→∀ (o4 o5 o6 o7 o8 o9:Option V),∃ (p4 p5 p6 p7 p8 p9:Option V) (es:List Ent) (ob:Obj) (ns:Sh),[some (V.ref p),some (.ref o),some (.ref c),some (.ref d),o4,o5,o6,o7,o8,o9] = [some (.ref p),some (.ref o),some (.ref c),some (.ref d),p4,p5,p6,p7,p8,p9]∧Plain H'∧Same H H'∧H' d = some (dO P w d es ob)∧EnS K H' es ns∧okSh ns∧ns.length ≤ ms.length + (i + 1)∧inBox (mks ns)∧∀ m ∈ mks ns,m ∈ mks ms ∨ m ∈ mks ns0:=fun H' s' P' o4 o5 o6 o7 o8 o9 =>
        ⟨o4,o5,o6,o7,o8,o9,es,ob,ns,rfl,P',S3.trans s',s' _ _ hd3,ens_same s' he3,okn,by omega,bn,hsub⟩
      by_cases h0:ns0 = []
      · rw [show PyData.eqv (.list (ns0.map prD)) (.list []) = true by rw [h0]; rfl]
        exact iteF (keep _ S35 P5 _ _ _ _ _ _)
      have e0:PyData.eqv (.list (ns0.map prD)) (.list []) = false:=by
        cases ns0 with
        | nil=>exact absurd rfl h0
        | cons a r=>rfl
      rw [e0]
      refine iteT ?_
      have pos:0 < ns0.length:=List.length_pos_iff.mpr h0
      have hl5:=s5 _ _ hl4
      have y1:=Int.emod_nonneg d0 (show (zs.length:Int) ≠ 0 by omega)
      have y2:=Int.emod_lt_of_pos d0 (show (0:Int) < (zs.length:Int) by omega)
      obtain ⟨jn,hjn⟩:∃ jn:Nat,d0 % (zs.length:Int) = jn:=⟨(d0 % (zs.length:Int)).toNat,by omega⟩
      have hjm:jn < ns0.length:=by omega
      obtain ⟨z,hz1,hzd⟩:=(DVs.same S5 _ _ hzs).get (i:=jn) (d:=prD ns0[jn]) (by rw [List.getElem?_map,List.getElem?_eq_getElem hjm]; rfl)
      obtain ⟨t,q1,vx,rfl,ht,hq1,hvx⟩:=prD_of hzd
      have hmem:=List.getElem_mem hjm
      obtain ⟨⟨m1,v1⟩,hmv⟩:∃ x:Mark × Ver,x = ns0[jn]:=⟨_,rfl⟩
      rw [← hmv] at hq1 hvx hmem
      have okv1:okV v1:=ok0.1 _ hmem
      have lv1:v1.2.2.length ≤ 6:=okw0 _ hmem
      have hm1:m1 ∈ mks ns0:=List.mem_map_of_mem (f:=fun x:Mark × Ver=>x.1) hmem
      obtain ⟨tv,pv,rfl,hqv,hpl⟩:=ver_of hvx
      refine ⟨_,rfl,_,rfl,_,_,_,_,rfl,rfl,SqL.of hl5,rfl,_,rfl,o,zs,rfl,.inl (S5.seq ho),_,_,rfl,rfl,(by show (0:Int) < (zs.length:Int); omega),o,zs,_,_,rfl,rfl,S5.seq ho,(by show atI zs (d0 % (zs.length:Int)) = _; rw [hjn]; exact atI_nat hz1),t,_,rfl,ht,rfl,_,_,rfl,_,_,rfl,rfl, ?_⟩
      refine ⟨_,rfl,tv,_,_,_,rfl,rfl,hqv,rfl,_,rfl,_,_,_,_,rfl,rfl,SqL.of hl5,rfl,_,_,rfl,rfl,(by show (0:Int) < 3; decide),_,_,rfl,rfl, ?_⟩
      refine ⟨_,rfl,_,_,_,_,rfl,rfl,SqL.of hl5,rfl,_,_,rfl,rfl,(by show (0:Int) < 2; decide),rfl,_,rfl,ite2d (fun _ => ?yes) (fun _ => ?no)⟩
      case yes =>
        refine ⟨_,rfl,_,rfl,tv,_,_,_,rfl,rfl,hqv,rfl,_,rfl,tv,_,_,_,rfl,rfl,hqv,rfl,by show 3 ≤ sizeLine; decide,fun t9 hp9 => ?_⟩
        generalize hH9:upd H5 t9 (HO.tup _) = H6
        have s9:Same H5 H6:=hH9 ▸ same_upd hp9
        have P6:Plain H6:=hH9 ▸ P5.tup
        have h9:=(congrFun hH9 t9).symm.trans upd_same
        have S36:=S35.trans s9
        have hd9:=S36 _ _ hd3
        have he9:=ens_same S36 he3
        have ky9:∀ e ∈ es,SqT K H6 e.2.1 (mkV e.1):=fun e h=>(ens_val he9 e h).1
        refine ⟨_,rfl,_,rfl,d,es,q1,m1,rfl,⟨⟨ob,hd9⟩,ky9⟩,rfl,(s9.seqT hq1),small1000 (by omega),fun o' => ?_⟩
        refine ⟨_,_,_,_,_,_,putM es m1 q1 (.ref t9),o',putS ns m1 (v1.1 + d1 % 3,v1.2),rfl,Plain.ext P6,fun b y h=>by rw [upd_ne (ne_of_none h n1)]; exact S36 _ _ (S3 _ _ h),upd_same,ens_upd hd9 (ens_putS he9 (s9.seqT hq1) (ver_mk (v:=(v1.1 + d1 % 3,v1.2)) (SqT.of h9) (DV.same s9 _ _ hpl))),⟨putS_ok okn.1 _ okv1,putS_nd okn.2 _ _⟩, ?_,fun k hk => ?_,fun k hk => ?_⟩
        · have:=putS_len ns m1 (v1.1 + d1 % 3,v1.2); omega
        · rcases putS_mem hk with rfl | hk
          · exact b0 _ hm1
          · exact bn _ hk
        · rcases putS_mem hk with rfl | hk
          · exact .inr hm1
          · exact hsub _ hk
      case no =>
        have hd5:=S35 _ _ hd3
        have he5:=ens_same S35 he3
        refine ⟨_,rfl,_,rfl,q1,m1,d,es,rfl,hq1,rfl,⟨⟨ob,hd5⟩,fun e h=>(ens_val he5 e h).1⟩,_,rfl, ?_⟩
        cases hfm:findM es m1 with
        | none=>exact iteF (iteF (keep _ S35 P5 _ _ _ _ _ _))
        | some zf =>
          refine iteT ?_
          refine ⟨_,rfl,tv,_,_,_,rfl,rfl,hqv,rfl,by show 0 ≤ sizeLine; decide,fun te hp6 => ?_⟩
          generalize hH6:upd H5 te (HO.tup _) = H6
          have s6:Same H5 H6:=hH6 ▸ same_upd hp6
          have P6:Plain H6:=hH6 ▸ P5.tup
          have h6:=(congrFun hH6 te).symm.trans upd_same
          have S36:=S35.trans s6
          refine ⟨plc v1.2.1,plc [],DV.same s6 _ _ hpl,empty_dv h6,plc_shaped _,plc_shaped _,_,rfl, ?_⟩
          rw [plc_eqv]
          by_cases ep:v1.2.1 = []
          · rw [decide_eq_true ep]
            exact iteF (keep _ S36 P6 _ _ _ _ _ _)
          rw [decide_eq_false ep]
          refine iteT ?_
          refine ⟨_,rfl,tv,_,_,_,rfl,rfl,s6.seqT hqv,rfl,_,rfl,tv,_,_,_,rfl,rfl,s6.seqT hqv,rfl,_,rfl,tv,_,_,_,rfl,rfl,s6.seqT hqv,rfl,_,_,rfl,rfl,(by show v1.2.2.length + 1 ≤ sizeLine; rw [sizeLine_eq]; omega),by show 3 ≤ sizeLine; decide,fun t9 hp9 => ?_⟩
          generalize hH9:upd H6 t9 (HO.tup _) = H7
          have s9:Same H6 H7:=hH9 ▸ same_upd hp9
          have P7:Plain H7:=hH9 ▸ P6.tup
          have h9:=(congrFun hH9 t9).symm.trans upd_same
          have S37:=S36.trans s9
          have hd9:=S37 _ _ hd3
          have he9:=ens_same S37 he3
          have ky9:∀ e ∈ es,SqT K H7 e.2.1 (mkV e.1):=fun e h=>(ens_val he9 e h).1
          refine ⟨_,rfl,_,rfl,d,es,q1,m1,rfl,⟨⟨ob,hd9⟩,ky9⟩,rfl,((s6.trans s9).seqT hq1),small1000 (by omega),fun o' => ?_⟩
          refine ⟨_,_,_,_,_,_,putM es m1 q1 (.ref t9),o',putS ns m1 (v1.1,v1.2.1,v1.2.2 ++ "y"),rfl,Plain.ext P7,fun b y h=>by rw [upd_ne (ne_of_none h n1)]; exact S37 _ _ (S3 _ _ h),upd_same,ens_upd hd9 (ens_putS he9 ((s6.trans s9).seqT hq1) (ver_mk (v:=(v1.1,v1.2.1,v1.2.2 ++ "y")) (SqT.of h9) (DV.same (s6.trans s9) _ _ hpl))),⟨putS_ok okn.1 _ (ok_add okv1 (ok_lit "y")),putS_nd okn.2 _ _⟩, ?_,fun k hk => ?_,fun k hk => ?_⟩
          · have:=putS_len ns m1 (v1.1,v1.2.1,v1.2.2 ++ "y"); omega
          · rcases putS_mem hk with rfl | hk
            · exact b0 _ hm1
            · exact bn _ hk
          · rcases putS_mem hk with rfl | hk
            · exact .inr hm1
            · exact hsub _ hk
    rintro σ H3 ⟨o4,o5,o6,o7,o8,o9,es,ob,ns,rfl,P3,S3,hd3,he3,okn,hnl,bn,hsub⟩
    have hel:es.length = ns.length:=Paired.length he3
    have emk:=ens_marks he3
    refine ⟨_,rfl,d,es,ob,rfl,hd3,(fun e h=>(ens_val he3 e h).1),(by rw [emk]; exact okn.2),by omega,fun sl ks ws2 hsl pmk pwk hwk => ?_⟩
    have s4:Same H3 (upd H3 sl (.lst ws2)):=same_upd hsl
    have P4:Plain (upd H3 sl (.lst ws2)):=P3.lst
    have h4:(upd H3 sl (.lst ws2)) sl = some (.lst ws2):=upd_same
    generalize upd H3 sl (.lst ws2) = H4 at s4 P4 h4 ⊢
    have S4:=S3.trans s4
    have hw4:=DVs.same s4 _ _ hwk
    have hkl:ks.length = ns.length:=by rw [pmk.length_eq,List.length_map,hel]
    have hwl2:ws2.length = ks.length:=by rw [hw4.length,List.length_map]
    have pmn:ks.Perm (List.map (·.1) ns):=by rw [← emk]; exact pmk
    have hin:∀ (i:Nat) (h:i < ks.length),∃ v,(ks[i],v) ∈ ns:=fun i h=>mem_mks (pmn.mem_iff.mp (List.getElem_mem h))
    refine ⟨sl,rfl,⟨_,SqL.of h4⟩,fun D hD=>comp_gen (fun i=>ws2.getD i .non) (fun i y H=>∀ m,(toSh ns ks)[i]? = some m→DV K H (prD m) y) hD P4 (n:=ws2.length) (Nat.le_of_lt (small1000 (by omega))) (itl_ok (SqL.of h4)) ?_ ?_ ?_⟩
    · exact fun i y Ha Hb h k hz m e=>DV.mono k hz _ _ (by have:=noLs_pr [m]; rw [List.map_cons,noLs,Bool.and_eq_true] at this; exact this.1) (h m e)
    · intro i H5 R hi P5 S5 hR
      have hic:i < ks.length:=by omega
      obtain ⟨y,hy,hyd⟩:=hw4.get (i:=i) (d:=L2.markD ks[i]) (by rw [List.getElem?_map,List.getElem?_eq_getElem hic]; rfl)
      obtain ⟨q1,ey,hm⟩:=mark_of hyd
      have eg:ws2.getD i .non = .ref q1:=by rw [List.getD_eq_getElem?_getD,hy,ey]; rfl
      rw [eg]
      obtain ⟨v,hv⟩:=hin i hic
      have he5:=ens_same (s4.trans S5) he3
      obtain ⟨z,hf,hz⟩:=ens_find he5 okn.2 hv
      have hm5:=S5.seqT hm
      refine ⟨_,rfl,_,rfl,_,rfl,d,es,q1,ks[i],z,rfl,⟨⟨ob,S5 _ _ (s4 _ _ hd3)⟩,fun e h=>(ens_val he5 e h).1⟩,rfl,hm5,hf,by show 2 ≤ sizeLine; decide,fun t hp6 => ?_⟩
      have s6:Same H5 (upd H5 t (.tup [.ref q1,z])):=same_upd hp6
      refine hR _ _ (fun m e => ?_) s6 P5.tup
      have em:m = (ks[i],v):=by
        unfold toSh at e
        rw [List.getElem?_map,List.getElem?_eq_getElem hic] at e
        have e:=Option.some.inj e
        rw [← e]
        show (ks[i],(look ns ks[i]).getD (0,[], "")) = _
        rw [show look ns ks[i] = some v from look_in okn.2 hv]
        rfl
      rw [em]
      exact ⟨t,_,rfl,SqT.of upd_same,_,_,rfl,mkV_dv (s6.seqT hm5),_,_,rfl,DV.same s6 _ _ hz,rfl⟩
    · intro zs H5 hzl hzs hD5 S5 P5
      have pms:=toSh_perm okn.2 pmn
      have mko:∀ k,k ∈ mks (toSh ns ks) ↔ k ∈ mks ns:=fun k=>(pms.map (fun x:Mark × Ver=>x.1)).mem_iff
      refine q D zs (toSh ns ks) H5 ((S4).free hD) (S4.trans S5) P5 hD5 ?_ ⟨fun m h=>okn.1 m (pms.mem_iff.mp h),(show (List.map (fun x:Mark × Ver=>x.1) (toSh ns ks)).Nodup from (pms.map (fun x:Mark × Ver=>x.1)).nodup_iff.mpr okn.2)⟩ (toSh_pw pwk) (fun k hk=>bn k ((mko k).mp hk)) (by rw [pms.length_eq]; omega) fun m hm=>hsub m ((mko m).mp hm)
      refine DVs.of (f:=prD) (by rw [hzl,hwl2]; unfold toSh; rw [List.length_map]) fun i v m hv hm=>hzs i v hv m hm
theorem sc__law_due:FnScope ["_law_base", "_law_last", "_law_mine", "_law_tables", "_law_pairs_here", "_law_clashes", "_law_mark", "_law_was", "_law_there", "_law_here", "_law_some"] ["_law_base", "_law_last", "_law_mine"] (defScope s__law_due):=⟨rfl,rfl,rfl,by decide +kernel,rfl,by decide +kernel,by decide +kernel⟩
noncomputable abbrev Ok__law_due (P:Program) (w:World) (K:PySem.W.Frag) (mg:Str→Option Value) (base:Heap) (A:Adr):Prop:=FnOk P w K mg base (CX1 P w base) 2 A.f__law_due A.d__law_due ["_law_base", "_law_last", "_law_mine"] (sp_dum P w K)
set_option maxHeartbeats 4000000 in
theorem ok__law_due (T:Txt K mg A) (G__law_table:Ok__law_table P w K mg base A):Ok__law_due P w K mg base A:=by
  have B__law_table:=T.b__law_table
  refine T.F__law_due.okN sc__law_due (fun vs H Q E h => ?_) (fun cdv Ar outer s H vs Q E hr h => ?_)
  · obtain ⟨_,p1,p2,p3,w1,w2,w3,B,L,M,U,rfl,_⟩:=h
    rfl
  · obtain ⟨hP,p1,p2,p3,w1,w2,w3,B,L,M,U,rfl,h1,hw1,okB,fB,h2,hw2,okL,fL,h3,hw3,okM,fM,hU,fU,q⟩:=h
    refine ⟨_,(pss_cons (ps_set (i:=3) sc__law_due.nd rfl (Or.inl rfl) (pe_lst (pa_cons (pe_call G__law_table (hr.mono (by decide)) rfl T.g__law_table T.k__law_table B__law_table .nil pass1 (pa_cons (pv 0) pa_nil)) (pa_cons (pe_call G__law_table (hr.mono (by decide)) rfl T.g__law_table T.k__law_table B__law_table .nil pass1 (pa_cons (pv 1) pa_nil)) (pa_cons (pe_call G__law_table (hr.mono (by decide)) rfl T.g__law_table T.k__law_table B__law_table .nil pass1 (pa_cons (pv 2) pa_nil)) pa_nil)))))
      (pss_cons (ps_set (i:=4) sc__law_due.nd rfl (Or.inl rfl) (pe_lst pa_nil))
      (pss_cons (ps_set (i:=5) sc__law_due.nd rfl (Or.inl rfl) (pe_lst pa_nil))
      (pss_cons (ps_for PassesOwn.never rfl (pi_list (pe_callB (call_sortedS rfl hr.u100) rfl T.n_sorted (by decide +kernel) (pa_cons (pe_callTy (call_setW rfl hr.u100) rfl T.n_set (by decide +kernel) (pa_cons (pe_comp ["_law_mark", "_law_version_here"] 2 [] rfl (pi_list (pe_op op_cat (pv 1) (pv 2))) gk2 (fun _ _ _ _ _=>pg_tup rfl (pgs_cons (pg_name (i:=0) (show List.Nodup (["_law_mark", "_law_version_here"]:List Str) by decide +kernel) rfl (Or.inl rfl)) (pgs_cons (pg_name (i:=1) (show List.Nodup (["_law_mark", "_law_version_here"]:List Str) by decide +kernel) rfl (Or.inl rfl)) pgs_nil))) (fun _ _ _ _ _=>pif_nil) (fun _ _ _ _ _=>(pv 0))) pa_nil)) pa_nil))) (pg_name (i:=6) sc__law_due.nd rfl (Or.inl rfl)) (pss_cons (ps_set (i:=7) sc__law_due.nd rfl (Or.inl rfl) (pe_mget (hu_of hr) (pe_ix ix_list (pv 3) pe_int (fun _ _=>rfl)) (pv 6)))
      (pss_cons (ps_set (i:=8) sc__law_due.nd rfl (Or.inl rfl) (pe_mget (hu_of hr) (pe_ix ix_list (pv 3) pe_int (fun _ _=>rfl)) (pv 6)))
      (pss_cons (ps_set (i:=9) sc__law_due.nd rfl (Or.inl rfl) (pe_mget (hu_of hr) (pe_ix ix_list (pv 3) pe_int (fun _ _=>rfl)) (pv 6)))
      (pss_cons (ps_set (i:=10) sc__law_due.nd rfl (Or.inl rfl) (pe_callB (call_sorted2 hr.u100) rfl T.n_sorted (by decide +kernel) (pa_cons (pe_comp ["_law_version_here"] 1 [] rfl (pi_list (pe_lst (pa_cons (pv 8) (pa_cons (pv 9) pa_nil)))) gk1 (fun _ _ _ _ _=>pg_name (i:=0) (show List.Nodup (["_law_version_here"]:List Str) by decide +kernel) rfl (Or.inl rfl)) (fun _ _ _ _ _=>pif_one (pt_cmpR op_notN (pv 0) pe_non (nomark _))) (fun _ _ _ _ _=>(pv 0))) pa_nil)))
      (pss_cons (ps_expr (pe_bm PySem.F.plainAttrs_list PySem.F.slot_list_append PySem.F.type_list_append mt_append (pv 4) (pa_cons (pe_tup (pa_cons (pv 6) (pa_cons (pe_ix ix_list (pv 10) (pe_un un_neg pe_int) (fun _ _=>rfl)) pa_nil))) pa_nil)))
      (pss_one (ps_if (PW.pt (pw_and (pt_cmpR op_eq (pe_callB call_len_seq rfl T.n_len (by decide +kernel) (pa_cons (pv 10) pa_nil)) pe_int (nomark _)) (pw_and (pt_cmpR (op_neD hr.units) (pv 8) (pv 7) (nomark _)) (pw_and (pt_cmpR (op_neD hr.units) (pv 9) (pv 7) (nomark _)) (pw_and1 (pt_cmpR (op_neD hr.units) (pe_slice sl_tupG (pe_ix ix_list (pv 10) pe_int (fun _ _=>rfl)) (po_some pe_int) po_none) (pe_slice sl_tupG (pe_ix ix_list (pv 10) pe_int (fun _ _=>rfl)) (po_some pe_int) po_none) (nomark _))))))) (pss_one (ps_expr (pe_bm PySem.F.plainAttrs_list PySem.F.slot_list_append PySem.F.type_list_append mt_append (pv 5) (pa_cons (pe_tup (pa_cons (pv 6) (pa_cons (pe_ix ix_list (pv 10) pe_int (fun _ _=>rfl)) (pa_cons (pe_ix ix_list (pv 10) pe_int (fun _ _=>rfl)) pa_nil)))) pa_nil)))) pss_nil))))))))
      (pss_one (ps_ret (pe_tup (pa_cons (pv 4) (pa_cons (pv 5) pa_nil))))))))), ?_⟩
    refine ⟨_,rfl,hP,p1,w1,B,rfl,SqL.of h1,hw1,okB,fB,fun d1 es1 ob1 ns1 H1 nd1 s1 P1 g1 he1 _ _ lk1 => ?_⟩
    refine ⟨_,rfl,P1,p2,w2,L,rfl,SqL.of (s1 _ _ h2),DVs.same s1 _ _ hw2,okL,fL,fun d2 es2 ob2 ns2 H2 nd2 s2 P2 g2 he2 _ _ lk2 => ?_⟩
    have S2:=s1.trans s2
    refine ⟨_,rfl,P2,p3,w3,M,rfl,SqL.of (S2 _ _ h3),DVs.same S2 _ _ hw3,okM,fM,fun d3 es3 ob3 ns3 H3 nd3 s3 P3 g3 he3 _ _ lk3 => ?_⟩
    refine ⟨by show 3 ≤ sizeLine; decide,fun tl hp4 => ?_⟩
    generalize hH4:upd H3 tl (HO.lst _) = H4
    have s4:Same H3 H4:=hH4 ▸ same_upd hp4
    have P4:Plain H4:=hH4 ▸ P3.lst
    have h4:=(congrFun hH4 tl).symm.trans upd_same
    refine ⟨Nat.zero_le _,fun fl hp5 => ?_⟩
    generalize hH5:upd H4 fl (HO.lst _) = H5
    have s5:Same H4 H5:=hH5 ▸ same_upd hp5
    have P5:Plain H5:=hH5 ▸ P4.lst
    have h5:=(congrFun hH5 fl).symm.trans upd_same
    refine ⟨Nat.zero_le _,fun cl hp6 => ?_⟩
    generalize hH6:upd H5 cl (HO.lst _) = H6
    have s6:Same H5 H6:=hH6 ▸ same_upd hp6
    have P6:Plain H6:=hH6 ▸ P5.lst
    have h6:=(congrFun hH6 cl).symm.trans upd_same
    have S3:=S2.trans s3
    have S4:=S3.trans s4
    have S6:=(S4.trans s5).trans s6
    have z2:w2.length = L.length:=by rw [hw2.length,List.length_map]
    have z3:w3.length = M.length:=by rw [hw3.length,List.length_map]
    refine ⟨_,rfl,_,rfl,p2,p3,w2,w3,rfl,rfl,S6 _ _ h2,S6 _ _ h3,Nat.le_of_lt (small1000 (by omega)),fun pc hp7 => ?_⟩
    generalize hH7:upd H6 pc (HO.lst _) = H7
    have s7:Same H6 H7:=hH7 ▸ same_upd hp7
    have P7:Plain H7:=hH7 ▸ P6.lst
    have h7:=(congrFun hH7 pc).symm.trans upd_same
    have S7:=S6.trans s7
    have hw23:DVs K H7 ((L ++ M).map prD) (w2 ++ w3):=by
      rw [List.map_append]
      exact (DVs.same S7 _ _ hw2).append (DVs.same S7 _ _ hw3)
    have hzl:(w2 ++ w3).length = (L ++ M).length:=by rw [List.length_append,List.length_append,z2,z3]
    refine ⟨pc,rfl,⟨_,SqL.of h7⟩,fun D hD=>comp_gen (fun i=>(w2 ++ w3).getD i .non) (fun j y H=>∀ x,(L ++ M)[j]? = some x→DV K H (L2.markD x.1) y) hD P7 (n:=(w2 ++ w3).length) (Nat.le_of_lt (small1000 (by rw [List.length_append]; omega))) (itl_ok (SqL.of h7)) ?_ ?_ ?_⟩
    · exact fun j y Ha Hb h k hz x e=>DV.mono k hz _ _ rfl (h x e)
    · intro j H8 R hj P8 S8 hR
      have hjc:j < (L ++ M).length:=by omega
      obtain ⟨y,hy,hyd⟩:=hw23.get (i:=j) (d:=prD (L ++ M)[j]) (by rw [List.getElem?_map,List.getElem?_eq_getElem hjc]; rfl)
      obtain ⟨t,q0,vx,ey,hq,hm,_⟩:=prD_of hyd
      have eg:(w2 ++ w3).getD j .non = .ref t:=by rw [List.getD_eq_getElem?_getD,hy,ey]; rfl
      rw [eg]
      refine ⟨t,_,rfl,S8.seqT hq,rfl,_,_,rfl,_,_,rfl,rfl,_,rfl,hR _ _ (fun x e => ?_) (Same.refl _) P8⟩
      rw [List.getElem?_eq_getElem hjc] at e
      cases e
      exact mkV_dv (S8.seqT hm)
    intro y8 H8 hyl hys hD8 S78 P8
    have d8:DVs K H8 (((L ++ M).map fun x=>x.1).map L2.markD) y8:=by
      rw [List.map_map]
      exact DVs.of (f:=L2.markD ∘ fun x:Mark × Ver=>x.1) (by omega) fun i v m hv hm=>hys i v hv m hm
    refine ⟨D,_,y8,rfl,SqL.of hD8,d8,(fun d hd=>by obtain ⟨m,_,rfl⟩:=List.mem_map.mp hd; exact ok4_mark m),by rw [List.length_map,List.length_map,List.length_append]; omega,fun sa qs hsa SW hin hle => ?_⟩
    generalize hH9:upd H8 sa (setWO _ sa qs) = H9 at SW ⊢
    have s9:Same H8 H9:=hH9 ▸ same_upd hsa
    have P9:Plain H9:=hH9 ▸ Plain.ext P8
    clear hH9 hH7 hH6 hH5 hH4
    have hmk:∀ q ∈ qs,∃ m,q.2 = L2.markD m:=fun q hq=>by
      obtain ⟨m,_,e⟩:=List.mem_map.mp ((hin q.2).mp ⟨q,hq,rfl⟩)
      exact ⟨m,e.symm⟩
    have hiff:∀ m,(∃ q ∈ qs,q.2 = L2.markD m) ↔ m ∈ mks L ∨ m ∈ mks M:=fun m=>by
      rw [hin (L2.markD m)]
      constructor
      · intro h
        obtain ⟨m',hm',e⟩:=List.mem_map.mp h
        have e:m' = m:=by
          have:=markD_eqv m' m
          rw [e] at this
          exact of_decide_eq_true (this.symm.trans (SeqAt.eqv_refl _ rfl))
        subst e
        rw [List.map_append] at hm'
        exact List.mem_append.mp hm'
      · intro h
        refine List.mem_map_of_mem ?_
        rw [List.map_append]
        exact List.mem_append.mpr h
    have hql:qs.length < 64:=by
      have:(qs.map (·.2)).length ≤ (U.map L2.markD).length:=by
        classical
        refine nodup_le SW.nd fun d hd => ?_
        obtain ⟨q,hq,rfl⟩:=List.mem_map.mp hd
        obtain ⟨m,e⟩:=hmk q hq
        rw [e]
        exact List.mem_map_of_mem (hU m ((hiff m).mp ⟨q,hq,e⟩))
      rw [List.length_map,List.length_map] at this
      omega
    refine ⟨sa,qs,rfl,SW,hmk,by omega,fun l0 ks w0 hl0 pw hk hkl hds => ?_⟩
    have isk:IsMk L M ks:=⟨pw,fun m=>(hk m).trans (hiff m)⟩
    have hks:ks.length < 64:=by omega
    have s10:Same H9 (upd H9 l0 (.lst w0)):=same_upd hl0
    have P10:Plain (upd H9 l0 (.lst w0)):=P9.lst
    have h10:(upd H9 l0 (.lst w0)) l0 = some (.lst w0):=upd_same
    have d10:=DVs.same s10 _ _ hds
    generalize upd H9 l0 (.lst w0) = H10 at s10 P10 h10 d10 ⊢
    have S510:Same H5 H10:=(s6.trans (s7.trans (S78.trans (s9.trans s10))))
    have S410:=s5.trans S510
    have S610:Same H6 H10:=s7.trans (S78.trans (s9.trans s10))
    have S310:=s4.trans S410
    have S10:=S3.trans S310
    have nfc:fl ≠ cl:=ne_of_none h5 hp6
    have nlf:l0 ≠ fl:=(ne_of_none ((s6.trans (s7.trans (S78.trans s9))) _ _ h5) hl0).symm
    have nlc:l0 ≠ cl:=(ne_of_none ((s7.trans (S78.trans s9)) _ _ h6) hl0).symm
    have ntf:tl ≠ fl:=ne_of_none h4 hp5
    have ntc:tl ≠ cl:=ne_of_none (s5 _ _ h4) hp6
    have hfl0:H fl = none:=S4.free hp5
    have hcl0:H cl = none:=(S4.trans s5).free hp6
    have D10:DB P w K tl d1 d2 d3 l0 B L M ks w0 H10:=⟨S410 _ _ h4,Tb.same ⟨es1,ob1,ns1,g1,he1,lk1⟩ ((s2.trans s3).trans S310),Tb.same ⟨es2,ob2,ns2,g2,he2,lk2⟩ (s3.trans S310),Tb.same ⟨es3,ob3,ns3,g3,he3,lk3⟩ S310,h10,d10⟩
    have hwl:w0.length = ks.length:=by rw [hds.length,List.length_map]
    refine ⟨l0,rfl,⟨_,SqL.of h10⟩,for_list (K:=K) (a:=l0) (xs:=w0) (fun i σ H4=>∃ (o6 o7 o8 o9 oa:Option V) (ys zs:List V),σ = [some (.ref p1),some (.ref p2),some (.ref p3),some (.ref tl),some (.ref fl),some (.ref cl),o6,o7,o8,o9,oa]∧Plain H4∧Same H H4∧DB P w K tl d1 d2 d3 l0 B L M ks w0 H4∧H4 fl = some (.lst ys)∧H4 cl = some (.lst zs)∧DVs K H4 ((mrg L M (ks.take i)).map prD) ys∧DVs K H4 ((clsh B L M (ks.take i)).map cl3D) zs∧ys.length ≤ i∧zs.length ≤ i)
      ⟨_,_,_,_,_,[],[],rfl,P10,S10,D10,S510 _ _ h5,S610 _ _ h6,rfl,rfl,Nat.le_refl _,Nat.le_refl _⟩ (fun i σ H4 _ ⟨_,_,_,_,_,_,_,_,_,_,m,_⟩=>SqL.of m.h) ?_ ?_⟩
    case refine_2 =>
      rintro σ H4 ⟨o6,o7,o8,o9,oa,ys,zs,rfl,P4,S4,M4,f4,c4,hys,hzs,lys,lzs⟩
      rw [hwl,List.take_length] at hys hzs
      refine ⟨_,rfl,_,rfl,by show 2 ≤ sizeLine; decide,fun t hp5 => ?_⟩
      have s5:Same H4 (upd H4 t (.tup [.ref fl,.ref cl])):=same_upd hp5
      exact q t fl cl ks ys zs _ hfl0 hcl0 (S4.trans s5) P4.tup (SqT.of upd_same) (s5 _ _ f4) (DVs.same s5 _ _ hys) (s5 _ _ c4) (DVs.same s5 _ _ hzs) isk hks
    rintro i y σ H4 hy ⟨o6,o7,o8,o9,oa,ys,zs,rfl,P4,S4',M4,f4,c4,hys,hzs,lys,lzs⟩
    have hi:i < ks.length:=by have:=(List.getElem?_eq_some_iff.mp hy).1; omega
    obtain ⟨y',hy',hyd⟩:=M4.d.get (i:=i) (d:=L2.markD ks[i]) (by rw [List.getElem?_map,List.getElem?_eq_getElem hi]; rfl)
    rw [hy] at hy'
    cases hy'
    obtain ⟨q1,rfl,hq1⟩:=mark_of hyd
    have hne:=isk_look isk (List.getElem_mem hi)
    obtain ⟨m,hm⟩:∃ m,m = ks[i]:=⟨_,rfl⟩
    rw [← hm] at hq1 hne
    have oL:okO (look L m):=fun v e=>okL.1 _ (look_some e)
    have oM:okO (look M m):=fun v e=>okM.1 _ (look_some e)
    have oB:okO (look B m):=fun v e=>okB.1 _ (look_some e)
    obtain ⟨eB,DB1,vB⟩:=M4.b.get m
    obtain ⟨eL,DL1,vL⟩:=M4.l.get m
    obtain ⟨eM,DM1,vM⟩:=M4.m.get m
    refine ⟨_,rfl,tl,_,_,_,rfl,rfl,SqL.of M4.t,rfl,d1,eB,rfl,DB1,_,rfl,q1,m,rfl,DB1,hq1, ?_⟩
    refine ⟨_,rfl,tl,_,_,_,rfl,rfl,SqL.of M4.t,rfl,d2,eL,rfl,DL1,_,rfl,q1,m,rfl,DL1,hq1, ?_⟩
    refine ⟨_,rfl,tl,_,_,_,rfl,rfl,SqL.of M4.t,rfl,d3,eM,rfl,DM1,_,rfl,q1,m,rfl,DM1,hq1, ?_⟩
    generalize (findM eB m).getD .non = xb at vB ⊢
    generalize (findM eL m).getD .non = x at vL ⊢
    generalize (findM eM m).getD .non = y at vM ⊢
    refine ⟨_,rfl,_,rfl,by show 2 ≤ sizeLine; decide,fun tw hp5 => ?_⟩
    have s5:Same H4 (upd H4 tw (.lst [x,y])):=same_upd hp5
    have P5:Plain (upd H4 tw (.lst [x,y])):=P4.lst
    have h5:(upd H4 tw (.lst [x,y])) tw = some (.lst [x,y]):=upd_same
    generalize upd H4 tw (.lst [x,y]) = H5 at s5 P5 h5 ⊢
    refine ⟨tw,rfl,⟨_,SqL.of h5⟩,fun D hD=>comp_filt (fun i=>[x,y].getD i .non) (fun i=>([look L m,look M m].getD i none).isSome) (fun i y H=>DV K H (vdat ([look L m,look M m].getD i none)) y) hD P5 (n:=2) (by show 2 ≤ sizeLine; decide) (itl_ok (SqL.of h5)) ?_ ?_ ?_⟩
    · exact fun i y Ha Hb h k hz=>DV.mono k hz _ _ (noL_vdat _) h
    · intro j H6 Tt Tf hj P6 S6 ht hf
      have S46:=s5.trans S6
      have key:∃ (o:Option Ver) (v:V),[look L m,look M m].getD j none = o∧[x,y].getD j .non = v∧DV K H4 (vdat o) v:=by
        match j,hj with
        | 0,_=>exact ⟨_,_,rfl,rfl,vL⟩
        | 1,_=>exact ⟨_,_,rfl,rfl,vM⟩
      obtain ⟨o,v,e1,e2,hv⟩:=key
      rw [e1] at ht hf
      rw [e2]
      cases o with
      | none=>exact ⟨_,rfl,rfl,_,rfl,iteNS hv (hf rfl _ (Same.refl _) P6)⟩
      | some vv =>
        obtain ⟨tv,pl,rfl,_,_⟩:=ver_of (show DV K H4 (ver vv) v from hv)
        refine ⟨_,rfl,rfl,_,rfl,iteNT (fun z=>by cases z) ?_⟩
        exact ⟨_,rfl,ht rfl _ _ (DV.same S46 _ _ hv) (Same.refl _) P6⟩
    intro v6 H6 hr6 hD6 S6 P6
    have hdv:DVs K H6 ((sm (look L m) (look M m)).map ver) v6:=by
      have:=paired_dvs (f:=fun i=>vdat ([look L m,look M m].getD i none)) hr6
      rw [sm_filt] at this
      exact this
    refine ⟨Ver,sm (look L m) (look M m),fun v=>[.int v.1,plc v.2.1,.str v.2.2],verLt,.int,D,v6,rfl,SqL.of hD6,hdv,sm_len _ _,fun a _ b _=>ltD_ver a b,fun a _=>⟨_,_,rfl,_,rfl⟩,fun a ha=>ver_shaped (sm_ok oL oM a ha),fun l7 w7 hl7 hw7 => ?_⟩
    have s7:Same H6 (upd H6 l7 (.lst w7)):=same_upd hl7
    have P7:Plain (upd H6 l7 (.lst w7)):=P6.lst
    have h7:(upd H6 l7 (.lst w7)) l7 = some (.lst w7):=upd_same
    have hw7:DVs K (upd H6 l7 (.lst w7)) ((two verLt (sm (look L m) (look M m))).map ver) w7:=DVs.same s7 _ _ hw7
    generalize upd H6 l7 (.lst w7) = H7 at s7 P7 h7 hw7 ⊢
    have S47:=(s5.trans S6).trans s7
    have z7:w7.length = (two verLt (sm (look L m) (look M m))).length:=by rw [hw7.length,List.length_map]
    obtain ⟨vg,hvg,dvg⟩:=hw7.get (i:=w7.length - 1) (d:=ver (mrgV (look L m) (look M m))) (by rw [List.getElem?_map,z7,two_last hne]; rfl)
    have f7:=S47 _ _ f4
    have c7:=S47 _ _ c4
    have n7f:l7 ≠ fl:=(ne_of_none ((s5.trans S6) _ _ f4) hl7).symm
    have n7c:l7 ≠ cl:=(ne_of_none ((s5.trans S6) _ _ c4) hl7).symm
    refine ⟨_,rfl,.inl ⟨rfl,_,SqL.of f7⟩,_,rfl,_,rfl,_,rfl,l7,w7,_,_,rfl,rfl,SqL.of h7,(by show atI w7 (-1) = _; exact atI_last hvg),by show 2 ≤ sizeLine; decide,fun t8 hp8 => ?_⟩
    have s8:Same H7 (upd H7 t8 (.tup [.ref q1,vg])):=same_upd hp8
    have P8:Plain (upd H7 t8 (.tup [.ref q1,vg])):=P7.tup
    have h8:(upd H7 t8 (.tup [.ref q1,vg])) t8 = some (.tup [.ref q1,vg]):=upd_same
    generalize upd H7 t8 (.tup [.ref q1,vg]) = H8 at s8 P8 h8 ⊢
    have S48:=S47.trans s8
    have f8:=s8 _ _ f7
    refine ⟨fl,ys,_,rfl,rfl,f8,small1000 (by omega), ?_⟩
    have kf:∀ c o,c ≠ fl→H8 c = some o→(upd H8 fl (.lst (ys ++ [.ref t8]))) c = some o:=fun c o n e=>by rw [upd_ne n]; exact e
    have M9:=(M4.same S48).upd (ys:=ys ++ [.ref t8]) f8 nlf ntf
    have f9:(upd H8 fl (.lst (ys ++ [.ref t8]))) fl = some (.lst (ys ++ [.ref t8])):=upd_same
    have c9:=kf _ _ nfc.symm (s8 _ _ c7)
    have l9:=kf _ _ n7f (s8 _ _ h7)
    have P9:Plain (upd H8 fl (.lst (ys ++ [.ref t8]))):=P8.lst
    have S9:Same H (upd H8 fl (.lst (ys ++ [.ref t8]))):=fun c o e=>kf _ _ (ne_of_none e hfl0) (S48 _ _ (S4' _ _ e))
    have hq9:=sqT_other (o' := .lst (ys ++ [.ref t8])) f8 (noT_lst _) (S48.seqT hq1)
    have hb9:DV K (upd H8 fl (.lst (ys ++ [.ref t8]))) (vdat (look B m)) xb:=dv_other f8 (noT_lst _) _ _ (noL_vdat _) (DV.same S48 _ _ vB)
    have hx9:DV K (upd H8 fl (.lst (ys ++ [.ref t8]))) (vdat (look L m)) x:=dv_other f8 (noT_lst _) _ _ (noL_vdat _) (DV.same S48 _ _ vL)
    have hy9:DV K (upd H8 fl (.lst (ys ++ [.ref t8]))) (vdat (look M m)) y:=dv_other f8 (noT_lst _) _ _ (noL_vdat _) (DV.same S48 _ _ vM)
    have hw9:DVs K (upd H8 fl (.lst (ys ++ [.ref t8]))) ((two verLt (sm (look L m) (look M m))).map ver) w7:=dvs_other f8 (noT_lst _) _ _ (noLs_ver _) (DVs.same s8 _ _ hw7)
    have hys9:DVs K (upd H8 fl (.lst (ys ++ [.ref t8]))) ((mrg L M (ks.take (i + 1))).map prD) (ys ++ [.ref t8]):=by
      refine dvs_other f8 (noT_lst _) _ _ (noLs_pr _) ?_
      rw [mrg_succ hi, ← hm,List.map_append]
      exact (DVs.same S48 _ _ hys).append ⟨_,_,rfl,⟨t8,_,rfl,SqT.of h8,_,_,rfl,mkV_dv (S48.seqT hq1),_,_,rfl,DV.same s8 _ _ dvg,rfl⟩,rfl⟩
    have hzs9:DVs K (upd H8 fl (.lst (ys ++ [.ref t8]))) ((clsh B L M (ks.take i)).map cl3D) zs:=dvs_other f8 (noT_lst _) _ _ (noLs_cl3 _) (DVs.same S48 _ _ hzs)
    have ly9:(ys ++ [V.ref t8]).length ≤ i + 1:=by rw [List.length_append,List.length_singleton]; omega
    generalize upd H8 fl (.lst (ys ++ [.ref t8])) = H9 at M9 f9 c9 l9 P9 S9 hq9 hb9 hx9 hy9 hw9 hys9 hzs9 ⊢
    generalize ys ++ [V.ref t8] = ys9 at f9 hys9 ly9
    have ecl:=clsh_succ (B:=B) (L:=L) (M:=M) hi
    rw [← hm] at ecl
    have none_:dueB (look B m) (look L m) (look M m) = false→∀ H',Same H9 H'→Plain H'→∀ (o6 o7 o8 o9 oa:Option V),∃ (p6 p7 p8 p9 pa:Option V) (ys zs:List V),[some (V.ref p1),some (.ref p2),some (.ref p3),some (.ref tl),some (.ref fl),some (.ref cl),o6,o7,o8,o9,oa] = [some (.ref p1),some (.ref p2),some (.ref p3),some (.ref tl),some (.ref fl),some (.ref cl),p6,p7,p8,p9,pa]∧Plain H'∧Same H H'∧DB P w K tl d1 d2 d3 l0 B L M ks w0 H'∧H' fl = some (.lst ys)∧H' cl = some (.lst zs)∧DVs K H' ((mrg L M (ks.take (i + 1))).map prD) ys∧DVs K H' ((clsh B L M (ks.take (i + 1))).map cl3D) zs∧ys.length ≤ i + 1∧zs.length ≤ i + 1:=fun ed H' s' P' o6 o7 o8 o9 oa=>by
      refine ⟨o6,o7,o8,o9,oa,ys9,zs,rfl,P',S9.trans s',M9.same s',s' _ _ f9,s' _ _ c9,DVs.same s' _ _ hys9, ?_,ly9,by omega⟩
      rw [ecl,show cl1 (look B m) (look L m) (look M m) m = [] by unfold cl1; rw [ed]; rfl,List.append_nil]
      exact DVs.same s' _ _ hzs9
    by_cases hboth:∃ a b,look L m = some a∧look M m = some b
    case neg =>
      have ed:dueB (look B m) (look L m) (look M m) = false:=by
        cases eL:look L m with
        | none=>rfl
        | some a =>
          cases eM:look M m with
          | none=>rfl
          | some b=>exact absurd ⟨a,b,eL,eM⟩ hboth
      have ln:w7.length ≠ 2:=by
        rw [z7]
        cases eL:look L m with
        | none=>cases look M m <;> simp [sm,two]
        | some a =>
          cases eM:look M m with
          | none=>simp [sm,two]
          | some b=>exact absurd ⟨a,b,eL,eM⟩ hboth
      refine ⟨_,rfl,l7,w7,rfl,.inl (SqL.of l9),rfl,_,rfl,iteDF (fun z=>ln (by have:=V.int.inj z; omega)) (iteF ?_)⟩
      exact none_ ed _ (Same.refl _) P9 _ _ _ _ _
    obtain ⟨va,vb,ea,eb⟩:=hboth
    obtain ⟨v0,v1,e01,e2,hP01⟩:=two_pair va vb
    rw [ea,eb,e01] at hw9 z7
    obtain ⟨x0,r0,rfl,hx0,x1,r1,rfl,hx1,hr1⟩:=hw9
    cases (show r1 = [] from hr1)
    have ok01:=hP01 okV (oL va ea) (oM vb eb)
    refine ⟨_,rfl,l7,_,rfl,.inl (SqL.of l9),rfl,_,rfl,iteDT rfl ?_⟩
    have eD:dueB (look B m) (look L m) (look M m) = (!decide (look L m = look B m) && (!decide (look M m = look B m) && !decide (va.2 = vb.2))):=by rw [ea,eb]; rfl
    refine ⟨_,rfl,_,rfl,vdat (look L m),vdat (look B m),hx9,hb9,vdat_shaped oL,vdat_shaped oB,_,rfl, ?_⟩
    rw [vdat_eqv]
    by_cases c1:look L m = look B m
    · rw [decide_eq_true c1]
      exact iteF (iteF (none_ (by rw [eD,decide_eq_true c1]; rfl) _ (Same.refl _) P9 _ _ _ _ _))
    rw [decide_eq_false c1]
    refine iteT ?_
    refine ⟨_,rfl,_,rfl,vdat (look M m),vdat (look B m),hy9,hb9,vdat_shaped oM,vdat_shaped oB,_,rfl, ?_⟩
    rw [vdat_eqv]
    by_cases c2:look M m = look B m
    · rw [decide_eq_true c2]
      exact iteF (iteF (none_ (by rw [eD,decide_eq_true c2,Bool.not_true,Bool.false_and,Bool.and_false]) _ (Same.refl _) P9 _ _ _ _ _))
    rw [decide_eq_false c2]
    refine iteT ?_
    obtain ⟨t0,pl0,rfl,hq0,hd0⟩:=ver_of hx0
    obtain ⟨t1,pl1,rfl,hq1',hd1⟩:=ver_of hx1
    refine ⟨_,rfl,l7,_,_,_,rfl,rfl,SqL.of l9,rfl,_,rfl,t0,_,rfl,hq0,fun u0 Ha ga sa' pga => ?_⟩
    refine ⟨_,rfl,l7,_,_,_,rfl,rfl,SqL.of (sa' _ _ l9),rfl,_,rfl,t1,_,rfl,sa'.seqT hq1',fun u1 Hb gb sb pgb => ?_⟩
    have Sab:=sa'.trans sb
    have Pb:Plain Hb:=pgb (pga P9)
    have e5:DV K Hb (pwd v0.2) (.ref u0):=⟨u0,_,rfl,sb.seqT ga,_,_,rfl,DV.same Sab _ _ hd0,_,_,rfl,rfl,rfl⟩
    have e6:DV K Hb (pwd v1.2) (.ref u1):=⟨u1,_,rfl,gb,_,_,rfl,DV.same Sab _ _ hd1,_,_,rfl,rfl,rfl⟩
    refine ⟨pwd v0.2,pwd v1.2,e5,e6,pwd_shaped ok01.1,pwd_shaped ok01.2,_,rfl, ?_⟩
    rw [pwd_eqv]
    by_cases c3:v0.2 = v1.2
    · rw [decide_eq_true c3]
      exact iteF (none_ (by rw [eD,decide_eq_true (e2.mp c3),Bool.not_true,Bool.and_false,Bool.and_false]) _ Sab Pb _ _ _ _ _)
    rw [decide_eq_false c3]
    refine iteT ?_
    have nab:va.2 ≠ vb.2:=fun z=>c3 (e2.mpr z)
    have e7:=two_both nab
    rw [e01] at e7
    obtain ⟨e8,e9⟩:v0 = ls va vb∧v1 = gr va vb:=by
      cases e7
      exact ⟨rfl,rfl⟩
    have cb:=Sab _ _ c9
    have lb:=Sab _ _ l9
    refine ⟨_,rfl,.inl ⟨rfl,_,SqL.of cb⟩,_,rfl,_,rfl,l7,_,_,_,rfl,rfl,SqL.of lb,rfl,_,rfl,l7,_,_,_,rfl,rfl,SqL.of lb,rfl,by show 3 ≤ sizeLine; decide,fun t9 hp9 => ?_⟩
    have sc9:Same Hb (upd Hb t9 (.tup [.ref q1,.ref t1,.ref t0])):=same_upd hp9
    have Pc:Plain (upd Hb t9 (.tup [.ref q1,.ref t1,.ref t0])):=Pb.tup
    have hc9:(upd Hb t9 (.tup [.ref q1,.ref t1,.ref t0])) t9 = some (.tup [.ref q1,.ref t1,.ref t0]):=upd_same
    generalize upd Hb t9 (.tup [.ref q1,.ref t1,.ref t0]) = Hc at sc9 Pc hc9 ⊢
    have S9c:=Sab.trans sc9
    have cc:=sc9 _ _ cb
    refine ⟨cl,zs,_,rfl,rfl,cc,small1000 (by omega), ?_⟩
    have kc:∀ c o,c ≠ cl→Hc c = some o→(upd Hc cl (.lst (zs ++ [.ref t9]))) c = some o:=fun c o n e=>by rw [upd_ne n]; exact e
    have ed:dueB (look B m) (look L m) (look M m) = true:=by rw [eD,decide_eq_false c1,decide_eq_false c2,decide_eq_false nab]; rfl
    have ecl1:cl1 (look B m) (look L m) (look M m) m = [(m,gr va vb,ls va vb)]:=by
      unfold cl1
      rw [if_pos ed,ea,eb]
      rfl
    refine ⟨_,_,_,_,_,ys9,zs ++ [.ref t9],rfl,Pc.lst,fun c o e=>kc _ _ (ne_of_none e hcl0) (S9c _ _ (S9 _ _ e)),(M9.same S9c).upd cc nlc ntc,kc _ _ nfc (S9c _ _ f9),upd_same,dvs_other cc (noT_lst _) _ _ (noLs_pr _) (DVs.same S9c _ _ hys9), ?_,ly9,by rw [List.length_append,List.length_singleton]; omega⟩
    refine dvs_other cc (noT_lst _) _ _ (noLs_cl3 _) ?_
    rw [ecl,ecl1,List.map_append]
    exact (DVs.same S9c _ _ hzs9).append ⟨_,_,rfl,⟨t9,_,rfl,SqT.of hc9,_,_,rfl,mkV_dv (S9c.seqT hq9),_,_,rfl,(by rw [← e9]; exact DV.same S9c _ _ hx1),_,_,rfl,(by rw [← e8]; exact DV.same S9c _ _ hx0),rfl⟩,rfl⟩
theorem sc_law:FnScope ["_law_script", "_law_base", "_law_last", "_law_mine", "_law_sheets", "_law_pairs_here", "_law_clashes", "_law_k", "_law_found", "_law_same", "_law_alone"] ["_law_script"] (defScope s_law):=⟨rfl,rfl,rfl,by decide +kernel,rfl,by decide +kernel,by decide +kernel⟩
noncomputable abbrev Ok_law (P:Program) (w:World) (K:PySem.W.Frag) (mg:Str→Option Value) (base:Heap) (A:Adr):Prop:=FnOk P w K mg base (CX1 P w base) 5 A.f_law A.d_law ["_law_script"] (sp_law K)
set_option maxHeartbeats 4000000 in
theorem ok_law (T:Txt K mg A) (G_Sheet____init__:Ok_Sheet____init__ P w K mg base A) (G_Sheet__pairs:Ok_Sheet__pairs P w K mg base A) (G_merged:Ok_merged P w K mg base A) (G__law_pairs:Ok__law_pairs P w K mg base A) (G__law_bent:Ok__law_bent P w K mg base A) (G__law_alike_too:Ok__law_alike_too P w K mg base A) (G__law_due:Ok__law_due P w K mg base A):Ok_law P w K mg base A:=by
  have B_Sheet____init__:=T.b_Sheet____init__
  have B_Sheet__pairs:=T.b_Sheet__pairs
  have B_merged:=T.b_merged
  have B__law_pairs:=T.b__law_pairs
  have B__law_bent:=T.b__law_bent
  have B__law_alike_too:=T.b__law_alike_too
  have B__law_due:=T.b__law_due
  refine T.F_law.okN sc_law (fun vs H Q E h => ?_) (fun cdv Ar outer s H vs Q E hr h => ?_)
  · obtain ⟨a,ns,rfl,_⟩:=h
    rfl
  · obtain ⟨a,ns,rfl,hS,hlen,kk,hP⟩:=h
    refine ⟨_,(pss_cons (ps_set (i:=1) sc_law.nd rfl (Or.inl rfl) (pe_callB (call_sortedL hr.u100) rfl T.n_sorted (by decide +kernel) (pa_cons (pe_call G__law_pairs (hr.mono (by decide)) rfl T.g__law_pairs T.k__law_pairs B__law_pairs .nil pass1 (pa_cons (pe_slice sl_list (pv 0) (po_some pe_int) (po_some pe_int)) pa_nil)) pa_nil)))
      (pss_cons (ps_set (i:=2) sc_law.nd rfl (Or.inl rfl) (pe_call G__law_bent (hr.mono (by decide)) rfl T.g__law_bent T.k__law_bent B__law_bent .nil pass1 (pa_cons (pv 1) (pa_cons (pe_slice sl_list (pv 0) (po_some pe_int) (po_some pe_int)) (pa_cons pe_int pa_nil)))))
      (pss_cons (ps_set (i:=3) sc_law.nd rfl (Or.inl rfl) (pe_call G__law_alike_too (hr.mono (by decide)) rfl T.g__law_alike_too T.k__law_alike_too B__law_alike_too .nil pass1 (pa_cons (pe_call G__law_bent (hr.mono (by decide)) rfl T.g__law_bent T.k__law_bent B__law_bent .nil pass1 (pa_cons (pv 1) (pa_cons (pe_op op_cat (pe_slice sl_list (pv 0) (po_some pe_int) (po_some pe_int)) (pe_slice sl_list (pv 0) po_none (po_some pe_int))) (pa_cons pe_int pa_nil)))) (pa_cons (pv 2) (pa_cons (pe_slice sl_list (pv 0) po_none (po_some pe_int)) pa_nil)))))
      (pss_cons (ps_set (i:=4) sc_law.nd rfl (Or.inl rfl) (pe_lst (pa_cons (pe_make T.mk_Sheet G_Sheet____init__ (hr.mono (by decide)) rfl T.g_Sheet B_Sheet____init__ .nil pass1 (pa_cons (pv 1) pa_nil)) (pa_cons (pe_make T.mk_Sheet G_Sheet____init__ (hr.mono (by decide)) rfl T.g_Sheet B_Sheet____init__ .nil pass1 (pa_cons (pv 2) pa_nil)) (pa_cons (pe_make T.mk_Sheet G_Sheet____init__ (hr.mono (by decide)) rfl T.g_Sheet B_Sheet____init__ .nil pass1 (pa_cons (pv 3) pa_nil)) pa_nil)))))
      (pss_cons (ps_asg (pe_call G__law_due (hr.mono (by decide)) rfl T.g__law_due T.k__law_due B__law_due .nil pass1 (pa_cons (pv 1) (pa_cons (pv 2) (pa_cons (pv 3) pa_nil)))) (pg_tup rfl (pgs_cons (pg_name (i:=5) sc_law.nd rfl (Or.inl rfl)) (pgs_cons (pg_name (i:=6) sc_law.nd rfl (Or.inl rfl)) pgs_nil))))
      (pss_cons (ps_for PassesOwn.never rfl (pi_range1 rfl T.n_range (pa_cons pe_int pa_nil)) (pg_name (i:=7) sc_law.nd rfl (Or.inl rfl)) (pss_cons (ps_set (i:=8) sc_law.nd rfl (Or.inl rfl) (pe_call G_merged (hr.mono (by decide)) rfl T.g_merged T.k_merged B_merged .nil pass1 (pa_cons (pe_ix ix_list (pv 4) pe_int (fun _ _=>rfl)) (pa_cons (pe_ix ix_list (pv 4) (pe_op op_add pe_int (pv 7)) (fun _ _=>rfl)) (pa_cons (pe_ix ix_list (pv 4) (pe_op op_sub pe_int (pv 7)) (fun _ _=>rfl)) pa_nil)))))
      (pss_cons (ps_if (PW.pt (pw_or (pt_not (pt_val (pe_callB call_isTup rfl T.n_isinstance (by decide +kernel) (pa_cons (pv 8) (pa_cons (pe_bltn (v := .ty "tuple") rfl T.n_tuple (by decide +kernel) rfl) pa_nil))))) (pw_or1 (pt_cmpR op_ne (pe_callB call_len_seq rfl T.n_len (by decide +kernel) (pa_cons (pv 8) pa_nil)) pe_int (nomark _))))) (pss_one (ps_ret pe_bl)) pss_nil)
      (pss_cons (ps_if (PW.pt (pw_or (pt_cmpR (op_neD hr.units) (pe_meth0 (pe_ix ix_tup (pv 8) pe_int (fun _ _=>rfl)) T.cl_Sheet T.m_Sheet__pairs G_Sheet__pairs (hr.mono (by decide)) B_Sheet__pairs .nil pass1) (pv 5) (nomark _)) (pw_or1 (pt_cmpR (op_neD hr.units) (pe_ix ix_tup (pv 8) pe_int (fun _ _=>rfl)) (pv 6) (nomark _))))) (pss_one (ps_ret pe_bl)) pss_nil)
      (pss_one (ps_expr (pe_bm0 PySem.F.plainAttrs_list PySem.F.slot_list_clear PySem.F.type_list_clear mt_clear (pe_ix ix_tup (pv 8) pe_int (fun _ _=>rfl)))))))))
      (pss_cons (ps_if (pt_cmpR (op_neD hr.units) (pe_comp ["_law_sheet"] 1 [] rfl (pi_list (pv 4)) gk1 (fun _ _ _ _ _=>pg_name (i:=0) (show List.Nodup (["_law_sheet"]:List Str) by decide +kernel) rfl (Or.inl rfl)) (fun _ _ _ _ _=>pif_nil) (fun _ _ _ _ _=>(pe_meth0 (pv 0) T.cl_Sheet T.m_Sheet__pairs G_Sheet__pairs (hr.mono (by decide)) B_Sheet__pairs .nil pass1))) (pe_lst (pa_cons (pv 1) (pa_cons (pv 2) (pa_cons (pv 3) pa_nil)))) (nomark _)) (pss_one (ps_ret pe_bl)) pss_nil)
      (pss_cons (ps_set (i:=9) sc_law.nd rfl (Or.inl rfl) (pe_call G_merged (hr.mono (by decide)) rfl T.g_merged T.k_merged B_merged .nil pass1 (pa_cons (pe_ix ix_list (pv 4) pe_int (fun _ _=>rfl)) (pa_cons (pe_ix ix_list (pv 4) pe_int (fun _ _=>rfl)) (pa_cons (pe_ix ix_list (pv 4) pe_int (fun _ _=>rfl)) pa_nil)))))
      (pss_cons (ps_set (i:=10) sc_law.nd rfl (Or.inl rfl) (pe_call G_merged (hr.mono (by decide)) rfl T.g_merged T.k_merged B_merged .nil pass1 (pa_cons (pe_ix ix_list (pv 4) pe_int (fun _ _=>rfl)) (pa_cons (pe_ix ix_list (pv 4) pe_int (fun _ _=>rfl)) (pa_cons (pe_ix ix_list (pv 4) pe_int (fun _ _=>rfl)) pa_nil)))))
      (pss_one (ps_ret (pe_and (pe_cmpR (op_eqD hr.units) (pe_meth0 (pe_ix ix_tup (pv 9) pe_int (fun _ _=>rfl)) T.cl_Sheet T.m_Sheet__pairs G_Sheet__pairs (hr.mono (by decide)) B_Sheet__pairs .nil pass1) (pv 3) (nomark _)) (pe_and (pe_cmpR (op_eqD hr.units) (pe_ix ix_tup (pv 9) pe_int (fun _ _=>rfl)) (pe_lst pa_nil) (nomark _)) (pe_and (pe_cmpR (op_eqD hr.units) (pe_meth0 (pe_ix ix_tup (pv 10) pe_int (fun _ _=>rfl)) T.cl_Sheet T.m_Sheet__pairs G_Sheet__pairs (hr.mono (by decide)) B_Sheet__pairs .nil pass1) (pv 1) (nomark _)) (pe_one (pe_cmpR (op_eqD hr.units) (pe_ix ix_tup (pv 10) pe_int (fun _ _=>rfl)) (pe_lst pa_nil) (nomark _))))))))))))))))), ?_⟩
    refine ⟨_,rfl,2,rfl,18,rfl,a,_,rfl,hS,fun pc hp1 => ?_⟩
    have hc1:(cutV (ns.map V.int) (some 2) (some 18)).length ≤ 16:=cut_le (ns.map V.int) 2 18
    have hci:∀ lo hi,∀ x ∈ cutV (ns.map V.int) lo hi,∃ n,x = V.int n:=fun lo hi x hx=>by
      obtain ⟨i,hi⟩:=List.getElem?_of_mem hx
      exact cut_int hi
    generalize hH1:upd H pc (HO.lst _) = H1
    have s1:Same H H1:=hH1 ▸ same_upd hp1
    have P1:Plain H1:=hH1 ▸ hP.lst
    have h1:=(congrFun hH1 pc).symm.trans upd_same
    refine ⟨P1,pc,_,rfl,h1,by omega,hci _ _,fun H2 pl ws ms s2 P2 hpl hw G hml => ?_⟩
    have okm:∀ m ∈ ms,okV m.2:=fun m h=>(G.ok m h).1
    refine ⟨Mark,List.map (fun x:Mark × Ver=>x.1) ms,(fun m=>[L2.markD m,vdat (look ms m)]),mLt,.tup,pl,ws,rfl,SqL.of hpl,prs_dvs G.nd hw,prs_srt G.nd okm (by omega),fun l3 bs3 ws3 hl3 pm3 pw3 hw3 => ?_⟩
    have s3:Same H2 (upd H2 l3 (.lst ws3)):=same_upd hl3
    have P3:Plain (upd H2 l3 (.lst ws3)):=P2.lst
    have h3:(upd H2 l3 (.lst ws3)) l3 = some (.lst ws3):=upd_same
    have hw3':DVs K (upd H2 l3 (.lst ws3)) ((toSh ms bs3).map prD) ws3:=by
      rw [← toSh_map G.nd pm3]
      exact DVs.same s3 _ _ hw3
    generalize upd H2 l3 (.lst ws3) = H3 at s3 P3 h3 hw3' ⊢
    have pmo:=toSh_perm G.nd pm3
    have srt1:srtd (toSh ms bs3):=toSh_pw pw3
    have ok1:okSh (toSh ms bs3):=⟨fun m h=>okm m (pmo.mem_iff.mp h),(pmo.map (fun x:Mark × Ver=>x.1)).nodup_iff.mpr G.nd⟩
    have okw1:okW (toSh ms bs3):=fun m h=>(G.ok m (pmo.mem_iff.mp h)).2.1
    have len1:(toSh ms bs3).length ≤ 16:=by rw [pmo.length_eq]; omega
    generalize toSh ms bs3 = one at hw3' srt1 ok1 okw1 len1 pmo
    have S3:=(s1.trans s2).trans s3
    have bx1:inBox (mks one):=fun k hk=>by
      have hk:k ∈ mks ms:=(pmo.map (fun x:Mark × Ver=>x.1)).mem_iff.mp hk
      obtain ⟨m,hm,rfl⟩:=List.mem_map.mp hk
      have:=(G.ok m hm).2.2
      exact mem_box (by omega) (by show m.1.1 < 4; omega) (by omega) (by show m.1.2 < 21; omega)
    refine ⟨_,rfl,_,rfl,18,rfl,30,rfl,a,_,rfl,S3.seq hS,fun c4 hp4 => ?_⟩
    have hc4:(cutV (ns.map V.int) (some 18) (some 30)).length ≤ 12:=cut_le (ns.map V.int) 18 30
    generalize hH4:upd H3 c4 (HO.lst _) = H4
    have s4:Same H3 H4:=hH4 ▸ same_upd hp4
    have P4:Plain H4:=hH4 ▸ P3.lst
    have h4:=(congrFun hH4 c4).symm.trans upd_same
    refine ⟨P4,l3,c4,50,ws3,_,one,rfl,SqL.of (s4 _ _ h3),DVs.same s4 _ _ hw3',ok1,okw1,bx1,h4,hci _ _,by omega,fun ll wl las Ex1 H5 n5 s5 P5 hll hwl okl okwl srtl bxl lenl lEx1 hMx1 => ?_⟩
    have S35:=s4.trans s5
    have S5:=S3.trans S35
    refine ⟨_,rfl,_,rfl,30,rfl,42,rfl,a,_,rfl,S5.seq hS,fun c6 hp6 => ?_⟩
    have hc6:(cutV (ns.map V.int) (some 30) (some 42)).length ≤ 12:=cut_le (ns.map V.int) 30 42
    generalize hH6:upd H5 c6 (HO.lst _) = H6
    have s6:Same H5 H6:=hH6 ▸ same_upd hp6
    have P6:Plain H6:=hH6 ▸ P5.lst
    have h6:=(congrFun hH6 c6).symm.trans upd_same
    refine ⟨_,rfl,2,rfl,a,_,rfl,(S5.trans s6).seq hS,fun c7 hp7 => ?_⟩
    have hc7:(cutV (ns.map V.int) none (some 2)).length ≤ 2:=cut_le0 (ns.map V.int) 2
    generalize hH7:upd H6 c7 (HO.lst _) = H7
    have s7:Same H6 H7:=hH7 ▸ same_upd hp7
    have P7:Plain H7:=hH7 ▸ P6.lst
    have h7:=(congrFun hH7 c7).symm.trans upd_same
    refine ⟨c6,c7,_,_,rfl,rfl,s7 _ _ h6,h7,Nat.le_of_lt (small1000 (by omega)),fun c8 hp8 => ?_⟩
    generalize hH8:upd H7 c8 (HO.lst _) = H8
    have s8:Same H7 H8:=hH8 ▸ same_upd hp8
    have P8:Plain H8:=hH8 ▸ P7.lst
    have h8:=(congrFun hH8 c8).symm.trans upd_same
    have hci8:∀ x ∈ cutV (ns.map V.int) (some 30) (some 42) ++ cutV (ns.map V.int) none (some 2),∃ n,x = V.int n:=fun x hx=>(List.mem_append.mp hx).elim (hci _ _ x) (hci _ _ x)
    have len8:(cutV (ns.map V.int) (some 30) (some 42) ++ cutV (ns.map V.int) none (some 2)).length ≤ 14:=by rw [List.length_append]; omega
    generalize cutV (ns.map V.int) (some 30) (some 42) ++ cutV (ns.map V.int) none (some 2) = cells at hci8 len8 h8 ⊢
    have S58:=(s6.trans s7).trans s8
    have S38:=S35.trans S58
    refine ⟨P8,l3,c8,70,ws3,cells,one,rfl,SqL.of (S38 _ _ h3),DVs.same S38 _ _ hw3',ok1,okw1,bx1,h8,hci8,by omega,fun lb wb mb Ex2 H9 n9 s9 P9 hlb hwb okb okwb srtb bxb lenb lEx2 hMx2 => ?_⟩
    have S59:=S58.trans s9
    refine ⟨_,rfl,_,rfl,6,rfl,a,_,rfl,(S5.trans S59).seq hS,fun c10 hp10 => ?_⟩
    have hc10:(cutV (ns.map V.int) none (some 6)).length ≤ 6:=cut_le0 (ns.map V.int) 6
    generalize hH10:upd H9 c10 (HO.lst _) = H10
    have s10:Same H9 H10:=hH10 ▸ same_upd hp10
    have P10:Plain H10:=hH10 ▸ P9.lst
    have h10:=(congrFun hH10 c10).symm.trans upd_same
    have S510:=S59.trans s10
    refine ⟨P10,lb,ll,c10,wb,wl,_,mb,las,rfl,SqL.of (s10 _ _ hlb),DVs.same s10 _ _ hwb,okb,bxb,by omega,SqL.of (S510 _ _ hll),DVs.same S510 _ _ hwl,okl,okwl,bxl,by omega,h10,hci _ _,hc10,fun lm wm mi H11 n11 s11 P11 hlm hwm okm' srtm bxm lenm hsub => ?_⟩
    have S511:=S510.trans s11
    have S311:=S35.trans S511
    have hl3:=S311 _ _ h3
    have hws3:=DVs.same S311 _ _ hw3'
    have hll:=S511 _ _ hll
    have hwl:=DVs.same S511 _ _ hwl
    have S11:=S3.trans S311
    clear hH4 hH6 hH7 hH8 hH10
    obtain ⟨U,hUd⟩:∃ U,U = mks one ++ (Ex1 ++ Ex2):=⟨_,rfl⟩
    have lU:U.length < 64:=by
      rw [hUd,List.length_append,List.length_append]
      have:(mks one).length = one.length:=List.length_map _
      omega
    have inL:∀ m ∈ mks las,m ∈ U:=fun m hm=>by
      rw [hUd]
      by_cases e:m ∈ Ex1
      · exact List.mem_append_right _ (List.mem_append_left _ e)
      · exact List.mem_append_left _ ((hMx1 m e).mp hm)
    have inM:∀ m ∈ mks mi,m ∈ U:=fun m hm=>by
      rcases hsub m hm with h | h
      · rw [hUd]
        by_cases e:m ∈ Ex2
        · exact List.mem_append_right _ (List.mem_append_right _ e)
        · exact List.mem_append_left _ ((hMx2 m e).mp h)
      · exact inL m h
    have hU:∀ m,m ∈ mks las ∨ m ∈ mks mi→m ∈ U:=fun m h=>h.elim (inL m) (inM m)
    have lB:∀ m,m ∈ mks one ∨ m ∈ mks one→m ∈ U:=fun m h=>by rw [hUd]; exact List.mem_append_left _ (h.elim id id)
    have lMM:∀ m,m ∈ mks mi ∨ m ∈ mks mi→m ∈ U:=fun m h=>h.elim (inM m) (inM m)
    have rf11:Same H11 H11:=Same.refl _
    refine ⟨_,rfl,fun x0 dx0 nx0 ndx0 nex0 => ?_⟩
    have sx0:Same H11 (upd (upd H11 dx0 (.own x0)) x0 (.ins A.Sheet dx0 [])):=fun b o e=>by
      rw [upd_ne (ne_of_none e nx0),upd_ne (ne_of_none e ndx0)]
      exact e
    refine ⟨Plain.ins (P11.upd trivial),x0,dx0,l3,ws3,one,rfl,upd_same,SqL.of ((rf11.trans sx0) _ _ hl3),DVs.same (rf11.trans sx0) _ _ hws3,ok1.1,by omega,fun _ H12 k12 Sh12 P12=>⟨rfl, ?_⟩,fun h=>absurd ok1.2 h⟩
    have s12:Same H11 H12:=fun b o e=>k12 b o (ne_of_none e nx0) (sx0 b o e)
    refine ⟨_,rfl,fun x1 dx1 nx1 ndx1 nex1 => ?_⟩
    have sx1:Same H12 (upd (upd H12 dx1 (.own x1)) x1 (.ins A.Sheet dx1 [])):=fun b o e=>by
      rw [upd_ne (ne_of_none e nx1),upd_ne (ne_of_none e ndx1)]
      exact e
    refine ⟨Plain.ins (P12.upd trivial),x1,dx1,ll,wl,las,rfl,upd_same,SqL.of ((s12.trans sx1) _ _ hll),DVs.same (s12.trans sx1) _ _ hwl,okl.1,by omega,fun _ H13 k13 Sh13 P13=>⟨rfl, ?_⟩,fun h=>absurd okl.2 h⟩
    have s13:Same H12 H13:=fun b o e=>k13 b o (ne_of_none e nx1) (sx1 b o e)
    have S1113:=s12.trans s13
    refine ⟨_,rfl,fun x2 dx2 nx2 ndx2 nex2 => ?_⟩
    have sx2:Same H13 (upd (upd H13 dx2 (.own x2)) x2 (.ins A.Sheet dx2 [])):=fun b o e=>by
      rw [upd_ne (ne_of_none e nx2),upd_ne (ne_of_none e ndx2)]
      exact e
    refine ⟨Plain.ins (P13.upd trivial),x2,dx2,lm,wm,mi,rfl,upd_same,SqL.of ((S1113.trans sx2) _ _ hlm),DVs.same (S1113.trans sx2) _ _ hwm,okm'.1,by omega,fun _ H14 k14 Sh14 P14=>⟨rfl, ?_⟩,fun h=>absurd okm'.2 h⟩
    have s14:Same H13 H14:=fun b o e=>k14 b o (ne_of_none e nx2) (sx2 b o e)
    refine ⟨by show 3 ≤ sizeLine; decide,fun sl hp15 => ?_⟩
    generalize hH15:upd H14 sl (HO.lst _) = H15
    have s15:Same H14 H15:=hH15 ▸ same_upd hp15
    have P15:Plain H15:=hH15 ▸ P14.lst
    have h15:=(congrFun hH15 sl).symm.trans upd_same
    have S1115:=(S1113.trans s14).trans s15
    have X0:=Sh12.same ((s13.trans s14).trans s15)
    have X1:=Sh13.same (s14.trans s15)
    have X2:=Sh14.same s15
    have hl3:=S1115 _ _ hl3
    have hws3:=DVs.same S1115 _ _ hws3
    have hll:=S1115 _ _ hll
    have hwl:=DVs.same S1115 _ _ hwl
    have hlm:=S1115 _ _ hlm
    have hwm:=DVs.same S1115 _ _ hwm
    have S15:=S11.trans S1115
    refine ⟨_,rfl,_,rfl,_,rfl,P15,l3,ll,lm,ws3,wl,wm,one,las,mi,U,rfl,hl3,hws3,ok1,by omega,hll,hwl,okl,by omega,hlm,hwm,okm',by omega,hU,lU,fun tt pa ca ks wp wc H16 npa nca s16 P16 htt hpa hwp hca hwc isk lks => ?_⟩
    refine ⟨tt,_,rfl,htt,rfl,_,_,rfl,_,_,rfl,rfl, ?_⟩
    have X0:=X0.same s16
    have X1:=X1.same s16
    have X2:=X2.same s16
    have h15:=s16 _ _ h15
    have S16:=S15.trans s16
    have okmg:=mrg_ok isk okl.1 okm'.1
    have okcl:=clsh_ok (B:=one) (ks:=ks) okl.1 okm'.1
    have as':∀ p q:Mark × Ver,mLt p.1 q.1 = true→mLt q.1 p.1 = true→False:=fun p q=>mLt_as p.1 q.1
    refine ⟨_,rfl,by decide,by decide,for_range (lo:=0) (n:=2) (fun i σ H2=>∃ (o7 o8 o9 oa:Option V),σ = [some (.ref a),some (.ref l3),some (.ref ll),some (.ref lm),some (.ref sl),some (.ref pa),some (.ref ca),o7,o8,o9,oa]∧Plain H2∧Same H16 H2)
      ⟨_,_,_,_,rfl,P16,Same.refl _⟩ ?_ ?_⟩
    · rintro i σ H20 hi ⟨o7,o8,o9,oa,rfl,P20,S20⟩
      have key:∃ (pl pm:Addr) (L M:Sh),atI [V.ref x0,.ref x1,.ref x2] (1 + (0 + (i:Int))) = some (.ref pl)∧atI [V.ref x0,.ref x1,.ref x2] (2 - (0 + (i:Int))) = some (.ref pm)∧ShAt P w K A.Sheet H20 pl L∧ShAt P w K A.Sheet H20 pm M∧(∀ m,m ∈ mks L ∨ m ∈ mks M→m ∈ U)∧∀ js,IsMk L M js→js = ks∧mrg L M js = mrg las mi ks∧clsh one L M js = clsh one las mi ks:=by
        match i,hi with
        | 0,_=>exact ⟨x1,x2,las,mi,rfl,rfl,X1.same S20,X2.same S20,hU,fun js h=>by rw [isk_uniq h isk]; exact ⟨rfl,rfl,rfl⟩⟩
        | 1,_=>exact ⟨x2,x1,mi,las,rfl,rfl,X2.same S20,X1.same S20,fun m h=>hU m h.symm,fun js h=>by rw [isk_uniq h isk.sym,mrg_comm mi,clsh_comm one mi]; exact ⟨rfl,rfl,rfl⟩⟩
      obtain ⟨pl,pm,L,M,a1,a2,SL,SM,hU2,hkey⟩:=key
      have h15':=S20 _ _ h15
      refine ⟨_,rfl,sl,_,_,_,rfl,rfl,SqL.of h15',rfl,_,rfl,_,rfl,_,_,rfl,rfl,sl,_,_,_,rfl,rfl,SqL.of h15',a1,_,rfl,_,rfl,_,_,rfl,rfl,sl,_,_,_,rfl,rfl,SqL.of h15',a2, ?_⟩
      refine ⟨P20,x0,pl,pm,one,L,M,U,rfl,X0.same S20,SL,SM,hU2,lU,fun t21 x21 l21 js w21 H21 n21 s21 P21 ht21 Sh21 h21 hw21 isj ljs => ?_⟩
      obtain ⟨ejs,emr,ecl⟩:=hkey js isj
      rw [emr] at Sh21
      rw [ecl] at hw21
      have S21:=S20.trans s21
      refine ⟨_,rfl,t21,_,rfl,ht21,true,rfl,iteF ?_⟩
      refine ⟨_,rfl,t21,_,rfl,.inr ht21,rfl,_,rfl,iteNS rfl ?_⟩
      obtain ⟨dxa,_,_,_,hxa,_⟩:=id Sh21.ex
      refine ⟨_,rfl,t21,_,_,_,rfl,rfl,ht21,rfl,x21,dxa,_,rfl,hxa,rfl,P21,x21,_,rfl,Sh21,fun H22 l22 bs22 w22 n22 s22 P22 h22 pm22 pw22 hw22 => ?_⟩
      have S22:=S21.trans s22
      obtain rfl:bs22 = mrg las mi ks:=uniq (r:=fun (a b:Mark × Ver)=>mLt a.1 b.1 = true) as' pm22 pw22 (mrg_srtd isk.1)
      refine ⟨_,rfl,.list ((mrg las mi ks).map prD),.list ((mrg las mi ks).map prD),⟨l22,w22,rfl,SqL.of h22,hw22⟩,⟨pa,wp,rfl,SqL.of (S22 _ _ hpa),DVs.same S22 _ _ hwp⟩,prL_shaped okmg,prL_shaped okmg,_,rfl, ?_⟩
      rw [prs_eqv okmg]
      refine iteF ?_
      refine ⟨_,rfl,t21,_,_,_,rfl,rfl,s22.seqT ht21,rfl,_,rfl,.list ((clsh one las mi ks).map cl3D),.list ((clsh one las mi ks).map cl3D),⟨l21,w21,rfl,SqL.of (s22 _ _ h21),DVs.same s22 _ _ hw21⟩,⟨ca,wc,rfl,SqL.of (S22 _ _ hca),DVs.same S22 _ _ hwc⟩,cl3_shaped okcl,cl3_shaped okcl,_,rfl, ?_⟩
      rw [cl3_eqv okcl]
      refine iteF ?_
      have h21':=s22 _ _ h21
      refine ⟨_,rfl,t21,_,_,_,rfl,rfl,s22.seqT ht21,rfl,.inl ⟨rfl,_,SqL.of h21'⟩,l21,w21,rfl,rfl,h21', ?_⟩
      exact ⟨_,_,_,_,rfl,P22.lst,fun c o e=>by rw [upd_ne (ne_of_none (S20 _ _ e) n21)]; exact S22 _ _ e⟩
    rintro σ H30 ⟨o7,o8,o9,oa,rfl,P30,S30⟩
    have h30:=S30 _ _ h15
    refine ⟨_,rfl,sl,rfl,⟨_,SqL.of h30⟩,fun D hD=>comp_genD (n:=3) (fun i=>[V.ref x0,.ref x1,.ref x2].getD i .non) (fun j y H=>∃ l ws X,[one,las,mi][j]? = some X∧y = .ref l∧l ≠ D∧H l = some (.lst ws)∧DVs K H (X.map prD) ws) hD P30 (by show 3 ≤ sizeLine; decide) (itl_ok (SqL.of h30)) ?_ ?_ ?_⟩
    · rintro j y Ha Hb ⟨l,ws,X,hX,e,nl,h1,h2⟩ k hz
      exact ⟨l,ws,X,hX,e,nl,k _ _ nl h1,DVs.mono k hz _ _ (noLs_pr _) h2⟩
    · rintro j H31 T' hj P31 S31 ⟨zD,hzD⟩ hT
      have SS:=S30.trans S31
      have key:∃ (x:Addr) (X:Sh),[V.ref x0,.ref x1,.ref x2].getD j .non = .ref x∧[one,las,mi][j]? = some X∧ShAt P w K A.Sheet H31 x X∧srtd X:=by
        match j,hj with
        | 0,_=>exact ⟨x0,one,rfl,rfl,X0.same SS,srt1⟩
        | 1,_=>exact ⟨x1,las,rfl,rfl,X1.same SS,srtl⟩
        | 2,_=>exact ⟨x2,mi,rfl,rfl,X2.same SS,srtm⟩
      obtain ⟨x,X,e1,e2,SX,srtX⟩:=key
      rw [e1]
      obtain ⟨dxa,_,_,_,hxa,_⟩:=id SX.ex
      refine ⟨_,rfl,x,dxa,_,rfl,hxa,rfl,P31,x,X,rfl,SX,fun H32 l32 bs32 w32 n32 s32 P32 h32 pm32 pw32 hw32 => ?_⟩
      obtain rfl:bs32 = X:=uniq (r:=fun (a b:Mark × Ver)=>mLt a.1 b.1 = true) as' pm32 pw32 srtX
      exact hT _ _ ⟨l32,w32,bs32,e2,rfl,(ne_of_none hzD n32).symm,h32,hw32⟩ s32 P32
    intro y31 H31 hyl hys hD31 S31 P31
    have SS:=S30.trans S31
    have hdv:DVs K H31 [.list (one.map prD),.list (las.map prD),.list (mi.map prD)] y31:=by
      have:=DVs.of (K:=K) (H:=H31) (f:=fun X:Sh=>PyData.list (X.map prD)) (xs:=[one,las,mi]) (vs:=y31) (by rw [hyl]; rfl) fun i v X hv hX=>by
        obtain ⟨l,ws,X',hX',rfl,_,h3,h4⟩:=hys i v hv
        rw [hX] at hX'
        cases hX'
        exact ⟨l,ws,rfl,SqL.of h3,h4⟩
      exact this
    refine ⟨_,rfl,_,rfl,_,rfl,by show 3 ≤ sizeLine; decide,fun l32 hp32 => ?_⟩
    generalize hH32:upd H31 l32 (HO.lst _) = H32
    have s32:Same H31 H32:=hH32 ▸ same_upd hp32
    have P32:Plain H32:=hH32 ▸ P31.lst
    have h32:=(congrFun hH32 l32).symm.trans upd_same
    have S32:=SS.trans s32
    obtain ⟨sh3,eq3⟩:=rows3 ok1.1 okl.1 okm'.1
    refine ⟨.list [.list (one.map prD),.list (las.map prD),.list (mi.map prD)],.list [.list (one.map prD),.list (las.map prD),.list (mi.map prD)],⟨D,y31,rfl,SqL.of (s32 _ _ hD31),DVs.same s32 _ _ hdv⟩,⟨l32,_,rfl,SqL.of h32,_,_,rfl,⟨l3,ws3,rfl,SqL.of ((s16.trans S32) _ _ hl3),DVs.same (s16.trans S32) _ _ hws3⟩,_,_,rfl,⟨ll,wl,rfl,SqL.of ((s16.trans S32) _ _ hll),DVs.same (s16.trans S32) _ _ hwl⟩,_,_,rfl,⟨lm,wm,rfl,SqL.of ((s16.trans S32) _ _ hlm),DVs.same (s16.trans S32) _ _ hwm⟩,rfl⟩,sh3,sh3,_,rfl, ?_⟩
    rw [eq3]
    refine iteF ?_
    have h33:=S32 _ _ h15
    refine ⟨_,rfl,sl,_,_,_,rfl,rfl,SqL.of h33,rfl,_,rfl,sl,_,_,_,rfl,rfl,SqL.of h33,rfl,_,rfl,sl,_,_,_,rfl,rfl,SqL.of h33,rfl, ?_⟩
    refine ⟨P32,x0,x2,x2,one,mi,mi,U,rfl,X0.same S32,X2.same S32,X2.same S32,lMM,lU,fun ta xa la ja wa H34 na s34 P34 hta Sha hla hwa isa _ => ?_⟩
    rw [mrg_self srtm okm'.2 isa] at Sha
    rw [clsh_self] at hwa
    have S34:=S32.trans s34
    have h34:=S34 _ _ h15
    refine ⟨_,rfl,sl,_,_,_,rfl,rfl,SqL.of h34,rfl,_,rfl,sl,_,_,_,rfl,rfl,SqL.of h34,rfl,_,rfl,sl,_,_,_,rfl,rfl,SqL.of h34,rfl, ?_⟩
    refine ⟨P34,x0,x0,x0,one,one,one,U,rfl,X0.same S34,X0.same S34,X0.same S34,lB,lU,fun tb xb lb' jb wb' H35 nb s35 P35 htb Shb hlb' hwb' isb _ => ?_⟩
    rw [mrg_self srt1 ok1.2 isb] at Shb
    rw [clsh_self] at hwb'
    have Sha:=Sha.same s35
    have hta:=s35.seqT hta
    have S35':=S34.trans s35
    obtain ⟨dxa,_,_,_,hxa,_⟩:=id Sha.ex
    refine ⟨_,rfl,ta,_,_,_,rfl,rfl,hta,rfl,xa,dxa,_,rfl,hxa,rfl,P35,xa,mi,rfl,Sha,fun H36 l36 bs36 w36 n36 s36 P36 h36 pm36 pw36 hw36 => ?_⟩
    obtain rfl:bs36 = mi:=uniq (r:=fun (a b:Mark × Ver)=>mLt a.1 b.1 = true) as' pm36 pw36 srtm
    have S36:=S35'.trans s36
    refine ⟨_,rfl,.list (bs36.map prD),.list (bs36.map prD),⟨l36,w36,rfl,SqL.of h36,hw36⟩,⟨lm,wm,rfl,SqL.of ((s16.trans S36) _ _ hlm),DVs.same (s16.trans S36) _ _ hwm⟩,prL_shaped okm'.1,prL_shaped okm'.1, ?_⟩
    rw [prs_eqv okm'.1]
    refine ⟨true,rfl,iteT ?_⟩
    refine ⟨_,rfl,ta,_,_,_,rfl,rfl,s36.seqT hta,rfl,Nat.zero_le _,fun e37 hp37 => ?_⟩
    generalize hH37:upd H36 e37 (HO.lst _) = H37
    have s37:Same H36 H37:=hH37 ▸ same_upd hp37
    have P37:Plain H37:=hH37 ▸ P36.lst
    have h37:=(congrFun hH37 e37).symm.trans upd_same
    refine ⟨.list [],.list [],⟨la,wa,rfl,SqL.of (((s35.trans s36).trans s37) _ _ hla),DVs.same ((s35.trans s36).trans s37) _ _ hwa⟩,⟨e37,[],rfl,SqL.of h37,rfl⟩,rfl,rfl, ?_⟩
    refine ⟨true,rfl,iteT ?_⟩
    have S3537:=s36.trans s37
    have Shb:=Shb.same S3537
    have htb:=S3537.seqT htb
    obtain ⟨dxb,_,_,_,hxb,_⟩:=id Shb.ex
    refine ⟨_,rfl,tb,_,_,_,rfl,rfl,htb,rfl,xb,dxb,_,rfl,hxb,rfl,P37,xb,one,rfl,Shb,fun H38 l38 bs38 w38 n38 s38 P38 h38 pm38 pw38 hw38 => ?_⟩
    obtain rfl:bs38 = one:=uniq (r:=fun (a b:Mark × Ver)=>mLt a.1 b.1 = true) as' pm38 pw38 srt1
    have S38':=(S35'.trans S3537).trans s38
    refine ⟨_,rfl,.list (bs38.map prD),.list (bs38.map prD),⟨l38,w38,rfl,SqL.of h38,hw38⟩,⟨l3,ws3,rfl,SqL.of ((s16.trans S38') _ _ hl3),DVs.same (s16.trans S38') _ _ hws3⟩,prL_shaped ok1.1,prL_shaped ok1.1, ?_⟩
    rw [prs_eqv ok1.1]
    refine ⟨true,rfl,iteT ?_⟩
    refine ⟨_,rfl,tb,_,_,_,rfl,rfl,s38.seqT htb,rfl,Nat.zero_le _,fun e39 hp39 => ?_⟩
    generalize hH39:upd H38 e39 (HO.lst _) = H39
    have s39:Same H38 H39:=hH39 ▸ same_upd hp39
    have P39:Plain H39:=hH39 ▸ P38.lst
    have h39:=(congrFun hH39 e39).symm.trans upd_same
    refine ⟨.list [],.list [],⟨lb',wb',rfl,SqL.of (((S3537.trans s38).trans s39) _ _ hlb'),DVs.same ((S3537.trans s38).trans s39) _ _ hwb'⟩,⟨e39,[],rfl,SqL.of h39,rfl⟩,rfl,rfl, ?_⟩
    exact kk _
end
theorem all_mk {l:PySem.W.OpenLaw} {w:World} {K:PySem.W.Frag} {h:Heap} {mg:Str→Option Value} {fa:Addr} (X:K.In h) (G:h.Ns mainGlobals mg) (hfa:mg "law" = some (.ref fa))
    {f_alike:Addr} {od_alike an_alike:Option Addr} {sl_alike:Array (Option Value)} {oc_alike kV_alike dc_alike pm_alike cd_alike ct_alike:Value}
    {f_later:Addr} {od_later an_later:Option Addr} {sl_later:Array (Option Value)} {oc_later kV_later dc_later pm_later cd_later ct_later:Value}
    {f_Sheet____init__:Addr} {od_Sheet____init__ an_Sheet____init__:Option Addr} {sl_Sheet____init__:Array (Option Value)} {oc_Sheet____init__ kV_Sheet____init__ dc_Sheet____init__ pm_Sheet____init__ cd_Sheet____init__ ct_Sheet____init__:Value}
    {f_Sheet__pairs:Addr} {od_Sheet__pairs an_Sheet__pairs:Option Addr} {sl_Sheet__pairs:Array (Option Value)} {oc_Sheet__pairs kV_Sheet__pairs dc_Sheet__pairs pm_Sheet__pairs cd_Sheet__pairs ct_Sheet__pairs:Value}
    {f_Sheet__version:Addr} {od_Sheet__version an_Sheet__version:Option Addr} {sl_Sheet__version:Array (Option Value)} {oc_Sheet__version kV_Sheet__version dc_Sheet__version pm_Sheet__version cd_Sheet__version ct_Sheet__version:Value}
    {f_marks_of:Addr} {od_marks_of an_marks_of:Option Addr} {sl_marks_of:Array (Option Value)} {oc_marks_of kV_marks_of dc_marks_of pm_marks_of cd_marks_of ct_marks_of:Value}
    {f_clash_due:Addr} {od_clash_due an_clash_due:Option Addr} {sl_clash_due:Array (Option Value)} {oc_clash_due kV_clash_due dc_clash_due pm_clash_due cd_clash_due ct_clash_due:Value}
    {f_merged:Addr} {od_merged an_merged:Option Addr} {sl_merged:Array (Option Value)} {oc_merged kV_merged dc_merged pm_merged cd_merged ct_merged:Value}
    {f__law_digits:Addr} {od__law_digits an__law_digits:Option Addr} {sl__law_digits:Array (Option Value)} {oc__law_digits kV__law_digits dc__law_digits pm__law_digits cd__law_digits ct__law_digits:Value}
    {f__law_signs:Addr} {od__law_signs an__law_signs:Option Addr} {sl__law_signs:Array (Option Value)} {oc__law_signs kV__law_signs dc__law_signs pm__law_signs cd__law_signs ct__law_signs:Value}
    {f__law_words:Addr} {od__law_words an__law_words:Option Addr} {sl__law_words:Array (Option Value)} {oc__law_words kV__law_words dc__law_words pm__law_words cd__law_words ct__law_words:Value}
    {f__law_version:Addr} {od__law_version an__law_version:Option Addr} {sl__law_version:Array (Option Value)} {oc__law_version kV__law_version dc__law_version pm__law_version cd__law_version ct__law_version:Value}
    {f__law_pairs:Addr} {od__law_pairs an__law_pairs:Option Addr} {sl__law_pairs:Array (Option Value)} {oc__law_pairs kV__law_pairs dc__law_pairs pm__law_pairs cd__law_pairs ct__law_pairs:Value}
    {f__law_bent:Addr} {od__law_bent an__law_bent:Option Addr} {sl__law_bent:Array (Option Value)} {oc__law_bent kV__law_bent dc__law_bent pm__law_bent cd__law_bent ct__law_bent:Value}
    {f__law_table:Addr} {od__law_table an__law_table:Option Addr} {sl__law_table:Array (Option Value)} {oc__law_table kV__law_table dc__law_table pm__law_table cd__law_table ct__law_table:Value}
    {f__law_alike_too:Addr} {od__law_alike_too an__law_alike_too:Option Addr} {sl__law_alike_too:Array (Option Value)} {oc__law_alike_too kV__law_alike_too dc__law_alike_too pm__law_alike_too cd__law_alike_too ct__law_alike_too:Value}
    {f__law_due:Addr} {od__law_due an__law_due:Option Addr} {sl__law_due:Array (Option Value)} {oc__law_due kV__law_due dc__law_due pm__law_due cd__law_due ct__law_due:Value}
    {f_law:Addr} {od_law an_law:Option Addr} {sl_law:Array (Option Value)} {oc_law kV_law dc_law pm_law cd_law ct_law:Value}
    {C_NoSheet:Addr}
    {C_Sheet:Addr}
    (a_alike:PySem.W.nsIn K mainGlobals "alike" = some (some (.ref f_alike))) (l_alike:K.lookup f_alike = some ⟨oc_alike,od_alike,.func (PySem.W.fnOf "alike" "alike" (defArgs s_alike) (defBody s_alike) (defScope s_alike) .none kV_alike dc_alike pm_alike an_alike cd_alike ct_alike),sl_alike⟩) (c_alike:PySem.W.codeIn K cd_alike "alike" = true) (k_alike:PySem.W.keepIn K (.ref f_alike) = true)
    (a_later:PySem.W.nsIn K mainGlobals "later" = some (some (.ref f_later))) (l_later:K.lookup f_later = some ⟨oc_later,od_later,.func (PySem.W.fnOf "later" "later" (defArgs s_later) (defBody s_later) (defScope s_later) .none kV_later dc_later pm_later an_later cd_later ct_later),sl_later⟩) (c_later:PySem.W.codeIn K cd_later "later" = true) (k_later:PySem.W.keepIn K (.ref f_later) = true)
    (a_Sheet____init__:PySem.W.findIn K (.ref C_Sheet) "__init__" = some (some (.ref f_Sheet____init__))) (i_Sheet____init__:PySem.W.isFn K (.ref f_Sheet____init__) = true) (l_Sheet____init__:K.lookup f_Sheet____init__ = some ⟨oc_Sheet____init__,od_Sheet____init__,.func (PySem.W.fnOf "__init__" "Sheet.__init__" (defArgs s_Sheet____init__) (defBody s_Sheet____init__) (defScope s_Sheet____init__) .none kV_Sheet____init__ dc_Sheet____init__ pm_Sheet____init__ an_Sheet____init__ cd_Sheet____init__ ct_Sheet____init__),sl_Sheet____init__⟩) (c_Sheet____init__:PySem.W.codeIn K cd_Sheet____init__ "Sheet.__init__" = true) (k_Sheet____init__:PySem.W.keepIn K (.ref f_Sheet____init__) = true)
    (a_Sheet__pairs:PySem.W.findIn K (.ref C_Sheet) "pairs" = some (some (.ref f_Sheet__pairs))) (i_Sheet__pairs:PySem.W.isFn K (.ref f_Sheet__pairs) = true) (l_Sheet__pairs:K.lookup f_Sheet__pairs = some ⟨oc_Sheet__pairs,od_Sheet__pairs,.func (PySem.W.fnOf "pairs" "Sheet.pairs" (defArgs s_Sheet__pairs) (defBody s_Sheet__pairs) (defScope s_Sheet__pairs) .none kV_Sheet__pairs dc_Sheet__pairs pm_Sheet__pairs an_Sheet__pairs cd_Sheet__pairs ct_Sheet__pairs),sl_Sheet__pairs⟩) (c_Sheet__pairs:PySem.W.codeIn K cd_Sheet__pairs "Sheet.pairs" = true) (k_Sheet__pairs:PySem.W.keepIn K (.ref f_Sheet__pairs) = true)
    (a_Sheet__version:PySem.W.findIn K (.ref C_Sheet) "version" = some (some (.ref f_Sheet__version))) (i_Sheet__version:PySem.W.isFn K (.ref f_Sheet__version) = true) (l_Sheet__version:K.lookup f_Sheet__version = some ⟨oc_Sheet__version,od_Sheet__version,.func (PySem.W.fnOf "version" "Sheet.version" (defArgs s_Sheet__version) (defBody s_Sheet__version) (defScope s_Sheet__version) .none kV_Sheet__version dc_Sheet__version pm_Sheet__version an_Sheet__version cd_Sheet__version ct_Sheet__version),sl_Sheet__version⟩) (c_Sheet__version:PySem.W.codeIn K cd_Sheet__version "Sheet.version" = true) (k_Sheet__version:PySem.W.keepIn K (.ref f_Sheet__version) = true)
    (a_marks_of:PySem.W.nsIn K mainGlobals "marks_of" = some (some (.ref f_marks_of))) (l_marks_of:K.lookup f_marks_of = some ⟨oc_marks_of,od_marks_of,.func (PySem.W.fnOf "marks_of" "marks_of" (defArgs s_marks_of) (defBody s_marks_of) (defScope s_marks_of) .none kV_marks_of dc_marks_of pm_marks_of an_marks_of cd_marks_of ct_marks_of),sl_marks_of⟩) (c_marks_of:PySem.W.codeIn K cd_marks_of "marks_of" = true) (k_marks_of:PySem.W.keepIn K (.ref f_marks_of) = true)
    (a_clash_due:PySem.W.nsIn K mainGlobals "clash_due" = some (some (.ref f_clash_due))) (l_clash_due:K.lookup f_clash_due = some ⟨oc_clash_due,od_clash_due,.func (PySem.W.fnOf "clash_due" "clash_due" (defArgs s_clash_due) (defBody s_clash_due) (defScope s_clash_due) .none kV_clash_due dc_clash_due pm_clash_due an_clash_due cd_clash_due ct_clash_due),sl_clash_due⟩) (c_clash_due:PySem.W.codeIn K cd_clash_due "clash_due" = true) (k_clash_due:PySem.W.keepIn K (.ref f_clash_due) = true)
    (a_merged:PySem.W.nsIn K mainGlobals "merged" = some (some (.ref f_merged))) (l_merged:K.lookup f_merged = some ⟨oc_merged,od_merged,.func (PySem.W.fnOf "merged" "merged" (defArgs s_merged) (defBody s_merged) (defScope s_merged) .none kV_merged dc_merged pm_merged an_merged cd_merged ct_merged),sl_merged⟩) (c_merged:PySem.W.codeIn K cd_merged "merged" = true) (k_merged:PySem.W.keepIn K (.ref f_merged) = true)
    (a__law_digits:PySem.W.nsIn K mainGlobals "_law_digits" = some (some (.ref f__law_digits))) (l__law_digits:K.lookup f__law_digits = some ⟨oc__law_digits,od__law_digits,.func (PySem.W.fnOf "_law_digits" "_law_digits" (defArgs s__law_digits) (defBody s__law_digits) (defScope s__law_digits) .none kV__law_digits dc__law_digits pm__law_digits an__law_digits cd__law_digits ct__law_digits),sl__law_digits⟩) (c__law_digits:PySem.W.codeIn K cd__law_digits "_law_digits" = true) (k__law_digits:PySem.W.keepIn K (.ref f__law_digits) = true)
    (a__law_signs:PySem.W.nsIn K mainGlobals "_law_signs" = some (some (.ref f__law_signs))) (l__law_signs:K.lookup f__law_signs = some ⟨oc__law_signs,od__law_signs,.func (PySem.W.fnOf "_law_signs" "_law_signs" (defArgs s__law_signs) (defBody s__law_signs) (defScope s__law_signs) .none kV__law_signs dc__law_signs pm__law_signs an__law_signs cd__law_signs ct__law_signs),sl__law_signs⟩) (c__law_signs:PySem.W.codeIn K cd__law_signs "_law_signs" = true) (k__law_signs:PySem.W.keepIn K (.ref f__law_signs) = true)
    (a__law_words:PySem.W.nsIn K mainGlobals "_law_words" = some (some (.ref f__law_words))) (l__law_words:K.lookup f__law_words = some ⟨oc__law_words,od__law_words,.func (PySem.W.fnOf "_law_words" "_law_words" (defArgs s__law_words) (defBody s__law_words) (defScope s__law_words) .none kV__law_words dc__law_words pm__law_words an__law_words cd__law_words ct__law_words),sl__law_words⟩) (c__law_words:PySem.W.codeIn K cd__law_words "_law_words" = true) (k__law_words:PySem.W.keepIn K (.ref f__law_words) = true)
    (a__law_version:PySem.W.nsIn K mainGlobals "_law_version" = some (some (.ref f__law_version))) (l__law_version:K.lookup f__law_version = some ⟨oc__law_version,od__law_version,.func (PySem.W.fnOf "_law_version" "_law_version" (defArgs s__law_version) (defBody s__law_version) (defScope s__law_version) .none kV__law_version dc__law_version pm__law_version an__law_version cd__law_version ct__law_version),sl__law_version⟩) (c__law_version:PySem.W.codeIn K cd__law_version "_law_version" = true) (k__law_version:PySem.W.keepIn K (.ref f__law_version) = true)
    (a__law_pairs:PySem.W.nsIn K mainGlobals "_law_pairs" = some (some (.ref f__law_pairs))) (l__law_pairs:K.lookup f__law_pairs = some ⟨oc__law_pairs,od__law_pairs,.func (PySem.W.fnOf "_law_pairs" "_law_pairs" (defArgs s__law_pairs) (defBody s__law_pairs) (defScope s__law_pairs) .none kV__law_pairs dc__law_pairs pm__law_pairs an__law_pairs cd__law_pairs ct__law_pairs),sl__law_pairs⟩) (c__law_pairs:PySem.W.codeIn K cd__law_pairs "_law_pairs" = true) (k__law_pairs:PySem.W.keepIn K (.ref f__law_pairs) = true)
    (a__law_bent:PySem.W.nsIn K mainGlobals "_law_bent" = some (some (.ref f__law_bent))) (l__law_bent:K.lookup f__law_bent = some ⟨oc__law_bent,od__law_bent,.func (PySem.W.fnOf "_law_bent" "_law_bent" (defArgs s__law_bent) (defBody s__law_bent) (defScope s__law_bent) .none kV__law_bent dc__law_bent pm__law_bent an__law_bent cd__law_bent ct__law_bent),sl__law_bent⟩) (c__law_bent:PySem.W.codeIn K cd__law_bent "_law_bent" = true) (k__law_bent:PySem.W.keepIn K (.ref f__law_bent) = true)
    (a__law_table:PySem.W.nsIn K mainGlobals "_law_table" = some (some (.ref f__law_table))) (l__law_table:K.lookup f__law_table = some ⟨oc__law_table,od__law_table,.func (PySem.W.fnOf "_law_table" "_law_table" (defArgs s__law_table) (defBody s__law_table) (defScope s__law_table) .none kV__law_table dc__law_table pm__law_table an__law_table cd__law_table ct__law_table),sl__law_table⟩) (c__law_table:PySem.W.codeIn K cd__law_table "_law_table" = true) (k__law_table:PySem.W.keepIn K (.ref f__law_table) = true)
    (a__law_alike_too:PySem.W.nsIn K mainGlobals "_law_alike_too" = some (some (.ref f__law_alike_too))) (l__law_alike_too:K.lookup f__law_alike_too = some ⟨oc__law_alike_too,od__law_alike_too,.func (PySem.W.fnOf "_law_alike_too" "_law_alike_too" (defArgs s__law_alike_too) (defBody s__law_alike_too) (defScope s__law_alike_too) .none kV__law_alike_too dc__law_alike_too pm__law_alike_too an__law_alike_too cd__law_alike_too ct__law_alike_too),sl__law_alike_too⟩) (c__law_alike_too:PySem.W.codeIn K cd__law_alike_too "_law_alike_too" = true) (k__law_alike_too:PySem.W.keepIn K (.ref f__law_alike_too) = true)
    (a__law_due:PySem.W.nsIn K mainGlobals "_law_due" = some (some (.ref f__law_due))) (l__law_due:K.lookup f__law_due = some ⟨oc__law_due,od__law_due,.func (PySem.W.fnOf "_law_due" "_law_due" (defArgs s__law_due) (defBody s__law_due) (defScope s__law_due) .none kV__law_due dc__law_due pm__law_due an__law_due cd__law_due ct__law_due),sl__law_due⟩) (c__law_due:PySem.W.codeIn K cd__law_due "_law_due" = true) (k__law_due:PySem.W.keepIn K (.ref f__law_due) = true)
    (a_law:PySem.W.nsIn K mainGlobals "law" = some (some (.ref f_law))) (l_law:K.lookup f_law = some ⟨oc_law,od_law,.func (PySem.W.fnOf "law" "law" (defArgs s_law) (defBody s_law) (defScope s_law) .none kV_law dc_law pm_law an_law cd_law ct_law),sl_law⟩) (c_law:PySem.W.codeIn K cd_law "law" = true) (k_law:PySem.W.keepIn K (.ref f_law) = true)
    (q_NoSheet:PySem.W.nsIn K mainGlobals "NoSheet" = some (some (.ref C_NoSheet)))
    (x_NoSheet:XCls K C_NoSheet)
    (q_Sheet:PySem.W.nsIn K mainGlobals "Sheet" = some (some (.ref C_Sheet)))
    (pg_Sheet:PySem.W.plainGet K C_Sheet Str.empty = true) (hd_Sheet:PySem.W.hasDictIn K C_Sheet = true) (po_Sheet:PySem.W.plainOver K C_Sheet = true) (sa_Sheet:PySem.W.findIn K (.ref C_Sheet) "__setattr__" = some (some (.builtin "object.__setattr__"))) (mk_Sheet:PySem.W.makesIn K C_Sheet = true) (kc_Sheet:PySem.W.keepIn K (.ref C_Sheet) = true)
    (na_Sheet_versions:PySem.W.findIn K (.ref C_Sheet) "versions" = some none)
    (n_dict:PySem.W.nsIn K mainGlobals "dict" = some none)
    (n_enumerate:PySem.W.nsIn K mainGlobals "enumerate" = some none)
    (n_isinstance:PySem.W.nsIn K mainGlobals "isinstance" = some none)
    (n_len:PySem.W.nsIn K mainGlobals "len" = some none)
    (n_max:PySem.W.nsIn K mainGlobals "max" = some none)
    (n_range:PySem.W.nsIn K mainGlobals "range" = some none)
    (n_set:PySem.W.nsIn K mainGlobals "set" = some none)
    (n_sorted:PySem.W.nsIn K mainGlobals "sorted" = some none)
    (n_tuple:PySem.W.nsIn K mainGlobals "tuple" = some none)
    : ∃ fd:FuncData,(∀ (s:Shared) (v:Value),BindsTo s fd ⟨[v],[]⟩ [("_law_script",v)])∧∀ base:Heap,K.In base→base.Ns mainGlobals mg→FnOk l.prog w K mg base (CX1 l.prog w base) 5 fa fd ["_law_script"] (sp_law K):=by
  have e:=hfa.symm.trans (PySem.W.mg_of X G a_law)
  cases e
  have F_alike:=fun_mk (st:=s_alike) l_alike c_alike k_alike
  have F_later:=fun_mk (st:=s_later) l_later c_later k_later
  have F_Sheet____init__:=fun_mk (st:=s_Sheet____init__) l_Sheet____init__ c_Sheet____init__ k_Sheet____init__
  have F_Sheet__pairs:=fun_mk (st:=s_Sheet__pairs) l_Sheet__pairs c_Sheet__pairs k_Sheet__pairs
  have F_Sheet__version:=fun_mk (st:=s_Sheet__version) l_Sheet__version c_Sheet__version k_Sheet__version
  have F_marks_of:=fun_mk (st:=s_marks_of) l_marks_of c_marks_of k_marks_of
  have F_clash_due:=fun_mk (st:=s_clash_due) l_clash_due c_clash_due k_clash_due
  have F_merged:=fun_mk (st:=s_merged) l_merged c_merged k_merged
  have F__law_digits:=fun_mk (st:=s__law_digits) l__law_digits c__law_digits k__law_digits
  have F__law_signs:=fun_mk (st:=s__law_signs) l__law_signs c__law_signs k__law_signs
  have F__law_words:=fun_mk (st:=s__law_words) l__law_words c__law_words k__law_words
  have F__law_version:=fun_mk (st:=s__law_version) l__law_version c__law_version k__law_version
  have F__law_pairs:=fun_mk (st:=s__law_pairs) l__law_pairs c__law_pairs k__law_pairs
  have F__law_bent:=fun_mk (st:=s__law_bent) l__law_bent c__law_bent k__law_bent
  have F__law_table:=fun_mk (st:=s__law_table) l__law_table c__law_table k__law_table
  have F__law_alike_too:=fun_mk (st:=s__law_alike_too) l__law_alike_too c__law_alike_too k__law_alike_too
  have F__law_due:=fun_mk (st:=s__law_due) l__law_due c__law_due k__law_due
  have F_law:=fun_mk (st:=s_law) l_law c_law k_law
  have T:Txt K mg ⟨f_alike,_,f_later,_,f_Sheet____init__,_,f_Sheet__pairs,_,f_Sheet__version,_,f_marks_of,_,f_clash_due,_,f_merged,_,f__law_digits,_,f__law_signs,_,f__law_words,_,f__law_version,_,f__law_pairs,_,f__law_bent,_,f__law_table,_,f__law_alike_too,_,f__law_due,_,fa,_,C_NoSheet,C_Sheet⟩:=⟨F_alike,(PySem.W.mg_of X G a_alike),k_alike,(F_alike.binds fun _ _ _ _ _ _ us hl=>match us,hl with | [_,_],_=>rfl),F_later,(PySem.W.mg_of X G a_later),k_later,(F_later.binds fun _ _ _ _ _ _ us hl=>match us,hl with | [_,_],_=>rfl),F_Sheet____init__,(F_Sheet____init__.binds fun _ _ _ _ _ _ us hl=>match us,hl with | [_,_],_=>rfl),⟨mk_Sheet,a_Sheet____init__,i_Sheet____init__,kc_Sheet⟩,F_Sheet__pairs,(F_Sheet__pairs.binds fun _ _ _ _ _ _ us hl=>match us,hl with | [_],_=>rfl),⟨a_Sheet__pairs,i_Sheet__pairs,k_Sheet__pairs⟩,F_Sheet__version,(F_Sheet__version.binds fun _ _ _ _ _ _ us hl=>match us,hl with | [_,_],_=>rfl),⟨a_Sheet__version,i_Sheet__version,k_Sheet__version⟩,F_marks_of,(PySem.W.mg_of X G a_marks_of),k_marks_of,(F_marks_of.binds fun _ _ _ _ _ _ us hl=>match us,hl with | [_,_],_=>rfl),F_clash_due,(PySem.W.mg_of X G a_clash_due),k_clash_due,(F_clash_due.binds fun _ _ _ _ _ _ us hl=>match us,hl with | [_,_,_],_=>rfl),F_merged,(PySem.W.mg_of X G a_merged),k_merged,(F_merged.binds fun _ _ _ _ _ _ us hl=>match us,hl with | [_,_,_],_=>rfl),F__law_digits,(PySem.W.mg_of X G a__law_digits),k__law_digits,(F__law_digits.binds fun _ _ _ _ _ _ us hl=>match us,hl with | [_,_],_=>rfl),F__law_signs,(PySem.W.mg_of X G a__law_signs),k__law_signs,(F__law_signs.binds fun _ _ _ _ _ _ us hl=>match us,hl with | [],_=>rfl),F__law_words,(PySem.W.mg_of X G a__law_words),k__law_words,(F__law_words.binds fun _ _ _ _ _ _ us hl=>match us,hl with | [_,_],_=>rfl),F__law_version,(PySem.W.mg_of X G a__law_version),k__law_version,(F__law_version.binds fun _ _ _ _ _ _ us hl=>match us,hl with | [_],_=>rfl),F__law_pairs,(PySem.W.mg_of X G a__law_pairs),k__law_pairs,(F__law_pairs.binds fun _ _ _ _ _ _ us hl=>match us,hl with | [_],_=>rfl),F__law_bent,(PySem.W.mg_of X G a__law_bent),k__law_bent,(F__law_bent.binds fun _ _ _ _ _ _ us hl=>match us,hl with | [_,_,_],_=>rfl),F__law_table,(PySem.W.mg_of X G a__law_table),k__law_table,(F__law_table.binds fun _ _ _ _ _ _ us hl=>match us,hl with | [_],_=>rfl),F__law_alike_too,(PySem.W.mg_of X G a__law_alike_too),k__law_alike_too,(F__law_alike_too.binds fun _ _ _ _ _ _ us hl=>match us,hl with | [_,_,_],_=>rfl),F__law_due,(PySem.W.mg_of X G a__law_due),k__law_due,(F__law_due.binds fun _ _ _ _ _ _ us hl=>match us,hl with | [_,_,_],_=>rfl),F_law,(PySem.W.mg_of X G a_law),k_law,(F_law.binds fun _ _ _ _ _ _ us hl=>match us,hl with | [_],_=>rfl),(PySem.W.mg_of X G q_NoSheet),x_NoSheet,(PySem.W.mg_of X G q_Sheet),⟨pg_Sheet,hd_Sheet,po_Sheet,sa_Sheet⟩,na_Sheet_versions,(PySem.W.mg_none_of X G n_dict),(PySem.W.mg_none_of X G n_enumerate),(PySem.W.mg_none_of X G n_isinstance),(PySem.W.mg_none_of X G n_len),(PySem.W.mg_none_of X G n_max),(PySem.W.mg_none_of X G n_range),(PySem.W.mg_none_of X G n_set),(PySem.W.mg_none_of X G n_sorted),(PySem.W.mg_none_of X G n_tuple)⟩
  refine ⟨PySem.W.fnOf "law" "law" (defArgs s_law) (defBody s_law) (defScope s_law) .none kV_law dc_law pm_law an_law cd_law ct_law,fun s v=>.of_eq rfl,fun base _ _ => ?_⟩
  have G_alike:Ok_alike l.prog w K mg base ⟨f_alike,_,f_later,_,f_Sheet____init__,_,f_Sheet__pairs,_,f_Sheet__version,_,f_marks_of,_,f_clash_due,_,f_merged,_,f__law_digits,_,f__law_signs,_,f__law_words,_,f__law_version,_,f__law_pairs,_,f__law_bent,_,f__law_table,_,f__law_alike_too,_,f__law_due,_,fa,_,C_NoSheet,C_Sheet⟩:=ok_alike T
  have G_later:Ok_later l.prog w K mg base ⟨f_alike,_,f_later,_,f_Sheet____init__,_,f_Sheet__pairs,_,f_Sheet__version,_,f_marks_of,_,f_clash_due,_,f_merged,_,f__law_digits,_,f__law_signs,_,f__law_words,_,f__law_version,_,f__law_pairs,_,f__law_bent,_,f__law_table,_,f__law_alike_too,_,f__law_due,_,fa,_,C_NoSheet,C_Sheet⟩:=ok_later T
  have G_Sheet____init__:Ok_Sheet____init__ l.prog w K mg base ⟨f_alike,_,f_later,_,f_Sheet____init__,_,f_Sheet__pairs,_,f_Sheet__version,_,f_marks_of,_,f_clash_due,_,f_merged,_,f__law_digits,_,f__law_signs,_,f__law_words,_,f__law_version,_,f__law_pairs,_,f__law_bent,_,f__law_table,_,f__law_alike_too,_,f__law_due,_,fa,_,C_NoSheet,C_Sheet⟩:=ok_Sheet____init__ T
  have G_Sheet__pairs:Ok_Sheet__pairs l.prog w K mg base ⟨f_alike,_,f_later,_,f_Sheet____init__,_,f_Sheet__pairs,_,f_Sheet__version,_,f_marks_of,_,f_clash_due,_,f_merged,_,f__law_digits,_,f__law_signs,_,f__law_words,_,f__law_version,_,f__law_pairs,_,f__law_bent,_,f__law_table,_,f__law_alike_too,_,f__law_due,_,fa,_,C_NoSheet,C_Sheet⟩:=ok_Sheet__pairs T
  have G_Sheet__version:Ok_Sheet__version l.prog w K mg base ⟨f_alike,_,f_later,_,f_Sheet____init__,_,f_Sheet__pairs,_,f_Sheet__version,_,f_marks_of,_,f_clash_due,_,f_merged,_,f__law_digits,_,f__law_signs,_,f__law_words,_,f__law_version,_,f__law_pairs,_,f__law_bent,_,f__law_table,_,f__law_alike_too,_,f__law_due,_,fa,_,C_NoSheet,C_Sheet⟩:=ok_Sheet__version T
  have G_marks_of:Ok_marks_of l.prog w K mg base ⟨f_alike,_,f_later,_,f_Sheet____init__,_,f_Sheet__pairs,_,f_Sheet__version,_,f_marks_of,_,f_clash_due,_,f_merged,_,f__law_digits,_,f__law_signs,_,f__law_words,_,f__law_version,_,f__law_pairs,_,f__law_bent,_,f__law_table,_,f__law_alike_too,_,f__law_due,_,fa,_,C_NoSheet,C_Sheet⟩:=ok_marks_of T G_Sheet__pairs
  have G_clash_due:Ok_clash_due l.prog w K mg base ⟨f_alike,_,f_later,_,f_Sheet____init__,_,f_Sheet__pairs,_,f_Sheet__version,_,f_marks_of,_,f_clash_due,_,f_merged,_,f__law_digits,_,f__law_signs,_,f__law_words,_,f__law_version,_,f__law_pairs,_,f__law_bent,_,f__law_table,_,f__law_alike_too,_,f__law_due,_,fa,_,C_NoSheet,C_Sheet⟩:=ok_clash_due T G_alike
  have G_merged:Ok_merged l.prog w K mg base ⟨f_alike,_,f_later,_,f_Sheet____init__,_,f_Sheet__pairs,_,f_Sheet__version,_,f_marks_of,_,f_clash_due,_,f_merged,_,f__law_digits,_,f__law_signs,_,f__law_words,_,f__law_version,_,f__law_pairs,_,f__law_bent,_,f__law_table,_,f__law_alike_too,_,f__law_due,_,fa,_,C_NoSheet,C_Sheet⟩:=ok_merged T G_later G_Sheet____init__ G_Sheet__version G_marks_of G_clash_due
  have G__law_digits:Ok__law_digits l.prog w K mg base ⟨f_alike,_,f_later,_,f_Sheet____init__,_,f_Sheet__pairs,_,f_Sheet__version,_,f_marks_of,_,f_clash_due,_,f_merged,_,f__law_digits,_,f__law_signs,_,f__law_words,_,f__law_version,_,f__law_pairs,_,f__law_bent,_,f__law_table,_,f__law_alike_too,_,f__law_due,_,fa,_,C_NoSheet,C_Sheet⟩:=ok__law_digits T
  have G__law_signs:Ok__law_signs l.prog w K mg base ⟨f_alike,_,f_later,_,f_Sheet____init__,_,f_Sheet__pairs,_,f_Sheet__version,_,f_marks_of,_,f_clash_due,_,f_merged,_,f__law_digits,_,f__law_signs,_,f__law_words,_,f__law_version,_,f__law_pairs,_,f__law_bent,_,f__law_table,_,f__law_alike_too,_,f__law_due,_,fa,_,C_NoSheet,C_Sheet⟩:=ok__law_signs T
  have G__law_words:Ok__law_words l.prog w K mg base ⟨f_alike,_,f_later,_,f_Sheet____init__,_,f_Sheet__pairs,_,f_Sheet__version,_,f_marks_of,_,f_clash_due,_,f_merged,_,f__law_digits,_,f__law_signs,_,f__law_words,_,f__law_version,_,f__law_pairs,_,f__law_bent,_,f__law_table,_,f__law_alike_too,_,f__law_due,_,fa,_,C_NoSheet,C_Sheet⟩:=ok__law_words T G__law_signs
  have G__law_version:Ok__law_version l.prog w K mg base ⟨f_alike,_,f_later,_,f_Sheet____init__,_,f_Sheet__pairs,_,f_Sheet__version,_,f_marks_of,_,f_clash_due,_,f_merged,_,f__law_digits,_,f__law_signs,_,f__law_words,_,f__law_version,_,f__law_pairs,_,f__law_bent,_,f__law_table,_,f__law_alike_too,_,f__law_due,_,fa,_,C_NoSheet,C_Sheet⟩:=ok__law_version T G__law_words
  have G__law_pairs:Ok__law_pairs l.prog w K mg base ⟨f_alike,_,f_later,_,f_Sheet____init__,_,f_Sheet__pairs,_,f_Sheet__version,_,f_marks_of,_,f_clash_due,_,f_merged,_,f__law_digits,_,f__law_signs,_,f__law_words,_,f__law_version,_,f__law_pairs,_,f__law_bent,_,f__law_table,_,f__law_alike_too,_,f__law_due,_,fa,_,C_NoSheet,C_Sheet⟩:=ok__law_pairs T G__law_digits G__law_version
  have G__law_bent:Ok__law_bent l.prog w K mg base ⟨f_alike,_,f_later,_,f_Sheet____init__,_,f_Sheet__pairs,_,f_Sheet__version,_,f_marks_of,_,f_clash_due,_,f_merged,_,f__law_digits,_,f__law_signs,_,f__law_words,_,f__law_version,_,f__law_pairs,_,f__law_bent,_,f__law_table,_,f__law_alike_too,_,f__law_due,_,fa,_,C_NoSheet,C_Sheet⟩:=ok__law_bent T G__law_digits G__law_version
  have G__law_table:Ok__law_table l.prog w K mg base ⟨f_alike,_,f_later,_,f_Sheet____init__,_,f_Sheet__pairs,_,f_Sheet__version,_,f_marks_of,_,f_clash_due,_,f_merged,_,f__law_digits,_,f__law_signs,_,f__law_words,_,f__law_version,_,f__law_pairs,_,f__law_bent,_,f__law_table,_,f__law_alike_too,_,f__law_due,_,fa,_,C_NoSheet,C_Sheet⟩:=ok__law_table T
  have G__law_alike_too:Ok__law_alike_too l.prog w K mg base ⟨f_alike,_,f_later,_,f_Sheet____init__,_,f_Sheet__pairs,_,f_Sheet__version,_,f_marks_of,_,f_clash_due,_,f_merged,_,f__law_digits,_,f__law_signs,_,f__law_words,_,f__law_version,_,f__law_pairs,_,f__law_bent,_,f__law_table,_,f__law_alike_too,_,f__law_due,_,fa,_,C_NoSheet,C_Sheet⟩:=ok__law_alike_too T G__law_digits G__law_table
  have G__law_due:Ok__law_due l.prog w K mg base ⟨f_alike,_,f_later,_,f_Sheet____init__,_,f_Sheet__pairs,_,f_Sheet__version,_,f_marks_of,_,f_clash_due,_,f_merged,_,f__law_digits,_,f__law_signs,_,f__law_words,_,f__law_version,_,f__law_pairs,_,f__law_bent,_,f__law_table,_,f__law_alike_too,_,f__law_due,_,fa,_,C_NoSheet,C_Sheet⟩:=ok__law_due T G__law_table
  have G_law:Ok_law l.prog w K mg base ⟨f_alike,_,f_later,_,f_Sheet____init__,_,f_Sheet__pairs,_,f_Sheet__version,_,f_marks_of,_,f_clash_due,_,f_merged,_,f__law_digits,_,f__law_signs,_,f__law_words,_,f__law_version,_,f__law_pairs,_,f__law_bent,_,f__law_table,_,f__law_alike_too,_,f__law_due,_,fa,_,C_NoSheet,C_Sheet⟩:=ok_law T G_Sheet____init__ G_Sheet__pairs G_merged G__law_pairs G__law_bent G__law_alike_too G__law_due
  exact G_law
theorem walk {l:PySem.W.OpenLaw} {q:Program} {loose:List Str} {XP:(Str→Option Value)→Heap→Prop} {YP:World→Heap→Prop} {d:DefRec} {K:Params→PySem.W.Frag} (hn:l.most = some 63) (hdf:d.params.defaults = [])
    (hY:∀ (w:World) (h:Heap),YP w h→(K w.params).In h)
    (F:∀ (w:World) (mg:Str→Option Value) (fa:Addr) (h:Heap),(K w.params).In h→h.Ns mainGlobals mg→mg d.name = some (.ref fa) →
      ∃ fd:FuncData,(∀ (s:Shared) (u:Value),BindsTo s fd ⟨[u],[]⟩ [("_law_script",u)])∧∀ base:Heap,(K w.params).In base→base.Ns mainGlobals mg→FnOk l.prog w (K w.params) mg base (CX1 l.prog w base) 5 fa fd ["_law_script"] (sp_law (K w.params))) :
    PySem.W.WalkO q loose XP YP l.row.toRowW d [] (fun f vs=>PySem.call f vs) :=
  walk_ofX (n:=63) (k:=5) (x := "_law_script") (sp:=fun w=>sp_law (K w.params)) hn (by decide) hdf ⟨rfl,by decide,by decide⟩ hY F (fun _ _ a ns hl hO hS=>⟨a,ns,rfl,hS,hl,fun _=>rfl,hO.plain⟩)
end My
open PySem PySem.W PyProof.Rows
open Lean in
local macro_rules
  | `(tactic| o_head $H)=>do
    let (hl,hw,hc):=(mkIdent `hl,mkIdent `hw,mkIdent `hc)
    `(tactic| refine PySem.W.holds_open (q:=My.viewQ) (loose:=[]) (Xt:=fun s=>xlAt My.viewQ [] s && recOk (RowW.records PySem.Challenge.rw_twotabs_k23_merged.row.toRowW) s) (XP:=XL My.viewQ []) (Yf:=Hook.obs $H) (Ya:=Hook.val $H) (YP:=Hook.says $H) (N:=3466) ?$hl (Hook.of $H) (Hook.keeps $H) (fun s e=>xl_of s (Bool.and_eq_true_iff.mp e).1) XL.keeps (by rfl) (by rfl) (by rfl) (fun s e=>recFacts_of (Bool.and_eq_true_iff.mp e).2) (by rfl) (by assumption) (by decide +kernel) ⟨rfl,rfl,rfl,rfl,rfl,by decide +kernel⟩ ?$hw ?$hc)
set_option maxRecDepth 100000 in
set_option maxHeartbeats 0 in
theorem PySem.Challenge.cw_twotabs_k23_merged_holds : PySem.Challenge.rw_twotabs_k23_merged.Holds := by
  w_on; o_law; k_head; (case hw=>w_witness2); (case hl=>exact My.hlQ)
  k_fill
  refine My.walk (l:=PySem.Challenge.rw_twotabs_k23_merged) rfl rfl (fun w h Y=>PySem.W.kIn_of Y) ?F
  case F =>
    intro w mg fa h KX G hmg
    refine' My.all_mk KX G hmg ?a_alike ?l_alike ?c_alike ?k_alike ?a_later ?l_later ?c_later ?k_later ?a_Sheet____init__ ?i_Sheet____init__ ?l_Sheet____init__ ?c_Sheet____init__ ?k_Sheet____init__ ?a_Sheet__pairs ?i_Sheet__pairs ?l_Sheet__pairs ?c_Sheet__pairs ?k_Sheet__pairs ?a_Sheet__version ?i_Sheet__version ?l_Sheet__version ?c_Sheet__version ?k_Sheet__version ?a_marks_of ?l_marks_of ?c_marks_of ?k_marks_of ?a_clash_due ?l_clash_due ?c_clash_due ?k_clash_due ?a_merged ?l_merged ?c_merged ?k_merged ?a__law_digits ?l__law_digits ?c__law_digits ?k__law_digits ?a__law_signs ?l__law_signs ?c__law_signs ?k__law_signs ?a__law_words ?l__law_words ?c__law_words ?k__law_words ?a__law_version ?l__law_version ?c__law_version ?k__law_version ?a__law_pairs ?l__law_pairs ?c__law_pairs ?k__law_pairs ?a__law_bent ?l__law_bent ?c__law_bent ?k__law_bent ?a__law_table ?l__law_table ?c__law_table ?k__law_table ?a__law_alike_too ?l__law_alike_too ?c__law_alike_too ?k__law_alike_too ?a__law_due ?l__law_due ?c__law_due ?k__law_due ?a_law ?l_law ?c_law ?k_law ?q_NoSheet ?x_NoSheet ?q_Sheet ?pg_Sheet ?hd_Sheet ?po_Sheet ?sa_Sheet ?mk_Sheet ?kc_Sheet ?na_Sheet_versions ?n_dict ?n_enumerate ?n_isinstance ?n_len ?n_max ?n_range ?n_set ?n_sorted ?n_tuple
    (case q_Sheet=>k_is)
    (case a_alike=>k_is)
    (case l_alike=>k_is)
    (case c_alike=>k_is)
    (case k_alike=>k_is)
    (case a_later=>k_is)
    (case l_later=>k_is)
    (case c_later=>k_is)
    (case k_later=>k_is)
    (case a_Sheet____init__=>k_is)
    (case i_Sheet____init__=>k_is)
    (case l_Sheet____init__=>k_is)
    (case c_Sheet____init__=>k_is)
    (case k_Sheet____init__=>k_is)
    (case a_Sheet__pairs=>k_is)
    (case i_Sheet__pairs=>k_is)
    (case l_Sheet__pairs=>k_is)
    (case c_Sheet__pairs=>k_is)
    (case k_Sheet__pairs=>k_is)
    (case a_Sheet__version=>k_is)
    (case i_Sheet__version=>k_is)
    (case l_Sheet__version=>k_is)
    (case c_Sheet__version=>k_is)
    (case k_Sheet__version=>k_is)
    (case a_marks_of=>k_is)
    (case l_marks_of=>k_is)
    (case c_marks_of=>k_is)
    (case k_marks_of=>k_is)
    (case a_clash_due=>k_is)
    (case l_clash_due=>k_is)
    (case c_clash_due=>k_is)
    (case k_clash_due=>k_is)
    (case a_merged=>k_is)
    (case l_merged=>k_is)
    (case c_merged=>k_is)
    (case k_merged=>k_is)
    (case a__law_digits=>k_is)
    (case l__law_digits=>k_is)
    (case c__law_digits=>k_is)
    (case k__law_digits=>k_is)
    (case a__law_signs=>k_is)
    (case l__law_signs=>k_is)
    (case c__law_signs=>k_is)
    (case k__law_signs=>k_is)
    (case a__law_words=>k_is)
    (case l__law_words=>k_is)
    (case c__law_words=>k_is)
    (case k__law_words=>k_is)
    (case a__law_version=>k_is)
    (case l__law_version=>k_is)
    (case c__law_version=>k_is)
    (case k__law_version=>k_is)
    (case a__law_pairs=>k_is)
    (case l__law_pairs=>k_is)
    (case c__law_pairs=>k_is)
    (case k__law_pairs=>k_is)
    (case a__law_bent=>k_is)
    (case l__law_bent=>k_is)
    (case c__law_bent=>k_is)
    (case k__law_bent=>k_is)
    (case a__law_table=>k_is)
    (case l__law_table=>k_is)
    (case c__law_table=>k_is)
    (case k__law_table=>k_is)
    (case a__law_alike_too=>k_is)
    (case l__law_alike_too=>k_is)
    (case c__law_alike_too=>k_is)
    (case k__law_alike_too=>k_is)
    (case a__law_due=>k_is)
    (case l__law_due=>k_is)
    (case c__law_due=>k_is)
    (case k__law_due=>k_is)
    (case a_law=>k_is)
    (case l_law=>k_is)
    (case c_law=>k_is)
    (case k_law=>k_is)
    (case q_NoSheet=>k_is)
    (case x_NoSheet=>refine' L2.XCls.mk ?_ ?_ ?_ ?_ ?_ ?_ ?_ ?_ ?_; all_goals (first | k_is | k_exc))
    (case pg_Sheet=>k_is)
    (case hd_Sheet=>k_is)
    (case po_Sheet=>k_is)
    (case sa_Sheet=>k_is)
    (case mk_Sheet=>k_is)
    (case kc_Sheet=>k_is)
    (case na_Sheet_versions=>k_is)
    (case n_dict=>k_is)
    (case n_enumerate=>k_is)
    (case n_isinstance=>k_is)
    (case n_len=>k_is)
    (case n_max=>k_is)
    (case n_range=>k_is)
    (case n_set=>k_is)
    (case n_sorted=>k_is)
    (case n_tuple=>k_is)
