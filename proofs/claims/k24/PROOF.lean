import PyProof.Rows.All
import Wide.All
import OpenK.AllK
import Wide.FinOn
import Lean
import PyProof.EqAt
import PyProof.EqKinds
import PyProof.TupleCall
import PySem.Challenge.RW_twotabs_k24_merged_in_any_order
set_option Elab.async false
set_option linter.all false
set_option genSizeOfSpec false
set_option genSizeOf false
set_option maxRecDepth 100000
namespace My
open PySem PySem.W PyProof.Rows
noncomputable def zjj (tb:String→Option Builtin) (p:Program) (w:World) (n0:Nat) (ann:Option Value):Nat→SharedT→Thread→Option SharedT
 | 0,_,_=>none
 | n+1,s,t=>match through t with
  | true=>some s
  | false=>match stepOk n0 ann t with
   | false=>none
   | true=>match stepT (denote tb) p w s t with
    | some (s',t')=>zjj tb p w n0 ann n s' t'
    | none=>none
theorem zgk {tb:String→Option Builtin} {p:Program} {w:World} {n0:Nat} {ann:Option Value}:∀ {n:Nat} {s s':SharedT} {t:Thread},zjj tb p w n0 ann n s t=some s'→topRun tb p w n0 ann n s.abs t=some s'.abs
 | 0,_,_,_,h=>by cases h
 | n+1,s,s',t,h=>by
  unfold zjj at h
  unfold topRun
  cases he:through t with
  | true=>rw [he] at h;cases h;rfl
  | false =>
   rw [he] at h
   cases hk:stepOk n0 ann t with
   | false=>rw [hk] at h;cases h
   | true =>
    rw [hk] at h
    cases hs:stepT (denote tb) p w s t with
    | none=>rw [hs] at h;cases h
    | some r=>obtain ⟨s2,t2⟩:=r;rw [hs] at h;rw [stepT_spec hs];exact zgk h
noncomputable def treeOf (l:List Obj):BT:=(l.foldl (λ x o=>(x.1.ins x.2 o,x.2+1)) (BT.nil,0)).1
theorem left_tree {p q:Program} {loose:List Str} {Xt:Shared→Bool} {α:Type} {Yf:Shared→α} {Ya:World→α} {N:Nat} {g0:Bool} {m0:Nat} {T0:Params→BT} {L0:Params→Life}
  (e:opening p=plainProg p.main.scope.names) (hN:Nat.ble 600 N=true) (f:∀ s,fenceModules? p s=some s)
  (hT:∀ P:Params,absHeap (T0 P) m0 (L0 P)=boot_heap P)
  (size:∀ P:Params,((boot_heap P).isNs mainGlobals,(boot_heap P).objs.size)=(true,m0))
  (all:∀ w:World,(λ os=>(zjj treeTable p w m0 ((boot_heap w.params).nsMap mainGlobals "__annotations__") N ⟨T0 w.params,m0,L0 w.params,Array.mk [],boot_drawn,boot_toks,os⟩ (topStub p)).map λ s=>(λ r:Shared=>((staticsOk (importedModules p.main.body) (boot_heap w.params) r.heap && namesBound p r.heap && gensDone r && laidKept (boot_heap w.params) r.heap),openSeen q loose (importedModules p.main.body) Xt g0 r,Yf r)) s.abs)=λ _=>some (true,openGood q loose,Ya w)) :
  LeftO p q loose Xt Yf Ya N g0:=λ w=>by
 obtain ⟨⟨h,gs,d,k,os⟩,e1,e2⟩:=Option.map_eq_some_iff.mp (boot_open e hN f w)
 obtain ⟨rfl,rfl,rfl,rfl⟩:h=boot_heap w.params∧gs=Array.mk []∧d=boot_drawn∧k=boot_toks:=by simpa using e2
 obtain ⟨z1,z2⟩:_∧_:=by simpa only [Prod.mk.injEq] using size w.params
 obtain ⟨s,h1,h2⟩:=Option.map_eq_some_iff.mp (congrFun (all w) os)
 obtain ⟨l1,l2,l3⟩:_∧_∧_:=by simpa only [Prod.mk.injEq] using h2
 have r:=zgk h1
 have r:topRun treeTable p w m0 ((boot_heap w.params).nsMap mainGlobals "__annotations__") N ⟨boot_heap w.params,Array.mk [],boot_drawn,boot_toks,os⟩ (topStub p)=some s.abs:=by
  have e3:(⟨T0 w.params,m0,L0 w.params,Array.mk [],boot_drawn,boot_toks,os⟩:SharedT).abs=⟨boot_heap w.params,Array.mk [],boot_drawn,boot_toks,os⟩:=by
   show (⟨absHeap (T0 w.params) m0 (L0 w.params),_,_,_,_⟩:Shared)=_
   rw [hT]
  rw [← e3]
  exact r
 have t:topFrom treeTable p w N ⟨boot_heap w.params,Array.mk [],boot_drawn,boot_toks,os⟩=some s.abs:=by
  unfold topFrom
  dsimp only
  rw [z1,z2,r]
  show (match staticsOk (importedModules p.main.body) (boot_heap w.params) s.abs.heap && namesBound p s.abs.heap && gensDone s.abs && laidKept (boot_heap w.params) s.abs.heap with | true=>_ | false=>_)=_
  rw [l1]
 unfold openEnds
 rw [e1]
 show (topFrom treeTable p w N _).map _=_
 rw [t]
 exact congrArg some (Prod.ext l2 l3)
end My
section
open PySem PySem.W PyProof.Rows
noncomputable def My.viewQ:Program:={ PySem.Challenge.pw_twotabs_k24_merged_in_any_order with main:={ PySem.Challenge.pw_twotabs_k24_merged_in_any_order.main with body:=[0,2,3,4,6,7,8,10,11,13,14,16,17,18,19,20,21,22,23,24,25].filterMap (PySem.Challenge.pw_twotabs_k24_merged_in_any_order.main.body[·]?) } }
open Lean in
local macro_rules
 | `(tactic| o_head $H)=>do
  let (hl,hw,hc):=(mkIdent `hl,mkIdent `hw,mkIdent `hc)
  `(tactic| refine W.holds_open (q:=My.viewQ) (loose:=[]) (Xt:=λ s=>xlAt My.viewQ [] s && recOk (RowW.records PySem.Challenge.rw_twotabs_k24_merged_in_any_order.row.toRowW) s) (XP:=XL My.viewQ []) (Yf:=Hook.obs $H) (Ya:=Hook.val $H) (YP:=Hook.says $H) (N:=3500) ?$hl (Hook.of $H) (Hook.keeps $H) (λ s e=>xl_of s (Bool.and_eq_true_iff.mp e).1) XL.keeps (by rfl) (by rfl) (by rfl) (λ s e=>recFacts_of (Bool.and_eq_true_iff.mp e).2) (by rfl) (by assumption) (by decide +kernel) ⟨rfl,rfl,rfl,rfl,rfl,by decide +kernel⟩ ?$hw ?$hc)
local macro_rules | `(tactic| walk_at "fn") => `(tactic| (refine' L2.fun_mk ?l ?c ?k; (case l=>k_is); (case c=>k_is); (case k=>k_is)))
set_option maxRecDepth 100000 in
set_option maxHeartbeats 0 in
theorem My.dummy (hF:False):PySem.Challenge.rw_twotabs_k24_merged_in_any_order.Holds:=by
 w_on;o_law;k_head
 all_goals exact hF.elim
set_option maxRecDepth 100000 in
set_option maxHeartbeats 0 in
theorem My.hlQ:LeftO PySem.Challenge.rw_twotabs_k24_merged_in_any_order.row.prog My.viewQ [] (λ s=>xlAt My.viewQ [] s && recOk (RowW.records PySem.Challenge.rw_twotabs_k24_merged_in_any_order.row.toRowW) s) (kHook My.dummy.heap_39 [2,3,15,17,18,20,21,22,29,30,31,32,35,42,43,44,47,54,55,56,59,61,62,64,65,66,68,69,71,72,73,75,76,78,79,87,89,90,92,93,94,96,97,99,100,101,103,104,106,107,108,110,111,113,114,115,117,118,120,121,122,124,125,127,128,129,131,132,134,135,136,138,139,141,142,143,145,146,148,149,150,152,153,155,156,157,158,159,160,161,164,167,168,169,171,172,174,175,176,178,179,181,182,183,185,186,188,189,190,192,193,195,196,197,200,201,202,204,205,207,208,209,211,212,214,215,216,218,219,221,222,223,226,227,228,230,231,233,234,235,238,239,240,243,244] (λ _=>rfl)).obs (kHook My.dummy.heap_39 [2,3,15,17,18,20,21,22,29,30,31,32,35,42,43,44,47,54,55,56,59,61,62,64,65,66,68,69,71,72,73,75,76,78,79,87,89,90,92,93,94,96,97,99,100,101,103,104,106,107,108,110,111,113,114,115,117,118,120,121,122,124,125,127,128,129,131,132,134,135,136,138,139,141,142,143,145,146,148,149,150,152,153,155,156,157,158,159,160,161,164,167,168,169,171,172,174,175,176,178,179,181,182,183,185,186,188,189,190,192,193,195,196,197,200,201,202,204,205,207,208,209,211,212,214,215,216,218,219,221,222,223,226,227,228,230,231,233,234,235,238,239,240,243,244] (λ _=>rfl)).val 3500:=by
 refine My.left_tree (T0:=λ P=>My.treeOf (boot_heap P).objs.toList) (L0:=λ P=>(boot_heap P).life) (m0:=11) (by kernel_rfl) (by kernel_rfl) (λ s=>by kernel_rfl) (λ P=>by kernel_rfl) (λ P=>by kernel_rfl) (λ w=>?_)
 kernel_rfl
end
namespace L2
open PySem PySem.Spec PyProof.Rows
noncomputable abbrev Key:=Sum Int Str
noncomputable def zmz:Key→Value→Bool
 | .inl k,v=>Value.isInt k v
 | .inr x,v=>Value.isStrOf x v
noncomputable def keyH (w:World):Key→Int
 | .inl k=>hashInt k
 | .inr x=>hashStr w x
theorem zua:∀ {k:Key} {v:Value},zmz k v=true→(∃ i t,k=Sum.inl i∧v=Value.int i t) ∨ (∃ x t,k=Sum.inr x∧v=Value.str x t)
 | .inl i,v,h=>by
  obtain ⟨t,e⟩:=Value.isInt_shape (k:=i) (v:=v) h
  exact .inl ⟨i,t,rfl,e⟩
 | .inr x,v,h=>by
  obtain ⟨t,e⟩:=Value.isStrOf_shape (x:=x) (v:=v) h
  exact .inr ⟨x,t,rfl,e⟩
theorem zrp (i:Int) (t:Tok):zmz (.inl i) (.int i t)=true:=by simp [zmz,Value.isInt]
theorem zn2 (a b:Int):decide ((Sum.inl a:Key)=Sum.inl b)=(a == b):=by
 by_cases e:a=b
 ·subst e;simp
 ·have h:¬ (Sum.inl a:Key)=Sum.inl b:=λ q=>e (Sum.inl.inj q)
  rw [decide_eq_false h]
  exact (beq_eq_false_iff_ne.mpr e).symm
theorem zl2 (a b:Str):decide ((Sum.inr a:Key)=Sum.inr b)=decide (a=b):=by
 by_cases e:a=b
 ·subst e;simp
 ·have h:¬ (Sum.inr a:Key)=Sum.inr b:=λ q=>e (Sum.inr.inj q)
  rw [decide_eq_false h,decide_eq_false e]
theorem zl1 (a:Int) (b:Str):decide ((Sum.inl a:Key)=Sum.inr b)=false:=decide_eq_false (λ q=>nomatch q)
theorem zp2 (a:Str) (b:Int):decide ((Sum.inr a:Key)=Sum.inl b)=false:=decide_eq_false (λ q=>nomatch q)
noncomputable def zug (prog:Program) (w:World):PySem.KeyKind prog w Key where
 is:=zmz
 hash:=keyH w
 inj:=λ v a b ha hb=>by
  rcases zua ha with ⟨i,t,rfl,rfl⟩ | ⟨x,t,rfl,rfl⟩
  ·rcases zua hb with ⟨j,u,rfl,e⟩ | ⟨y,u,rfl,e⟩
   ·injection e with e1 _;rw [e1]
   ·exact nomatch e
  ·rcases zua hb with ⟨j,u,rfl,e⟩ | ⟨y,u,rfl,e⟩
   ·exact nomatch e
   ·injection e with e1 _;rw [e1]
 byValue:=λ k v h=>by
  rcases zua h with ⟨i,t,rfl,rfl⟩ | ⟨x,t,rfl,rfl⟩ <;> rfl
 pyHash:=λ hv h=>by
  rcases zua hv with ⟨i,t,rfl,rfl⟩ | ⟨x,t,rfl,rfl⟩
  ·exact wpAny_pyHash_int h
  ·exact wpAny_pyHash_str h
 eqBool:=λ hu hv h=>by
  rcases zua hu with ⟨i,t,rfl,rfl⟩ | ⟨x,t,rfl,rfl⟩
  ·rcases zua hv with ⟨j,u,rfl,rfl⟩ | ⟨y,u,rfl,rfl⟩
   ·rw [zn2] at h;exact wpAny_eqBool_int h
   ·rw [zl1] at h;exact SeqAt.EqAt.int_str i t y u _ _ _ _ h
  ·rcases zua hv with ⟨j,u,rfl,rfl⟩ | ⟨y,u,rfl,rfl⟩
   ·rw [zp2] at h;exact SeqAt.EqAt.str_int x t j u _ _ _ _ h
   ·rw [zl2] at h;exact wpAny_eqBool_str h
 «strs» := λ k x t v h=>by
  rcases zua h with ⟨i,u,rfl,e⟩ | ⟨y,u,rfl,e⟩
  ·exact nomatch e
  ·injection e with e1 _
   subst e1
   cases v <;> rfl
theorem zrf (prog:Program) (w:World) (i:Int) (t:Tok):(zug prog w).is (.inl i) (.int i t)=true:=zrp i t
end L2
namespace L2
open PySem PySem.Spec PyProof.Rows
inductive V where
 | non | bl (b:Bool) | int (i:Int) | str (x:Str) | byt (b:Array UInt8) | flt (b:UInt64) | ref (a:Addr) | ty (n:String)
 deriving DecidableEq
noncomputable def RelV:V→Value→Prop
 | .non,u=>u=Value.none
 | .bl b,u=>u=Value.bool b
 | .int i,u=>∃ t,u=Value.int i t
 | .str x,u=>∃ t,u=Value.str x t
 | .byt b,u=>∃ t,u=Value.bytes b t
 | .flt b,u=>∃ t,u=Value.float b t
 | .ref a,u=>u=Value.ref a
 | .ty n,u=>u=Value.type n
noncomputable abbrev Vals:List V→List Value→Prop:=Paired RelV
theorem Vals.length {xs:List V} {us:List Value} (r:Vals xs us):xs.length=us.length:=Paired.length r
theorem Vals.get:∀ {xs:List V} {us:List Value} {i:Nat} {x:V},Vals xs us→xs[i]? = some x→∃ u,us[i]? = some u∧RelV x u
 | _,_,_,_,.nil,e=>by simp at e
 | _,_,0,_,.cons r _,e=>by simp at e;subst e;exact ⟨_,rfl,r⟩
 | _,_,i+1,x,.cons _ t,e=>by
  obtain ⟨u,h1,h2⟩:=Vals.get (i:=i) (x:=x) t (by simpa using e)
  exact ⟨u,by simpa using h1,h2⟩
theorem Vals.append:∀ {xs ys:List V} {us ws:List Value},Vals xs us→Vals ys ws→Vals (xs++ys) (us++ws)
 | _,_,_,_,.nil,s=>s
 | _,_,_,_,.cons r t,s=>.cons r (Vals.append t s)
theorem Vals.take:∀ {xs:List V} {us:List Value} (n:Nat),Vals xs us→Vals (xs.take n) (us.take n)
 | _,_,0,_=>.nil
 | _,_,_+1,.nil=>.nil
 | _,_,n+1,.cons r t=>.cons r (Vals.take n t)
theorem Vals.drop:∀ {xs:List V} {us:List Value} (n:Nat),Vals xs us→Vals (xs.drop n) (us.drop n)
 | _,_,0,r=>r
 | _,_,_+1,.nil=>.nil
 | _,_,n+1,.cons _ t=>Vals.drop n t
noncomputable def RelO:Option V→Option Value→Prop
 | some v,some u=>RelV v u
 | none,none=>True
 | _,_=>False
noncomputable def KV {κ:Type}:List (κ×V)→List (κ×Value)→Prop:=Paired λ (p:κ×V) (q:κ×Value)=>p.1=q.1∧RelV p.2 q.2
noncomputable def kV:Key→V
 | .inl i=>.int i
 | .inr x=>.str x
inductive HO where
 | lst (xs:List V)
 | tup (xs:List V)
 | dK (kvs:List (Key×V)) | dT (kvs:List (List Key×V))
 | set (S:Int→Bool) (n:Nat)
 | ins (C dx:Addr) (fs:List (Str×V))
 | own (x:Addr)
 | xd (fs:List (Str×V))
 | met (f x:Addr)
 | rng (lo hi:Int)
 | frz (o:Obj) (u:HO)
 | tbl (ps:Array Value)
 | ext (φ:Heap→Prop)
noncomputable abbrev Hp:=Addr→Option HO
noncomputable def upd (H:Hp) (a:Addr) (o:HO):Hp:=λ b=>if b=a then some o else H b
theorem upd_same {H:Hp} {a:Addr} {o:HO}:upd H a o a=some o:=by unfold upd;rw [if_pos rfl]
theorem zga {H:Hp} {a b:Addr} {o:HO} (h:b≠a):upd H a o b=H b:=by unfold upd;rw [if_neg h]
theorem zql {H:Hp} {a:Addr} {o u:HO}:upd (upd H a o) a u=upd H a u:=by
 funext b;unfold upd;split <;> rfl
theorem zqf {H:Hp} {a b:Addr} {o u:HO} (h:H a=some o) (h':H b=some u) (d:o≠u):a≠b:=by
 intro e;subst e;rw [h] at h';exact d (Option.some.inj h')
theorem zda {H:Hp} {a b:Addr} {o:HO} (h:H a=some o) (h':H b=none):a≠b:=by
 intro e;subst e;rw [h] at h';cases h'
section
variable (P:Program) (w:World)
noncomputable def ObjOk (H:Hp) (h:Heap) (a:Addr):HO→Prop
 | .lst xs=>xs.length≤sizeLine∧∃ (its:List Value) (n:Nat),Vals xs its∧h.get? a=some { cls := .type "list",data := .seq its.toArray n }
 | .tup xs=>xs.length≤sizeLine∧∃ its:List Value,Vals xs its∧IsTup h a its.toArray
 | .dK kvs=>kvs.length≤sizeLine∧(a == sysModules)=false∧∃ vs,KV kvs vs∧h.DictOf (zug P w) a vs
 | .dT kvs=>kvs.length≤sizeLine∧(a == sysModules)=false∧∃ xs:List (List Key×Addr×Value),
   Paired (λ (p:List Key×V) (q:List Key×Addr×Value)=>p.1=q.1∧H q.2.1=some (.tup (p.1.map kV))∧RelV p.2 q.2.2) kvs xs ∧
   ∃ o es ep,h.get? a=some o∧o.ExactDict∧o.data = .dict es ep∧es.toList=xs.map (entryOfKey (tupleKind (zug P w)))∧(xs.map (·.1)).Nodup
 | .set S n=>h.SetOf (intKind P w) a S n
 | .ins C dx fs=>H dx=some (.own a)∧fs.length≤1000∧dx≠a∧h.get? a=some (W.instObj C dx) ∧
   ∃ mA,h.Ns1 dx mA∧(∀ f,RelO (fs.lookup f) (mA f))∧PySem.Within mA (fs.map (·.1))
 | .own _=>∃ o,h.get? a=some o
 | .xd fs=>∃ mA,h.Ns1 a mA∧∀ f,RelO (fs.lookup f) (mA f)
 | .rng lo hi=>∃ t u v,h.get? a=some { cls := .type "range",data := .fields #[.int lo t,.int hi u,.int 1 v] }
 | .frz o u=>h.get? a=some o∧ObjOk H h a u
 | .tbl ps=>h.get? a=some { cls := .none,data := .fields ps }
 | .met f x=>h.get? a=some (W.methodObj (.ref f) (.ref x))
 | .ext φ=>φ h∧(∃ o,h.get? a=some o)∧∀ h1 h2:Heap,φ h1→(∀ o,h1.get? a=some o→h2.get? a=some o)→φ h2
noncomputable def HOk (H:Hp) (h:Heap):Prop:=∀ a o,H a=some o→ObjOk P w H h a o
end
section
variable {P:Program} {w:World} {H H':Hp} {h h':Heap} {a:Addr} {o:HO}
theorem ObjOk.lt (x:ObjOk P w H h a o):a<h.objs.size:=by
 cases o with
 | lst xs=>obtain ⟨_,_,_,_,e⟩:=x;exact Heap.lt_size e
 | tup xs=>obtain ⟨_,_,_,p⟩:=x;exact p.lt
 | dK kvs=>obtain ⟨_,_,_,_,o,_,_,e,_⟩:=x;exact Heap.lt_size e
 | dT kvs=>obtain ⟨_,_,_,_,o,_,_,e,_⟩:=x;exact Heap.lt_size e
 | set S n=>obtain ⟨o,_,_,_,e,_⟩:=x;exact Heap.lt_size e
 | ins C dx fs=>obtain ⟨_,_,_,e,_⟩:=x;exact Heap.lt_size e
 | own y=>obtain ⟨_,e⟩:=x;exact Heap.lt_size e
 | xd fs=>obtain ⟨_,⟨_,_,_,e,_⟩,_⟩:=x;exact Heap.lt_size e
 | rng lo hi=>obtain ⟨_,_,_,e⟩:=x;exact Heap.lt_size e
 | frz ob u=>obtain ⟨e,_⟩:=x;exact Heap.lt_size e
 | tbl ps=>exact Heap.lt_size (show h.get? a=some _ from x)
 | met f y=>exact Heap.lt_size (show h.get? a=some _ from x)
 | ext φ=>obtain ⟨_,⟨_,e⟩,_⟩:=x;exact Heap.lt_size e
theorem Paired.mapP {α β:Type} {F G:α→β→Prop}:∀ {l₁:List α} {l₂:List β},Paired F l₁ l₂→(∀ a b,F a b→G a b)→Paired G l₁ l₂
 | _,_,.nil,_=>.nil
 | _,_,.cons r t,f=>.cons (f _ _ r) (Paired.mapP t f)
theorem ObjOk.stay (x:ObjOk P w H h a o) (k:∀ b u,(b=a ∨ H b=some (.own a))→h.get? b=some u→h'.get? b=some u)
  (ho:∀ b,H b=some (.own a)→H' b=some (.own a)) (ht:∀ b xs,H b=some (.tup xs)→H' b=some (.tup xs)):ObjOk P w H' h' a o:=by
 induction o with
 | lst xs=>obtain ⟨z,its,n,r,e⟩:=x;exact ⟨z,its,n,r,k _ _ (.inl rfl) e⟩
 | tup xs=>obtain ⟨z,its,r,ob,e,c⟩:=x;exact ⟨z,its,r,ob,k _ _ (.inl rfl) e,c⟩
 | dK kvs=>obtain ⟨z,y,vs,r,ob,es,ep,e,c⟩:=x;exact ⟨z,y,vs,r,ob,es,ep,k _ _ (.inl rfl) e,c⟩
 | dT kvs =>
  obtain ⟨z,y,xs,r,ob,es,ep,e,c⟩:=x
  exact ⟨z,y,xs,Paired.mapP r λ p q z=>⟨z.1,ht _ _ z.2.1,z.2.2⟩,ob,es,ep,k _ _ (.inl rfl) e,c⟩
 | set S n=>obtain ⟨ob,es,ep,t,e,c⟩:=x;exact ⟨ob,es,ep,t,k _ _ (.inl rfl) e,c⟩
 | ins C dx fs =>
  obtain ⟨d,z,ne,e,mA,⟨od,es,ep,e2,c⟩,r⟩:=x
  exact ⟨ho _ d,z,ne,k _ _ (.inl rfl) e,mA,⟨od,es,ep,k _ _ (.inr d) e2,c⟩,r⟩
 | own y=>obtain ⟨ob,e⟩:=x;exact ⟨ob,k _ _ (.inl rfl) e⟩
 | xd fs=>obtain ⟨mA,⟨od,es,ep,e,c⟩,r⟩:=x;exact ⟨mA,⟨od,es,ep,k _ _ (.inl rfl) e,c⟩,r⟩
 | rng lo hi=>obtain ⟨t,u,v,e⟩:=x;exact ⟨t,u,v,k _ _ (.inl rfl) e⟩
 | frz ob u ih=>obtain ⟨e,q⟩:=x;exact ⟨k _ _ (.inl rfl) e,ih q⟩
 | tbl ps =>
  have e:h.get? a=some { cls := .none,data := .fields ps }:=x
  show h'.get? a=some { cls := .none,data := .fields ps }
  exact k a _ (.inl rfl) e
 | met f y =>
  have e:h.get? a=some (W.methodObj (.ref f) (.ref y)):=x
  show h'.get? a=some (W.methodObj (.ref f) (.ref y))
  exact k a _ (.inl rfl) e
 | ext φ=>obtain ⟨p,⟨o,e⟩,st⟩:=x;exact ⟨st _ _ p λ o q=>k _ _ (.inl rfl) q,⟨o,k _ _ (.inl rfl) e⟩,st⟩
theorem HOk.lt (x:HOk P w H h) (e:H a=some o):a<h.objs.size:=(x a o e).lt
theorem HOk.fresh (x:HOk P w H h) (e:h.objs.size≤a):H a=none:=by
 cases q:H a with
 | none=>rfl
 | some u=>exact absurd (Nat.lt_of_lt_of_le (x.lt q) e) (Nat.lt_irrefl _)
theorem HOk.kept (x:HOk P w H h) (k:∀ b u,h.get? b=some u→h'.get? b=some u):HOk P w H h':=λ a o e =>
 (x a o e).stay (λ b u _ q=>k b u q) (λ _ q=>q) λ _ _ q=>q
theorem HOk.laid (x:HOk P w H h) (k:∀ b u,h.get? b=some u→h'.get? b=some u) (hp:h.objs.size≤a) (new:ObjOk P w (upd H a o) h' a o):HOk P w (upd H a o) h':=λ b u e=>by
 have hn:=x.fresh hp
 by_cases hb:b=a
 ·subst hb;rw [upd_same] at e;cases e;exact new
 ·rw [zga hb] at e
  exact (x b u e).stay (λ c v _ q=>k c v q) (λ c q=>by rw [zga (zda q hn)];exact q) λ c xs q=>by rw [zga (zda q hn)];exact q
end
noncomputable def Rd (H:Hp) (a:Addr) (u:HO):Prop:=H a=some u ∨ ∃ o,H a=some (.frz o u)
theorem Rd.ok {P:Program} {w:World} {H:Hp} {h:Heap} {a:Addr} {u:HO} (r:Rd H a u) (x:HOk P w H h):ObjOk P w H h a u:=by
 rcases r with r | ⟨o,r⟩
 ·exact x a u r
 ·obtain ⟨_,q⟩:=x a _ r
  exact q
noncomputable def Mut:Option HO→Prop
 | some (.lst _)=>True
 | some (.dK _)=>True
 | some (.dT _)=>True
 | some (.set _ _)=>True
 | some (.ins _ _ _)=>True
 | some (.ext _)=>True
 | _=>False
section
variable {P:Program} {w:World} {H:Hp} {h h':Heap} {x e:Addr} {o':HO}
theorem HOk.write (ok:HOk P w H h) (mu:Mut (H x)) (he:e=x ∨ H e=some (.own x)) (k:∀ b u,b≠e→h.get? b=some u→h'.get? b=some u) (heo:∃ u,h'.get? e=some u)
  (new:ObjOk P w (upd H x o') h' x o'):HOk P w (upd H x o') h':=λ b u q=>by
 have nown:∀ c y,H c=some (.own y)→c≠x:=λ c y r z=>by subst z;rw [r] at mu;exact mu
 have ntup:∀ c xs,H c=some (.tup xs)→c≠x:=λ c xs r z=>by subst z;rw [r] at mu;exact mu
 by_cases hb:b=x
 ·subst hb;rw [upd_same] at q;cases q;exact new
 ·rw [zga hb] at q
  by_cases hbe:b=e
  ·have q':H b=some (.own x):=by
    rcases he with z | z
    ·exact absurd (hbe.trans z) hb
    ·rw [hbe];exact z
   rw [q] at q';cases q'
   obtain ⟨v,hv⟩:=heo
   exact ⟨v,by rw [hbe];exact hv⟩
  ·refine (ok b u q).stay (λ c v hc r=>k c v ?_ r) (λ c r=>by rw [zga (nown c b r)];exact r) λ c xs r=>by rw [zga (ntup c xs r)];exact r
   rcases hc with rfl | hc
   ·exact hbe
   ·rintro rfl
    rcases he with z | z
    ·exact nown c b hc z
    ·rw [hc] at z;cases z;exact hb rfl
end
structure Un (fs ex:List Addr) (H H':Hp) (h h':Heap):Prop where
 keep:∀ b o,h.get? b=some o→H b=none→b∉fs→b∉ex→h'.get? b=some o
 slot:∀ b o,h.get? b=some o→H b=none→b∈fs→b∉ex→∃ sl,h'.get? b=some { o with slots:=sl }
 free:∀ b o,h.get? b=some o→H b=none→b∉ex→H' b=none
 there:∀ b o,h.get? b=some o→b∉ex→∃ o',h'.get? b=some o'
 tups:∀ b xs,H b=some (.tup xs)→H' b=some (.tup xs)
 frzs:∀ b o u,H b=some (.frz o u)→H' b=some (.frz o u)
 tbls:∀ b ps,H b=some (.tbl ps)→∃ more,H' b=some (.tbl (ps++more))
section
variable {fs fs' ex ex':List Addr} {H H1 H2:Hp} {h h1 h2 h':Heap} {a x e:Addr} {o:HO}
theorem Un.any (u:Un fs ex H H1 h h1) {b:Addr} {ob:Obj} (q:h.get? b=some ob) (n:H b=none) (hx:b∉ex):∃ sl,h1.get? b=some { ob with slots:=sl }:=by
 by_cases hb:b∈fs
 ·exact u.slot b ob q n hb hx
 ·exact ⟨ob.slots,u.keep b ob q n hb hx⟩
theorem Un.kept (k:∀ b u,h.get? b=some u→h'.get? b=some u):Un fs ex H H h h' :=
 ⟨λ b ob q _ _ _=>k b ob q,λ b ob q _ _ _=>⟨ob.slots,k b ob q⟩,λ _ _ _ n _=>n,λ b ob q _=>⟨ob,k b ob q⟩,λ _ _ q=>q,λ _ _ _ q=>q,λ _ ps q=>⟨#[],by rw [q];simp⟩⟩
theorem Un.refl:Un fs ex H H h h:=Un.kept λ _ _ q=>q
theorem Un.laid (k:∀ b u,h.get? b=some u→h'.get? b=some u) (hp:h.objs.size≤a) (hn:H a=none):Un fs ex H (upd H a o) h h' where
 keep:=λ b u q _ _ _=>k b u q
 slot:=λ b u q _ _ _=>⟨u.slots,k b u q⟩
 free:=λ b u q n _=>by rw [zga (Nat.ne_of_lt (Nat.lt_of_lt_of_le (Heap.lt_size q) hp))];exact n
 there:=λ b u q _=>⟨u,k b u q⟩
 tups:=λ b xs q=>by rw [zga (zda q hn)];exact q
 frzs:=λ b u xs q=>by rw [zga (zda q hn)];exact q
 tbls:=λ b ps q=>⟨#[],by rw [zga (zda q hn),q];simp⟩
theorem Un.write (mu:Mut (H x)) (he:e=x ∨ H e=some (.own x)) (k:∀ b u,b≠e→h.get? b=some u→h'.get? b=some u) (heo:∃ u,h'.get? e=some u):Un fs ex H (upd H x o) h h':=by
 have hx:∀ b,H b=none→b≠x:=λ b n z=>by subst z;rw [n] at mu;exact mu
 have hb:∀ b,H b=none→b≠e:=λ b n z=>by
  subst z
  rcases he with r | r
  ·exact hx b n r
  ·rw [n] at r;cases r
 have hm:∀ b u,H b=some u→¬ Mut (some u)→b≠x:=λ b u q nm z=>by subst z;rw [q] at mu;exact nm mu
 refine ⟨λ b u q n _ _=>k b u (hb b n) q,λ b u q n _ _=>⟨u.slots,k b u (hb b n) q⟩,λ b u q n _=>by rw [zga (hx b n)];exact n,λ b u q _=>?_,
  λ b xs q=>by rw [zga (hm b _ q λ z=>z)];exact q,λ b u xs q=>by rw [zga (hm b _ q λ z=>z)];exact q,λ b ps q=>⟨#[],by rw [zga (hm b _ q λ z=>z),q];simp⟩⟩
 by_cases hbe:b=e
 ·subst hbe;exact heo
 ·exact ⟨u,k b u hbe q⟩
end
noncomputable def trk (h:Heap) (H:Hp):List Addr:=(List.range h.objs.size).filter λ a=>(H a).isSome
noncomputable def hidT (h:Heap) (H:Hp):Heap:=W.hideAll h (trk h H)
theorem zqq (h:Heap) (H:Hp):(hidT h H).objs.size=h.objs.size:=W.hideAll_size _ _
theorem zjt {h:Heap} {H:Hp} {b:Addr} {o:Obj} (e:h.get? b=some o) (n:H b=none):(hidT h H).get? b=some o :=
 W.hideAll_get _ e λ hm=>by
  have q:(H b).isSome=true:=(List.mem_filter.mp hm).2
  rw [n] at q;simp at q
theorem zkw {h:Heap} {H:Hp} {b:Addr} {o:Obj} (e:(hidT h H).get? b=some o):h.get? b=some o∧H b=none:=by
 have e':h.get? b=some o:=W.of_hideAll (trk h H) e
 refine ⟨e',?_⟩
 cases q:H b with
 | none=>rfl
 | some x =>
  have hm:b∈trk h H:=List.mem_filter.mpr ⟨List.mem_range.mpr (Heap.lt_size e'),by simp [q]⟩
  have z:(hidT h H).get? b=none:=W.hideAll_none (trk h H) hm
  rw [z] at e;cases e
end L2
namespace L2
open PySem PySem.Spec PyProof.Rows
structure Mod (K:W.Frag) (mg:Str→Option Value) (base:Heap):Prop where
 kin:K.In base
 glob:base.Ns mainGlobals mg
 blt:∃ mb,base.Ns builtinsNs mb∧∀ x:Str,x ≠ "__name__" → mb x=bootBuiltins x
 nolimit:base.NoLimit
structure Cx where
 prog:Program
 w:World
 K:W.Frag
 mg:Str→Option Value
 base:Heap
 A:Around
 N:List Str
 s₀:Shared
 H₀:Hp
 env:Env
 outer:List Env
 stack:List Env
 ex:List Addr
 fn:Str→Bool
 calm:Bool
 pn:List (Addr×Obj)
 xe:Value→Shared→Prop
noncomputable def frs (l:List Env):List Addr:=l.filterMap (·.frame)
noncomputable abbrev Cx.fs (X:Cx):List Addr:=frs X.outer
noncomputable def Vis (sc:Scope) (x:Str):Prop:=sc.names.lookup x=some .local ∨ sc.names.lookup x=some .cell ∨ sc.names.lookup x=some .free
noncomputable def Loc (sc:Scope) (x:Str):Prop:=sc.names.lookup x=some .local ∨ sc.names.lookup x=some .cell
noncomputable def Look (env:Env) (h:Heap) (m:Str→Option Value) (x:Str) (u:Value):Prop :=
 (env.kindOf x=some .local∧m x=some u) ∨ ((env.kindOf x=some .cell ∨ env.kindOf x=some .free)∧∃ c,env.cells.lookup x=some c∧h.IsCell c (some u))
structure Cx.Ok (X:Cx):Prop where
 mod:Mod X.K X.mg X.base
 kind:X.env.scope.kind = .function
 glob:X.env.globals=mainGlobals
 blt:X.env.builtins=builtinsNs
 above:X.s₀.heap.objs.size≤X.env.locals
 inj:∀ x y c,X.env.cells.lookup x=some c→X.env.cells.lookup y=some c→x=y
 has:∀ x,(X.env.kindOf x=some .cell ∨ X.env.kindOf x=some .free)→∃ c,X.env.cells.lookup x=some c
 cab:∀ x c,X.fn x=true→X.env.cells.lookup x=some c→X.s₀.heap.objs.size≤c
 hd:X.calm=true→X.A.handled=none
 frames:X.A.frames=some X.stack
 stk:X.stack=X.outer ∨ (X.stack=X.env::X.outer∧X.env.frame=some X.env.locals)
 exf:∀ b∈X.ex,b≠X.env.locals∧∀ x c,X.env.cells.lookup x=some c→c≠b
 bs:∀ b o,X.base.get? b=some o→X.s₀.heap.get? b=some o∧X.H₀ b=none
 bsz:X.base.objs.size≤X.s₀.heap.objs.size
 noex:∀ b o,X.base.get? b=some o→b∉X.ex
 exfs:∀ b∈X.ex,b∉X.fs
 funs:X.s₀.heap.FunFrames X.base X.outer
 frf:∀ b∈X.fs,X.H₀ b=none
structure Inv (X:Cx) (pins:List (Addr×Obj)) (σ:List (Option V)) (H:Hp) (s:Shared):Prop where
 ok:X.Ok
 os:s.os=X.s₀.os
 bare:AllBare s.gens
 base:Un X.fs X.ex X.H₀ H X.s₀.heap s.heap
 loc:∃ m,s.heap.Ns X.env.locals m∧∀ (i:Nat) (x:Str) (v:V),X.N[i]? = some x→σ[i]? = some (some v)→Vis X.env.scope x→∃ u,RelV v u∧Look X.env s.heap m x u
 cell:∀ x c,X.env.cells.lookup x=some c→∃ v,s.heap.IsCell c v
 free:H X.env.locals=none
 freeC:∀ x c,X.env.cells.lookup x=some c→H c=none
 pin:∀ p∈X.pn++pins,s.heap.get? p.1=some p.2∧H p.1=none∧p.1≠X.env.locals∧p.1∉X.fs∧∀ v,p.2.data ≠ .cell v
 hok:HOk X.prog X.w H s.heap
 len:σ.length=X.N.length
section
variable {X:Cx} {pins:List (Addr×Obj)} {σ:List (Option V)} {H H':Hp} {s:Shared} {h':Heap}
theorem Cx.Ok.nofr (ok:X.Ok) {b:Addr} {o:Obj} (e:X.base.get? b=some o):b∉X.fs:=λ hb=>by
 have:=(ok.funs.mem hb).1
 rw [e] at this;cases this
theorem Inv.bs (I:Inv X pins σ H s):∀ b o,X.base.get? b=some o→s.heap.get? b=some o∧H b=none:=λ b o e =>
 ⟨I.base.keep b o (I.ok.bs b o e).1 (I.ok.bs b o e).2 (I.ok.nofr e) (I.ok.noex b o e),I.base.free b o (I.ok.bs b o e).1 (I.ok.bs b o e).2 (I.ok.noex b o e)⟩
theorem Inv.bk (I:Inv X pins σ H s):∀ b o,X.base.get? b=some o→s.heap.get? b=some o:=λ b o e=>(I.bs b o e).1
theorem Inv.mod (I:Inv X pins σ H s):Mod X.K X.mg X.base:=I.ok.mod
theorem Inv.kIn (I:Inv X pins σ H s):X.K.In s.heap:=I.ok.mod.kin.keeps I.bk
theorem Inv.lt (I:Inv X pins σ H s):X.env.locals<s.heap.objs.size:=let ⟨_,hn,_⟩:=I.loc;hn.lt
theorem Inv.sz (I:Inv X pins σ H s):X.s₀.heap.objs.size≤s.heap.objs.size:=Nat.le_trans I.ok.above (Nat.le_of_lt I.lt)
theorem Inv.nofs (I:Inv X pins σ H s) {a:Addr} (h:s.heap.objs.size≤a):a∉X.fs:=λ hb=>by
 obtain ⟨_,o,ho,_⟩:=I.ok.funs.mem hb
 exact absurd (Nat.lt_of_lt_of_le (Heap.lt_size ho) (Nat.le_trans I.sz h)) (Nat.lt_irrefl _)
theorem Inv.cne (I:Inv X pins σ H s):∀ x c,X.env.cells.lookup x=some c→c≠X.env.locals:=λ x c e z=>by
 obtain ⟨v,o,ho,hd⟩:=I.cell x c e
 obtain ⟨m,⟨o',es,ep,ho',hd',_⟩,_⟩:=I.loc
 rw [z,ho'] at ho;cases ho;rw [hd'] at hd;cases hd
theorem Inv.funs (I:Inv X pins σ H s):s.heap.FunFrames X.base X.outer:=by
 have all:∀ (l:List Env),(∀ b∈frs l,b∈X.fs)→X.s₀.heap.FunFrames X.base l→s.heap.FunFrames X.base l:=by
  intro l
  induction l with
  | nil=>intro _ _;trivial
  | cons env r ih =>
   intro hs hl
   obtain ⟨hk,⟨L,o,hf,hn,ho,hd⟩,hr⟩:=hl
   have hL:L∈X.fs:=hs L (by unfold frs;rw [List.filterMap_cons,hf];exact List.mem_cons_self)
   obtain ⟨sl,e⟩:=I.base.slot L o ho (I.ok.frf L hL) hL λ z=>I.ok.exfs L z hL
   exact ⟨hk,⟨L,_,hf,hn,e,hd⟩,ih (λ b hb=>hs b (by unfold frs;rw [List.filterMap_cons,hf];exact List.mem_cons_of_mem _ hb)) hr⟩
 exact all X.outer (λ _ hb=>hb) I.ok.funs
theorem Inv.stack (I:Inv X pins σ H s):s.heap.FunFrames X.base X.stack:=by
 rcases I.ok.stk with e | ⟨e,hf⟩
 ·rw [e];exact I.funs
 ·rw [e]
  obtain ⟨m,hn,_⟩:=I.loc
  refine .cons (by rw [I.ok.kind];decide) hf hn ?_ I.funs
  exact Heap.get?_none_of_le (Nat.le_trans I.ok.bsz I.ok.above)
theorem Inv.stkSub (I:Inv X pins σ H s):∀ b∈frs X.stack,b∈X.env.locals::X.fs:=λ b hb=>by
 rcases I.ok.stk with e | ⟨e,hf⟩
 ·rw [e] at hb;exact List.mem_cons_of_mem _ hb
 ·rw [e] at hb
  unfold frs at hb
  rw [List.filterMap_cons,hf] at hb
  exact hb
theorem Inv.stkFree (I:Inv X pins σ H s):∀ b∈frs X.stack,H b=none:=λ b hb=>by
 rcases List.mem_cons.mp (I.stkSub b hb) with e | hb
 ·rw [e];exact I.free
 ·obtain ⟨_,o,ho,_⟩:=I.ok.funs.mem hb
  exact I.base.free b o ho (I.ok.frf b hb) λ z=>I.ok.exfs b z hb
theorem Inv.step {g':Array GenState} {t':Nat} {d':Drawn} {ch:List Addr} (I:Inv X pins σ H s)
  (hch:∀ b∈ch,(b∈X.ex ∨ X.s₀.heap.objs.size≤b)∧b≠X.env.locals∧(∀ x c,X.env.cells.lookup x=some c→c≠b)∧∀ p∈X.pn++pins,p.1≠b)
  (keep:∀ b o,b≠X.env.locals→b∉X.fs→b∉ch→s.heap.get? b=some o→H b=none→h'.get? b=some o)
  (slot:∀ b o,b≠X.env.locals→b∈X.fs→b∉ch→s.heap.get? b=some o→H b=none→∃ sl,h'.get? b=some { o with slots:=sl }) (free:∀ b o,b∉ch→s.heap.get? b=some o→H b=none→H' b=none)
  (there:∀ b o,b∉ch→s.heap.get? b=some o→∃ o',h'.get? b=some o')
  (tups:∀ b xs,H b=some (.tup xs)→H' b=some (.tup xs)) (frzs:∀ b o u,H b=some (.frz o u)→H' b=some (.frz o u)) (tbls:∀ b ps,H b=some (.tbl ps)→∃ more,H' b=some (.tbl (ps++more)))
  (ns:∀ m,s.heap.Ns X.env.locals m→h'.Ns X.env.locals m) (hok:HOk X.prog X.w H' h') (hg:AllBare g') :
  Inv X pins σ H' { s with heap:=h',gens:=g',drawn:=d',toks:=t' }:=by
 have neL:∀ b o,X.s₀.heap.get? b=some o→b≠X.env.locals:=λ b o e=>Nat.ne_of_lt (Nat.lt_of_lt_of_le (Heap.lt_size e) I.ok.above)
 have neC:∀ b o,X.s₀.heap.get? b=some o→b∉X.ex→b∉ch:=λ b o e hx hb=>by
  rcases (hch b hb).1 with z | z
  ·exact hx z
  ·exact absurd (Nat.lt_of_lt_of_le (Heap.lt_size e) z) (Nat.lt_irrefl _)
 have cellK:∀ x c,X.env.cells.lookup x=some c→∀ v,s.heap.IsCell c v→h'.IsCell c v:=λ x c e v ⟨o,ho,hd⟩=>by
  have nch:c∉ch:=λ z=>(hch c z).2.2.1 x c e rfl
  by_cases hc:c∈X.fs
  ·obtain ⟨sl,q⟩:=slot c o (I.cne x c e) hc nch ho (I.freeC x c e)
   exact ⟨_,q,hd⟩
  ·exact ⟨o,keep c o (I.cne x c e) hc nch ho (I.freeC x c e),hd⟩
 refine ⟨I.ok,I.os,hg,⟨λ b o e n hb hx=>?_,λ b o e n hb hx=>?_,λ b o e n hx=>?_,λ b o e hx=>?_,λ b xs e=>tups b xs (I.base.tups b xs e),λ b o xs e=>frzs b o xs (I.base.frzs b o xs e),λ b ps e=>?_⟩,?_,λ x c e=>?_,?_,λ x c e=>?_,λ p hp=>?_,hok,I.len⟩
 ·exact keep b o (neL b o e) hb (neC b o e hx) (I.base.keep b o e n hb hx) (I.base.free b o e n hx)
 ·obtain ⟨sl,e1⟩:=I.base.slot b o e n hb hx
  obtain ⟨sl',e2⟩:=slot b _ (neL b o e) hb (neC b o e hx) e1 (I.base.free b o e n hx)
  exact ⟨sl',e2⟩
 ·obtain ⟨o',e1⟩:=I.base.there b o e hx
  exact free b o' (neC b o e hx) e1 (I.base.free b o e n hx)
 ·obtain ⟨o',e1⟩:=I.base.there b o e hx
  exact there b o' (neC b o e hx) e1
 ·obtain ⟨m1,e1⟩:=I.base.tbls b ps e
  obtain ⟨m2,e2⟩:=tbls b _ e1
  exact ⟨m1++m2,by rw [e2,Array.append_assoc]⟩
 ·obtain ⟨m,hn,hl⟩:=I.loc
  refine ⟨m,ns m hn,λ i x v e1 e2 e3=>?_⟩
  obtain ⟨u,r,l⟩:=hl i x v e1 e2 e3
  refine ⟨u,r,?_⟩
  rcases l with l | ⟨k,c,e,z⟩
  ·exact .inl l
  ·exact .inr ⟨k,c,e,cellK x c e _ z⟩
 ·obtain ⟨v,z⟩:=I.cell x c e
  exact ⟨v,cellK x c e v z⟩
 ·obtain ⟨m,⟨o,_,_,ho,_⟩,_⟩:=I.loc
  exact free _ o (λ z=>(hch _ z).2.1 rfl) ho I.free
 ·obtain ⟨v,o,ho,hd⟩:=I.cell x c e
  exact free c o (λ z=>(hch c z).2.2.1 x c e rfl) ho (I.freeC x c e)
 ·obtain ⟨e,n,ne,nf,d⟩:=I.pin p hp
  have nch:p.1∉ch:=λ z=>(hch p.1 z).2.2.2 p hp rfl
  exact ⟨keep p.1 p.2 ne nf nch e n,free p.1 p.2 nch e n,ne,nf,d⟩
theorem Inv.un {t':Nat} (I:Inv X pins σ H s) (u:Un X.fs [] H H' s.heap h') (hok:HOk X.prog X.w H' h'):Inv X pins σ H' { s with heap:=h',toks:=t' }:=by
 obtain ⟨m,⟨o,es,ep,ho,r⟩,_⟩:=id I.loc
 obtain ⟨sl,hL⟩:=u.any ho I.free (by simp)
 exact I.step (g':=s.gens) (d':=s.drawn) (ch:=[]) (λ _ z=>nomatch z) (λ b o _ hb _ e n=>u.keep b o e n hb (by simp)) (λ b o _ hb _ e n=>u.slot b o e n hb (by simp)) (λ b o _ e n=>u.free b o e n (by simp)) (λ b o _ e=>u.there b o e (by simp)) u.tups u.frzs u.tbls (λ m' hm=>by
  obtain ⟨o',es',ep',ho',r'⟩:=hm
  rw [ho] at ho';cases ho'
  exact ⟨_,es',ep',hL,r'⟩) hok I.bare
theorem Inv.call {g':Array GenState} {t':Nat} {d':Drawn} {ch:List Addr} (I:Inv X pins σ H s) (u:Un (frs X.stack) ch H H' s.heap h') (hok:HOk X.prog X.w H' h') (hg:AllBare g')
  (hch:∀ b∈ch,(b∈X.ex ∨ X.s₀.heap.objs.size≤b)∧b≠X.env.locals∧(∀ x c,X.env.cells.lookup x=some c→c≠b)∧∀ p∈X.pn++pins,p.1≠b) :
  Inv X pins σ H' { s with heap:=h',gens:=g',drawn:=d',toks:=t' }:=by
 obtain ⟨m,⟨o,es,ep,ho,r⟩,_⟩:=id I.loc
 obtain ⟨sl,hL⟩:=u.any ho I.free λ z=>(hch _ z).2.1 rfl
 exact I.step (ch:=ch) hch (λ b o hL hb hc e n=>u.keep b o e n (λ z=>(List.mem_cons.mp (I.stkSub b z)).elim hL hb) hc) (λ b o _ _ hc e n=>u.any e n hc) (λ b o hc e n=>u.free b o e n hc) (λ b o hc e=>u.there b o e hc) u.tups u.frzs u.tbls (λ m' hm=>by
  obtain ⟨o',es',ep',ho',r'⟩:=hm
  rw [ho] at ho';cases ho'
  exact ⟨_,es',ep',hL,r'⟩) hok hg
theorem Inv.turned {t':Nat} {it:Addr} (I:Inv X pins σ H s) (k:∀ b o,b≠it→s.heap.get? b=some o→h'.get? b=some o) (hn:H it=none) (hL:it≠X.env.locals)
  (h1:it∈X.ex ∨ X.s₀.heap.objs.size≤it) (h2:∀ x c,X.env.cells.lookup x=some c→c≠it) (h3:∀ p∈X.pn++pins,p.1≠it):Inv X pins σ H { s with heap:=h',toks:=t' }:=by
 have nit:∀ b u,H b=some u→b≠it:=λ b u e z=>by rw [z,hn] at e;cases e
 refine I.step (g':=s.gens) (d':=s.drawn) (ch:=[it]) (λ b hb=>?_) (λ b o _ _ hc e _=>k b o (λ z=>hc (by simp [z])) e) (λ b o _ _ hc e _=>⟨o.slots,k b o (λ z=>hc (by simp [z])) e⟩) (λ _ _ _ _ n=>n)
  (λ b o hc e=>⟨o,k b o (λ z=>hc (by simp [z])) e⟩) (λ _ _ e=>e) (λ _ _ _ e=>e) (λ b ps e=>⟨#[],by rw [e];simp⟩) (λ m hm=>?_) (λ b u e=>?_) I.bare
 ·have e:b=it:=by simpa using hb
  subst e
  exact ⟨h1,hL,h2,h3⟩
 ·obtain ⟨o,es,ep,ho,r⟩:=hm
  exact ⟨o,es,ep,k _ o (Ne.symm hL) ho,r⟩
 ·refine (I.hok b u e).stay (λ c v hc q=>k c v ?_ q) (λ _ q=>q) λ _ _ q=>q
  rcases hc with z | z
  ·rw [z];exact nit b u e
  ·exact nit c _ z
theorem Inv.tok (I:Inv X pins σ H s) (t:Nat):Inv X pins σ H { s with toks:=t }:=I.un (h':=s.heap) (t':=t) Un.refl I.hok
theorem Inv.kept {t':Nat} (I:Inv X pins σ H s) (k:∀ b u,s.heap.get? b=some u→h'.get? b=some u):Inv X pins σ H { s with heap:=h',toks:=t' }:=I.un (Un.kept k) (I.hok.kept k)
theorem Inv.laid {a:Addr} {o:HO} {t':Nat} (I:Inv X pins σ H s) (k:∀ b u,s.heap.get? b=some u→h'.get? b=some u) (hp:s.heap.objs.size≤a) (new:ObjOk X.prog X.w (upd H a o) h' a o) :
  Inv X pins σ (upd H a o) { s with heap:=h',toks:=t' }:=I.un (Un.laid k hp (I.hok.fresh hp)) (I.hok.laid k hp new)
theorem Inv.write {x e:Addr} {o:HO} {t':Nat} (I:Inv X pins σ H s) (mu:Mut (H x)) (he:e=x ∨ H e=some (.own x)) (k:∀ b u,b≠e→s.heap.get? b=some u→h'.get? b=some u) (heo:∃ u,h'.get? e=some u)
  (new:ObjOk X.prog X.w (upd H x o) h' x o):Inv X pins σ (upd H x o) { s with heap:=h',toks:=t' }:=I.un (Un.write mu he k heo) (I.hok.write mu he k heo new)
theorem Inv.weak {σ':List (Option V)} (I:Inv X pins σ H s) (hl:σ'.length=σ.length) (w:∀ (i:Nat) v,σ'[i]? = some (some v)→σ[i]? = some (some v)):Inv X pins σ' H s :=
 ⟨I.ok,I.os,I.bare,I.base,let ⟨m,hn,hl'⟩:=I.loc; ⟨m,hn,λ i x v e1 e2 e3=>hl' i x v e1 (w i v e2) e3⟩,I.cell,I.free,I.freeC,I.pin,I.hok,hl.trans I.len⟩
theorem Inv.pins_of {pins':List (Addr×Obj)} (I:Inv X pins σ H s) (h:∀ p∈pins',s.heap.get? p.1=some p.2∧H p.1=none∧p.1≠X.env.locals∧p.1∉X.fs∧∀ v,p.2.data ≠ .cell v):Inv X pins' σ H s :=
 ⟨I.ok,I.os,I.bare,I.base,I.loc,I.cell,I.free,I.freeC,λ p hp=>(List.mem_append.mp hp).elim (λ z=>I.pin p (List.mem_append_left _ z)) (h p),I.hok,I.len⟩
theorem zro {N:List Str} (hN:N.Nodup) {i j:Nat} {x:Str} (a:N[i]? = some x) (b:N[j]? = some x):i=j:=by
 obtain ⟨h1,e1⟩:=List.getElem?_eq_some_iff.mp a
 obtain ⟨h2,e2⟩:=List.getElem?_eq_some_iff.mp b
 exact (List.getElem_inj hN).mp (e1.trans e2.symm)
theorem znj {M:Model} {A:Around} {E:Value→Shared→Prop} {i:Nat} {x:Str} {v:V} {u:Value} {Q:Unit→Shared→Prop} (I:Inv X pins σ H s) (hN:X.N.Nodup) (hi:X.N[i]? = some x) (hx:Loc X.env.scope x) (r:RelV v u)
  (h:∀ s',Inv X pins (σ.set i (some v)) H s'→(∃ a,Heap.SameBut a s.heap s'.heap∧(a=X.env.locals ∨ X.env.cells.lookup x=some a))→Q () s') (hf:X.fn x=true ∨ X.env.scope.names.lookup x=some .local:=by first | exact .inl rfl | exact .inr rfl | assumption):wpAny M A (storeName X.env x u) Q E s:=by
 obtain ⟨m,hn,hl⟩:=id I.loc
 have hcls:(X.env.scope.kind == .class || (X.env.scope.kind == .module && X.env.locals != X.env.globals))=false:=by rw [I.ok.kind];rfl
 have hiσ:i<σ.length:=by rw [I.len];exact (List.getElem?_eq_some_iff.mp hi).1
 have cne:=I.cne
 have tracked:∀ {a:Addr} {h':Heap},(∃ o,s.heap.get? a=some o∧H a=none)→Heap.SameBut a s.heap h'→HOk X.prog X.w H h':=fun {a h'} ha hs b ob e=>by
  obtain ⟨_,_,hfree⟩:=ha
  refine (I.hok b ob e).stay (λ c w' hc q=>(hs.2 c ?_).trans q) (λ _ q=>q) λ _ _ q=>q
  rintro rfl
  rcases hc with rfl | hc
  ·rw [hfree] at e;cases e
  ·rw [hfree] at hc;cases hc
 rcases hx with hk | hk
 ·refine wpAny_storeName_local hk hn (λ h' hn' hs=>?_) hcls
  obtain ⟨oL,_,_,hoL,_⟩:=id hn
  refine h _ ⟨I.ok,I.os,I.bare,⟨λ b o e n hb hx=>?_,λ b o e n hb hx=>?_,I.base.free,λ b o e hx=>?_,I.base.tups,I.base.frzs,I.base.tbls⟩,⟨_,hn',λ j y v' e1 e2 e3=>?_⟩,λ y c e=>?_,I.free,I.freeC,λ p hp=>?_,tracked ⟨oL,hoL,I.free⟩ hs,by simpa using I.len⟩ ⟨_,hs,.inl rfl⟩
  ·exact (hs.2 b (Nat.ne_of_lt (Nat.lt_of_lt_of_le (Heap.lt_size e) I.ok.above))).trans (I.base.keep b o e n hb hx)
  ·obtain ⟨sl,e1⟩:=I.base.slot b o e n hb hx
   exact ⟨sl,(hs.2 b (Nat.ne_of_lt (Nat.lt_of_lt_of_le (Heap.lt_size e) I.ok.above))).trans e1⟩
  ·obtain ⟨o',e1⟩:=I.base.there b o e hx
   exact ⟨o',(hs.2 b (Nat.ne_of_lt (Nat.lt_of_lt_of_le (Heap.lt_size e) I.ok.above))).trans e1⟩
  ·by_cases hj:j=i
   ·subst hj
    rw [hi] at e1;cases e1
    rw [List.getElem?_set_self hiσ] at e2
    cases e2
    exact ⟨u,r,.inl ⟨hk,by simp⟩⟩
   ·rw [List.getElem?_set_ne (Ne.symm hj)] at e2
    obtain ⟨u',r',q⟩:=hl j y v' e1 e2 e3
    refine ⟨u',r',?_⟩
    rcases q with ⟨k,e⟩ | ⟨k,c,e,z⟩
    ·refine .inl ⟨k,?_⟩
     have:y≠x:=λ e=>hj (zro hN e1 (e ▸ hi))
     simp [this,e]
    ·exact .inr ⟨k,c,e,z.sameBut hs (cne y c e)⟩
  ·obtain ⟨w',z⟩:=I.cell y c e
   exact ⟨w',z.sameBut hs (cne y c e)⟩
  ·obtain ⟨e,n,ne,nf,d⟩:=I.pin p hp
   exact ⟨(hs.2 p.1 ne).trans e,n,ne,nf,d⟩
 ·have hfn:X.fn x=true:=by
   rcases hf with z | z
   ·exact z
   ·rw [z] at hk;cases hk
  obtain ⟨c,hc⟩:=I.ok.has x (.inl hk)
  obtain ⟨w',z⟩:=I.cell x c hc
  refine wpAny_storeName_cell I.ok.kind hk hc z (λ h' hc' hs=>?_)
  obtain ⟨oc,hoc,hocd⟩:=id z
  refine h { s with heap:=h' } ⟨I.ok,I.os,I.bare,⟨λ b o e n hb hx=>?_,λ b o e n hb hx=>?_,I.base.free,λ b o e hx=>?_,I.base.tups,I.base.frzs,I.base.tbls⟩,⟨m,hn.sameBut hs (Ne.symm (cne x c hc)),λ j y v' e1 e2 e3=>?_⟩,λ y c' e=>?_,I.free,I.freeC,λ p hp=>?_,tracked ⟨oc,hoc,I.freeC x c hc⟩ hs,by simpa using I.len⟩ ⟨c,hs,.inr hc⟩
  ·exact (hs.2 b (Nat.ne_of_lt (Nat.lt_of_lt_of_le (Heap.lt_size e) (I.ok.cab x c hfn hc)))).trans (I.base.keep b o e n hb hx)
  ·obtain ⟨sl,e1⟩:=I.base.slot b o e n hb hx
   exact ⟨sl,(hs.2 b (Nat.ne_of_lt (Nat.lt_of_lt_of_le (Heap.lt_size e) (I.ok.cab x c hfn hc)))).trans e1⟩
  ·obtain ⟨o',e1⟩:=I.base.there b o e hx
   exact ⟨o',(hs.2 b (Nat.ne_of_lt (Nat.lt_of_lt_of_le (Heap.lt_size e) (I.ok.cab x c hfn hc)))).trans e1⟩
  ·by_cases hj:j=i
   ·subst hj
    rw [hi] at e1;cases e1
    rw [List.getElem?_set_self hiσ] at e2
    cases e2
    exact ⟨u,r,.inr ⟨.inl hk,c,hc,hc'⟩⟩
   ·rw [List.getElem?_set_ne (Ne.symm hj)] at e2
    obtain ⟨u',r',q⟩:=hl j y v' e1 e2 e3
    refine ⟨u',r',?_⟩
    rcases q with q | ⟨k,c',e,z'⟩
    ·exact .inl q
    ·refine .inr ⟨k,c',e,z'.sameBut hs ?_⟩
     rintro rfl
     exact hj (zro hN e1 (I.ok.inj _ _ _ e hc ▸ hi))
  ·by_cases hcc:c'=c
   ·subst hcc;exact ⟨_,hc'⟩
   ·obtain ⟨w2,z2⟩:=I.cell y c' e
    exact ⟨w2,z2.sameBut hs hcc⟩
  ·obtain ⟨e,n,ne,nf,d⟩:=I.pin p hp
   refine ⟨(hs.2 p.1 ?_).trans e,n,ne,nf,d⟩
   intro q
   rw [q,hoc] at e
   have q':oc=p.2:=Option.some.inj e
   exact d w' (by rw [← q'];exact hocd)
theorem zrg {M:Model} {A:Around} {E:Value→Shared→Prop} {i:Nat} {x:Str} {v:V} {u:Value} {Q:Unit→Shared→Prop} (I:Inv X pins σ H s) (hN:X.N.Nodup) (hi:X.N[i]? = some x) (hx:Loc X.env.scope x) (r:RelV v u)
  (h:∀ s',Inv X pins (σ.set i (some v)) H s'→Q () s') (hf:X.fn x=true ∨ X.env.scope.names.lookup x=some .local:=by first | exact .inl rfl | exact .inr rfl | assumption):wpAny M A (storeName X.env x u) Q E s :=
 znj I hN hi hx r (λ s' I' _=>h s' I') hf
theorem Inv.call' {s':Shared} {ch:List Addr} (I:Inv X pins σ H s) (ho:s'.os=s.os) (u:Un (frs X.stack) ch H H' s.heap s'.heap) (hok:HOk X.prog X.w H' s'.heap) (hg:AllBare s'.gens)
  (hch:∀ b∈ch,(b∈X.ex ∨ X.s₀.heap.objs.size≤b)∧b≠X.env.locals∧(∀ x c,X.env.cells.lookup x=some c→c≠b)∧∀ p∈X.pn++pins,p.1≠b):Inv X pins σ H' s':=by
 obtain ⟨h',g',d',t',o'⟩:=s'
 have e:o'=s.os:=ho
 subst e
 exact I.call (g':=g') (t':=t') (d':=d') u hok hg hch
end
noncomputable abbrev XK:=Value→Option Addr→Hp→Prop
noncomputable abbrev St:=List (Option V)
noncomputable abbrev VK:=V→Hp→Prop
noncomputable abbrev TE:=St→Hp→VK→Prop
noncomputable abbrev TT:=St→Hp→(Bool→Hp→Prop)→Prop
noncomputable abbrev TA:=St→Hp→(List V→Hp→Prop)→Prop
structure Ends where
 nx:St→Hp→Prop
 rt:VK
 bk:St→Hp→Prop:=λ _ _=>False
 ct:St→Hp→Prop:=λ _ _=>False
noncomputable abbrev TS:=Ends→St→Hp→Prop
noncomputable def EP (X:Cx) (pins:List (Addr×Obj)) (σ:St) (Q:VK) (u:Value) (s':Shared):Prop:=∃ v H',Inv X pins σ H' s'∧RelV v u∧Q v H'
noncomputable def TP (X:Cx) (pins:List (Addr×Obj)) (σ:St) (Q:Bool→Hp→Prop) (b:Bool) (s':Shared):Prop:=∃ H',Inv X pins σ H' s'∧Q b H'
noncomputable def AP (X:Cx) (pins:List (Addr×Obj)) (σ:St) (Q:List V→Hp→Prop) (us:List Value) (s':Shared):Prop:=∃ vs H',Inv X pins σ H' s'∧Vals vs us∧Q vs H'
noncomputable def SP (X:Cx) (pins:List (Addr×Obj)) (D:Ends) (f:Flow) (s':Shared):Prop :=
 match f with
 | .next=>∃ σ' H',Inv X pins σ' H' s'∧D.nx σ' H'
 | .brk=>∃ σ' H',Inv X pins σ' H' s'∧D.bk σ' H'
 | .cont=>∃ σ' H',Inv X pins σ' H' s'∧D.ct σ' H'
 | .ret u=>∃ v σ' H',Inv X pins σ' H' s'∧RelV v u∧D.rt v H'
structure PE (X:Cx) (e:Expr) (t:TE):Prop where
 run :
 ∀ (pins:List (Addr×Obj)) (s:Shared) (σ:St) (H:Hp) (Q:VK),Inv X pins σ H s→t σ H Q→wpAny (model X.prog X.w) X.A (eval e X.env) (EP X pins σ Q) X.xe s
noncomputable instance {X:Cx} {e:Expr} {t:TE}:CoeFun (PE X e t) (λ _ =>
 ∀ (pins:List (Addr×Obj)) (s:Shared) (σ:St) (H:Hp) (Q:VK),Inv X pins σ H s→t σ H Q→wpAny (model X.prog X.w) X.A (eval e X.env) (EP X pins σ Q) X.xe s
 ):=⟨λ h=>h.run⟩
structure PT (X:Cx) (e:Expr) (t:TT):Prop where
 run :
 ∀ (pins:List (Addr×Obj)) (s:Shared) (σ:St) (H:Hp) (Q:Bool→Hp→Prop),Inv X pins σ H s→t σ H Q→wpAny (model X.prog X.w) X.A (isTrue e X.env (eval e X.env)) (TP X pins σ Q) X.xe s
noncomputable instance {X:Cx} {e:Expr} {t:TT}:CoeFun (PT X e t) (λ _ =>
 ∀ (pins:List (Addr×Obj)) (s:Shared) (σ:St) (H:Hp) (Q:Bool→Hp→Prop),Inv X pins σ H s→t σ H Q→wpAny (model X.prog X.w) X.A (isTrue e X.env (eval e X.env)) (TP X pins σ Q) X.xe s
 ):=⟨λ h=>h.run⟩
structure PW (X:Cx) (e:Expr) (t:TT):Prop where
 run :
 ∀ (whole:Sem Value) (pins:List (Addr×Obj)) (s:Shared) (σ:St) (H:Hp) (Q:Bool→Hp→Prop),Inv X pins σ H s→t σ H Q→wpAny (model X.prog X.w) X.A (isTrue e X.env whole) (TP X pins σ Q) X.xe s
noncomputable instance {X:Cx} {e:Expr} {t:TT}:CoeFun (PW X e t) (λ _ =>
 ∀ (whole:Sem Value) (pins:List (Addr×Obj)) (s:Shared) (σ:St) (H:Hp) (Q:Bool→Hp→Prop),Inv X pins σ H s→t σ H Q→wpAny (model X.prog X.w) X.A (isTrue e X.env whole) (TP X pins σ Q) X.xe s
 ):=⟨λ h=>h.run⟩
theorem PW.pt {X:Cx} {e:Expr} {t:TT} (h:PW X e t):PT X e t := .mk (h _)
structure PA (X:Cx) (es:List Expr) (t:TA):Prop where
 run :
 ∀ (pos:Pos) (pins:List (Addr×Obj)) (s:Shared) (σ:St) (H:Hp) (Q:List V→Hp→Prop),Inv X pins σ H s→t σ H Q→wpAny (model X.prog X.w) X.A (spliced (backTo pos (starEach es X.env))) (AP X pins σ Q) X.xe s
noncomputable instance {X:Cx} {es:List Expr} {t:TA}:CoeFun (PA X es t) (λ _ =>
 ∀ (pos:Pos) (pins:List (Addr×Obj)) (s:Shared) (σ:St) (H:Hp) (Q:List V→Hp→Prop),Inv X pins σ H s→t σ H Q→wpAny (model X.prog X.w) X.A (spliced (backTo pos (starEach es X.env))) (AP X pins σ Q) X.xe s
 ):=⟨λ h=>h.run⟩
structure PS (X:Cx) (st:Stmt) (t:TS):Prop where
 run :
 ∀ (pins:List (Addr×Obj)) (s:Shared) (σ:St) (H:Hp) (D:Ends),Inv X pins σ H s→t D σ H→wpAny (model X.prog X.w) X.A (exec st X.env) (SP X pins D) X.xe s
noncomputable instance {X:Cx} {st:Stmt} {t:TS}:CoeFun (PS X st t) (λ _ =>
 ∀ (pins:List (Addr×Obj)) (s:Shared) (σ:St) (H:Hp) (D:Ends),Inv X pins σ H s→t D σ H→wpAny (model X.prog X.w) X.A (exec st X.env) (SP X pins D) X.xe s
 ):=⟨λ h=>h.run⟩
structure PSs (X:Cx) (st:List Stmt) (t:TS):Prop where
 run :
 ∀ (pins:List (Addr×Obj)) (s:Shared) (σ:St) (H:Hp) (D:Ends),Inv X pins σ H s→t D σ H→wpAny (model X.prog X.w) X.A (execs st X.env) (SP X pins D) X.xe s
noncomputable instance {X:Cx} {st:List Stmt} {t:TS}:CoeFun (PSs X st t) (λ _ =>
 ∀ (pins:List (Addr×Obj)) (s:Shared) (σ:St) (H:Hp) (D:Ends),Inv X pins σ H s→t D σ H→wpAny (model X.prog X.w) X.A (execs st X.env) (SP X pins D) X.xe s
 ):=⟨λ h=>h.run⟩
theorem thn {α:Type} {t:Sem α} {Q Q':α→Shared→Prop} {M:Model} {A:Around} {E:Value→Shared→Prop} {s:Shared} (h:wpAny M A t Q E s) (hQ:∀ a s,Q a s→Q' a s):wpAny M A t Q' E s:=wpAny_mono h hQ λ _ _ x=>x
end L2
namespace L2
open PySem PySem.Spec PyProof.Rows
section
variable {X:Cx}
noncomputable def tVar (i:Nat):TE:=λ σ H Q=>∃ v,σ[i]? = some (some v)∧Q v H
noncomputable def tC (v:V):TE:=λ _ H Q=>Q v H
theorem zh2 {i:Nat} {x:Str} {pos:Pos} (hN:X.N[i]? = some x) (hv:Vis X.env.scope x) (hd:(x == ("__debug__" : Str))=false:=by decide) (hcd:(x == ("__classdict__" : Str))=false:=by decide):PE X (.Name x pos) (tVar i) := .mk <| by
 intro pins s σ H Q I h
 obtain ⟨v,e,h⟩:=h
 obtain ⟨m,hn,hl⟩:=I.loc
 obtain ⟨u,r,l⟩:=hl i x v hN e hv
 have fin:EP X pins σ Q u s:=⟨v,H,I,r,h⟩
 rcases l with ⟨hk,hm⟩ | ⟨hk,c,hc,hcell⟩
 ·exact wpAny_Name (wpAny_loadName_local I.ok.kind hk hn hm fin) hd
 ·rcases hk with hk | hk
  ·exact wpAny_Name (wpAny_loadName_cell I.ok.kind hk hc hcell fin) hd
  ·exact wpAny_Name (wpAny_loadName_free I.ok.kind hk hc hcell fin hcd) hd
theorem zea {i j pos}:PE X (.Constant (.int i) j pos) (tC (.int i)) := .mk <| λ _ _ _ H _ I h=>wpAny_Constant_int ⟨.int i,H,I.tok _,⟨_,rfl⟩,h⟩
theorem zxx {b j pos}:PE X (.Constant (.bool b) j pos) (tC (.bl b)) := .mk <| λ _ _ _ H _ I h=>Constant_bool ⟨.bl b,H,I,rfl,h⟩
theorem zhn {j pos}:PE X (.Constant .none j pos) (tC .non) := .mk <| λ _ _ _ H _ I h=>Constant_none ⟨.non,H,I,rfl,h⟩
theorem zfj {x j pos}:PE X (.Constant (.str x) j pos) (tC (.str x)) := .mk <| λ _ _ _ H _ I h=>Calls.Constant_str ⟨.str x,H,I.tok _,⟨_,rfl⟩,h⟩
noncomputable def Gl (X:Cx) (x:Str):Prop:=X.env.kindOf x=some .globalImplicit
theorem zhj {E:Value→Shared→Prop} {pins:List (Addr×Obj)} {s:Shared} {σ:St} {H:Hp} {x:Str} {u:Value} {pos:Pos} {Q:Value→Shared→Prop} (I:Inv X pins σ H s) (hg:Gl X x) (hm:X.mg x=some u) (h:Q u s)
  (hd:(x == ("__debug__" : Str))=false:=by decide):wpAny (model X.prog X.w) X.A (eval (.Name x pos) X.env) Q E s :=
 Calls.Name_function_global I.ok.kind hg (Calls.loadGlobal_global (by rw [I.ok.glob];exact I.mod.glob.keeps I.bk) hm h) hd
theorem zdp {E:Value→Shared→Prop} {pins:List (Addr×Obj)} {s:Shared} {σ:St} {H:Hp} {x:Str} {u:Value} {pos:Pos} {Q:Value→Shared→Prop} (I:Inv X pins σ H s) (hg:Gl X x) (hm:X.mg x=none) (hv:bootBuiltins x=some u) (h:Q u s)
  (hn:x ≠ "__name__" := by decide) (hd:(x == ("__debug__" : Str))=false:=by decide):wpAny (model X.prog X.w) X.A (eval (.Name x pos) X.env) Q E s:=by
 obtain ⟨mb,h1,h2⟩:=I.mod.blt
 exact Calls.Name_function_global I.ok.kind hg (Calls.loadGlobal_builtin (by rw [I.ok.glob];exact I.mod.glob.keeps I.bk) hm (by rw [I.ok.blt];exact h1.keeps I.bk) ((h2 x hn).trans hv) h) hd
variable {a b:Expr} {ta tb:TE} {pos:Pos}
noncomputable def tB (t:TE):TT:=λ σ H Q=>t σ H λ x H1=>∃ c,x = .bl c∧Q c H1
theorem zw1 {e:Expr} {t:TE} (h:PE X e t) (he:∀ whole,isTrue e X.env whole=(do let v ← whole;standAt e.pos;holding [v] (truthy v)):=by intro _;rfl):PT X e (tB t) := .mk <| by
 intro pins s σ H Q I hw
 refine isTrue_plain (thn (h pins s σ H _ I hw) λ v s1 ⟨x,H1,I1,r1,q1⟩=>?_) (he _)
 obtain ⟨d,rfl,q⟩:=q1
 cases r1
 exact wpAny_truthy_bool ⟨H1,I1,q⟩
variable {tA tB':TT} {rest:List Expr}
noncomputable def tAnd (t u:TT):TT:=λ σ H Q=>t σ H λ c H1=>if c=true then u σ H1 Q else Q false H1
noncomputable def tOr (t u:TT):TT:=λ σ H Q=>t σ H λ c H1=>if c=true then Q true H1 else u σ H1 Q
theorem zbs (ha:PT X a tA):PW X (.BoolOp .And [a] pos) tA := .mk <| by
 intro wh pins s σ H Q I h
 refine isTrue_and (thn (ha pins s σ H Q I h) λ c s1 e=>?_)
 cases c with
 | true=>exact isTrue_and_nil e
 | false=>exact e
theorem zsx (ha:PT X a tA):PW X (.BoolOp .Or [a] pos) tA := .mk <| by
 intro wh pins s σ H Q I h
 refine isTrue_or (thn (ha pins s σ H Q I h) λ c s1 e=>?_)
 cases c with
 | false=>exact isTrue_or_nil e
 | true=>exact e
theorem zby (ha:PT X a tA) (hb:PW X (.BoolOp .And (b::rest) pos) tB'):PW X (.BoolOp .And (a::b::rest) pos) (tAnd tA tB') := .mk <| by
 intro wh pins s σ H Q I h
 refine isTrue_and (thn (ha pins s σ H _ I h) λ c s1 ⟨H1,I1,q1⟩=>?_)
 cases c with
 | true=>exact hb wh pins s1 σ H1 Q I1 q1
 | false=>exact ⟨H1,I1,q1⟩
theorem zq3 (ha:PT X a tA) (hb:PW X (.BoolOp .Or (b::rest) pos) tB'):PW X (.BoolOp .Or (a::b::rest) pos) (tOr tA tB') := .mk <| by
 intro wh pins s σ H Q I h
 refine isTrue_or (thn (ha pins s σ H _ I h) λ c s1 ⟨H1,I1,q1⟩=>?_)
 cases c with
 | true=>exact ⟨H1,I1,q1⟩
 | false=>exact hb wh pins s1 σ H1 Q I1 q1
noncomputable def zw3 (ta tb:TE):TE:=λ σ H Q=>ta σ H λ x H1=>∃ c,x = .bl c∧if c=true then tb σ H1 Q else Q (.bl false) H1
noncomputable def zz4 (ta:TE):TE:=λ σ H Q=>ta σ H λ x H1=>∃ c,x = .bl c∧Q (.bl (!c)) H1
theorem zq2 {op} {t:TE} (h:PE X a t):PE X (.BoolOp op [a] pos) t := .mk <| λ pins s σ H Q I hw=>BoolOp_one (h pins s σ H Q I hw)
theorem zww (ha:PE X a ta) (hb:PE X (.BoolOp .And (b::rest) pos) tb):PE X (.BoolOp .And (a::b::rest) pos) (zw3 ta tb) := .mk <| by
 intro pins s σ H Q I h
 refine BoolOp_and (thn (ha pins s σ H _ I h) λ v s1 ⟨x,H1,I1,r1,q1⟩=>?_)
 obtain ⟨c,rfl,q1⟩:=q1
 cases r1
 refine wpAny_truthy_bool ?_
 cases c with
 | true=>exact hb pins s1 σ H1 Q I1 q1
 | false=>exact ⟨.bl false,H1,I1,rfl,q1⟩
theorem zf0 (ha:PE X a ta):PE X (.UnaryOp .Not a pos) (zz4 ta) := .mk <| by
 intro pins s σ H Q I h
 refine UnaryOp_ (thn (ha pins s σ H _ I h) λ v s1 ⟨x,H1,I1,r1,q1⟩=>?_)
 obtain ⟨c,rfl,q1⟩:=q1
 cases r1
 exact not_of (wpAny_truthy_bool ⟨.bl (!c),H1,I1,rfl,q1⟩)
noncomputable def tIf (t:TT) (ta tb:TE):TE:=λ σ H Q=>t σ H λ c H1=>if c=true then ta σ H1 Q else tb σ H1 Q
theorem zeu {c:Expr} (hc:PT X c tA) (ha:PE X a ta) (hb:PE X b tb):PE X (.IfExp c a b pos) (tIf tA ta tb) := .mk <| by
 intro pins s σ H Q I h
 refine wpAny_IfExp (thn (hc pins s σ H _ I h) λ d s1 ⟨H1,I1,q1⟩=>?_)
 cases d with
 | true=>exact ha pins s1 σ H1 Q I1 q1
 | false=>exact hb pins s1 σ H1 Q I1 q1
end
end L2
namespace L2
open PySem PySem.Spec PyProof.Rows
noncomputable def SqL (K:W.Frag) (H:Hp) (a:Addr) (xs:List V):Prop :=
 Rd H a (.lst xs) ∨
  ∃ (o:Obj) (its:Array Value) (n:Nat),K.lookup a=some o∧o.cls = .type "list" ∧ o.dict=none∧o.data = .seq its n∧its.size≤sizeLine∧Vals xs its.toList
noncomputable def SqT (K:W.Frag) (H:Hp) (a:Addr) (xs:List V):Prop :=
 Rd H a (.tup xs) ∨
  ∃ (o:Obj) (its:Array Value) (n:Nat),K.lookup a=some o∧o.cls = .type "tuple" ∧ o.data = .seq its n∧its.size≤sizeLine∧Vals xs its.toList
noncomputable def absV:Value→Option V
 | .none=>some .non
 | .bool b=>some (.bl b)
 | .int i _=>some (.int i)
 | .str x _=>some (.str x)
 | .bytes b _=>some (.byt b)
 | .float b _=>some (.flt b)
 | .ref a=>some (.ref a)
 | .type n=>some (.ty n)
 | _=>none
theorem RelV.abs {x:V} {u:Value} (r:RelV x u):absV u=some x:=by
 cases x with
 | non=>cases r;rfl
 | bl _=>cases r;rfl
 | int _=>obtain ⟨t,rfl⟩:=r;rfl
 | str _=>obtain ⟨t,rfl⟩:=r;rfl
 | byt _=>obtain ⟨t,rfl⟩:=r;rfl
 | flt _=>obtain ⟨t,rfl⟩:=r;rfl
 | ref _=>cases r;rfl
 | ty _=>cases r;rfl
theorem RelV.inj {x y:V} {u:Value} (r:RelV x u) (q:RelV y u):x=y:=Option.some.inj (r.abs.symm.trans q.abs)
theorem Vals.inj:∀ {xs ys:List V} {us:List Value},Vals xs us→Vals ys us→xs=ys
 | _,_,_,.nil,.nil=>rfl
 | _,_,_,.cons r t,.cons r' t'=>by rw [r.inj r',Vals.inj t t']
section
variable {X:Cx} {pins:List (Addr×Obj)} {σ:St} {H:Hp} {s:Shared} {a:Addr} {xs ys:List V}
theorem SqL.of {K:W.Frag} (h:H a=some (.lst xs)):SqL K H a xs := .inl (.inl h)
theorem SqT.of {K:W.Frag} (h:H a=some (.tup xs)):SqT K H a xs := .inl (.inl h)
theorem Inv.list (I:Inv X pins σ H s) (h:SqL X.K H a xs):∃ its:List Value,Vals xs its∧PlainL s.heap a its.toArray∧xs.length≤sizeLine:=by
 rcases h with h | ⟨o,its,n,hk,hc,hd,hs,hz,r⟩
 ·obtain ⟨z,its,n,r,e⟩:=h.ok I.hok
  exact ⟨its,r,⟨_,n,e,rfl,rfl,rfl⟩,z⟩
 ·refine ⟨its.toList,r,⟨o,n,I.kIn a o hk,hc,hd,by simpa using hs⟩,?_⟩
  have e:=r.length
  simp only [Array.length_toList] at e
  omega
theorem Inv.tuple (I:Inv X pins σ H s) (h:SqT X.K H a xs):∃ its:List Value,Vals xs its∧IsTup s.heap a its.toArray∧xs.length≤sizeLine:=by
 rcases h with h | ⟨o,its,n,hk,hc,hs,hz,r⟩
 ·obtain ⟨z,its,r,p⟩:=h.ok I.hok
  exact ⟨its,r,p,z⟩
 ·refine ⟨its.toList,r,⟨o,I.kIn a o hk,hc,n,by simpa using hs⟩,?_⟩
  have e:=r.length
  simp only [Array.length_toList] at e
  omega
theorem Inv.list_inj (I:Inv X pins σ H s) (h:SqL X.K H a xs) (h':SqL X.K H a ys):xs=ys:=by
 obtain ⟨its,r,⟨o,n,e,_,_,d⟩,_⟩:=I.list h
 obtain ⟨its',r',⟨o',n',e',_,_,d'⟩,_⟩:=I.list h'
 rw [e] at e';cases e'
 rw [d] at d'
 injection d' with d1 _
 have:its=its':=by simpa using congrArg Array.toList d1
 subst this
 exact r.inj r'
end
noncomputable abbrev Cx.wish (X:Cx) (E:Value→Shared→Prop):Cx:={ X with xe:=E }
noncomputable abbrev Cx.nox (X:Cx):Cx:=X.wish λ _ _=>False
theorem Cx.Ok.wish {X:Cx} (ok:X.Ok) (E:Value→Shared→Prop):(X.wish E).Ok :=
 ⟨ok.mod,ok.kind,ok.glob,ok.blt,ok.above,ok.inj,ok.has,ok.cab,ok.hd,ok.frames,ok.stk,ok.exf,ok.bs,ok.bsz,ok.noex,ok.exfs,ok.funs,ok.frf⟩
theorem Cx.Ok.unwish {X:Cx} {E:Value→Shared→Prop} (ok:(X.wish E).Ok):X.Ok :=
 ⟨ok.mod,ok.kind,ok.glob,ok.blt,ok.above,ok.inj,ok.has,ok.cab,ok.hd,ok.frames,ok.stk,ok.exf,ok.bs,ok.bsz,ok.noex,ok.exfs,ok.funs,ok.frf⟩
section
variable {X:Cx} {pins:List (Addr×Obj)} {σ:St} {H:Hp} {s:Shared} {E:Value→Shared→Prop}
theorem Inv.wish (I:Inv X pins σ H s) (E:Value→Shared→Prop):Inv (X.wish E) pins σ H s:=⟨I.ok.wish E,I.os,I.bare,I.base,I.loc,I.cell,I.free,I.freeC,I.pin,I.hok,I.len⟩
theorem Inv.unwish (I:Inv (X.wish E) pins σ H s):Inv X pins σ H s:=⟨I.ok.unwish,I.os,I.bare,I.base,I.loc,I.cell,I.free,I.freeC,I.pin,I.hok,I.len⟩
theorem SP.unwish {D:Ends} {f:Flow} {s':Shared} (h:SP (X.wish E) pins D f s'):SP X pins D f s':=by
 cases f with
 | next=>obtain ⟨σ',H',I,q⟩:=h;exact ⟨σ',H',I.unwish,q⟩
 | brk=>obtain ⟨σ',H',I,q⟩:=h;exact ⟨σ',H',I.unwish,q⟩
 | cont=>obtain ⟨σ',H',I,q⟩:=h;exact ⟨σ',H',I.unwish,q⟩
 | ret u=>obtain ⟨v,σ',H',I,r,q⟩:=h;exact ⟨v,σ',H',I.unwish,r,q⟩
theorem PSs.nox {st:List Stmt} {t:TS} (h:PSs X.nox st t):PSs X st t := .mk <| λ pins s σ H D I hw =>
 wpAny_mono (h pins s σ H D (I.wish _) hw) (λ _ _ q=>q.unwish) λ _ _ z=>False.elim z
end
section
variable {X:Cx} {st:Stmt} {rest:List Stmt} {t u:TS} {e:Expr} {te:TE} {pos:Pos}
noncomputable def zv4:TS:=λ D σ H=>D.nx σ H
noncomputable def tSeq (t u:TS):TS:=λ D σ H=>t { D with nx:=u D } σ H
theorem zwb:PSs X [] zv4 := .mk <| λ _ _ σ H _ I h=>wpAny_execs_nil ⟨σ,H,I,h⟩
theorem zca (h1:PS X st t) (h2:PSs X rest u):PSs X (st::rest) (tSeq t u) := .mk <| by
 intro pins s σ H D I h
 refine wpAny_execs_cons (thn (h1 pins s σ H { D with nx:=u D } I h) λ f s1 q=>?_)
 cases f with
 | next =>
  obtain ⟨σ',H',I',q⟩:=q
  exact h2 pins s1 σ' H' D I' q
 | ret v=>exact q
 | brk=>exact q
 | cont=>exact q
theorem zha (h1:PS X st t):PSs X [st] t := .mk <| by
 intro pins s σ H D I h
 refine wpAny_execs_cons (thn (h1 pins s σ H D I h) λ f s1 q=>?_)
 cases f with
 | next=>exact wpAny_execs_nil q
 | ret v=>exact q
 | brk=>exact q
 | cont=>exact q
theorem Inv.quiet {pins:List (Addr×Obj)} {σ:St} {H:Hp} {s:Shared} (I:Inv X pins σ H s):interactive X.env=false:=by simp [interactive,I.ok.kind]
noncomputable def zh4 (te:TE):TS:=λ D σ H=>te σ H λ _ H1=>D.nx σ H1
theorem zte (he:PE X e te) (hs:swapsWith e none pos.line X.env=pure false:=by rfl):PS X (.Expr e pos) (zh4 te) := .mk <| by
 intro pins s σ H D I h
 exact wpAny_Expr_any (thn (he pins s σ H _ I h) λ v s1 ⟨x,H1,I1,r1,q1⟩=>⟨σ,H1,I1,q1⟩) I.quiet hs
noncomputable def tRet (te:TE):TS:=λ D σ H=>te σ H D.rt
theorem zmb (he:PE X e te):PS X (.Return (some e) pos) (tRet te) := .mk <| by
 intro pins s σ H D I h
 exact wpAny_Return_some (thn (he pins s σ H _ I h) λ v s1 ⟨x,H1,I1,r1,q1⟩=>⟨x,σ,H1,I1,r1,q1⟩)
noncomputable def tIfS (c:TT) (t u:TS):TS:=λ D σ H=>c σ H λ b H1=>if b=true then t D σ H1 else u D σ H1
theorem zuk {c:Expr} {a b:List Stmt} {tc:TT} (hc:PT X c tc) (ha:PSs X a t) (hb:PSs X b u):PS X (.If c a b pos) (tIfS tc t u) := .mk <| by
 intro pins s σ H D I h
 refine wpAny_If (thn (hc pins s σ H _ I h) λ d s1 ⟨H1,I1,q1⟩=>?_)
 cases d with
 | true=>exact ha pins s1 σ H1 D I1 q1
 | false=>exact hb pins s1 σ H1 D I1 q1
end
noncomputable abbrev TG:=V→St→Hp→(St→Hp→Prop)→Prop
noncomputable abbrev TGs:=List V→St→Hp→(St→Hp→Prop)→Prop
structure PG (X:Cx) (target:Expr) (t:TG):Prop where
 run :
 ∀ (pins:List (Addr×Obj)) (s:Shared) (σ:St) (H:Hp) (v:V) (u:Value) (Q:St→Hp→Prop),Inv X pins σ H s→RelV v u→t v σ H Q →
  wpAny (model X.prog X.w) X.A (assign target X.env u) (λ _ s'=>∃ σ' H',Inv X pins σ' H' s'∧Q σ' H') X.xe s
noncomputable instance {X:Cx} {target:Expr} {t:TG}:CoeFun (PG X target t) (λ _ =>
 ∀ (pins:List (Addr×Obj)) (s:Shared) (σ:St) (H:Hp) (v:V) (u:Value) (Q:St→Hp→Prop),Inv X pins σ H s→RelV v u→t v σ H Q →
  wpAny (model X.prog X.w) X.A (assign target X.env u) (λ _ s'=>∃ σ' H',Inv X pins σ' H' s'∧Q σ' H') X.xe s
 ):=⟨λ h=>h.run⟩
structure PGs (X:Cx) (ts:List Expr) (t:TGs):Prop where
 run :
 ∀ (pins:List (Addr×Obj)) (s:Shared) (σ:St) (H:Hp) (vs:List V) (us:List Value) (Q:St→Hp→Prop),Inv X pins σ H s→Vals vs us→t vs σ H Q →
  wpAny (model X.prog X.w) X.A (assignInOrder ((assignEach ts X.env).map (·.2)) us) (λ _ s'=>∃ σ' H',Inv X pins σ' H' s'∧Q σ' H') X.xe s
noncomputable instance {X:Cx} {ts:List Expr} {t:TGs}:CoeFun (PGs X ts t) (λ _ =>
 ∀ (pins:List (Addr×Obj)) (s:Shared) (σ:St) (H:Hp) (vs:List V) (us:List Value) (Q:St→Hp→Prop),Inv X pins σ H s→Vals vs us→t vs σ H Q →
  wpAny (model X.prog X.w) X.A (assignInOrder ((assignEach ts X.env).map (·.2)) us) (λ _ s'=>∃ σ' H',Inv X pins σ' H' s'∧Q σ' H') X.xe s
 ):=⟨λ h=>h.run⟩
section
variable {X:Cx} {pos:Pos}
noncomputable def zuo (i:Nat):TG:=λ v σ H Q=>Q (σ.set i (some v)) H
theorem zia {i:Nat} {x:Str} (hN:X.N.Nodup) (hi:X.N[i]? = some x) (hx:Loc X.env.scope x) (hf:X.fn x=true ∨ X.env.scope.names.lookup x=some .local:=by first | exact .inl rfl | exact .inr rfl | assumption):PG X (.Name x pos) (zuo i) := .mk <| by
 intro pins s σ H v u Q I r h
 exact wpAny_assign_Name (zrg I hN hi hx r (λ s' I'=>⟨_,H,I',h⟩) hf)
noncomputable def gNil:TGs:=λ vs σ H Q=>vs=[]∧Q σ H
noncomputable def zyv (t:TG) (u:TGs):TGs:=λ vs σ H Q=>∃ v r,vs=v::r∧t v σ H λ σ' H'=>u r σ' H' Q
theorem zsc:PGs X [] gNil := .mk <| by
 intro pins s σ H vs us Q I r h
 obtain ⟨e,h⟩:=h
 subst e
 cases r
 exact assignInOrder_nil ⟨σ,H,I,h⟩
theorem zla {e:Expr} {es:List Expr} {t:TG} {u:TGs} (h1:PG X e t) (h2:PGs X es u)
  (hs:(assignEach (e::es) X.env).map (·.2)=assign e X.env::(assignEach es X.env).map (·.2):=by rfl):PGs X (e::es) (zyv t u) := .mk <| by
 intro pins s σ H vs us Q I r h
 obtain ⟨v,vr,e1,h⟩:=h
 subst e1
 cases r with
 | cons r rr =>
  rw [hs]
  refine assignInOrder_cons (thn (h1 pins s σ H _ _ _ I r h) λ _ s1 ⟨σ1,H1,I1,q1⟩=>?_)
  exact h2 pins s1 σ1 H1 _ _ Q I1 rr q1
noncomputable def gTup (K:W.Frag) (n:Nat) (t:TGs):TG:=λ v σ H Q=>∃ a xs,v = .ref a∧SqT K H a xs∧xs.length=n∧t xs σ H Q
theorem zgf {es:List Expr} {k:Nat} {t:TGs} {n:Nat} (hc:X.calm=true) (h:PGs X es t)
  (hn:(assignEach es X.env).length=n:=by rfl) (hst:(assignEach es X.env).findIdx? (·.1)=none:=by rfl):PG X (.Tuple es k pos) (gTup X.K n t) := .mk <| by
 intro pins s σ H v u Q I r hw
 obtain ⟨a,xs,e1,hq,hl,hw⟩:=hw
 subst e1
 cases r
 obtain ⟨its,rv,ht,hz⟩:=I.tuple hq
 refine assign_Tuple_tuple (I.ok.hd hc) ht (by simp [hn,← hl,rv.length]) hst λ h' hx=>?_
 have I1:Inv X pins σ H { s with heap:=h' }:=I.kept (t':=s.toks) λ b o e=>hx b o (Nat.ne_of_lt (Heap.lt_size e)) e
 exact h pins _ σ H xs _ Q I1 (by simpa using rv) hw
noncomputable def tAsg (te:TE) (g:TG):TS:=λ D σ H=>te σ H λ x H1=>g x σ H1 D.nx
theorem zet {tg e:Expr} {te:TE} {g:TG} (he:PE X e te) (hg:PG X tg g) (hs:swapsWithSole [tg] e pos.line X.env=pure false:=by rfl) (hw:swappedStores [tg] e X.env=pure none:=by rfl)
  (h1:(assignEach [tg] X.env).map (·.2)=[assign tg X.env]:=by rfl):PS X (.Assign [tg] e pos) (tAsg te g) := .mk <| by
 intro pins s σ H D I h
 refine wpAny_Assign_stores (thn (he pins s σ H _ I h) λ v s1 ⟨x,H1,I1,r1,q1⟩=>?_) hs hw
 rw [h1]
 exact thn (hg pins s1 σ H1 x v _ I1 r1 q1) λ _ s2 q=>q
theorem zpa {i:Nat} {x:Str} {e:Expr} {te:TE} {pos':Pos} (hN:X.N.Nodup) (hi:X.N[i]? = some x) (hx:Loc X.env.scope x) (he:PE X e te) (hs:swapsWith e (some (.Name x pos')) pos.line X.env=pure false:=by rfl) (hf:X.fn x=true ∨ X.env.scope.names.lookup x=some .local:=by first | exact .inl rfl | exact .inr rfl | assumption) :
  PS X (.Assign [.Name x pos'] e pos) (tAsg te (zuo i)) := .mk <| by
 intro pins s σ H D I h
 refine wpAny_Assign_Name (thn (he pins s σ H _ I h) λ v s1 ⟨y,H1,I1,r1,q1⟩=>?_) hs
 exact zrg I1 hN hi hx r1 (λ s2 I2=>⟨_,H1,I2,q1⟩) hf
noncomputable def tPar (i j:Nat) (ta:TA):TS:=λ D σ H=>ta σ H λ vs H1=>∃ v w,vs=[v,w]∧D.nx ((σ.set i (some v)).set j (some w)) H1
theorem zq0 {i j:Nat} {x y:Str} {a b:Expr} {ta:TA} {px py pt:Pos} {kt k2 pt2} (hc:X.calm=true) (hN:X.N.Nodup) (hi:X.N[i]? = some x) (hj:X.N[j]? = some y) (hij:i≠j)
  (hx:X.env.scope.names.lookup x=some .local) (hy:X.env.scope.names.lookup y=some .local) (ha:PA X [a,b] ta)
  (hw:swappedStores [.Tuple [.Name x px,.Name y py] kt pt] (.Tuple [a,b] k2 pt2) X.env=pure (some [x,y]))
  (hs:swapsWithSole [.Tuple [.Name x px,.Name y py] kt pt] (.Tuple [a,b] k2 pt2) pos.line X.env=pure false:=by rfl) :
  PS X (.Assign [.Tuple [.Name x px,.Name y py] kt pt] (.Tuple [a,b] k2 pt2) pos) (tPar i j ta) := .mk <| by
 intro pins s σ H D I h
 rw [exec_Assign_arm]
 refine wpAny_bind (wpAny_standAt ?_)
 rw [hs]
 refine wpAny_bind (wpAny_pure ?_)
 rw [if_neg (by decide)]
 refine wpAny_bind (Tuple_ (thn (ha _ pins s σ H _ I h) λ us s1 ⟨vs,H1,I1,r1,q1⟩=>?_))
 obtain ⟨v,w,e1,q1⟩:=q1
 subst e1
 obtain ⟨u1,u2,rfl,rv,rw'⟩:∃ u1 u2,us=[u1,u2]∧RelV v u1∧RelV w u2:=by
  cases r1 with
  | cons p q =>
   cases q with
   | cons p' q' =>
    cases q'
    exact ⟨_,_,rfl,p,p'⟩
 refine wpAny_newObj_type ?_ (by show 2≤sizeLine;decide)
 have I2:Inv X pins σ H1 { s1 with heap:=s1.heap.push { cls := .type "tuple",data := .seq [u1,u2].toArray } }:=I1.kept (t':=s1.toks) λ b o e=>Heap.get?_push_of_some _ e
 rw [hw]
 refine wpAny_bind (wpAny_pure ?_)
 show wpAny (model X.prog X.w) X.A (do rule "assign.swapped-stores";let items ← unpackItems (.ref s1.heap.objs.size) 2 none;assignInOrder [λ v=>bindName X.env y v,λ v=>bindName X.env x v] items.reverse;pure Flow.next) _ _ _
 refine wpAny_bind (wpAny_rule (wpAny_bind (unpackItems_tuple (items := #[u1,u2]) (I.ok.hd hc) (IsTup.new s1.heap _) λ h' hx'=>?_)))
 have I3:=I2.kept (h':=h') (t':=s1.toks) λ b o e=>hx' b o (Nat.ne_of_lt (Heap.lt_size e)) e
 show wpAny _ _ (assignInOrder [λ v=>bindName X.env y v,λ v=>bindName X.env x v] [u2,u1] >>= λ _=>pure Flow.next) _ _ _
 refine wpAny_bind (assignInOrder_cons (wpAny_bindName (zrg I3 hN hj (.inl hy) rw' (λ s2 I4=>?_) (.inr hy))))
 refine assignInOrder_cons (wpAny_bindName (zrg I4 hN hi (.inl hx) rv (λ s3 I5=>assignInOrder_nil (wpAny_pure ?_)) (.inr hx)))
 rw [List.set_comm _ _ (Ne.symm hij)] at I5
 exact ⟨_,H1,I5,q1⟩
end
section
variable {X:Cx} {pos:Pos}
end
structure It where
 go:Nat→Hp→Prop
 yld:Nat→Hp→V→Hp→Prop
 stop:Nat→Hp→Prop
noncomputable def FpOk (X:Cx) (pins:List (Addr×Obj)) (H:Hp) (b:Addr):Prop :=
 H b=none∧b≠X.env.locals∧b∉X.fs∧(b∈X.ex ∨ X.s₀.heap.objs.size≤b)∧(∀ x c,X.env.cells.lookup x=some c→c≠b)∧∀ p∈X.pn++pins,p.1≠b
theorem Inv.fpOk {X:Cx} {pins:List (Addr×Obj)} {σ:St} {H H':Hp} {s:Shared} {b:Addr} (I:Inv X pins σ H s) (hb:s.heap.objs.size≤b) (hn:H' b=none):FpOk X pins H' b:=by
 refine ⟨hn,Nat.ne_of_gt (Nat.lt_of_lt_of_le I.lt hb),I.nofs hb,.inr (Nat.le_trans I.sz hb),λ x c e z=>?_,λ p hp z=>?_⟩
 ·obtain ⟨v,q⟩:=I.cell x c e
  exact absurd (Nat.lt_of_lt_of_le q.lt (by rw [z];exact hb)) (Nat.lt_irrefl _)
 ·exact absurd (Nat.lt_of_lt_of_le (Heap.lt_size (I.pin p hp).1) (by rw [z];exact hb)) (Nat.lt_irrefl _)
structure Turn (P:Program) (w:World) (K:W.Frag) (tg:Expr) (J:It) (fp:List Addr) (it:Addr) (tn:Nat→Heap→Prop):Prop where
 mem:it∈fp
 obj:∀ i h,tn i h→∀ b∈fp,∃ o,h.get? b=some o∧∀ v,o.data ≠ .cell v
 keep:∀ i h h',tn i h→(∀ b∈fp,∀ o,h.get? b=some o→h'.get? b=some o)→tn i h'
 item:∀ (X:Cx),X.prog=P→X.w=w→X.K=K→X.calm=true→∀ (i:Nat) (pins:List (Addr×Obj)) (s:Shared) (σ:St) (H:Hp) (E:Value→Shared→Prop),Inv X pins σ H s→(∀ b∈fp,FpOk X pins H b)→tn i s.heap→J.go i H →
  wpAny (model P w) X.A (pyNext (.ref it)) (λ r s1=>∃ u,r=some u ∧
   wpAny (model P w) X.A (letOwnedTupleGo tg (.ref it) u) (λ _ s2=>∃ x H',Inv X pins σ H' s2∧RelV x u∧J.yld i H x H'∧tn (i+1) s2.heap∧∀ b∈fp,H' b=none) E s1) E s
 done:∀ (X:Cx),X.prog=P→X.w=w→X.K=K→X.calm=true→∀ (i:Nat) (pins:List (Addr×Obj)) (s:Shared) (σ:St) (H:Hp) (E:Value→Shared→Prop),Inv X pins σ H s→(∀ b∈fp,FpOk X pins H b)→tn i s.heap→J.stop i H →
  wpAny (model P w) X.A (pyNext (.ref it)) (λ r s1=>r=none∧Inv X pins σ H s1) E s
 self:∀ (A:Around) (i:Nat) (s:Shared) (Q:Value→Shared→Prop) (E:Value→Shared→Prop),tn i s.heap→Q (.ref it) s→wpAny (model P w) A (pyIter (.ref it)) Q E s
noncomputable abbrev TI:=St→Hp→(It→Hp→Prop)→Prop
noncomputable def PIE (X:Cx) (pins:List (Addr×Obj)) (σ:St) (tg:Expr) (R:It→Hp→Prop) (itv:Value) (s2:Shared):Prop :=
 ∃ (it:Addr) (fp:List Addr) (tn:Nat→Heap→Prop) (J:It) (H':Hp),itv = .ref it∧Inv X pins σ H' s2∧Turn X.prog X.w X.K tg J fp it tn∧tn 0 s2.heap∧(∀ b∈fp,FpOk X pins H' b)∧R J H'
structure PI (X:Cx) (tg iter:Expr) (wi:TI):Prop where
 run :
 ∀ (pins:List (Addr×Obj)) (s:Shared) (σ:St) (H:Hp) (R:It→Hp→Prop),Inv X pins σ H s→wi σ H R →
  wpAny (model X.prog X.w) X.A (eval iter X.env) (λ v s1=>wpAny (model X.prog X.w) X.A (pyIter v) (PIE X pins σ tg R) X.xe s1) X.xe s
noncomputable instance {X:Cx} {tg iter:Expr} {wi:TI}:CoeFun (PI X tg iter wi) (λ _ =>
 ∀ (pins:List (Addr×Obj)) (s:Shared) (σ:St) (H:Hp) (R:It→Hp→Prop),Inv X pins σ H s→wi σ H R →
  wpAny (model X.prog X.w) X.A (eval iter X.env) (λ v s1=>wpAny (model X.prog X.w) X.A (pyIter v) (PIE X pins σ tg R) X.xe s1) X.xe s
 ):=⟨λ h=>h.run⟩
theorem zyz {M:Model} {A:Around} {E:Value→Shared→Prop} {s:Shared} {tg:Expr} {it:Addr} {u:Value} {o:Obj} {n:String} {vs:Array Value} {Q:Unit→Shared→Prop} (ho:s.heap.get? it=some o) (hc:o.cls = .type n) (hd:o.data = .fields vs)
  (hn:["enumerate", "zip", "dict_itemiterator", "dict_reverseitemiterator", "odict_iterator", "itertools.zip_longest", "itertools.pairwise"].contains n=false) (hQ:Q () s):wpAny M A (letOwnedTupleGo tg (.ref it) u) Q E s:=by
 unfold letOwnedTupleGo
 cases tg <;> first
  | exact wpAny_pure hQ
  | (cases u <;> first
    | exact wpAny_pure hQ
    | (refine wpAny_bind (wpAny_load ho ?_)
       rw [hc,hd]
       show wpAny M A (if (["enumerate", "zip", "dict_itemiterator", "dict_reverseitemiterator", "odict_iterator", "itertools.zip_longest", "itertools.pairwise"].contains n && vs[0]? == some (rawInt _))=true then _ else _) Q E s
       rw [if_neg (by intro h;rw [hn,Bool.false_and] at h;cases h)]
       exact wpAny_pure hQ))
noncomputable def Itl (K:W.Frag) (a:Addr):It :=
 ⟨λ i H=>∃ xs x,SqL K H a xs∧xs[i]? = some x,λ i H x H'=>H'=H∧∀ xs,SqL K H a xs→xs[i]? = some x,λ i H=>∃ xs,SqL K H a xs∧xs.length≤i⟩
noncomputable def Itr (lo:Int) (n:Nat):It:=⟨λ i _=>i<n,λ i H x H'=>H'=H∧x = .int (lo+i),λ i _=>n≤i⟩
theorem zbp {P:Program} {w:World} {K:W.Frag} {tg:Expr} (a it:Addr):Turn P w K tg (Itl K a) [it] it (λ i h=>h.IsListIter it a i) where
 mem:=by simp
 obj:=λ i h st b hb=>by
  have e:b=it:=by simpa using hb
  subst e
  obtain ⟨o,e,c,d⟩:=st
  exact ⟨o,e,λ v z=>by rw [d] at z;cases z⟩
 keep:=λ i h h' st k=>st.at λ o e=>k it (by simp) o e
 item:=by
  intro X hP hw hK hc i pins s σ H E I hf st hg
  subst hP hw hK
  obtain ⟨xs,x,hq,hx⟩:=hg
  obtain ⟨its,rv,p,hz⟩:=I.list hq
  obtain ⟨u,hu,ru⟩:=rv.get hx
  obtain ⟨f0,f1,f2,f3,f4,f5⟩:=hf it (by simp)
  refine wpAny_pyNext_list_item st p.isList (x:=u) (by simpa using hu) λ h' st' sb=>?_
  have I1:Inv X pins σ H { s with heap:=h' }:=I.turned (t':=s.toks) (λ b o hb e=>(sb.2 b hb).trans e) f0 f1 f3 f4 f5
  obtain ⟨o,e,c,d⟩:=id st'
  exact ⟨u,rfl,zyz (s:={ s with heap:=h' }) e c d (by decide) ⟨x,H,I1,ru,⟨rfl,λ ys hy=>by rw [I.list_inj hy hq];exact hx⟩,st',λ b hb=>(hf b hb).1⟩⟩
 done:=by
  intro X hP hw hK hc i pins s σ H E I hf st hg
  subst hP hw hK
  obtain ⟨xs,hq,hx⟩:=hg
  obtain ⟨its,rv,p,hz⟩:=I.list hq
  obtain ⟨f0,f1,f2,f3,f4,f5⟩:=hf it (by simp)
  have hl:=rv.length
  exact wpAny_pyNext_list_end (I.ok.hd hc) st p.isList (by simp;omega) λ h' eb=>⟨rfl,I.turned (t':=s.toks) (λ b o hb e=>eb b o hb e) f0 f1 f3 f4 f5⟩
 self:=λ _ _ _ _ _ st h=>wpAny_pyIter_listiter st h
theorem zym {P:Program} {w:World} {K:W.Frag} {tg:Expr} (it:Addr) (lo:Int) (n:Nat):Turn P w K tg (Itr lo n) [it] it (λ i h=>IsRangeIter h it (lo+(i:Nat) * 1) ((n:Int) - (i:Nat)) 1) where
 mem:=by simp
 obj:=λ i h st b hb=>by
  have e:b=it:=by simpa using hb
  subst e
  exact ⟨_,st,λ v z=>by
   have z':Data.fields _=Data.cell v:=z
   cases z'⟩
 keep:=λ i h h' st k=>k it (by simp) _ st
 item:=by
  intro X hP hw hK hc i pins s σ H E I hf st hg
  subst hP hw hK
  obtain ⟨f0,f1,f2,f3,f4,f5⟩:=hf it (by simp)
  have W:=Walks.range (prog:=X.prog) (w:=X.w) (I.ok.hd hc) it lo 1 n
  refine W.item i s _ _ hg st λ v h' tk hv st' kk=>?_
  obtain ⟨t,rfl⟩:=hv
  have I1:Inv X pins σ H { s with heap:=h',toks:=tk }:=I.turned (λ b o hb e=>kk b o (by simpa using hb) e) f0 f1 f3 f4 f5
  refine ⟨_,rfl,zyz (s:={ s with heap:=h',toks:=tk }) (n := "range_iterator") st' rfl rfl (by decide) ⟨.int (lo+i),H,I1,⟨t,?_⟩,⟨rfl,rfl⟩,st',λ b hb=>(hf b hb).1⟩⟩
  rw [Int.mul_one]
 done:=by
  intro X hP hw hK hc i pins s σ H E I hf st hg
  subst hP hw hK
  obtain ⟨f0,f1,f2,f3,f4,f5⟩:=hf it (by simp)
  exact wpAny_pyNext_range_end (I.ok.hd hc) st (by have:n≤i:=hg;omega) λ h' eb=>⟨rfl,I.turned (t':=s.toks) (λ b o hb e=>eb b o hb e) f0 f1 f3 f4 f5⟩
 self:=λ _ _ _ _ _ st h=>wpAny_pyIter_rangeiter st h
end L2
namespace L2
open PySem PySem.Spec PyProof.Rows
section
variable {X:Cx} {tg:Expr}
noncomputable def zs3 (K:W.Frag) (tl:TE):TI:=λ σ H R=>tl σ H λ x H1=>∃ a,x = .ref a∧(∃ xs,SqL K H1 a xs)∧R (Itl K a) H1
theorem zbc {l:Expr} {tl:TE} (hl:PE X l tl):PI X tg l (zs3 X.K tl) := .mk <| by
 intro pins s σ H R I h
 refine thn (hl pins s σ H _ I h) λ v s1 ⟨x,H1,I1,r1,q1⟩=>?_
 obtain ⟨a,e,⟨xs,hq⟩,q⟩:=q1
 subst e
 cases r1
 obtain ⟨its,rv,p,hz⟩:=I1.list hq
 refine wpAny_pyIter_list p.isList ?_
 refine ⟨s1.heap.objs.size,[s1.heap.objs.size],_,_,H1,rfl,I1.kept (t':=s1.toks) λ b o e=>Heap.get?_push_of_some _ e,zbp a _,⟨_,Heap.get?_push_size _ rfl,rfl,rfl⟩,λ b hb=>?_,q⟩
 have e:b=s1.heap.objs.size:=by simpa using hb
 subst e
 exact I1.fpOk (Nat.le_refl _) (I1.hok.fresh (Nat.le_refl _))
theorem zku {pins:List (Addr×Obj)} {σ:St} {H:Hp} {s:Shared} {R:It→Hp→Prop} {E:Value→Shared→Prop} {lo hi:Int} {t u v:Tok} {tk:Nat} (I:Inv X pins σ H s) (h1 : -(2 ^ 62)≤lo) (h2:lo<2 ^ 62) (h3 : -(2 ^ 62)≤hi) (h4:hi<2 ^ 62)
  (q:R (Itr lo (hi - lo).toNat) H):wpAny (model X.prog X.w) X.A (pyIter (.ref s.heap.objs.size)) (PIE X pins σ tg R) E { s with heap:=s.heap.push { cls := .type "range",data := .fields #[.int lo t,.int hi u,.int 1 v] },toks:=tk }:=by
 refine wpAny_pyIter_range (IsRange.new ..) (small_one h1 h2 h3 h4) ?_
 have I1:Inv X pins σ H { s with heap:=s.heap.push { cls := .type "range",data := .fields #[.int lo t,.int hi u,.int 1 v] },toks:=tk }:=I.kept λ b o e=>Heap.get?_push_of_some _ e
 refine ⟨(s.heap.push { cls := .type "range",data := .fields #[.int lo t,.int hi u,.int 1 v] }).objs.size,[(s.heap.push { cls := .type "range",data := .fields #[.int lo t,.int hi u,.int 1 v] }).objs.size],_,_,H,rfl,
  I1.kept (t':=tk) λ b o e=>Heap.get?_push_of_some _ e,zym _ lo (hi - lo).toNat,?_,λ b hb=>?_,q⟩
 ·have e1:lo+((0:Nat):Int) * 1=lo:=by simp
  have e2:(((hi - lo).toNat:Nat):Int) - ((0:Nat):Int)=Builtin.Range.rangeSize lo hi 1:=by rw [rangeSize_one];split <;> omega
  show IsRangeIter _ _ (lo+((0:Nat):Int) * 1) ((((hi - lo).toNat:Nat):Int) - ((0:Nat):Int)) 1
  rw [e1,e2]
  exact Heap.get?_push_size _ rfl
 ·have e:b=(s.heap.push { cls := .type "range",data := .fields #[.int lo t,.int hi u,.int 1 v] }).objs.size:=by simpa using hb
  subst e
  exact I1.fpOk (Nat.le_refl _) (I1.hok.fresh (Nat.le_refl _))
noncomputable def zu4 (ta:TA):TI:=λ σ H R=>ta σ H λ vs H1=>∃ j:Int,vs=[.int j] ∧ -(2 ^ 62)≤j∧j<2 ^ 62∧R (Itr 0 j.toNat) H1
theorem znc {a:Expr} {ta:TA} {p pos:Pos} (hg:Gl X "range") (hm:X.mg "range" = none) (ha:PA X [a] ta) (hs:starEach [a] X.env=[(false,eval a X.env)]:=by rfl):PI X tg (.Call (.Name "range" p) [a] [] pos) (zu4 ta) := .mk <| by
 intro pins s σ H R I h
 refine Call_ (zdp I hg hm boot_range (PyProof.Rows.callWith_type1 (thn (ha pos pins s σ H _ I h) λ us s1 ⟨vs,H1,I1,r1,q1⟩=>?_) hs rfl))
 obtain ⟨j,e,q1,q2,q⟩:=q1
 subst e
 cases r1 with
 | cons r rr =>
  cases rr
  obtain ⟨t,rfl⟩:=r
  exact call_range_1 (zku I1 (by omega) (by omega) q1 q2 (by simpa using q))
noncomputable def tFor (wi:TI) (g:TG) (tb:TS):TS:=λ D σ H=>wi σ H λ J H1=>∃ W:Nat→Nat→St→Hp→Prop,(∃ m,W 0 m σ H1)∧∀ i m σ H,W i m σ H →
 (J.stop i H∧D.nx σ H) ∨ (J.go i H∧∃ N:St→Hp→Prop,(∀ σ' H',N σ' H'→∃ m',m'<m∧W (i+1) m' σ' H')∧∀ x H',J.yld i H x H'→g x σ H' λ σ2 H2=>tb { D with nx:=N,ct:=N,bk:=D.nx } σ2 H2)
noncomputable def zqi (fp:List Addr) (h:Heap):List (Addr×Obj):=fp.filterMap λ b=>(h.get? b).map λ o=>(b,o)
theorem zeb {fp:List Addr} {h:Heap} {b:Addr} {o:Obj} (hb:b∈fp) (e:h.get? b=some o):(b,o)∈zqi fp h:=List.mem_filterMap.mpr ⟨b,hb,by rw [e];rfl⟩
theorem zzq {fp:List Addr} {h:Heap} {p:Addr×Obj} (hp:p∈zqi fp h):p.1∈fp∧h.get? p.1=some p.2:=by
 obtain ⟨b,hb,e⟩:=List.mem_filterMap.mp hp
 cases q:h.get? b with
 | none=>rw [q] at e;cases e
 | some o =>
  rw [q] at e
  have e':(b,o)=p:=Option.some.inj e
  subst e'
  exact ⟨hb,q⟩
theorem Inv.pinned {pins:List (Addr×Obj)} {σ:St} {H:Hp} {s:Shared} {fp:List Addr} (I:Inv X pins σ H s) (hf:∀ b∈fp,FpOk X pins H b) (ho:∀ b∈fp,∃ o,s.heap.get? b=some o∧∀ v,o.data ≠ .cell v):Inv X (pins++zqi fp s.heap) σ H s :=
 I.pins_of λ p hp=>(List.mem_append.mp hp).elim (λ z=>I.pin p (List.mem_append_right _ z)) λ z=>by
  obtain ⟨hb,e⟩:=zzq z
  obtain ⟨f0,f1,f2,_⟩:=hf p.1 hb
  obtain ⟨o,e',d⟩:=ho p.1 hb
  rw [e] at e';cases e'
  exact ⟨e,f0,f1,f2,d⟩
theorem Inv.unpinned {pins pl:List (Addr×Obj)} {σ:St} {H:Hp} {s:Shared} (I:Inv X (pins++pl) σ H s):Inv X pins σ H s:=I.pins_of λ p hp=>I.pin p (List.mem_append_right _ (List.mem_append_left _ hp))
theorem ztc {iter:Expr} {body:List Stmt} {wi:TI} {g:TG} {tb:TS} {pos:Pos} (hp:PassesOwn (model X.prog X.w) X.A X.env X.xe) (hc:X.calm=true) (hi:PI X tg iter wi) (hg:PG X tg g) (hb:PSs X body tb)
  (hs:∀ x,foldedSetIterable iter X.env x=pure x:=by intro _;rfl):PS X (.For tg iter body [] pos) (tFor wi g tb) := .mk <| by
 intro pins s σ H D I h
 refine wpAny_For (thn (hi pins s σ H _ I h) λ v s1 h1=>thn h1 λ itv s2 h2=>?_) hs
 obtain ⟨it,fp,tn,J,H2,e,I2,T,st2,f2,W,⟨m0,w0⟩,turn⟩:=h2
 subst e
 have stat:∀ {H':Hp},(∀ b∈fp,H' b=none)→∀ b∈fp,FpOk X pins H' b:=λ hn b hb=>⟨hn b hb,(f2 b hb).2⟩
 refine codeAny_forLoop_any (λ n s'=>∃ i σ' H',Inv X pins σ' H' s'∧tn i s'.heap∧(∀ b∈fp,H' b=none)∧W i n σ' H') ?_ m0 ⟨0,σ,H2,I2,st2,λ b hb=>(f2 b hb).1,w0⟩
 rintro n s3 ⟨i,σ3,H3,I3,st3,fr3,w3⟩
 rcases turn i n σ3 H3 w3 with ⟨stop,qn⟩ | ⟨go,N,hN,step⟩
 ·refine wpAny_passesOwn hp (thn (T.done X rfl rfl rfl hc i pins s3 σ3 H3 X.xe I3 (stat fr3) st3 stop) λ r s4 ⟨hr,I4⟩=>?_)
  subst hr
  exact wpAny_execs_nil ⟨σ3,H3,I4,qn⟩
 ·refine wpAny_passesOwn hp (thn (T.item X rfl rfl rfl hc i pins s3 σ3 H3 X.xe I3 (stat fr3) st3 go) λ r s4 ⟨u,hr,h4⟩=>?_)
  subst hr
  refine wpAny_passesOwn hp (thn h4 λ _ s5 ⟨x,H5,I5,r5,y5,st5,fr5⟩=>?_)
  have I5':=I5.pinned (stat fr5) (T.obj _ _ st5)
  refine wpAny_passesOwn hp (thn (hg _ s5 σ3 H5 x u _ I5' r5 (step x H5 y5)) λ _ s6 ⟨σ6,H6,I6,q6⟩=>?_)
  refine wpAny_passesOwn hp (thn (hb _ s6 σ6 H6 _ I6 q6) λ f s7 q7=>?_)
  have again:∀ {σ7:St} {H7:Hp},Inv X (pins++zqi fp s5.heap) σ7 H7 s7→N σ7 H7→∃ m,m<n∧∃ i σ' H',Inv X pins σ' H' s7∧tn i s7.heap∧(∀ b∈fp,H' b=none)∧W i m σ' H':=fun {σ7 H7} I7 n7=>by
   obtain ⟨m',hm,w7⟩:=hN σ7 H7 n7
   refine ⟨m',hm,i+1,σ7,H7,I7.unpinned,T.keep _ _ _ st5 λ b hb o e=>(I7.pin (b,o) (List.mem_append_right _ (List.mem_append_right _ (zeb hb e)))).1,λ b hb=>?_,w7⟩
   obtain ⟨o,e,d⟩:=T.obj _ _ st5 b hb
   exact (I7.pin (b,o) (List.mem_append_right _ (List.mem_append_right _ (zeb hb e)))).2.1
  cases f with
  | next=>obtain ⟨σ7,H7,I7,n7⟩:=q7;exact again I7 n7
  | cont=>obtain ⟨σ7,H7,I7,n7⟩:=q7;exact again I7 n7
  | brk=>obtain ⟨σ7,H7,I7,q7⟩:=q7;exact ⟨σ7,H7,I7.unpinned,q7⟩
  | ret v=>obtain ⟨x7,σ7,H7,I7,r7,q7⟩:=q7;exact ⟨x7,σ7,H7,I7.unpinned,r7,q7⟩
end
theorem zwc {K:W.Frag} {a:Addr} {xs:List V} {g:TG} {tb:TS} {D:Ends} {σ:St} {H:Hp} (Pv:Nat→St→Hp→Prop) (h0:Pv 0 σ H) (hl:∀ i σ H,i≤xs.length→Pv i σ H→SqL K H a xs)
  (hs:∀ i x σ H,xs[i]? = some x→Pv i σ H→g x σ H λ σ2 H2=>tb { D with nx:=Pv (i+1),ct:=Pv (i+1),bk:=D.nx } σ2 H2) (hd:∀ σ H,Pv xs.length σ H→D.nx σ H) :
  ∃ W:Nat→Nat→St→Hp→Prop,(∃ m,W 0 m σ H)∧∀ i m σ H,W i m σ H →
   ((Itl K a).stop i H∧D.nx σ H) ∨ ((Itl K a).go i H∧∃ N:St→Hp→Prop,(∀ σ' H',N σ' H'→∃ m',m'<m∧W (i+1) m' σ' H')∧∀ x H',(Itl K a).yld i H x H'→g x σ H' λ σ2 H2=>tb { D with nx:=N,ct:=N,bk:=D.nx } σ2 H2):=by
 refine ⟨λ i m σ H=>m=xs.length - i∧i≤xs.length∧Pv i σ H,⟨xs.length,by simp,Nat.zero_le _,h0⟩,?_⟩
 rintro i m σ H ⟨rfl,hi,p⟩
 have q:=hl i σ H hi p
 by_cases hlt:i<xs.length
 ·refine .inr ⟨⟨xs,xs[i],q,by simp [hlt]⟩,Pv (i+1),λ σ' H' p'=>⟨xs.length - (i+1),by omega,rfl,hlt,p'⟩,λ x H' y=>?_⟩
  obtain ⟨e,y⟩:=y
  subst e
  exact hs i x σ _ (y xs q) p
 ·have e:i=xs.length:=by omega
  subst e
  exact .inl ⟨⟨xs,q,Nat.le_refl _⟩,hd σ H p⟩
theorem zje {lo:Int} {n:Nat} {g:TG} {tb:TS} {D:Ends} {σ:St} {H:Hp} (Pv:Nat→St→Hp→Prop) (h0:Pv 0 σ H)
  (hs:∀ i σ H,i<n→Pv i σ H→g (.int (lo+i)) σ H λ σ2 H2=>tb { D with nx:=Pv (i+1),ct:=Pv (i+1),bk:=D.nx } σ2 H2) (hd:∀ σ H,Pv n σ H→D.nx σ H) :
  ∃ W:Nat→Nat→St→Hp→Prop,(∃ m,W 0 m σ H)∧∀ i m σ H,W i m σ H →
   ((Itr lo n).stop i H∧D.nx σ H) ∨ ((Itr lo n).go i H∧∃ N:St→Hp→Prop,(∀ σ' H',N σ' H'→∃ m',m'<m∧W (i+1) m' σ' H')∧∀ x H',(Itr lo n).yld i H x H'→g x σ H' λ σ2 H2=>tb { D with nx:=N,ct:=N,bk:=D.nx } σ2 H2):=by
 refine ⟨λ i m σ H=>m=n - i∧i≤n∧Pv i σ H,⟨n,by simp,Nat.zero_le _,h0⟩,?_⟩
 rintro i m σ H ⟨rfl,hi,p⟩
 by_cases hlt:i<n
 ·refine .inr ⟨hlt,Pv (i+1),λ σ' H' p'=>⟨n - (i+1),by omega,rfl,hlt,p'⟩,λ x H' y=>?_⟩
  obtain ⟨e,y⟩:=y
  subst e y
  exact hs i σ _ hlt p
 ·have e:i=n:=by omega
  subst e
  exact .inl ⟨Nat.le_refl _,hd σ H p⟩
end L2
namespace L2
open PySem PySem.Spec PyProof.Rows
noncomputable abbrev R2:=V→V→Hp→VK→Prop
noncomputable def OpR (X:Cx) (f:Value→Value→Sem Value) (r:R2):Prop :=
 ∀ (pins:List (Addr×Obj)) (s:Shared) (σ:St) (H:Hp) (x y:V) (v u:Value) (Q:VK),Inv X pins σ H s→RelV x v→RelV y u→r x y H Q →
  wpAny (model X.prog X.w) X.A (f v u) (EP X pins σ Q) X.xe s
noncomputable def UnR (X:Cx) (f:Value→Sem Value) (r:V→Hp→VK→Prop):Prop :=
 ∀ (pins:List (Addr×Obj)) (s:Shared) (σ:St) (H:Hp) (x:V) (v:Value) (Q:VK),Inv X pins σ H s→RelV x v→r x H Q →
  wpAny (model X.prog X.w) X.A (f v) (EP X pins σ Q) X.xe s
noncomputable def zrj (X:Cx) (f:Value) (r:List V→Hp→VK→Prop):Prop :=
 ∀ (pins:List (Addr×Obj)) (s:Shared) (σ:St) (H:Hp) (xs:List V) (us:List Value) (Q:VK),Inv X pins σ H s→Vals xs us→r xs H Q →
  wpAny (model X.prog X.w) X.A (call f us) (EP X pins σ Q) X.xe s
noncomputable def tOp (r:R2) (ta tb:TE):TE:=λ σ H Q=>ta σ H λ x H1=>tb σ H1 λ y H2=>r x y H2 Q
noncomputable def tUn (r:V→Hp→VK→Prop) (ta:TE):TE:=λ σ H Q=>ta σ H λ x H1=>r x H1 Q
noncomputable def rI (C:Int→Int→Prop) (g:Int→Int→V):R2:=λ x y H Q=>∃ i j,x = .int i∧y = .int j∧C i j∧Q (g i j) H
noncomputable def rI0 (g:Int→Int→V):R2:=λ x y H Q=>∃ i j,x = .int i∧y = .int j∧Q (g i j) H
noncomputable def rU (g:Int→V):V→Hp→VK→Prop:=λ x H Q=>∃ i,x = .int i∧Q (g i) H
section
variable {X:Cx} {a b c:Expr} {ta tb tc:TE} {pos:Pos}
theorem binT (ha:PE X a ta) (hb:PE X b tb) {pins:List (Addr×Obj)} {s:Shared} {σ:St} {H:Hp} {R:V→V→Hp→Prop} (I:Inv X pins σ H s)
  (h:ta σ H λ x H1=>tb σ H1 λ y H2=>R x y H2) {Q:Value→Shared→Prop} {f:Value→Value→Sem Value}
  (hf:∀ v u s2 x y H2,Inv X pins σ H2 s2→RelV x v→RelV y u→R x y H2→wpAny (model X.prog X.w) X.A (f v u) Q X.xe s2) :
  wpAny (model X.prog X.w) X.A (eval a X.env) (λ v s₁=>wpAny (model X.prog X.w) X.A (eval b X.env) (λ u s₂=>wpAny (model X.prog X.w) X.A (f v u) Q X.xe s₂) X.xe s₁) X.xe s:=by
 refine thn (ha pins s σ H _ I h) λ v s1 ⟨x,H1,I1,r1,q1⟩=>?_
 refine thn (hb pins s1 σ H1 _ I1 q1) λ u s2 ⟨y,H2,I2,r2,q2⟩=>?_
 exact hf v u s2 x y H2 I2 r1 r2 q2
theorem zoa {op:Operator} {r:R2} (ho:OpR X (binaryOp op) r) (ha:PE X a ta) (hb:PE X b tb):PE X (.BinOp a op b pos) (tOp r ta tb) := .mk <| by
 intro pins s σ H Q I h
 exact wpAny_BinOp (binT ha hb I h λ v u s2 x y H2 I2 rx ry q=>ho pins s2 σ H2 x y v u Q I2 rx ry q)
theorem zhz {op:UnaryOp} {r:V→Hp→VK→Prop} (ho:UnR X (unaryOp op) r) (ha:PE X a ta):PE X (.UnaryOp op a pos) (tUn r ta) := .mk <| by
 intro pins s σ H Q I h
 exact UnaryOp_ (thn (ha pins s σ H _ I h) λ v s1 ⟨x,H1,I1,r1,q1⟩=>ho pins s1 σ H1 x v Q I1 r1 q1)
theorem opI {f:Value→Value→Sem Value} {C:Int→Int→Prop} {g:Int→Int→Int}
  (rule:∀ (i j:Int) (t u:Tok) (s:Shared) (Q:Value→Shared→Prop) (E:Value→Shared→Prop),C i j→Q (.int (g i j) s.toks) { s with toks:=s.toks+1 }→wpAny (model X.prog X.w) X.A (f (.int i t) (.int j u)) Q E s) :
  OpR X f (rI C λ i j=>.int (g i j)):=by
 intro pins s σ H x y v u Q I rx ry h
 obtain ⟨i,j,rfl,rfl,hc,q⟩:=h
 obtain ⟨t,rfl⟩:=rx
 obtain ⟨t',rfl⟩:=ry
 exact rule i j t t' s _ _ hc ⟨.int (g i j),H,I.tok _,⟨_,rfl⟩,q⟩
theorem opI0 {f:Value→Value→Sem Value} {g:Int→Int→Int}
  (rule:∀ (i j:Int) (t u:Tok) (s:Shared) (Q:Value→Shared→Prop) (E:Value→Shared→Prop),Q (.int (g i j) s.toks) { s with toks:=s.toks+1 }→wpAny (model X.prog X.w) X.A (f (.int i t) (.int j u)) Q E s) :
  OpR X f (rI0 λ i j=>.int (g i j)):=by
 intro pins s σ H x y v u Q I rx ry h
 obtain ⟨i,j,rfl,rfl,q⟩:=h
 obtain ⟨t,rfl⟩:=rx
 obtain ⟨t',rfl⟩:=ry
 exact rule i j t t' s _ _ ⟨.int (g i j),H,I.tok _,⟨_,rfl⟩,q⟩
theorem opB0 {f:Value→Value→Sem Value} {g:Int→Int→Bool}
  (rule:∀ (i j:Int) (t u:Tok) (s:Shared) (Q:Value→Shared→Prop) (E:Value→Shared→Prop),Q (.bool (g i j)) s→wpAny (model X.prog X.w) X.A (f (.int i t) (.int j u)) Q E s) :
  OpR X f (rI0 λ i j=>.bl (g i j)):=by
 intro pins s σ H x y v u Q I rx ry h
 obtain ⟨i,j,rfl,rfl,q⟩:=h
 obtain ⟨t,rfl⟩:=rx
 obtain ⟨t',rfl⟩:=ry
 exact rule i j t t' s _ _ ⟨.bl (g i j),H,I,rfl,q⟩
noncomputable def CDiv (i j:Int):Prop:=0<j∧j<1073741824
noncomputable def CPow (i j:Int):Prop:=0≤j∧j≤1000000∧i.natAbs<2 ^ 64
noncomputable def CMul (i j:Int):Prop:=(-(2 ^ 64)<i∧i<2 ^ 64) ∨ (-(2 ^ 64)<j∧j<2 ^ 64)
theorem CMul.ok {i j:Int} (h:CMul i j):IntMulOk i j:=by
 rcases h with ⟨h1,h2⟩ | ⟨h1,h2⟩
 ·exact .of_left (intBits_le_64 h1 h2)
 ·exact .of_right (intBits_le_64 h1 h2)
theorem ztb:OpR X (binaryOp .Add) (rI0 λ i j=>.int (i+j)):=opI0 λ _ _ _ _ _ _ _ q=>add_int q
theorem ziu:OpR X (binaryOp .Sub) (rI0 λ i j=>.int (i - j)):=opI0 λ _ _ _ _ _ _ _ q=>sub_int q
theorem zzk:OpR X (binaryOp .Mult) (rI CMul λ i j=>.int (i * j)):=opI λ _ _ _ _ _ _ _ hc q=>mul_int q hc.ok
theorem zmd:OpR X (binaryOp .FloorDiv) (rI CDiv λ i j=>.int (i / j)):=opI λ i j _ _ _ _ _ hc q=>by
 have h1:(0:Int)<j:=hc.1
 have h2:j<1073741824:=hc.2
 exact floordiv_int (by omega) (by rw [Int.fdiv_eq_ediv_of_nonneg i (by omega)];exact q) (.inl (PyProof.noPylong_small (by omega)))
theorem zwa:OpR X (binaryOp .Mod) (rI (λ _ j=>0<j) λ i j=>.int (i % j)):=opI λ i j _ _ _ _ _ hc q=>by
 have h1:(0:Int)<j:=hc
 exact mod_int' (by omega) (by rw [Int.fmod_eq_emod_of_nonneg i (by omega)];exact q)
theorem zru:OpR X (binaryOp .Pow) (rI CPow λ i j=>.int (i ^ j.toNat)):=opI λ _ _ _ _ _ _ _ hc q=>pow_int_small hc.1 hc.2.1 hc.2.2 q
theorem unI {f:Value→Sem Value} {g:Int→Int}
  (rule:∀ (i:Int) (t:Tok) (s:Shared) (Q:Value→Shared→Prop) (E:Value→Shared→Prop),Q (.int (g i) s.toks) { s with toks:=s.toks+1 }→wpAny (model X.prog X.w) X.A (f (.int i t)) Q E s) :
  UnR X f (rU λ i=>.int (g i)):=by
 intro pins s σ H x v Q I rx h
 obtain ⟨i,rfl,q⟩:=h
 obtain ⟨t,rfl⟩:=rx
 exact rule i t s _ _ ⟨.int (g i),H,I.tok _,⟨_,rfl⟩,q⟩
theorem zep:UnR X (unaryOp .USub) (rU λ i=>.int (-i)):=unI λ _ _ _ _ _ q=>neg_int q
end
noncomputable def scal:V→V→Bool
 | .non,.non=>true | .non,.int _=>true | .int _,.non=>true | .non,.bl _=>true | .bl _,.non=>true | .non,.str _=>true | .str _,.non=>true
 | .int _,.int _=>true | .bl _,.bl _=>true | .str _,.str _=>true | .byt _,.byt _=>true
 | .int _,.str _=>true | .str _,.int _=>true | .bl _,.str _=>true | .str _,.bl _=>true
 | _,_=>false
noncomputable def rEq:R2:=λ x y H Q=>scal x y=true∧Q (.bl (decide (x=y))) H
noncomputable def rNe:R2:=λ x y H Q=>scal x y=true∧Q (.bl (!decide (x=y))) H
theorem zlr {i j:Int}:decide (V.int i=V.int j)=(i == j):=by
 rw [Bool.eq_iff_iff]
 simp
theorem zzw {i j:Bool}:decide (V.bl i=V.bl j)=(i == j):=by
 rw [Bool.eq_iff_iff]
 simp
theorem znr {i j:Str}:decide (V.str i=V.str j)=(i == j):=by
 rw [Bool.eq_iff_iff]
 simp
theorem zss {i j:Array UInt8}:decide (V.byt i=V.byt j)=(i.toList == j.toList):=by
 rw [Bool.eq_iff_iff]
 cases i
 cases j
 simp
section
variable {X:Cx} {a b c:Expr} {ta tb tc:TE} {pos:Pos}
theorem zva {pins:List (Addr×Obj)} {σ:St} {H:Hp} {s:Shared} {Q:VK} {k k':Bool} (I:Inv X pins σ H s) (q:Q (.bl k) H) (e:k=k'):EP X pins σ Q (.bool k') s:=by
 subst e
 exact ⟨.bl k,H,I,rfl,q⟩
theorem zd1:OpR X (compareOp .Eq) rEq:=by
 intro pins s σ H x y v u Q I rx ry h
 obtain ⟨hs,q⟩:=h
 cases x with
 | non =>
  cases rx
  cases y with
  | non=>cases ry;exact PySem.EqNone.eq_none_none (zva I q (by simp))
  | bl j=>cases ry;exact PySem.EqNone.eq_none_bool (zva I q (by simp))
  | int j=>obtain ⟨t',rfl⟩:=ry;exact PySem.EqNone.eq_none_int (zva I q (by simp))
  | str j=>obtain ⟨t',rfl⟩:=ry;exact PySem.EqNone.eq_none_str (zva I q (by simp))
  | _=>exact absurd (show false=true from hs) Bool.false_ne_true
 | bl i =>
  cases rx
  cases y with
  | non=>cases ry;exact PySem.EqNone.eq_bool_none (zva I q (by simp))
  | bl j=>cases ry;exact eq_bool (zva I q zzw)
  | str j=>obtain ⟨t',rfl⟩:=ry;exact PySem.EqMixed.eq_bool_str (zva I q (by simp))
  | _=>exact absurd (show false=true from hs) Bool.false_ne_true
 | int i =>
  obtain ⟨t,rfl⟩:=rx
  cases y with
  | non=>cases ry;exact PySem.EqNone.eq_int_none (zva I q (by simp))
  | int j=>obtain ⟨t',rfl⟩:=ry;exact eq_int (zva I q zlr)
  | str j=>obtain ⟨t',rfl⟩:=ry;exact PySem.EqMixed.eq_int_str (zva I q (by simp))
  | _=>exact absurd (show false=true from hs) Bool.false_ne_true
 | str i =>
  obtain ⟨t,rfl⟩:=rx
  cases y with
  | non=>cases ry;exact PySem.EqNone.eq_str_none (zva I q (by simp))
  | bl j=>cases ry;exact PySem.EqMixed.eq_str_bool (zva I q (by simp))
  | int j=>obtain ⟨t',rfl⟩:=ry;exact PySem.EqMixed.eq_str_int (zva I q (by simp))
  | str j=>obtain ⟨t',rfl⟩:=ry;exact eq_str (zva I q znr)
  | _=>exact absurd (show false=true from hs) Bool.false_ne_true
 | byt i =>
  obtain ⟨t,rfl⟩:=rx
  cases y with
  | byt j=>obtain ⟨t',rfl⟩:=ry;exact W.eq_bytes (zva I q zss)
  | _=>exact absurd (show false=true from hs) Bool.false_ne_true
 | _=>cases y <;> exact absurd (show false=true from hs) Bool.false_ne_true
theorem zx3:OpR X (compareOp .NotEq) rNe:=by
 intro pins s σ H x y v u Q I rx ry h
 obtain ⟨hs,q⟩:=h
 cases x with
 | non =>
  cases rx
  cases y with
  | non=>cases ry;exact PySem.EqNone.ne_none_none (zva I q (by simp))
  | bl j=>cases ry;exact PySem.EqNone.ne_none_bool (zva I q (by simp))
  | int j=>obtain ⟨t',rfl⟩:=ry;exact PySem.EqNone.ne_none_int (zva I q (by simp))
  | str j=>obtain ⟨t',rfl⟩:=ry;exact PySem.EqNone.ne_none_str (zva I q (by simp))
  | _=>exact absurd (show false=true from hs) Bool.false_ne_true
 | bl i =>
  cases rx
  cases y with
  | non=>cases ry;exact PySem.EqNone.ne_bool_none (zva I q (by simp))
  | bl j=>cases ry;exact ne_bool (zva I q (congrArg not zzw))
  | str j=>obtain ⟨t',rfl⟩:=ry;exact PySem.EqMixed.ne_bool_str (zva I q (by simp))
  | _=>exact absurd (show false=true from hs) Bool.false_ne_true
 | int i =>
  obtain ⟨t,rfl⟩:=rx
  cases y with
  | non=>cases ry;exact PySem.EqNone.ne_int_none (zva I q (by simp))
  | int j=>obtain ⟨t',rfl⟩:=ry;exact ne_int (zva I q (congrArg not zlr))
  | str j=>obtain ⟨t',rfl⟩:=ry;exact PySem.EqMixed.ne_int_str (zva I q (by simp))
  | _=>exact absurd (show false=true from hs) Bool.false_ne_true
 | str i =>
  obtain ⟨t,rfl⟩:=rx
  cases y with
  | non=>cases ry;exact PySem.EqNone.ne_str_none (zva I q (by simp))
  | bl j=>cases ry;exact PySem.EqMixed.ne_str_bool (zva I q (by simp))
  | int j=>obtain ⟨t',rfl⟩:=ry;exact PySem.EqMixed.ne_str_int (zva I q (by simp))
  | str j=>obtain ⟨t',rfl⟩:=ry;exact ne_str (zva I q (congrArg not znr))
  | _=>exact absurd (show false=true from hs) Bool.false_ne_true
 | byt i =>
  obtain ⟨t,rfl⟩:=rx
  cases y with
  | byt j=>obtain ⟨t',rfl⟩:=ry;exact W.ne_bytes (zva I q (congrArg not zss))
  | _=>exact absurd (show false=true from hs) Bool.false_ne_true
 | _=>cases y <;> exact absurd (show false=true from hs) Bool.false_ne_true
theorem zb3:OpR X (compareOp .Lt) (rI0 λ i j=>.bl (decide (i<j))):=opB0 λ _ _ _ _ _ _ _ q=>lt_int q
theorem zs4:OpR X (compareOp .Gt) (rI0 λ i j=>.bl (decide (j<i))):=opB0 λ _ _ _ _ _ _ _ q=>gt_int q
theorem zfp:OpR X (compareOp .Is) (λ x y H Q=>y = .non∧Q (.bl (decide (x = .non))) H):=by
 intro pins s σ H x y v u Q I rx ry h
 obtain ⟨rfl,q⟩:=h
 cases ry
 refine is_none_gen (zva I q ?_)
 cases x <;> first
  | (cases rx;rfl)
  | (obtain ⟨t,rfl⟩:=rx;rfl)
theorem zqw:OpR X (compareOp .IsNot) (λ x y H Q=>y = .non∧Q (.bl (!decide (x = .non))) H):=by
 intro pins s σ H x y v u Q I rx ry h
 obtain ⟨rfl,q⟩:=h
 cases ry
 refine isnot_none_gen (zva I q ?_)
 cases x <;> first
  | (cases rx;rfl)
  | (obtain ⟨t,rfl⟩:=rx;rfl)
theorem zcc (b:Expr) {op:CmpOp} (h:op ≠ .In:=by decide) (h2:op ≠ .NotIn:=by decide):behindInMarks op b=false:=by
 have e1:(op == CmpOp.In)=false:=by cases op <;> first | rfl | exact absurd rfl h
 have e2:(op == CmpOp.NotIn)=false:=by cases op <;> first | rfl | exact absurd rfl h2
 cases b <;> simp [behindInMarks,e1,e2]
theorem zsm {op:CmpOp} {r:R2} (ho:OpR X (compareOp op) r) (ha:PE X a ta) (hb:PE X b tb) (hm:behindInMarks op b=false):PE X (.Compare a [op] [b] pos) (tOp r ta tb) := .mk <| by
 intro pins s σ H Q I h
 exact wpAny_Compare1 (binT ha hb I h λ v u s2 x y H2 I2 rx ry q=>ho pins s2 σ H2 x y v u Q I2 rx ry q) hm
noncomputable def zl3 (t:TE):TT:=λ σ H Q=>t σ H λ x H'=>∃ k,x = .bl k∧Q k H'
theorem zfb {op:CmpOp} {r:R2} (ho:OpR X (compareOp op) r) (ha:PE X a ta) (hb:PE X b tb) (hm:behindInMarks op b=false):PT X (.Compare a [op] [b] pos) (zl3 (tOp r ta tb)) := .mk <| by
 intro pins s σ H Q I h
 refine wpAny_isTrue_Compare1 (thn (ha pins s σ H _ I h) λ v s1 ⟨x,H1,I1,r1,q1⟩=>thn (hb pins s1 σ H1 _ I1 q1) λ u s2 ⟨y,H2,I2,r2,q2⟩ =>
  thn (ho pins s2 σ H2 x y v u _ I2 r1 r2 q2) λ c s3 ⟨z,H3,I3,r3,k,e,q3⟩=>?_) hm
 subst e
 cases r3
 exact wpAny_truthy_bool ⟨H3,I3,q3⟩
noncomputable def zp0 (r r':R2) (ta tb tc:TE):TE:=λ σ H Q=>ta σ H λ x H1=>tb σ H1 λ y H2=>r x y H2 λ z H3=>∃ k,z = .bl k ∧
 (if k=true then tc σ H3 λ w' H4=>r' y w' H4 Q else Q (.bl false) H3)
theorem zlv {op op':CmpOp} {r r':R2} (ho:OpR X (compareOp op) r) (ho':OpR X (compareOp op') r') (ha:PE X a ta) (hb:PE X b tb) (hc:PE X c tc)
  (hm:lastMarks [op,op'] [b,c]=false:=by with_unfolding_all rfl):PT X (.Compare a [op,op'] [b,c] pos) (zl3 (zp0 r r' ta tb tc)) := .mk <| by
 intro pins s σ H Q I h
 refine isTrue_chain (thn (ha pins s σ H _ I h) λ v s1 ⟨x,H1,I1,r1,q1⟩=>test_link (thn (hb pins s1 σ H1 _ I1 q1) λ u s2 ⟨y,H2,I2,r2,q2⟩ =>
  thn (ho pins s2 σ H2 x y v u _ I2 r1 r2 q2) λ d s3 ⟨z,H3,I3,r3,k,e,q3⟩=>?_)) hm
 subst e
 cases r3
 refine wpAny_truthy_bool ?_
 cases k with
 | false =>
  obtain ⟨k',e',q'⟩:=q3
  cases e'
  exact ite_ff ⟨H3,I3,q'⟩
 | true =>
  refine ite_tt (test_last (thn (hc pins s3 σ H3 _ I3 q3) λ w' s4 ⟨z',H4,I4,r4,q4⟩=>thn (ho' pins s4 σ H4 y z' u w' _ I4 r2 r4 q4) λ d' s5 ⟨z2,H5,I5,r5,k2,e2,q5⟩=>?_))
  subst e2
  cases r5
  exact wpAny_truthy_bool ⟨H5,I5,q5⟩
theorem zwo:(sizeLine:Nat)<2 ^ 63:=by rw [sizeLine_eq];decide
theorem zid:OpR X (binaryOp .Add) (λ x y H Q=>∃ i j,x = .str i∧y = .str j∧i.length+j.length≤sizeLine∧Q (.str (i++j)) H):=by
 intro pins s σ H x y v u Q I rx ry h
 obtain ⟨i,j,rfl,rfl,hz,q⟩:=h
 obtain ⟨t,rfl⟩:=rx
 obtain ⟨t',rfl⟩:=ry
 exact add_str (λ t' tk=>⟨.str (i++j),H,I.tok _,⟨_,rfl⟩,q⟩) hz
theorem zno {x:V} {us:List Value} (r:Vals [x] us):∃ u,us=[u]∧RelV x u:=by
 cases r with
 | cons r1 r2=>cases r2;exact ⟨_,rfl,r1⟩
theorem ze5 {x y:V} {us:List Value} (r:Vals [x,y] us):∃ u w',us=[u,w']∧RelV x u∧RelV y w':=by
 cases r with
 | cons r1 r2 =>
  cases r2 with
  | cons r3 r4=>cases r4;exact ⟨_,_,rfl,r1,r3⟩
end
end L2
namespace L2
open PySem PySem.Spec PyProof.Rows
structure ObjM (h:Heap) (x dx C:Addr) (mA:Str→Option Value):Prop where
 obj:h.get? x=some (W.instObj C dx)
 ns:h.Ns1 dx mA
 ne:dx≠x
theorem zsq {h:Heap} {dx:Addr} {mA:Str→Option Value} (n:h.Ns1 dx mA):∃ od,h.get? dx=some od∧∀ name,W.lookIn name od=some (mA name):=by
 obtain ⟨o,es,ep,ho,hd,hk,_,hm⟩:=n
 refine ⟨o,ho,λ name=>?_⟩
 have e:=hm name
 unfold nsFind findBy at e
 rw [← Array.find?_toList] at e
 unfold W.lookIn
 rw [hd]
 dsimp only
 split
 ·rename_i y q
  rw [q] at e
  exact congrArg some e
 ·rename_i q
  rw [q] at e
  have a:es.toList.any (·.refKey)=false:=by
   rw [List.any_eq_false]
   intro y hy
   obtain ⟨z,t,hkey⟩:=hk y (Array.mem_toList_iff.mp hy)
   simp [DictEntry.refKey,hkey]
  have a':¬ es.toList.any (·.refKey)=true:=by rw [a];exact Bool.false_ne_true
  rw [if_neg a']
  exact congrArg some e
theorem ObjM.look {h:Heap} {x dx C:Addr} {mA:Str→Option Value} (I:ObjM h x dx C mA):∃ od,W.InstAt h x (W.instObj C dx) C (some od)∧∀ name,W.lookIn name od=some (mA name) :=
 let ⟨od,ho,hl⟩:=zsq I.ns
 ⟨od,⟨I.obj,rfl,rfl,ho⟩,hl⟩
section
variable {prog:Program} {w:World} {A:Around} {E:Value→Shared→Prop} {s:Shared} {K:W.Frag} {x dx C f:Addr} {mA:Str→Option Value} {name:Str} {v:Value}
theorem zjw {expr:Bool} {Q:Value→Shared→Prop} (X:K.In s.heap) (I:ObjM s.heap x dx C mA) (hg:W.plainGet K C name=true) (hh:W.hasDictIn K C=true)
  (ha:W.findIn K (.ref C) name=some none) (hv:mA name=some v) (hv':W.handedIn v=true) (h:Q v { s with toks:=s.toks+1 }) :
  wpAny (model prog w) A (getAttr (.ref x) name expr) Q E s:=by
 obtain ⟨od,J,hl⟩:=I.look
 exact W.get_value X J (W.plainGet_of hg).1 (W.findObj_own hh ha rfl (by rw [hl,hv])) hv' h
theorem zvt {pl:Sem Bool} {Q:Value×List Value→Shared→Prop} (X:K.In s.heap) (I:ObjM s.heap x dx C mA) (hg:W.plainGet K C name=true)
  (hf:W.findIn K (.ref C) name=some (some (.ref f))) (ht:W.isFn K (.ref f)=true) (hv:mA name=none) (h:Q (.ref f,[.ref x]) s) :
  wpAny (model prog w) A (getMethod (.ref x) name pl) Q E s:=by
 obtain ⟨od,J,hl⟩:=I.look
 exact W.method_fn X J (W.plainGet_of hg).1 (W.plainGet_of hg).2 hf (beq_iff_eq.mp ht) (by show (W.lookIn name od).map (·.isSome)=some false;rw [hl,hv];rfl) h
theorem zix {ns:List Str} {Q:Unit→Shared→Prop} (X:K.In s.heap) (I:ObjM s.heap x dx C mA)
  (hs:W.findIn K (.ref C) "__setattr__" = some (some (.builtin "object.__setattr__"))) (hp:W.plainOver K C=true) (ht:W.takerIn K C name=some none) (hh:W.hasDictIn K C=true)
  (hw:PySem.Within mA ns) (hsz:ns.length≤sizeLine)
  (h:∀ h',ObjM h' x dx C (λ y=>if y=name then some v else mA y)→Heap.SameBut dx s.heap h'→Q () { s with heap:=h',toks:=s.toks+2 }) :
  wpAny (model prog w) A (setAttr (.ref x) name v) Q E s:=by
 obtain ⟨od,J,hl⟩:=I.look
 refine W.set_plain X J hs (W.osa_open (s:={ s with toks:=s.toks+1 }) (r:=none) X J hp ht λ b=>?_)
 obtain ⟨cd,hc,hd'⟩:=W.any_some hh
 have hx:s.heap.get? x=some ⟨.ref C,some dx,.plain, #[]⟩:=I.obj
 refine wpAny_bind (wpAny_pure (wpAny_bind (wpAny_bind (wpAny_loadPart hx (wpAny_bind (W.Looks.here (s:={ s with toks:=s.toks+1 }) (W.looks_clsIn X hc) ?_))))))
 rw [hd']
 refine wpAny_pure (a:=some dx) (wpAny_bind (wpAny_pure (wpAny_bind ?_)))
 refine wpAny_nsSet1 (s:={ s with toks:=s.toks+1 }) I.ns λ h' hn2 hs2=>?_
 obtain ⟨oD,esD,epD,hoD,hdD,hcD⟩:=hn2.count (PySem.Within.cons name v hw)
 refine wpAny_bind (wpAny_lookBehind hoD (by rw [hdD];exact pastItsLine_dict (Nat.le_trans hcD (by rw [List.length_cons];omega))) ?_)
 exact wpAny_pure (h _ ⟨(hs2.2 _ (Ne.symm I.ne)).trans I.obj,hn2,I.ne⟩ hs2)
theorem znv {R:Result→Shared→Prop} {vs:List Value} {kw:List (Str×Value)} (X:K.In s.heap) (hm:W.makesIn K C=true)
  (hi:W.findIn K (.ref C) "__init__" = some (some (.ref f))) (hf:W.typeIn K (.ref f)=some (.type "function"))
  (h:codeAny (model prog w) (A.under (.builtin "type.__call__" ⟨.ref C::vs,kw⟩)) (.call (.ref f) ⟨.ref (s.heap.objs.size+1)::vs,kw⟩) (W.InitBack (s.heap.objs.size+1) R)
   { s with heap:=(s.heap.push W.emptyDict).push (W.instObj C s.heap.objs.size) }) :
  codeAny (model prog w) A (.call (.ref C) ⟨vs,kw⟩) R s:=by
 obtain ⟨hh,g,d,t,os⟩:=s
 exact W.make_core (W.makes_of X hm) (W.looks_findIn X hi) (λ self=>W.bind_fn X self hf) (.inl rfl) h
end
noncomputable def putF (f:Str) (v:V):List (Str×V)→List (Str×V)
 | []=>[(f,v)]
 | (g,x)::r=>if g=f then (g,v)::r else (g,x)::putF f v r
theorem zsf (f g:Str) (v:V):∀ fs:List (Str×V),(putF f v fs).lookup g=if g=f then some v else fs.lookup g
 | []=>by
  show List.lookup g [(f,v)]=_
  by_cases h:g=f
  ·have hb:(g == f)=true:=beq_iff_eq.mpr h
   simp only [List.lookup,hb,if_pos h]
  ·have hb:(g == f)=false:=beq_eq_false_iff_ne.mpr h
   simp only [List.lookup,hb,if_neg h]
 | (k,x)::r=>by
  have ih:=zsf f g v r
  rw [show putF f v ((k,x)::r)=(if k=f then (k,v)::r else (k,x)::putF f v r) from rfl]
  by_cases hk:k=f
  ·rw [if_pos hk]
   by_cases h:g=k
   ·have hb:(g == k)=true:=beq_iff_eq.mpr h
    simp only [List.lookup,hb,if_pos (h.trans hk)]
   ·have hb:(g == k)=false:=beq_eq_false_iff_ne.mpr h
    simp only [List.lookup,hb,if_neg (λ e:g=f=>h (e.trans hk.symm))]
  ·rw [if_neg hk]
   by_cases h:g=k
   ·have hb:(g == k)=true:=beq_iff_eq.mpr h
    simp only [List.lookup,hb,if_neg (λ e:g=f=>hk (h.symm.trans e))]
   ·have hb:(g == k)=false:=beq_eq_false_iff_ne.mpr h
    simp only [List.lookup,hb]
    exact ih
theorem zqg (f:Str) (v:V):∀ fs:List (Str×V),f∈(putF f v fs).map (·.1)∧∀ g,g∈fs.map (·.1)→g∈(putF f v fs).map (·.1)
 | []=>⟨by simp [putF],λ g h=>by simp at h⟩
 | (k,x)::r=>by
  obtain ⟨i1,i2⟩:=zqg f v r
  rw [show putF f v ((k,x)::r)=(if k=f then (k,v)::r else (k,x)::putF f v r) from rfl]
  by_cases hk:k=f
  ·rw [if_pos hk]
   subst hk
   exact ⟨by simp,λ g h=>by simpa using h⟩
  ·rw [if_neg hk]
   refine ⟨?_,λ g h=>?_⟩
   ·rw [List.map_cons]
    exact List.mem_cons_of_mem _ i1
   ·rw [List.map_cons] at h ⊢
    rcases List.mem_cons.mp h with e | e
    ·exact List.mem_cons.mpr (.inl e)
    ·exact List.mem_cons_of_mem _ (i2 g e)
theorem zof (f:Str) (v:V):∀ fs:List (Str×V),(putF f v fs).length≤fs.length+1
 | []=>by simp [putF]
 | (k,x)::r=>by
  have ih:=zof f v r
  rw [show putF f v ((k,x)::r)=(if k=f then (k,v)::r else (k,x)::putF f v r) from rfl]
  by_cases hk:k=f
  ·rw [if_pos hk,List.length_cons,List.length_cons];omega
  ·rw [if_neg hk,List.length_cons,List.length_cons];omega
theorem RelO.some_of {v:V} {o:Option Value} (r:RelO (some v) o):∃ u,o=some u∧RelV v u:=by
 cases o with
 | none=>exact (show False from r).elim
 | some u=>exact ⟨u,rfl,r⟩
theorem RelO.none_of {o:Option Value} (r:RelO none o):o=none:=by
 cases o with
 | none=>rfl
 | some u=>exact (show False from r).elim
theorem zvp {v:V} {u:Value} (r:RelV v u):W.handedIn u=true:=by
 cases v with
 | non=>cases (show u=Value.none from r);rfl
 | bl b=>cases (show u=Value.bool b from r);rfl
 | int i=>obtain ⟨t,e⟩:=(show ∃ t,u=Value.int i t from r);cases e;rfl
 | str x=>obtain ⟨t,e⟩:=(show ∃ t,u=Value.str x t from r);cases e;rfl
 | byt b=>obtain ⟨t,e⟩:=(show ∃ t,u=Value.bytes b t from r);cases e;rfl
 | flt b=>obtain ⟨t,e⟩:=(show ∃ t,u=Value.float b t from r);cases e;rfl
 | ref a=>cases (show u=Value.ref a from r);rfl
 | ty n=>cases (show u=Value.type n from r);rfl
section
variable {P:Program} {w:World} {H H':Hp} {h h':Heap} {a C dx:Addr} {fs fs':List (Str×V)}
theorem zfm (hok:HOk P w H h) (e:H a=some (.ins C dx fs)):∃ mA,ObjM h a dx C mA∧(∀ f,RelO (fs.lookup f) (mA f))∧PySem.Within mA (fs.map (·.1))∧fs.length≤1000∧H dx=some (.own a):=by
 obtain ⟨d,z,ne,ob,mA,n,r,q⟩:=(show ObjOk P w H h a (.ins C dx fs) from hok a _ e)
 exact ⟨mA,⟨ob,n,ne⟩,r,q,z,d⟩
end
structure Cls (K:W.Frag) (C:Addr):Prop where
 pg:W.plainGet K C Str.empty=true
 hd:W.hasDictIn K C=true
 po:W.plainOver K C=true
 sa:W.findIn K (.ref C) "__setattr__" = some (some (.builtin "object.__setattr__"))
theorem Cls.get {K:W.Frag} {C:Addr} (c:Cls K C) (f:Str):W.plainGet K C f=true:=c.pg
noncomputable def NoAttr (K:W.Frag) (C:Addr) (f:Str):Prop:=W.findIn K (.ref C) f=some none
theorem NoAttr.taker {K:W.Frag} {C:Addr} {f:Str} (n:NoAttr K C f):W.takerIn K C f=some none:=by
 unfold W.takerIn
 rw [show W.findIn K (.ref C) f=some none from n]
 rfl
structure Meth (K:W.Frag) (C:Addr) (m:Str) (f:Addr):Prop where
 at_:W.findIn K (.ref C) m=some (some (.ref f))
 fn:W.isFn K (.ref f)=true
 kp:W.keepIn K (.ref f)=true
section
variable {X:Cx} {pins:List (Addr×Obj)} {σ:St} {H:Hp} {s:Shared} {a C dx:Addr} {fs:List (Str×V)} {f:Str} {v:V} {A:Around} {E:Value→Shared→Prop}
theorem zmm {b:Bool} {Q:Value→Shared→Prop} (I:Inv X pins σ H s) (e:H a=some (.ins C dx fs)) (c:Cls X.K C) (n:NoAttr X.K C f) (l:fs.lookup f=some v)
  (h:∀ u s',Inv X pins σ H s'→RelV v u→Q u s'):wpAny (model X.prog X.w) A (getAttr (.ref a) f b) Q E s:=by
 obtain ⟨mA,O,r,_,_,_⟩:=zfm I.hok e
 obtain ⟨u,hu,ru⟩:=RelO.some_of (v:=v) (o:=mA f) (by rw [← l];exact r f)
 exact zjw I.kIn O (c.get f) c.hd n hu (zvp ru) (h u _ (I.tok _) ru)
theorem zqh {m:Str} {g:Addr} {pl:Sem Bool} {Q:Value×List Value→Shared→Prop} (I:Inv X pins σ H s) (e:H a=some (.ins C dx fs)) (c:Cls X.K C) (k:Meth X.K C m g) (l:fs.lookup m=none)
  (h:Q (.ref g,[.ref a]) s):wpAny (model X.prog X.w) A (getMethod (.ref a) m pl) Q E s:=by
 obtain ⟨mA,O,r,_,_,_⟩:=zfm I.hok e
 have hn:mA m=none:=RelO.none_of (by rw [← l];exact r m)
 exact zvt I.kIn O (c.get m) k.at_ k.fn hn h
theorem zjo {y:V} {u:Value} {Q:Unit→Shared→Prop} (I:Inv X pins σ H s) (e:H a=some (.ins C dx fs)) (c:Cls X.K C) (n:NoAttr X.K C f) (hl:fs.length<1000) (ry:RelV y u)
  (h:∀ s',Inv X pins σ (upd H a (.ins C dx (putF f y fs))) s'→Q () s'):wpAny (model X.prog X.w) A (setAttr (.ref a) f u) Q E s:=by
 obtain ⟨mA,O,r,wi,_,ho⟩:=zfm I.hok e
 have hz:(fs.map (·.1)).length≤sizeLine:=by rw [List.length_map,sizeLine_eq];omega
 refine zix I.kIn O c.sa c.po n.taker c.hd wi hz λ h' O' sb=>h _ ?_
 have hd:∃ o,h'.get? dx=some o:=let ⟨o,_,_,e',_⟩:=O'.ns; ⟨o,e'⟩
 refine I.write (x:=a) (e:=dx) (by rw [e];exact True.intro) (.inr ho) (λ b q hb z=>(sb.2 b hb).trans z) hd ?_
 refine ⟨by rw [zga O.ne];exact ho,?_,O.ne,O'.obj,_,O'.ns,λ g=>?_,λ g hg=>?_⟩
 ·have:=zof f y fs;omega
 ·show RelO ((putF f y fs).lookup g) (if g=f then some u else mA g)
  rw [zsf]
  by_cases q:g=f
  ·rw [if_pos q,if_pos q];exact ry
  ·rw [if_neg q,if_neg q];exact r g
 ·by_cases q:g=f
  ·rw [q];exact (zqg f y fs).1
  ·refine (zqg f y fs).2 g (wi g λ z=>hg ?_)
   show (if g=f then some u else mA g)=none
   rw [if_neg q];exact z
theorem Inv.made (I:Inv X pins σ H s):Inv X pins σ (upd (upd H s.heap.objs.size (.own (s.heap.objs.size+1))) (s.heap.objs.size+1) (.ins C s.heap.objs.size []))
  { s with heap:=(s.heap.push W.emptyDict).push (W.instObj C s.heap.objs.size) }:=by
 have e1:(s.heap.push W.emptyDict).get? s.heap.objs.size=some W.emptyDict:=Heap.get?_push_size s.heap rfl
 have e2:((s.heap.push W.emptyDict).push (W.instObj C s.heap.objs.size)).get? (s.heap.objs.size+1)=some (W.instObj C s.heap.objs.size):=by
  have:=Heap.get?_push_size (s.heap.push W.emptyDict) (o:=W.instObj C s.heap.objs.size) rfl
  rwa [Heap.size_push] at this
 have e3:(s.heap.push W.emptyDict).Ns s.heap.objs.size (λ _=>none):=⟨W.emptyDict, #[],_,e1,rfl,(λ e he=>absurd he (by simp)),λ _=>rfl⟩
 have I1:=I.laid (a:=s.heap.objs.size) (o := .own (s.heap.objs.size+1)) (h':=s.heap.push W.emptyDict) (t':=s.toks) (λ b u q=>Heap.get?_push_of_some _ q) (Nat.le_refl _) ⟨_,e1⟩
 refine I1.laid (a:=s.heap.objs.size+1) (o := .ins C s.heap.objs.size []) (t':=s.toks) (λ b u q=>Heap.get?_push_of_some _ q) (Nat.le_of_eq (Heap.size_push _ _)) ?_
 have ne:s.heap.objs.size≠s.heap.objs.size+1:=Nat.ne_of_lt (Nat.lt_succ_self _)
 refine ⟨by rw [zga ne,upd_same],Nat.zero_le _,ne,e2,λ _=>none,(Heap.Ns1.of_empty e3).at λ o q=>Heap.get?_push_of_some _ q,λ _=>True.intro,λ y hy=>absurd rfl hy⟩
theorem zhw {prog:Program} {w:World} {env:Env} {e:Expr} {f:Str} {pos:Pos} {s:Shared} {Q:Value→Shared→Prop} (hb:attributeBase e f env (eval e env)=eval e env)
  (h:wpAny (model prog w) A (eval e env) (λ o s₁=>wpAny (model prog w) A (getAttr o f true) Q E s₁) E s):wpAny (model prog w) A (eval (.Attribute e f pos) env) Q E s :=
 Attribute_any_ h (by rw [arm_eval_Attribute,hb])
end
noncomputable def tFld (K:W.Frag) (ta:TE) (f:Str):TE:=λ σ H Q=>ta σ H λ x H1=>∃ a C dx fs v,x = .ref a∧H1 a=some (.ins C dx fs)∧Cls K C∧NoAttr K C f∧fs.lookup f=some v∧Q v H1
noncomputable def sFld (K:W.Frag) (ta tv:TE) (f:Str):TS:=λ D σ H=>tv σ H λ y H1=>ta σ H1 λ x H2=>∃ a C dx fs,x = .ref a∧H2 a=some (.ins C dx fs)∧Cls K C∧NoAttr K C f∧fs.length<1000 ∧
 D.nx σ (upd H2 a (.ins C dx (putF f y fs)))
section
variable {X:Cx} {o e value:Expr} {f:Str} {pos pos' tpos:Pos} {ta tv:TE}
theorem zyu (he:PE X e ta) (hb:attributeBase e f X.env (eval e X.env)=eval e X.env):PE X (.Attribute e f pos) (tFld X.K ta f) := .mk <| by
 intro pins s σ H Q I h
 refine zhw hb (thn (he pins s σ H _ I h) λ u s1 ⟨x,H1,I1,rx,a,C,dx,fs,v,ex,ea,c,n,l,q⟩=>?_)
 subst ex
 obtain rfl:u=Value.ref a:=rx
 exact zmm I1 ea c n l λ u' s2 I2 ru=>⟨v,H1,I2,ru,q⟩
theorem zx0 (ha:PE X o ta) (hv:PE X value tv) (hs:swapsWith value (some (.Attribute o f pos')) pos.line X.env=pure false):PS X (.Assign [.Attribute o f pos'] value pos) (sFld X.K ta tv f) := .mk <| by
 intro pins s σ H D I h
 refine plainObj_wpAny_Assign_Attribute (thn (hv pins s σ H _ I h) λ u s1 ⟨y,H1,I1,ry,q⟩=>thn (ha pins s1 σ H1 _ I1 q) λ ov s2 ⟨x,H2,I2,rx,a,C,dx,fs,ex,ea,c,n,l,q2⟩=>?_) hs
 subst ex
 obtain rfl:ov=Value.ref a:=rx
 exact zjo I2 ea c n l ry λ s3 I3=>⟨σ,_,I3,q2⟩
end
section
variable {X:Cx} {pins:List (Addr×Obj)} {σ:St} {H:Hp} {s:Shared} {A:Around} {E:Value→Shared→Prop} {Q:Value→Shared→Prop} {c:Value} {b:Bool}
end
end L2
namespace L2
open PySem PySem.Spec PyProof.Rows
structure Room (k:Nat) (A:Around):Prop where
 hd:A.handled=none
 dp:A.depth+3 * k+5<recursionLimit
 un:A.units+16 * k+200<cLine
theorem Room.mono {j k:Nat} {A:Around} (r:Room k A) (h:j≤k):Room j A:=⟨r.hd,by have:=r.dp;omega,by have:=r.un;omega⟩
theorem Room.deeper {k:Nat} {A:Around} (r:Room (k+1) A) (env:Env):Room k (A.deeper env) :=
 ⟨r.hd,by have:=r.dp;show A.depth+1+3 * k+5<_;omega,by have:=r.un;show A.units+3+16 * k+200<_;omega⟩
theorem zem {A:Around} {C:Addr} {us:List Value} {kw:List (Str×Value)}:(A.under (.builtin "type.__call__" ⟨.ref C::us,kw⟩)).depth=A.depth+1:=by
 first | rfl | simp [Around.under,Code.weight,Code.isCreation,Code.isGuard,Code.isCaller,Code.frames,Code.isFrame,guardIds]
theorem zhm {A:Around} {C:Addr} {us:List Value} {kw:List (Str×Value)}:(A.under (.builtin "type.__call__" ⟨.ref C::us,kw⟩)).units=A.units+1:=by
 first | rfl | simp [Around.under,Code.cUnits,Code.frames,Code.isFrame]
theorem Room.make {k:Nat} {A:Around} (r:Room (k+1) A) (C:Addr) (us:List Value) (kw:List (Str×Value)):Room k (A.under (.builtin "type.__call__" ⟨.ref C::us,kw⟩)) :=
 ⟨r.hd,by have:=r.dp;rw [zem];omega,by have:=r.un;rw [zhm];omega⟩
theorem Room.depth {k:Nat} {A:Around} (r:Room k A):A.depth<recursionLimit:=by have:=r.dp;omega
theorem Room.units {k:Nat} {A:Around} (r:Room k A):A.units+64<cLine:=by have:=r.un;omega
noncomputable def tNil:TA:=λ _ H Q=>Q [] H
noncomputable def zk4 (ta:TE) (tr:TA):TA:=λ σ H Q=>ta σ H λ x H1=>tr σ H1 λ xs H2=>Q (x::xs) H2
section
variable {X:Cx} {e:Expr} {es:List Expr} {te:TE} {t:TA} {pos:Pos}
theorem zfa:PA X [] tNil := .mk <| λ _ _ _ _ H Q I h=>Calls.spliced_nil ⟨[],H,I,.nil,h⟩
theorem zaa (ha:PE X e te) (hr:PA X es t) (hs:starEach (e::es) X.env=(false,eval e X.env)::starEach es X.env:=by rfl):PA X (e::es) (zk4 te t) := .mk <| by
 intro pos pins s σ H Q I h
 rw [hs]
 show wpAny _ _ (spliced ((false,eval e X.env)::backTo pos (starEach es X.env))) _ _ s
 refine Calls.spliced_cons (thn (ha pins s σ H _ I h) λ u s1 ⟨x,H1,I1,r1,q1⟩=>?_)
 exact thn (hr pos pins s1 σ H1 _ I1 q1) λ us s2 ⟨xs,H2,I2,r2,q2⟩=>⟨x::xs,H2,I2,.cons r1 r2,q2⟩
noncomputable def tTup (t:TA):TE:=λ σ H Q=>t σ H λ xs H1=>xs.length≤sizeLine∧∀ p,H1 p=none→Q (.ref p) (upd H1 p (.tup xs))
noncomputable def tLst (t:TA):TE:=λ σ H Q=>t σ H λ xs H1=>xs.length≤sizeLine∧∀ p,H1 p=none→Q (.ref p) (upd H1 p (.lst xs))
theorem zdc {x1} (h:PA X es t):PE X (.Tuple es x1 pos) (tTup t) := .mk <| by
 intro pins s σ H Q I hq
 refine wpAny_Tuple_spliced (thn (h pos pins s σ H _ I hq) λ us s1 ⟨xs,H1,I1,r,z,q⟩=>⟨by rw [← r.length];exact z,?_⟩)
 have hf:H1 s1.heap.objs.size=none:=I1.hok.fresh (Nat.le_refl _)
 refine ⟨.ref s1.heap.objs.size,upd H1 s1.heap.objs.size (.tup xs),I1.laid (t':=s1.toks) (λ b u e=>Heap.get?_push_of_some _ e) (Nat.le_refl _) ?_,rfl,q _ hf⟩
 exact ⟨z,us,r,⟨_,Heap.get?_push_size _ rfl,rfl,_,rfl⟩⟩
theorem zrd (h:PA X es t):PE X (.List es pos) (tLst t) := .mk <| by
 intro pins s σ H Q I hq
 refine wpAny_List_spliced (thn (h pos pins s σ H _ I hq) λ us s1 ⟨xs,H1,I1,r,z,q⟩=>⟨by rw [← r.length];exact z,?_⟩)
 have hf:H1 s1.heap.objs.size=none:=I1.hok.fresh (Nat.le_refl _)
 refine ⟨.ref s1.heap.objs.size,upd H1 s1.heap.objs.size (.lst xs),I1.laid (t':=s1.toks) (λ b u e=>Heap.get?_push_of_some _ e) (Nat.le_refl _) ?_,rfl,q _ hf⟩
 exact ⟨z,us,0,r,Heap.get?_push_size _ rfl⟩
end
noncomputable abbrev Sp:=List V→Hp→VK→XK→Prop
noncomputable abbrev CXT:=List Env→Hp→Shared→XK→Value→Shared→Prop
structure Env0 (P:Program) (w:World) (K:W.Frag) (mg:Str→Option Value) (base:Heap) (A:Around) (outer:List Env) (s:Shared) (H:Hp):Prop where
 frames:A.frames=some outer
 mod:Mod K mg base
 bs:∀ b o,base.get? b=some o→s.heap.get? b=some o∧H b=none
 bsz:base.objs.size≤s.heap.objs.size
 funs:s.heap.FunFrames base outer
 frf:∀ b∈frs outer,H b=none
 hok:HOk P w H s.heap
 bare:AllBare s.gens
noncomputable def CE (outer:List Env) (P:Program) (w:World) (H:Hp) (s:Shared) (Q:VK) (u:Value) (s':Shared):Prop :=
 ∃ v H',s'.os=s.os∧AllBare s'.gens∧Un (frs outer) [] H H' s.heap s'.heap∧HOk P w H' s'.heap∧RelV v u∧Q v H'
noncomputable def CR (CX:CXT) (outer:List Env) (P:Program) (w:World) (H:Hp) (s:Shared) (Q:VK) (E:XK) (r:Result) (s':Shared):Prop :=
 match r with
 | .ok (.ret u)=>CE outer P w H s Q u s'
 | .ok _=>False
 | .error e=>CX outer H s E e s'
structure FnOk (P:Program) (w:World) (K:W.Frag) (mg:Str→Option Value) (base:Heap) (CX:CXT) (k:Nat) (f:Addr) (fd:FuncData) (ps:List Str) (sp:Sp):Prop where
 len:∀ vs H Q E,sp vs H Q E→vs.length=ps.length
 run:∀ (A:Around) (outer:List Env) (s:Shared) (H:Hp) (args:Args) (us:List Value) (vs:List V) (Q:VK) (E:XK),Room k A→Env0 P w K mg base A outer s H→BindsTo s fd args (ps.zip us)→Vals vs us→sp vs H Q E →
  codeAny (model P w) A (.call (.ref f) args) (CR CX outer P w H s Q E) s
theorem FnOk.imp {P:Program} {w:World} {K:W.Frag} {mg:Str→Option Value} {base:Heap} {CX:CXT} {k:Nat} {f:Addr} {fd:FuncData} {ps:List Str} {sp sp':Sp} (F:FnOk P w K mg base CX k f fd ps sp)
  (h:∀ vs H Q E,sp' vs H Q E→sp vs H Q E):FnOk P w K mg base CX k f fd ps sp' :=
 ⟨λ vs H Q E q=>F.len vs H Q E (h _ _ _ _ q),λ A outer s H args us vs Q E hr he hb hv hs=>F.run A outer s H args us vs Q E hr he hb hv (h _ _ _ _ hs)⟩
theorem Env0.make {P:Program} {w:World} {K:W.Frag} {mg:Str→Option Value} {base:Heap} {A:Around} {outer:List Env} {s:Shared} {H:Hp} (e:Env0 P w K mg base A outer s H) (C:Addr) (us:List Value) (kw:List (Str×Value)) :
  Env0 P w K mg base (A.under (.builtin "type.__call__" ⟨.ref C::us,kw⟩)) outer s H:=⟨by first | exact e.frames | (simpa [Around.under,Code.envs,Code.isFrame,pushEnvs] using e.frames),e.mod,e.bs,e.bsz,e.funs,e.frf,e.hok,e.bare⟩
section
variable {X:Cx} {pins:List (Addr×Obj)} {σ:St} {H:Hp} {s s':Shared}
theorem Inv.env0 (I:Inv X pins σ H s):Env0 X.prog X.w X.K X.mg X.base X.A X.stack s H :=
 ⟨I.ok.frames,I.ok.mod,I.bs,Nat.le_trans I.ok.bsz I.sz,I.stack,I.stkFree,I.hok,I.bare⟩
theorem Inv.after {Q:VK} {u:Value} (I:Inv X pins σ H s) (h:CE X.stack X.prog X.w H s Q u s'):EP X pins σ Q u s':=by
 obtain ⟨v,H',os,bare,un,hok,r,q⟩:=h
 obtain ⟨hh,g,d,t,os'⟩:=s'
 obtain rfl:os'=s.os:=os
 exact ⟨v,H',I.call (h':=hh) (g':=g) (d':=d) (t':=t) (ch:=[]) un hok bare (λ b z=>absurd z (by simp)),r,q⟩
end
noncomputable def zw2 (sp:Sp) (dvs:List V) (E:XK) (t:TA):TE:=λ σ H Q=>t σ H λ vs H1=>sp (vs++dvs) H1 Q E
noncomputable def zm3 (C:Addr) (m:Str) (sp:Sp) (dvs:List V) (E:XK) (ta:TE) (t:TA):TE:=λ σ H Q=>ta σ H λ x H1=>∃ a dx fs,x = .ref a∧H1 a=some (.ins C dx fs)∧fs.lookup m=none ∧
 t σ H1 λ vs H2=>sp (x::(vs++dvs)) H2 Q E
noncomputable def zt4 (C:Addr) (sp:Sp) (dvs:List V) (E:XK) (t:TA):TE:=λ σ H Q=>t σ H λ vs H1=>∀ x dx,H1 x=none→H1 dx=none→dx≠x →
 sp (.ref x::(vs++dvs)) (upd (upd H1 dx (.own x)) x (.ins C dx [])) (λ v H2=>v = .non∧Q (.ref x) H2) E
noncomputable def Binds (K:W.Frag) (fd:FuncData) (ps:List Str) (ds:List Value):Prop :=
 ∀ (s:Shared) (us:List Value),K.In s.heap→(us++ds).length=ps.length→BindsTo s fd ⟨us,[]⟩ (ps.zip (us++ds))
theorem Binds.all {K:W.Frag} {fd:FuncData} {ps:List Str} (h:∀ us:List Value,us.length=ps.length→bindArgs fd ⟨us,[]⟩=pure (ps.zip us)):Binds K fd ps []:=λ s us _ hl=>by
 rw [List.append_nil] at hl ⊢
 exact .of_eq (h us hl)
noncomputable def zmg (CX:CXT) (X:Cx) (E:XK):Prop:=∀ (pins:List (Addr×Obj)) (σ:St) (H:Hp) (s:Shared) (e:Value) (s':Shared),Inv X pins σ H s→CX X.stack H s E e s'→X.xe e s'
section
variable {X:Cx} {CX:CXT} {k:Nat} {f C:Addr} {fd:FuncData} {ps:List Str} {sp:Sp} {dvs:List V} {ds:List Value} {E:XK} {x m:Str} {p pos apos:Pos} {e o:Expr} {es:List Expr} {ta:TE} {t:TA}
theorem zyo {pins:List (Addr×Obj)} {σ:St} {H:Hp} {s:Shared} {Q:VK} {us:List Value} {vs:List V} (F:FnOk X.prog X.w X.K X.mg X.base CX k f fd ps sp) (hr:Room k X.A) (hb:Binds X.K fd ps ds) (hd:Vals dvs ds) (hx:zmg CX X E)
  (I:Inv X pins σ H s) (r:Vals vs us) (h:sp (vs++dvs) H Q E):wpAny (model X.prog X.w) X.A (call (.ref f) us) (EP X pins σ Q) X.xe s:=by
 have r2:Vals (vs++dvs) (us++ds):=r.append hd
 have hl:(us++ds).length=ps.length:=by rw [← r2.length];exact F.len _ _ _ _ h
 refine wpAny_call (codeAny_mono (F.run X.A X.stack s H ⟨us,[]⟩ (us++ds) (vs++dvs) Q E hr I.env0 (hb s us I.kIn hl) r2 h) λ r s' hq=>?_)
 cases r with
 | error e=>exact hx pins σ H s e s' I hq
 | ok fl =>
  cases fl with
  | ret u=>exact I.after hq
  | next=>exact False.elim hq
  | brk=>exact False.elim hq
  | cont=>exact False.elim hq
theorem zhb (F:FnOk X.prog X.w X.K X.mg X.base CX k f fd ps sp) (hr:Room k X.A) (hg:Gl X x) (hm:X.mg x=some (.ref f)) (hk:W.keepIn X.K (.ref f)=true) (hb:Binds X.K fd ps ds) (hd:Vals dvs ds) (hx:zmg CX X E)
  (ha:PA X (e::es) t) (hdb:(x == ("__debug__" : Str))=false:=by decide) (he:starEach (e::es) X.env=(false,eval e X.env)::starEach es X.env:=by rfl) (hpl:(backTo pos (starEach es X.env)).any (·.1)=false:=by rfl) :
  PE X (.Call (.Name x p) (e::es) [] pos) (zw2 sp dvs E t) := .mk <| by
 intro pins s σ H Q I h
 refine wpAny_Call_Name_kw (zhj I hg hm ?_ hdb)
 refine W.callWith_K (h₀:=X.base) I.ok.mod.kin hk (thn (ha pos pins s σ H _ I h) λ us s1 ⟨vs,H1,I1,r,q⟩=>⟨I1.kIn,?_⟩) he hpl
 exact zyo F hr hb hd hx I1 r q
theorem zmt (F:FnOk X.prog X.w X.K X.mg X.base CX k f fd ps sp) (hr:Room k X.A) (hg:Gl X x) (hm:X.mg x=some (.ref f)) (hk:W.keepIn X.K (.ref f)=true) (hb:Binds X.K fd ps ds) (hd:Vals dvs ds) (hx:zmg CX X E)
  (hdb:(x == ("__debug__" : Str))=false:=by decide):PE X (.Call (.Name x p) [] [] pos) (zw2 sp dvs E tNil) := .mk <| by
 intro pins s σ H Q I h
 refine wpAny_Call_Name_kw (zhj I hg hm ?_ hdb)
 exact W.callWith_K0 I.kIn hk (zyo (us:=[]) F hr hb hd hx I .nil h)
theorem zoo {pl:Sem Bool} (he:PE X o ta) (c:Cls X.K C) (hm:Meth X.K C m f) (F:FnOk X.prog X.w X.K X.mg X.base CX k f fd ps sp) (hr:Room k X.A) (hb:Binds X.K fd ps ds) (hd:Vals dvs ds) (hx:zmg CX X E) (ha:PA X (e::es) t)
  (hst:starEach (e::es) X.env=(false,eval e X.env)::starEach es X.env:=by rfl) (hpl:(backTo pos (starEach es X.env)).any (·.1)=false:=by rfl)
  (ht:eval (.Call (.Attribute o m apos) (e::es) [] pos) X.env=(do
   let ov ← eval o X.env
   standAt apos.atName
   let (f,first) ← holding [ov] (getMethod ov m pl)
   callWith pos f first (backTo pos (starEach (e::es) X.env)) (backToKw pos (keywordEach [] X.env))):=by rfl) :
  PE X (.Call (.Attribute o m apos) (e::es) [] pos) (zm3 C m sp dvs E ta t) := .mk <| by
 intro pins s σ H Q I h
 refine W.methodCall_KW (pl:=pl) (thn (he pins s σ H _ I h) λ u s1 ⟨x,H1,I1,rx,a,dx,fs,ex,ea,l,q⟩=>?_) ht
 subst ex
 obtain rfl:u=Value.ref a:=rx
 refine zqh I1 ea c hm l ?_
 refine W.callWith_K (first:=[.ref a]) (h₀:=X.base) I.ok.mod.kin hm.kp (thn (ha pos pins s1 σ H1 _ I1 q) λ us s2 ⟨vs,H2,I2,r,q2⟩=>⟨I2.kIn,?_⟩) hst hpl
 exact zyo (us := .ref a::us) (vs := .ref a::vs) F hr hb hd hx I2 (.cons rfl r) q2
theorem zej {pl:Sem Bool} (he:PE X o ta) (c:Cls X.K C) (hm:Meth X.K C m f) (F:FnOk X.prog X.w X.K X.mg X.base CX k f fd ps sp) (hr:Room k X.A) (hb:Binds X.K fd ps ds) (hd:Vals dvs ds) (hx:zmg CX X E)
  (ht:eval (.Call (.Attribute o m apos) [] [] pos) X.env=(do
   let ov ← eval o X.env
   standAt apos.atName
   let (f,first) ← holding [ov] (getMethod ov m pl)
   callWith pos f first (backTo pos (starEach [] X.env)) (backToKw pos (keywordEach [] X.env))):=by rfl) :
  PE X (.Call (.Attribute o m apos) [] [] pos) (zm3 C m sp dvs E ta tNil) := .mk <| by
 intro pins s σ H Q I h
 refine W.methodCall_KW (pl:=pl) (thn (he pins s σ H _ I h) λ u s1 ⟨x,H1,I1,rx,a,dx,fs,ex,ea,l,q⟩=>?_) ht
 subst ex
 obtain rfl:u=Value.ref a:=rx
 refine zqh I1 ea c hm l ?_
 exact W.callWith_K0 (first:=[.ref a]) I1.kIn hm.kp (zyo (us:=[.ref a]) (vs:=[.ref a]) F hr hb hd hx I1 (.cons rfl .nil) q)
structure Mk (K:W.Frag) (C f:Addr):Prop where
 makes:W.makesIn K C=true
 init:W.findIn K (.ref C) "__init__" = some (some (.ref f))
 fn:W.isFn K (.ref f)=true
 kp:W.keepIn K (.ref C)=true
theorem znt {pins:List (Addr×Obj)} {σ:St} {H:Hp} {s:Shared} {Q:VK} {us:List Value} {vs:List V} (M:Mk X.K C f) (F:FnOk X.prog X.w X.K X.mg X.base CX k f fd ps sp) (hr:Room (k+1) X.A) (hb:Binds X.K fd ps ds) (hd:Vals dvs ds)
  (hx:zmg CX X E) (I:Inv X pins σ H s) (r:Vals vs us)
  (h:∀ x dx,H x=none→H dx=none→dx≠x→sp (.ref x::(vs++dvs)) (upd (upd H dx (.own x)) x (.ins C dx [])) (λ v H2=>v = .non∧Q (.ref x) H2) E) :
  wpAny (model X.prog X.w) X.A (call (.ref C) us) (EP X pins σ Q) X.xe s:=by
 have hq:=h (s.heap.objs.size+1) s.heap.objs.size (I.hok.fresh (Nat.le_succ _)) (I.hok.fresh (Nat.le_refl _)) (Nat.ne_of_lt (Nat.lt_succ_self _))
 have I2:=Inv.made (C:=C) I
 have r2:Vals (V.ref (s.heap.objs.size+1)::(vs++dvs)) (Value.ref (s.heap.objs.size+1)::(us++ds)) := .cons rfl (r.append hd)
 have hl:(Value.ref (s.heap.objs.size+1)::us++ds).length=ps.length:=by
  have e:=r2.length
  rw [F.len _ _ _ _ hq] at e
  exact e.symm
 refine wpAny_call (znv (f:=f) I.kIn M.makes M.init (beq_iff_eq.mp M.fn) (codeAny_mono (F.run _ X.stack _ _ ⟨Value.ref (s.heap.objs.size+1)::us,[]⟩ (Value.ref (s.heap.objs.size+1)::(us++ds)) _ _ E (hr.make C us [])
  (I2.env0.make C us []) (hb _ (Value.ref (s.heap.objs.size+1)::us) I2.kIn hl) r2 hq) λ r s' hq'=>?_))
 cases r with
 | error e=>exact hx pins σ _ _ e s' I2 hq'
 | ok fl =>
  cases fl with
  | ret u =>
   obtain ⟨v,H',I3,rv,ev,q3⟩:=I2.after hq'
   subst ev
   exact ⟨rv,⟨V.ref (s.heap.objs.size+1),H',I3,rfl,q3⟩⟩
  | next=>exact False.elim hq'
  | brk=>exact False.elim hq'
  | cont=>exact False.elim hq'
theorem zxj (M:Mk X.K C f) (F:FnOk X.prog X.w X.K X.mg X.base CX k f fd ps sp) (hr:Room (k+1) X.A) (hg:Gl X x) (hm:X.mg x=some (.ref C)) (hb:Binds X.K fd ps ds) (hd:Vals dvs ds) (hx:zmg CX X E)
  (ha:PA X (e::es) t) (hdb:(x == ("__debug__" : Str))=false:=by decide) (he:starEach (e::es) X.env=(false,eval e X.env)::starEach es X.env:=by rfl) (hpl:(backTo pos (starEach es X.env)).any (·.1)=false:=by rfl) :
  PE X (.Call (.Name x p) (e::es) [] pos) (zt4 C sp dvs E t) := .mk <| by
 intro pins s σ H Q I h
 refine wpAny_Call_Name_kw (zhj I hg hm ?_ hdb)
 refine W.callWith_K (h₀:=X.base) I.ok.mod.kin M.kp (thn (ha pos pins s σ H _ I h) λ us s1 ⟨vs,H1,I1,r,q⟩=>⟨I1.kIn,?_⟩) he hpl
 exact znt M F hr hb hd hx I1 r q
end
section
variable {X:Cx} {CX:CXT} {k:Nat} {f C:Addr} {fd:FuncData} {ps ks:List Str} {sp:Sp} {E:XK} {x m:Str} {p pos apos kpos:Pos} {e o:Expr} {es:List Expr} {kws:List Keyword} {te ta:TE} {t tk:TA} {nm:Option Str}
variable {g:List Value→List Value→List Value} {gV:List V→List V→List V}
end
structure FnScope (N P:List Str) (sc:Scope):Prop where
 kind:sc.kind = .function
 co:sc.isCoroutine=false
 gen:sc.isGenerator=false
 nd:N.Nodup
 pre:N.take P.length=P
 par:∀ x∈P,sc.names.lookup x=some .local ∨ sc.names.lookup x=some .cell
 nofree:∀ y∈sc.names,y.2 ≠ .free
theorem zbk {kindOf:Str→Option NameKind} {x:Str}:∀ {binds:List (Str×Value)} {m:Str→Option Value},(∀ v,(x,v)∉binds)→bindL kindOf binds m x=m x
 | [],_,_=>rfl
 | (n,v)::r,m,h=>by
  unfold bindL
  rw [zbk λ w hw=>h w (List.mem_cons_of_mem _ hw)]
  split
  ·have:x≠n:=by rintro rfl;exact h v List.mem_cons_self
   simp [this]
  ·rfl
theorem zgj {kindOf:Str→Option NameKind} {x:Str}:∀ {binds:List (Str×Value)} {m:Str→Option Value},(∀ v,(x,v)∉binds)→bindC kindOf binds m x=m x
 | [],_,_=>rfl
 | (n,v)::r,m,h=>by
  unfold bindC
  rw [zgj λ w hw=>h w (List.mem_cons_of_mem _ hw)]
  split
  ·rfl
  ·have:x≠n:=by rintro rfl;exact h v List.mem_cons_self
   simp [this]
theorem zkj {kindOf:Str→Option NameKind} {x:Str} {v:Value}:∀ {P:List Str} {vs:List Value} {i:Nat} {m:Str→Option Value},P.Nodup→P[i]? = some x→vs[i]? = some v→kindOf x=some .local →
  bindL kindOf (P.zip vs) m x=some v
 | [],_,_,_,_,h,_,_=>by simp at h
 | _::_,[],_,_,_,_,h,_=>by simp at h
 | p::P,w::vs,0,m,nd,h1,h2,hk=>by
  simp at h1 h2;subst h1;subst h2
  show bindL kindOf ((p,w)::P.zip vs) m p=_
  unfold bindL
  rw [zbk λ v hv=>(List.nodup_cons.mp nd).1 (List.of_mem_zip hv).1,if_pos hk]
  simp
 | p::P,w::vs,i+1,m,nd,h1,h2,hk=>by
  show bindL kindOf ((p,w)::P.zip vs) m x=_
  unfold bindL
  exact zkj (i:=i) (List.nodup_cons.mp nd).2 (by simpa using h1) (by simpa using h2) hk
theorem ztj {kindOf:Str→Option NameKind} {x:Str} {v:Value}:∀ {P:List Str} {vs:List Value} {i:Nat} {m:Str→Option Value},P.Nodup→P[i]? = some x→vs[i]? = some v→kindOf x≠some .local →
  bindC kindOf (P.zip vs) m x=some v
 | [],_,_,_,_,h,_,_=>by simp at h
 | _::_,[],_,_,_,_,h,_=>by simp at h
 | p::P,w::vs,0,m,nd,h1,h2,hk=>by
  simp at h1 h2;subst h1;subst h2
  show bindC kindOf ((p,w)::P.zip vs) m p=_
  unfold bindC
  rw [zgj λ v hv=>(List.nodup_cons.mp nd).1 (List.of_mem_zip hv).1,if_neg hk]
  simp
 | p::P,w::vs,i+1,m,nd,h1,h2,hk=>by
  show bindC kindOf ((p,w)::P.zip vs) m x=_
  unfold bindC
  exact ztj (i:=i) (List.nodup_cons.mp nd).2 (by simpa using h1) (by simpa using h2) hk
noncomputable def znp (N:List Str) (vs:List V):St:=vs.map some++List.replicate (N.length - vs.length) none
noncomputable def cxOf (CX:CXT) (P:Program) (w:World) (K:W.Frag) (mg:Str→Option Value) (base:Heap) (N:List Str) (qual:Str) (scope:Scope) (f:Addr) (cd:Value) (A:Around) (outer:List Env) (s:Shared) (H:Hp) (E:XK):Cx where
 prog:=P
 w:=w
 K:=K
 mg:=mg
 base:=base
 A:=A.deeper (envOfC qual scope s.heap.objs.size f cd)
 N:=N
 s₀:=s
 H₀:=H
 env:=envOfC qual scope s.heap.objs.size f cd
 outer:=outer
 stack:=envOfC qual scope s.heap.objs.size f cd::outer
 ex:=[]
 calm:=true
 fn:=λ _=>true
 pn:=[]
 xe:=λ e s'=>wpAny (model P w) (A.deeper (envOfC qual scope s.heap.objs.size f cd)) (leaving (envOfC qual scope s.heap.objs.size f cd) e) (λ _ s''=>CX outer H s E e s'') (λ e' s''=>CX outer H s E e' s'') s'
theorem zxn {sc:Scope} {n:Nat} {x:Str} (h:sc.names.lookup x=some .cell):∃ c,(cellsFrom n sc.names []).lookup x=some c:=by
 have q:=W.cellsFrom_some sc.names n [] (.inl h)
 exact Option.isSome_iff_exists.mp q
theorem zbr {CX:CXT} {P:Program} {w:World} {K:W.Frag} {mg:Str→Option Value} {base:Heap} {N ps:List Str} {qual:Str} {scope:Scope} {f:Addr} {cd:Value} {A:Around} {outer:List Env} {s s1:Shared} {H:Hp} {E:XK} {us:List Value} {vs:List V}
  (S:FnScope N ps scope) (hd:A.handled=none) (e0:Env0 P w K mg base A outer s H) (hl:vs.length=ps.length) (r:Vals vs us)
  (x:InCallC s s.heap.objs.size (bindL (envOfC qual scope s.heap.objs.size f cd).kindOf (ps.zip us) λ _=>none) (cellsFrom (s.heap.objs.size+1) scope.names []) (bindC (envOfC qual scope s.heap.objs.size f cd).kindOf (ps.zip us) λ _=>none) s1) :
  Inv (cxOf CX P w K mg base N qual scope f cd A outer s H E) [] (znp N vs) H s1:=by
 have hpl:ps.length≤N.length:=by have:=congrArg List.length S.pre;rw [List.length_take] at this;omega
 obtain ⟨h1,tk,rfl,hk⟩:=x.done
 have noA:∀ b:Addr,b∉(cxOf CX P w K mg base N qual scope f cd A outer s H E).ex:=λ b z=>absurd (show b∈([]:List Addr) from z) (by simp)
 refine ⟨⟨e0.mod,S.kind,rfl,rfl,Nat.le_refl _,λ y z c h1 h2=>?_,λ y hy=>?_,λ y c _ h=>?_,λ _=>hd,Around.frames_deeper e0.frames,.inr ⟨rfl,rfl⟩,λ b z=>absurd z (noA b),e0.bs,e0.bsz,λ b _ _=>noA b,λ b z=>absurd z (noA b),e0.funs,e0.frf⟩,
  rfl,e0.bare,Un.kept hk,⟨_,x.toInCall.ns,λ i y v h1 h2 h3=>?_⟩,λ y c h=>⟨_,x.cell y c h⟩,e0.hok.fresh (Nat.le_refl _),λ y c h=>?_,λ p hp=>absurd (show p∈([]:List (Addr×Obj)) from hp) (by simp),e0.hok.kept hk,?_⟩
 ·exact name_of_addr x.apart (PySem.mem_of_lookup h1) (PySem.mem_of_lookup h2)
 ·have hy:scope.names.lookup y=some .cell ∨ scope.names.lookup y=some .free:=hy
  rcases hy with hy | hy
  ·exact zxn hy
  ·exact absurd rfl (S.nofree _ (PySem.mem_of_lookup hy))
 ·exact Nat.le_of_lt (x.above y c (PySem.mem_of_lookup h))
 ·have hi:i<vs.length:=by
   unfold znp at h2
   by_cases hi:i<vs.length
   ·exact hi
   ·rw [List.getElem?_append_right (by simpa using hi)] at h2
    rw [List.getElem?_replicate] at h2
    split at h2 <;> cases h2
  have ha:vs[i]? = some v:=by
   unfold znp at h2
   rw [List.getElem?_append_left (by simpa using hi),List.getElem?_map] at h2
   cases e:vs[i]? with
   | none=>rw [e] at h2;cases h2
   | some a=>rw [e] at h2;cases h2;rfl
  obtain ⟨u,hu,rv⟩:=r.get ha
  have hp:ps[i]? = some y:=by
   rw [← S.pre,List.getElem?_take_of_lt (by omega)];exact h1
  have ndP:ps.Nodup:=by rw [← S.pre];exact S.nd.sublist (List.take_sublist _ _)
  refine ⟨u,rv,?_⟩
  rcases S.par y (List.mem_of_getElem? hp) with k | k
  ·exact .inl ⟨k,zkj ndP hp hu k⟩
  ·obtain ⟨c,e⟩:=zxn (n:=s.heap.objs.size+1) k
   refine .inr ⟨.inl k,c,e,?_⟩
   have q:=x.cell y c e
   rw [ztj ndP hp hu (by show scope.names.lookup y≠_;rw [k];decide)] at q
   exact q
 ·exact e0.hok.fresh (Nat.le_of_lt (x.above y c (PySem.mem_of_lookup h)))
 ·unfold znp
  show _=N.length
  rw [List.length_append,List.length_map,List.length_replicate]
  omega
theorem zz3 {CX:CXT} {P:Program} {w:World} {K:W.Frag} {mg:Str→Option Value} {base:Heap} {k:Nat} {f:Addr} {name qual:Str} {params:Arguments} {body:List Stmt} {scope:Scope} {dV kV doc pm cdv ct oc:Value} {an od:Option Addr}
  {osl:Array (Option Value)} {N ps:List Str} {sp:Sp} (lk:K.lookup f=some ⟨oc,od,.func (W.fnOf name qual params body scope dV kV doc pm an cdv ct),osl⟩) (hcd:W.codeIn K cdv qual=true) (S:FnScope N ps scope)
  (len:∀ vs H Q E,sp vs H Q E→vs.length=ps.length)
  (hbody:∀ (A:Around) (outer:List Env) (s:Shared) (H:Hp) (vs:List V) (Q:VK) (E:XK),Room k (A.deeper (envOfC qual scope s.heap.objs.size f cdv))→sp vs H Q E →
   ∃ t,PSs (cxOf CX P w K mg base N qual scope f cdv A outer s H E) body t∧t { nx:=λ _ H'=>Q .non H',rt:=Q } (znp N vs) H) :
  FnOk P w K mg base CX (k+1) f (W.fnOf name qual params body scope dV kV doc pm an cdv ct) ps sp:=by
 refine ⟨len,λ A outer s H args us vs Q E hr e0 hb r hsp=>?_⟩
 have hl:=len _ _ _ _ hsp
 have KX:K.In s.heap:=e0.mod.kin.keeps λ b o e=>(e0.bs b o e).1
 have lim:s.heap.NoLimit:=e0.mod.nolimit.keeps λ b o e=>(e0.bs b o e).1
 have hkind:∀ y∈ps.zip us,scope.names.lookup y.1=some .local ∨ (scope.names.lookup y.1=some .cell∧((cellsFrom (s.heap.objs.size+1) scope.names []).lookup y.1).isSome=true):=λ ⟨n,v⟩ hy=>by
  rcases S.par n (List.of_mem_zip hy).1 with q | q
  ·exact .inl q
  ·exact .inr ⟨q,W.cellsFrom_some _ _ _ (.inl q)⟩
 refine codeAny_call_function hr.depth (KX _ _ lk) rfl S.co S.gen rfl (W.codeRec_of KX hcd) (hb _ _ _ _ ?_)
 refine wpAny_newFunctionEnv_cells S.kind hkind λ env he s1 x=>?_
 subst he
 refine ⟨lim.keeps x.toInCall.keep,codeAny_func ?_⟩
 obtain ⟨t,ht,hq⟩:=hbody A outer s H vs Q E (hr.deeper _) hsp
 have I:Inv (cxOf CX P w K mg base N qual scope f cdv A outer s H E) [] (znp N vs) H s1:=zbr S hr.hd e0 hl r x
 refine wpAny_mono (ht [] s1 (znp N vs) H _ I hq) (λ fl s' hs=>?_) λ e s' hs=>hs
 have fin:∀ {σ':St} {H':Hp} {v:V} {u:Value},Inv (cxOf CX P w K mg base N qual scope f cdv A outer s H E) [] σ' H' s'→RelV v u→Q v H'→CE outer P w H s Q u s' :=
  fun {σ' H' v u} J rv q=>⟨v,H',J.os,J.bare,J.base,J.hok,rv,q⟩
 cases fl with
 | ret u =>
  obtain ⟨v,σ',H',J,rv,q⟩:=hs
  exact fin J rv q
 | next =>
  obtain ⟨σ',H',J,q⟩:=hs
  exact fin (v:=V.non) (u:=Value.none) J rfl q
 | brk =>
  obtain ⟨_,_,_,q⟩:=hs
  exact False.elim q
 | cont =>
  obtain ⟨_,_,_,q⟩:=hs
  exact False.elim q
end L2
namespace L2
open PySem PySem.Spec PyProof.Rows
section
variable {X:Cx} {x:Str} {p pos:Pos} {e:Expr} {es:List Expr} {t:TA} {id T:String} {r:List V→Hp→VK→Prop}
noncomputable def tCB (r:List V→Hp→VK→Prop) (t:TA):TE:=λ σ H Q=>t σ H λ vs H1=>r vs H1 Q
theorem zya (hc:zrj X (.builtin id) r) (hg:Gl X x) (hm:X.mg x=none) (hv:bootBuiltins x=some (.builtin id)) (ha:PA X (e::es) t) (hn:x ≠ "__name__" := by decide) (hdb:(x == ("__debug__" : Str))=false:=by decide)
  (he:starEach (e::es) X.env=(false,eval e X.env)::starEach es X.env:=by rfl) (hpl:(backTo pos (starEach es X.env)).any (·.1)=false:=by rfl):PE X (.Call (.Name x p) (e::es) [] pos) (tCB r t) := .mk <| by
 intro pins s σ H Q I h
 refine wpAny_Call_Name_kw (zdp I hg hm hv ?_ hn hdb)
 exact PyProof.Rows.callWith_builtin1 (thn (ha pos pins s σ H _ I h) λ us s1 ⟨vs,H1,I1,r1,q1⟩=>hc pins s1 σ H1 vs us Q I1 r1 q1) he hpl
theorem zzb (hc:zrj X (.type T) r) (hg:Gl X x) (hm:X.mg x=none) (hv:bootBuiltins x=some (.type T)) (ha:PA X (e::es) t) (hn:x ≠ "__name__" := by decide) (hdb:(x == ("__debug__" : Str))=false:=by decide)
  (he:starEach (e::es) X.env=(false,eval e X.env)::starEach es X.env:=by rfl) (hpl:(backTo pos (starEach es X.env)).any (·.1)=false:=by rfl):PE X (.Call (.Name x p) (e::es) [] pos) (tCB r t) := .mk <| by
 intro pins s σ H Q I h
 refine wpAny_Call_Name_kw (zdp I hg hm hv ?_ hn hdb)
 exact PyProof.Rows.callWith_type1 (thn (ha pos pins s σ H _ I h) λ us s1 ⟨vs,H1,I1,r1,q1⟩=>hc pins s1 σ H1 vs us Q I1 r1 q1) he hpl
end
end L2
namespace HT
open PySem PyProof.Rows
section
open PySem.SeqAt
open PySem.AutoSeq1 (wpAny_loadPart')
open PySem.MeetsSeq PySem.MeetsSeq2 PySem.MeetsSeq3
end
section
variable {prog:Program} {w:World} {A:Around} {E:Value→Shared→Prop} {s:Shared}
noncomputable def sIx (n d:Nat):Option Int→Nat
 | none=>d
 | some v=>if v<0 then (v+(n:Int)).toNat else min v.toNat n
theorem sIx_none (n d:Nat):sIx n d none=d:=rfl
theorem sIx_nat (n d k:Nat):sIx n d (some (k:Int))=min k n:=by
 show (if (k:Int)<0 then ((k:Int)+(n:Int)).toNat else min (k:Int).toNat n)=min k n
 rw [if_neg (by omega),Int.toNat_natCast]
theorem zd0 (n d:Nat) (hd:d≤n) (o:Option Int):sIx n d o≤n:=by
 cases o with
 | none=>exact hd
 | some v =>
  show (if v<0 then (v+(n:Int)).toNat else min v.toNat n)≤n
  by_cases hv:v<0
  ·rw [if_pos hv];omega
  ·rw [if_neg hv];exact Nat.min_le_right _ _
theorem zvs (v:Int) (n d:Nat):(if v<0 then max (v+(n:Int)) 0 else min v (n:Int))=((sIx n d (some v):Nat):Int):=by
 show (if v<0 then max (v+(n:Int)) 0 else min v (n:Int))=(((if v<0 then (v+(n:Int)).toNat else min v.toNat n):Nat):Int)
 by_cases hv:v<0
 ·simp only [if_pos hv];omega
 ·simp only [if_neg hv];omega
theorem zvl (lo hi:Option Int) (n:Nat):Builtin.Slice.sliceAdjust lo hi 1 (n:Int)=(((sIx n 0 lo:Nat):Int),((sIx n n hi:Nat):Int)):=by
 have h1:¬ ((1:Int)<0):=by omega
 unfold Builtin.Slice.sliceAdjust
 simp only [h1,if_false]
 refine Prod.ext ?_ ?_
 ·cases lo with
  | none=>rfl
  | some v=>exact zvs v n 0
 ·cases hi with
  | none=>rfl
  | some v=>exact zvs v n n
theorem zfl (i j:Nat):Builtin.Slice.slicePlaces (i:Int) (j:Int) 1=j - i:=by
 unfold Builtin.Slice.slicePlaces
 have h1:(1:Int) > 0:=by omega
 simp only [h1,if_true,Int.ediv_one]
 split <;> omega
theorem zgh {v:Value} {o:Option Int} {Q:Option Int→Shared→Prop} (p:IsPart v o) (h:Q o s):wpAny (model prog w) A (Builtin.Slice.slicePartIndex v) Q E s:=by
 cases p with
 | none=>exact slicePart_none h
 | int i t=>exact slicePart_int h
theorem zic {sl:Addr} {vl vu:Value} {lo hi:Option Int} {n:Nat} {Q:Int×Int×Nat→Shared→Prop} (hs:s.heap.IsSliceOf sl vl vu .none) (pl:IsPart vl lo) (pu:IsPart vu hi)
  (h:Q (((sIx n 0 lo:Nat):Int),1,sIx n n hi - sIx n 0 lo) s):wpAny (model prog w) A (Builtin.Slice.sliceApplied (.ref sl) (pure (n:Int))) Q E s:=by
 obtain ⟨os,hos,hcs,hds⟩:=id hs
 unfold Builtin.Slice.sliceApplied Builtin.Slice.sliceFields
 refine wpAny_bind (wpAny_bind (wpAny_field hos hds (x:=vl) rfl (wpAny_bind (wpAny_field hos hds (x:=vu) rfl (wpAny_bind (wpAny_field hos hds (x := .none) rfl (wpAny_pure ?_)))))))
 refine wpAny_bind (slicePart_none ?_)
 show wpAny _ _ (if ((1:Int) == 0)=true then _ else _) _ _ s
 rw [if_neg (by decide)]
 refine wpAny_bind (zgh pl (wpAny_bind (zgh pu (wpAny_bind (wpAny_pure ?_)))))
 show wpAny _ _ (match Builtin.Slice.sliceAdjust lo hi 1 (n:Int) with | (lo,hi)=>pure (lo,(1:Int),Builtin.Slice.slicePlaces lo hi 1)) _ _ s
 rw [zvl lo hi n]
 show wpAny _ _ (pure (((sIx n 0 lo:Nat):Int),(1:Int),Builtin.Slice.slicePlaces ((sIx n 0 lo:Nat):Int) ((sIx n n hi:Nat):Int) 1)) _ _ s
 rw [zfl]
 exact wpAny_pure h
theorem zit (xs:Array Value) (i k:Nat):((List.range k).filterMap λ (m:Nat)=>xs[((i:Int)+(m:Int) * 1).toNat]?).toArray=((xs.toList.drop i).take k).toArray:=by
 have e:(λ (m:Nat)=>xs[((i:Int)+(m:Int) * 1).toNat]?)=λ m=>xs[i+m]?:=by
  funext m
  have:((i:Int)+(m:Int) * 1).toNat=i+m:=by omega
  rw [this]
 rw [e]
 have:=pick_run xs i k
 rw [List.filterMap_map] at this
 have e2:((λ x=>xs[x]?) ∘ λ x=>i+x)=λ m=>xs[i+m]?:=rfl
 rw [e2] at this
 rw [this]
theorem getItem_tuple_cut {t sl:Addr} {items:Array Value} {vl vu:Value} {lo hi:Option Int} {Q:Value→Shared→Prop} (ht:IsTup s.heap t items) (hs:s.heap.IsSliceOf sl vl vu .none) (pl:IsPart vl lo) (pu:IsPart vu hi)
  (hw:¬ (sIx items.size 0 lo=0∧sIx items.size items.size hi=items.size))
  (h:Q (.ref s.heap.objs.size) { s with heap:=s.heap.push { cls := .type "tuple",data := .seq ((items.toList.drop (sIx items.size 0 lo)).take (sIx items.size items.size hi - sIx items.size 0 lo)).toArray } })
  (hsz:items.size≤sizeLine):wpAny (model prog w) A (getItem (.ref t) (.ref sl)) Q E s:=by
 have htake:sizeOk (.seq ((items.toList.drop (sIx items.size 0 lo)).take (sIx items.size items.size hi - sIx items.size 0 lo)).toArray):=by
  show ((items.toList.drop (sIx items.size 0 lo)).take (sIx items.size items.size hi - sIx items.size 0 lo)).toArray.size≤sizeLine
  rw [List.size_toArray,List.length_take,List.length_drop,Array.length_toList]
  omega
 have hj:sIx items.size items.size hi≤items.size:=zd0 _ _ (Nat.le_refl _) hi
 obtain ⟨os,hos,hcs,hds⟩:=id hs
 have hTs:s.TypeIs (.ref sl) "slice" := ⟨os,hos,hcs⟩
 unfold getItem
 try with_reducible refine wpAny_holding ?_
 first | refine wpAny_bind (wpAny_pure ?_) | skip
 refine wpAny_bind (wpAny_sequenceKey ht.typeIs (by decide) ?_)
 refine wpAny_bind (wpAny_callSpecial?_slot (name:=Str.ofString "__getitem__") ht.typeIs PyProof.Rows.slot_tuple_getitem
  (wpAny_call_entry PyProof.Rows.slot_tuple_getitem ht.typeIs entry_tuple_getitem ?_ (args_tuple_getitem _ _)))
 show wpAny _ _ (Builtin.Tuple.tupleItemsOf (.ref t) >>= _) _ _ s
 refine wpAny_bind (tupleItemsOf_ ht ?_)
 refine wpAny_bind (wpAny_typeOf hTs ?_)
 rw [if_pos (by decide)]
 refine wpAny_bind (zic hs pl pu ?_)
 have hno:¬ ((((sIx items.size 0 lo:Nat):Int) == 0 && (1:Int) == 1 && (sIx items.size items.size hi - sIx items.size 0 lo) == items.size)=true):=by
  intro q
  rw [Bool.and_eq_true,Bool.and_eq_true] at q
  have q1:((sIx items.size 0 lo:Nat):Int)=0:=eq_of_beq q.1.1
  have q2:sIx items.size items.size hi - sIx items.size 0 lo=items.size:=eq_of_beq q.2
  exact hw ⟨by omega,by omega⟩
 show wpAny _ _ (if (((sIx items.size 0 lo:Nat):Int) == 0 && (1:Int) == 1 && (sIx items.size items.size hi - sIx items.size 0 lo) == items.size)=true then _ else _) _ _ s
 rw [if_neg hno,zit]
 first
  | exact wpAny_bind (m:=Builtin.Tuple.tupleExact _) (wpAny_newObj_type (wpAny_pure ⟨_,rfl,wpAny_pure h⟩) htake)
  | exact wpAny_bind (m:=Builtin.Tuple.tupleExact _) (wpAny_newObj_type (wpAny_bind (wpAny_pure (wpAny_pure ⟨_,rfl,wpAny_pure h⟩))) htake)
  | exact wpAny_bind (wpAny_bind (m:=Builtin.Tuple.tupleExact _) (wpAny_newObj_type (wpAny_pure (wpAny_pure ⟨_,rfl,wpAny_pure h⟩)) htake))
  | exact wpAny_bind (wpAny_bind (m:=Builtin.Tuple.tupleExact _) (wpAny_newObj_type (wpAny_pure ⟨_,rfl,wpAny_pure h⟩) htake))
end
end HT
namespace L2
open PySem PySem.Spec PyProof.Rows
noncomputable abbrev TO:=St→Hp→(Option Int→Hp→Prop)→Prop
noncomputable def PO (X:Cx) (e:Option Expr) (t:TO):Prop :=
 ∀ (pins:List (Addr×Obj)) (s:Shared) (σ:St) (H:Hp) (Q:Option Int→Hp→Prop),Inv X pins σ H s→t σ H Q →
  wpAny (model X.prog X.w) X.A (evalPart e X.env) (λ u s'=>∃ o H',Inv X pins σ H' s'∧IsPart u o∧Q o H') X.xe s
noncomputable def zty:TO:=λ _ H Q=>Q none H
noncomputable def zi4 (t:TE):TO:=λ σ H Q=>t σ H λ x H1=>∃ i,x = .int i∧Q (some i) H1
section
variable {X:Cx} {e:Expr} {te:TE} {lo hi:Option Expr} {tl th:TO} {pos p2:Pos}
theorem zmf:PO X none zty:=by
 intro pins s σ H Q I h
 rw [evalPart_none]
 exact wpAny_pure ⟨none,H,I,.none,h⟩
theorem zqc (h:PE X e te):PO X (some e) (zi4 te):=by
 intro pins s σ H Q I hw
 rw [evalPart_some]
 refine thn (h pins s σ H _ I hw) λ u s1 ⟨x,H1,I1,r1,q1⟩=>?_
 obtain ⟨i,rfl,q⟩:=q1
 obtain ⟨t,rfl⟩:=r1
 exact ⟨some i,H1,I1,.int i t,q⟩
noncomputable def SlR (X:Cx) (r:V→Option Int→Option Int→Hp→VK→Prop):Prop :=
 ∀ (pins:List (Addr×Obj)) (s:Shared) (σ:St) (H:Hp) (x:V) (v vl vu:Value) (lo hi:Option Int) (sl:Addr) (Q:VK),Inv X pins σ H s→RelV x v→s.heap.IsSliceOf sl vl vu .none→IsPart vl lo→IsPart vu hi→r x lo hi H Q →
  ∃ T id,typeLookup (.type T) "__getitem__" = pure (some (.builtin id))∧s.TypeIs v T∧wpAny (model X.prog X.w) X.A (getItem v (.ref sl)) (EP X pins σ Q) X.xe s
noncomputable def tSl (r:V→Option Int→Option Int→Hp→VK→Prop) (te:TE) (tl th:TO):TE:=λ σ H Q=>te σ H λ x H1=>tl σ H1 λ l H2=>th σ H2 λ u H3=>r x l u H3 Q
theorem zlc {r:V→Option Int→Option Int→Hp→VK→Prop} (hr:SlR X r) (he:PE X e te) (hl:PO X lo tl) (hu:PO X hi th):PE X (.Subscript e (.Slice lo hi none p2) pos) (tSl r te tl th) := .mk <| by
 intro pins s σ H Q I h
 refine Subscript_ (thn (he pins s σ H _ I h) λ v s1 ⟨x,H1,I1,r1,q1⟩=>?_)
 refine wpAny_Slice (thn (hl pins s1 σ H1 _ I1 q1) λ vl s2 ⟨l,H2,I2,pl,q2⟩=>thn (hu pins s2 σ H2 _ I2 q2) λ vu s3 ⟨u,H3,I3,pu,q3⟩=>?_)
 rw [evalPart_none]
 refine wpAny_pure ?_
 have I4:Inv X pins σ H3 { s3 with heap:=s3.heap.push { cls := .type "slice",data := .fields #[vl,vu,.none] } }:=I3.kept (t':=s3.toks) λ b ob q=>Heap.get?_push_of_some _ q
 obtain ⟨T,id,hT,ht,hg⟩:=hr pins { s3 with heap:=s3.heap.push { cls := .type "slice",data := .fields #[vl,vu,.none] } } σ H3 x v vl vu l u s3.heap.objs.size Q I4 r1 (Heap.IsSliceOf.new ..) pl pu q3
 show wpAny (model X.prog X.w) X.A (subscriptTail e (.Slice lo hi none p2) v (.ref s3.heap.objs.size)) (EP X pins σ Q) X.xe { s3 with heap:=s3.heap.push { cls := .type "slice",data := .fields #[vl,vu,.none] } }
 exact tail_any (ops:=[.ref s3.heap.objs.size,v]) ht hT hg (by with_unfolding_all rfl)
noncomputable def cutV (xs:List V) (lo hi:Option Int):List V:=(xs.drop (HT.sIx xs.length 0 lo)).take (HT.sIx xs.length xs.length hi - HT.sIx xs.length 0 lo)
theorem ztf (xs:List V) (lo hi:Option Int):(cutV xs lo hi).length≤xs.length:=by
 unfold cutV
 rw [List.length_take,List.length_drop]
 omega
noncomputable def rSlT (K:W.Frag):V→Option Int→Option Int→Hp→VK→Prop:=λ x lo hi H Q=>∃ a xs,x = .ref a∧SqT K H a xs ∧
 ¬ (HT.sIx xs.length 0 lo=0∧HT.sIx xs.length xs.length hi=xs.length)∧∀ p,H p=none→Q (.ref p) (upd H p (.tup (cutV xs lo hi)))
theorem zf1:SlR X (rSlT X.K):=by
 intro pins s σ H x v vl vu lo hi sl Q I rx hs pl pu h
 obtain ⟨a,xs,rfl,hx,hw,q⟩:=h
 cases rx
 obtain ⟨its,r,ht,hz⟩:=I.tuple hx
 have hlen:its.toArray.size=xs.length:=by rw [List.size_toArray];exact r.length.symm
 refine ⟨"tuple",_,PyProof.Rows.slot_tuple_getitem.lookup,ht.typeIs,?_⟩
 refine HT.getItem_tuple_cut ht hs pl pu (by rw [hlen];exact hw) ?_ (by rw [hlen];exact hz)
 rw [hlen]
 refine ⟨.ref s.heap.objs.size,_,I.laid (t':=s.toks) (o := .tup (cutV xs lo hi)) (λ b ob q=>Heap.get?_push_of_some _ q) (Nat.le_refl _) ?_,rfl,q _ (I.hok.fresh (Nat.le_refl _))⟩
 exact ⟨Nat.le_trans (ztf xs lo hi) hz,_,(r.drop (HT.sIx xs.length 0 lo)).take (HT.sIx xs.length xs.length hi - HT.sIx xs.length 0 lo),IsTup.new _ _⟩
end
end L2
namespace L2
open PySem PySem.Spec PyProof.Rows
noncomputable def ixN (n:Nat) (i:Int):Option Nat:=if 0≤i then (if i<n then some i.toNat else none) else if -(n:Int)≤i then some (i+n).toNat else none
noncomputable def atI {α:Type} (xs:List α) (i:Int):Option α:=(ixN xs.length i).bind λ j=>xs[j]?
theorem ztx {n:Nat} {i:Int} {j:Nat} (h:ixN n i=some j):seqIndex? i n=some j∧j<n ∧ -(n:Int)≤i∧i<n:=by
 unfold ixN at h
 by_cases h0:0≤i
 ·rw [if_pos h0] at h
  by_cases h1:i<n
  ·rw [if_pos h1] at h
   have e:i.toNat=j:=Option.some.inj h
   exact ⟨by rw [seqIndex_of h0 h1,e],by omega,by omega,h1⟩
  ·rw [if_neg h1] at h;cases h
 ·rw [if_neg h0] at h
  by_cases h1 : -(n:Int)≤i
  ·rw [if_pos h1] at h
   have e:(i+n).toNat=j:=Option.some.inj h
   exact ⟨by rw [seqIndex_neg (by omega) h1,e],by omega,h1,by omega⟩
  ·rw [if_neg h1] at h;cases h
theorem zgl {α:Type} {xs:List α} {i:Int} {v:α} (h:atI xs i=some v):∃ j,seqIndex? i xs.length=some j∧xs[j]? = some v∧j<xs.length ∧ -(xs.length:Int)≤i∧i<xs.length:=by
 unfold atI at h
 cases e:ixN xs.length i with
 | none=>rw [e] at h;cases h
 | some j =>
  rw [e] at h
  obtain ⟨h1,h2,h3,h4⟩:=ztx e
  exact ⟨j,h1,h,h2,h3,h4⟩
theorem zlf {α:Type} {xs:List α} {j:Nat} {v:α} (h:xs[j]? = some v):atI xs (j:Int)=some v:=by
 have hj:j<xs.length:=(List.getElem?_eq_some_iff.mp h).1
 have e:ixN xs.length (j:Int)=some j:=by
  unfold ixN
  rw [if_pos (by omega),if_pos (by omega)];simp
 unfold atI;rw [e];exact h
noncomputable def zyy (b:Expr):Prop:=∀ o i,subscripted b false o i=operate [o,i] (getItem o i)
noncomputable def IxR (X:Cx) (r:R2):Prop :=
 ∀ (value slice:Expr) (pins:List (Addr×Obj)) (s:Shared) (σ:St) (H:Hp) (x y:V) (v u:Value) (Q:VK),Inv X pins σ H s→RelV x v→RelV y u→r x y H Q →
  subscripted slice false v u=operate [v,u] (getItem v u)→wpAny (model X.prog X.w) X.A (subscriptTail value slice v u) (EP X pins σ Q) X.xe s
noncomputable def MtR (X:Cx) (id:String) (r:V→List V→Hp→VK→Prop):Prop :=
 ∀ (pins:List (Addr×Obj)) (s:Shared) (σ:St) (H:Hp) (x:V) (xs:List V) (v:Value) (us:List Value) (Q:VK),Inv X pins σ H s→RelV x v→Vals xs us→r x xs H Q →
  wpAny (model X.prog X.w) X.A (call (.builtin id) (v::us)) (EP X pins σ Q) X.xe s
section
variable {X:Cx} {a b:Expr} {ta tb:TE} {pos:Pos}
theorem zsb {r:R2} (hr:IxR X r) (ha:PE X a ta) (hb:PE X b tb) (hs:zyy b):PE X (.Subscript a b pos) (tOp r ta tb) := .mk <| by
 intro pins s σ H Q I h
 exact Subscript_ (binT ha hb I h λ v u s2 x y H2 I2 rx ry q=>hr a b pins s2 σ H2 x y v u Q I2 rx ry q (hs _ _))
noncomputable def rIxL (K:W.Frag):R2:=λ x y H Q=>∃ p xs i v,x = .ref p∧y = .int i∧SqL K H p xs∧atI xs i=some v∧Q v H
noncomputable def rIxT (K:W.Frag):R2:=λ x y H Q=>∃ p xs i v,x = .ref p∧y = .int i∧SqT K H p xs∧atI xs i=some v∧Q v H
noncomputable def rIxS:R2:=λ x y H Q=>∃ z i c,x = .str z∧y = .int i∧z.length≤sizeLine∧atI z.cps.toList i=some c∧Q (.str ⟨#[c]⟩) H
theorem zma:IxR X (rIxL X.K):=by
 intro value slice pins s σ H x y v u Q I rx ry h hs
 obtain ⟨p,xs,i,z,rfl,rfl,hq,he,q⟩:=h
 cases rx
 obtain ⟨t,rfl⟩:=ry
 obtain ⟨its,r,pl,hz⟩:=I.list hq
 obtain ⟨j,h1,h2,h3,h4,h5⟩:=zgl he
 obtain ⟨w,ew,rw'⟩:=r.get h2
 have hl:=r.length
 have hn:=zwo
 have fin:EP X pins σ Q w s:=⟨z,H,I,rw',q⟩
 by_cases h0:0≤i
 ·have hj:i.toNat=j:=by
   rw [seqIndex_of h0 h5] at h1
   exact Option.some.inj h1
  exact item_listR pl.isList h0 (by omega) (by rw [hj];simpa using ew) fin hs
 ·have hj:(i+(its.toArray.size:Int)).toNat=j:=by
   rw [seqIndex_neg (by omega) h4] at h1
   rw [List.size_toArray,← hl]
   exact Option.some.inj h1
  exact subscriptTail_builtinR (x:=w) pl.isList.typeIs slot_list_getitem.lookup
   (wpAny_getItem_list_neg (Q:=λ r s'=>r=w∧EP X pins σ Q r s') pl.isList (by omega) (by rw [List.size_toArray] <;> omega) (by omega) (by rw [hj];simpa using ew) ⟨rfl,fin⟩) hs
theorem zmq:IxR X (rIxT X.K):=by
 intro value slice pins s σ H x y v u Q I rx ry h hs
 obtain ⟨p,xs,i,z,rfl,rfl,hq,he,q⟩:=h
 cases rx
 obtain ⟨t,rfl⟩:=ry
 obtain ⟨its,r,pl,hz⟩:=I.tuple hq
 obtain ⟨j,h1,h2,h3,h4,h5⟩:=zgl he
 obtain ⟨w,ew,rw'⟩:=r.get h2
 have hl:=r.length
 have hn:=zwo
 have fin:EP X pins σ Q w s:=⟨z,H,I,rw',q⟩
 exact subscriptTail_builtinR (x:=w) pl.typeIs slot_tuple_getitem.lookup
  (getItem_tuple (j:=j) (Q:=λ r s'=>r=w∧EP X pins σ Q r s') pl (by omega) (by omega) (by rw [List.size_toArray,← hl];exact h1) (by simpa using ew) ⟨rfl,fin⟩) hs
theorem zf2:IxR X rIxS:=by
 intro value slice pins s σ H x y v u Q I rx ry h hs
 obtain ⟨z,i,c,rfl,rfl,hz,he,q⟩:=h
 obtain ⟨t,rfl⟩:=rx
 obtain ⟨t',rfl⟩:=ry
 obtain ⟨j,h1,h2,h3,h4,h5⟩:=zgl he
 have hl:z.cps.toList.length=z.length:=by simp [Str.length]
 rw [hl] at h1 h4 h5
 have hn:=zwo
 exact tail_any (typeIs_str s z t) slot_str_getitem.lookup (getItem_str (c:=c) (by
  have e1:decide (i < -(2 ^ 63:Int))=false:=decide_eq_false (by omega)
  have e2:decide (i ≥ 2 ^ 63)=false:=decide_eq_false (by omega)
  rw [e1,e2,Bool.or_false]) (by rw [h1];simpa using h2) ⟨.str ⟨#[c]⟩,H,I.tok _,⟨_,rfl⟩,q⟩) hs
theorem zpi (lo hi:Option Int) (n:Nat):(sliceBounds lo hi none n).1=((HT.sIx n 0 lo:Nat):Int)∧(sliceBounds lo hi none n).2.1=((HT.sIx n n hi:Nat):Int)∧(sliceBounds lo hi none n).2.2=1:=by
 refine ⟨?_,?_,rfl⟩
 ·cases lo with
  | none=>simp [sliceBounds,HT.sIx]
  | some i =>
   simp only [sliceBounds,HT.sIx,Option.getD_none,show (1:Int) > 0 by decide,if_true]
   by_cases h:i<0
   ·simp only [h,if_true] <;> omega
   ·simp only [h,if_false] <;> omega
 ·cases hi with
  | none=>simp [sliceBounds,HT.sIx]
  | some i =>
   simp only [sliceBounds,HT.sIx,Option.getD_none,show (1:Int) > 0 by decide,if_true]
   by_cases h:i<0
   ·simp only [h,if_true] <;> omega
   ·simp only [h,if_false] <;> omega
theorem zbh (its:List Value) (lo hi:Option Int):slicePick its.toArray lo hi none=((its.drop (HT.sIx its.length 0 lo)).take (HT.sIx its.length its.length hi - HT.sIx its.length 0 lo)).toArray:=by
 obtain ⟨h1,h2,h3⟩:=zpi lo hi its.toArray.size
 unfold slicePick
 rw [h1,h2,h3]
 simp only [sliceRange_one,pick_run,List.size_toArray] <;> rfl
noncomputable def rSlL (K:W.Frag):V→Option Int→Option Int→Hp→VK→Prop:=λ x lo hi H Q=>∃ a xs,x = .ref a∧SqL K H a xs∧∀ p,H p=none→Q (.ref p) (upd H p (.lst (cutV xs lo hi)))
theorem zph:SlR X (rSlL X.K):=by
 intro pins s σ H x v vl vu lo hi sl Q I rx hs pl pu h
 obtain ⟨a,xs,rfl,hx,q⟩:=h
 cases rx
 obtain ⟨its,r,ht,hz⟩:=I.list hx
 have hlen:=r.length
 refine ⟨"list",_,slot_list_getitem.lookup,ht.isList.typeIs,?_⟩
 refine wpAny_getItem_list_slice ht.isList hs pl pu .none (by simp) ?_ (by rw [List.size_toArray] <;> omega)
 rw [zbh,← hlen]
 refine ⟨.ref s.heap.objs.size,_,I.laid (t':=s.toks) (o := .lst (cutV xs lo hi)) (λ b ob q=>Heap.get?_push_of_some _ q) (Nat.le_refl _) ?_,rfl,q _ (I.hok.fresh (Nat.le_refl _))⟩
 exact ⟨Nat.le_trans (ztf xs lo hi) hz,_,0,(r.drop (HT.sIx xs.length 0 lo)).take (HT.sIx xs.length xs.length hi - HT.sIx xs.length 0 lo),Heap.get?_push_size _ rfl⟩
theorem zac:zrj X (.builtin "len") (λ xs H Q=>∃ p ys,xs=[.ref p]∧(SqL X.K H p ys ∨ SqT X.K H p ys)∧Q (.int ys.length) H):=by
 intro pins s σ H xs us Q I r h
 obtain ⟨p,ys,rfl,hq,q⟩:=h
 obtain ⟨u,rfl,rx⟩:=zno r
 cases rx
 have hn:=zwo
 rcases hq with hq | hq
 ·obtain ⟨its,r',pl,hz⟩:=I.list hq
  have hlen:=r'.length
  exact Calls.call_len_list pl.isList (by simp only [List.size_toArray] <;> omega) ⟨.int ys.length,H,I.tok _,⟨s.toks+1,by rw [List.size_toArray,hlen]⟩,q⟩
 ·obtain ⟨its,r',pl,hz⟩:=I.tuple hq
  have hlen:=r'.length
  exact len_tuple pl (by simp only [List.size_toArray] <;> omega) ⟨.int ys.length,H,I.tok _,⟨s.toks+1,by rw [List.size_toArray,hlen]⟩,q⟩
theorem zxh:zrj X (.type "tuple") (λ xs H Q=>∃ p ys,xs=[.ref p]∧((SqL X.K H p ys∧∀ l,H l=none→Q (.ref l) (upd H l (.tup ys))) ∨ (SqT X.K H p ys∧Q (.ref p) H))):=by
 intro pins s σ H xs us Q I r h
 obtain ⟨p,ys,rfl,h⟩:=h
 obtain ⟨u,rfl,rx⟩:=zno r
 cases rx
 rcases h with ⟨hq,q⟩ | ⟨hq,q⟩
 ·obtain ⟨its,r',pl,hz⟩:=I.list hq
  have hlen:=r'.length
  refine call_tuple_list pl.isList (λ h' kp=>?_) (by simp only [List.size_toArray] <;> omega)
  have I1:Inv X pins σ H { s with heap:=h' }:=I.kept (t':=s.toks) kp
  have I2:Inv X pins σ (upd H h'.objs.size (.tup ys)) { s with heap:=h'.push { cls := .type "tuple",data := .seq its.toArray } } :=
   I1.laid (t':=s.toks) (λ b o e=>Heap.get?_push_of_some _ e) (Nat.le_refl _) (show ObjOk X.prog X.w _ _ _ (.tup ys) from ⟨hz,its,r',IsTup.new _ _⟩)
  exact ⟨.ref h'.objs.size,_,I2,rfl,q _ (I1.hok.fresh (Nat.le_refl _))⟩
 ·obtain ⟨its,r',pl,hz⟩:=I.tuple hq
  exact call_tuple_same pl ⟨.ref p,H,I,rfl,q⟩
noncomputable def tyV (K:W.Frag) (T:String) (x:V) (H:Hp):Prop:=match x with
 | .str _=>T = "str"
 | .int _=>T = "int"
 | .ref p=>(T = "list" ∧ ∃ xs,SqL K H p xs) ∨ (T = "tuple" ∧ ∃ o,K.lookup p=some o∧o.cls = .type "tuple" ∧ o.dict=none) ∨
   (T = "dict" ∧ ((∃ kvs,H p=some (.dK kvs)) ∨ ∃ kvs,H p=some (.dT kvs))) ∨ (T = "set" ∧ ∃ S n,H p=some (.set S n))
 | _=>False
theorem zux {pins:List (Addr×Obj)} {σ:St} {H:Hp} {s:Shared} {T:String} {x:V} {v:Value} (I:Inv X pins σ H s) (r:RelV x v) (ty:tyV X.K T x H) :
  s.TypeIs v T∧∀ a,v = .ref a→∃ ob,s.heap.get? a=some ob∧ob.dict=none:=by
 cases x with
 | str z =>
  obtain ⟨t,rfl⟩:=r
  cases (show T = "str" from ty)
  exact ⟨typeIs_str s z t,λ _ e=>nomatch e⟩
 | int i =>
  obtain ⟨t,rfl⟩:=r
  cases (show T = "int" from ty)
  exact ⟨typeIs_int s i t,λ _ e=>nomatch e⟩
 | ref p =>
  cases r
  rcases ty with ⟨rfl,xs,hq⟩ | ⟨rfl,o,hk,hc,hd⟩ | ⟨rfl,hk⟩ | ⟨rfl,S,n,hk⟩
  ·obtain ⟨its,_,pl,_⟩:=I.list hq
   refine ⟨pl.isList.typeIs,λ a e=>?_⟩
   cases e
   obtain ⟨o,n,e,c,hd,_⟩:=pl
   exact ⟨o,e,hd⟩
  ·refine ⟨⟨o,I.kIn p o hk,hc⟩,λ a e=>?_⟩
   cases e
   exact ⟨o,I.kIn _ o hk,hd⟩
  ·have z:∃ o,s.heap.get? p=some o∧o.ExactDict:=by
    rcases hk with ⟨kvs,hk⟩ | ⟨kvs,hk⟩
    ·obtain ⟨_,_,_,_,o,_,_,e,ex,_⟩:=I.hok p _ hk
     exact ⟨o,e,ex⟩
    ·obtain ⟨_,_,_,_,o,_,_,e,ex,_⟩:=I.hok p _ hk
     exact ⟨o,e,ex⟩
   obtain ⟨o,e,ex⟩:=z
   refine ⟨⟨o,e,ex.1⟩,λ a e2=>?_⟩
   cases e2
   exact ⟨o,e,ex.2.1⟩
  ·obtain ⟨o,_,_,_,e,ex,_⟩:=I.hok p _ hk
   refine ⟨⟨o,e,ex.1⟩,λ a e2=>?_⟩
   cases e2
   exact ⟨o,e,ex.2.1⟩
 | _=>exact False.elim ty
noncomputable def tBM0 (K:W.Frag) (T:String) (r:V→List V→Hp→VK→Prop) (to:TE):TE:=λ σ H Q=>to σ H λ x H1=>tyV K T x H1∧r x [] H1 Q
noncomputable def tBM (K:W.Frag) (T:String) (r:V→List V→Hp→VK→Prop) (to:TE) (t:TA):TE:=λ σ H Q=>to σ H λ x H1=>tyV K T x H1∧t σ H1 λ xs H2=>r x xs H2 Q
variable {o e:Expr} {es:List Expr} {to:TE} {t:TA} {name:Str} {apos cpos:Pos} {T id:String} {r:V→List V→Hp→VK→Prop}
theorem ze0 (pa:PlainAttrs T) (slot:Slot T name id) (hty:typeOf (.builtin id)=pure (.type "method_descriptor")) (hm:MtR X id r) (ho:PE X o to)
  (hbase:attributeBase o name X.env (eval o X.env)=eval o X.env:=by rfl) (hline:(apos.endLine == cpos.line)=true:=by rfl):PE X (.Call (.Attribute o name apos) [] [] cpos) (tBM0 X.K T r to) := .mk <| by
 intro pins s σ H Q I h
 refine wpAny_Call_method0_late hbase hline (thn (ho pins s σ H _ I h) λ v s1 ⟨x,H1,I1,r1,ty,q1⟩=>?_)
 obtain ⟨h1,h2⟩:=zux I1 r1 ty
 exact ⟨T,id,pa,slot,hty,h1,h2,Calls.callWith_builtin rfl (PySem.evalArgs_none (hm pins s1 σ H1 x [] v [] Q I1 r1 .nil q1))⟩
theorem zkr (pa:PlainAttrs T) (slot:Slot T name id) (hty:typeOf (.builtin id)=pure (.type "method_descriptor")) (hm:MtR X id r) (ho:PE X o to) (ha:PA X (e::es) t)
  (hbase:attributeBase o name X.env (eval o X.env)=eval o X.env:=by rfl)
  (hfew:((backTo cpos (starEach (e::es) X.env)).all (λ x => !x.1) && (backToKw cpos (keywordEach [] X.env)).all (λ x=>x.1.isSome)
   && decide ((e::es).length+([]:List Keyword).length+(if ([]:List Keyword).isEmpty then 0 else 1)<30))=true:=by rfl)
  (hline:(apos.endLine == cpos.line)=true:=by rfl) (hs:starEach (e::es) X.env=(false,eval e X.env)::starEach es X.env:=by rfl) (hplain:(backTo cpos (starEach es X.env)).any (·.1)=false:=by rfl) :
  PE X (.Call (.Attribute o name apos) (e::es) [] cpos) (tBM X.K T r to t) := .mk <| by
 intro pins s σ H Q I h
 refine wpAny_Call_method_late hbase hfew hline rfl (thn (ho pins s σ H _ I h) λ v s1 ⟨x,H1,I1,r1,ty,q1⟩=>?_)
 obtain ⟨h1,h2⟩:=zux I1 r1 ty
 refine ⟨T,id,pa,slot,hty,h1,h2,?_⟩
 have hA:=ha cpos pins s1 σ H1 _ I1 q1
 rw [hs] at hA ⊢
 refine Calls.callWith_builtin (by show (false || (backTo cpos (starEach es X.env)).any (·.1))=false;rw [hplain] <;> rfl) (Calls.evalArgs_plain ?_)
 exact thn hA λ us s2 ⟨vs,H2,I2,r2,q2⟩=>hm pins s2 σ H2 x vs v us Q I2 r1 r2 q2
/- xs.append(e),list.index on a module's tuple .. are MtR facts of 06m -/
end
end L2
namespace L2
open PySem PySem.Spec PyProof.Rows
noncomputable def MtM (X:Cx) (id:String) (r:V→List V→Hp→VK→Prop):Prop :=
 ∀ (pins:List (Addr×Obj)) (s:Shared) (σ:St) (H:Hp) (x:V) (xs:List V) (v:Value) (us:List Value) (Q:VK),Inv X pins σ H s→RelV x v→Vals xs us→r x xs H Q →
  wpAny (model X.prog X.w) X.A (call (.builtin id) (v::us)) (EP X pins σ Q) X.xe s
theorem Vals.one:∀ {x:V} {us:List Value},Vals [x] us→∃ u,us=[u]∧RelV x u
 | _,_,.cons r .nil=>⟨_,rfl,r⟩
theorem Vals.zero:∀ {us:List Value},Vals [] us→us=[]
 | _,.nil=>rfl
section
variable {X:Cx} {pins:List (Addr×Obj)} {σ:St} {H:Hp} {s:Shared} {l b:Addr} {xs ys zs:List V}
theorem Inv.lset {its its':List Value} {n:Nat} {f:Array Value→Array Value} {t':Nat} (I:Inv X pins σ H s) (hH:H l=some (.lst xs))
  (e:s.heap.get? l=some { cls := .type "list",data := .seq its.toArray n }) (hf:f its.toArray=its'.toArray) (hv:Vals ys its') (hz:ys.length≤sizeLine) :
  Inv X pins σ (upd H l (.lst ys)) { s with heap:=s.heap.update l (Obj.mapSeq f),toks:=t' }:=by
 have q:=PySem.IsL.update e f
 rw [hf] at q
 refine I.write (x:=l) (e:=l) (by rw [hH];exact trivial) (.inl rfl) (λ b' u hb hu=>(Heap.get?_update_other s.heap (Obj.mapSeq f) (Ne.symm hb)).trans hu) ⟨_,q⟩ ?_
 exact ⟨hz,its',_,hv,q⟩
theorem Inv.lnew {its:List Value} {t':Nat} (I:Inv X pins σ H s) (hv:Vals ys its) (hz:ys.length≤sizeLine) :
  Inv X pins σ (upd H s.heap.objs.size (.lst ys)) { s with heap:=s.heap.push { cls := .type "list",data := .seq its.toArray },toks:=t' } :=
 I.laid (λ _ _ q=>Heap.get?_push_of_some _ q) (Nat.le_refl _) ⟨hz,its,0,hv,Heap.get?_push_size _ rfl⟩
theorem Inv.fresh (I:Inv X pins σ H s):H s.heap.objs.size=none:=I.hok.fresh (Nat.le_refl _)
theorem Inv.lstM (I:Inv X pins σ H s) (hH:H l=some (.lst xs)):xs.length≤sizeLine∧∃ (its:List Value) (n:Nat),Vals xs its∧xs.length=its.length∧s.heap.get? l=some { cls := .type "list",data := .seq its.toArray n }:=by
 obtain ⟨z,its,n,r,e⟩:=I.hok l _ hH
 exact ⟨z,its,n,r,r.length,e⟩
end
section
variable {X:Cx}
noncomputable def zxy:V→List V→Hp→VK→Prop:=λ x vs H Q=>∃ l xs y,x = .ref l∧vs=[y]∧H l=some (.lst xs)∧xs.length<sizeLine∧Q .non (upd H l (.lst (xs++[y])))
theorem zjb:MtM X "list.append" zxy:=by
 intro pins s σ H x vs v us Q I rx rv h
 obtain ⟨l,xs,y,rfl,rfl,hH,hz,q⟩:=h
 cases rx
 obtain ⟨u,rfl,ru⟩:=rv.one
 obtain ⟨z,its,n,r,hl,e⟩:=I.lstM hH
 refine call_meets F.slot_list_append ⟨_,e,rfl⟩ F.entry_list_append (F.args_list_append_2 _ _) (PySem.list_append l its.toArray n u (by rw [List.size_toArray];omega)) ⟨e,?_⟩
 refine ⟨.non,_,I.lset (its':=its++[u]) hH e (by simp) (r.append (.cons ru .nil)) ?_,rfl,q⟩
 rw [List.length_append,List.length_singleton]
 omega
noncomputable def rCat:R2:=λ x y H Q=>∃ l b xs zs,x = .ref l∧y = .ref b∧H l=some (.lst xs)∧H b=some (.lst zs)∧xs.length+zs.length≤sizeLine∧∀ p,H p=none→Q (.ref p) (upd H p (.lst (xs++zs)))
theorem zsl:OpR X (binaryOp .Add) rCat:=by
 intro pins s σ H x y v u Q I rx ry h
 obtain ⟨l,b,xs,zs,rfl,rfl,hH,hB,hz,q⟩:=h
 cases rx
 cases ry
 obtain ⟨z,its,n,r,hl,e⟩:=I.lstM hH
 obtain ⟨z2,its2,n2,r2,hl2,e2⟩:=I.lstM hB
 refine PySem.P.add_list e e2 ?_ (by rw [List.size_toArray,List.size_toArray];omega)
 have ea:its.toArray++its2.toArray=(its++its2).toArray:=by simp
 rw [ea]
 exact ⟨.ref _,_,I.lnew (t':=s.toks) (r.append r2) (by rw [List.length_append];omega),rfl,q _ I.fresh⟩
end
section
variable {prog:Program} {w:World} {A:Around} {E:Value→Shared→Prop} {s:Shared}
end
section
variable {X:Cx}
end
end L2
namespace Att
open PySem PySem.W PySem.Calls PyProof.Rows
theorem zhf {P:Params} {h:Heap}:∀ (ns:List Int) (vs:List Value),WellAll P h vs (ns.map WData.int)→IntsAre vs ns:=by
 intro ns
 induction ns with
 | nil =>
  intro vs w
  rw [List.map_nil] at w
  cases w
  exact .nil
 | cons n ns ih =>
  intro vs w
  rw [List.map_cons] at w
  cases w with
  | cons a b =>
   cases a
   exact .cons _ _ (ih _ b)
theorem zwp {l:OpenLaw} {n:Nat} (hn:l.most=some n) {P:Params} {h:Heap} {args:List WData} {vals:List Value}
  (hpre:l.row.toRowW.claim.pre args=true) (hwl:WellAll P h vals args) :
  ∃ a vs ns,vals=[Value.ref a]∧args=[WData.list (ns.map WData.int)]∧h.get? a=some { cls := .type "list",data := .seq vs.toArray }∧IntsAre vs ns∧ns.length≤n:=by
 have hsh:WShape.hasAll [] args [.list .int]=true:=(pre_splitW hpre).1
 have hc:l.pre.holds [] { args:=args }=true:=(pre_splitW hpre).2
 obtain ⟨d,r,rfl,h1,h2⟩:=hasAllW_cons hsh
 obtain rfl:=hasAllW_nil h2
 obtain ⟨xs,rfl,h3⟩:=hasW_list h1
 obtain ⟨ns,rfl⟩:=items_int h3
 have hlen:ns.length≤n:=by
  unfold OpenLaw.pre at hc
  have h4:(WTm.not (.lt (.lit (.int (n:Int))) (.len (.arg 0)))).holds [] { args:=[.list (ns.map .int)] }=true:=by
   have h4:=(holds_andW hc).1
   rw [hn] at h4
   exact h4
  have h5:=condW_of h4 (w_not (w_lt w_lit (w_len_list (w_arg rfl))))
  rw [List.length_map] at h5
  refine Nat.le_of_not_lt λ q=>?_
  have q':(n:Int)<((ns.length:Nat):Int):=by omega
  first
   | (rw [decide_eq_true q'] at h5;exact absurd h5 (by decide))
   | (simp at h5;omega)
 cases hwl with
 | cons w1 w2 =>
  cases w2
  cases w1 with
  | list ho hall=>exact ⟨_,_,ns,rfl,rfl,ho,zhf ns _ hall,hlen⟩
theorem zer (l:OpenLaw) (args:List WData):l.row.toRowW.claim.post args (.bool true) args=true :=
 postW_of (r:=l.row.toRowW) (X:=(true == true))
  (show WShape.has [] (.bool true) .bool=true by first | rfl | decide | simp [WShape.has,WShape.arms,WShape.armsAll])
  (show (WTm.eq .res (.lit (.bool true))).value [] { args:=args,res:=some (.bool true),after:=args }=some (.bool (true == true)) from w_eq_bool (w_res rfl) w_lit) rfl
theorem attach_call {l:OpenLaw} {n:Nat} {q:Program} {loose:List Str} {XP:(Str→Option Value)→Heap→Prop} {YP:World→Heap→Prop} {d:DefRec}
  (hn:l.most=some n) (hdf:d.params.defaults=[])
  (call:∀ (w:World) (s₀ s₁:Shared) (mg mb:Str→Option Value) (fa:Addr) (o:Obj) (pm cd doc:Value) (a:Addr) (vs:List Value) (ns:List Int),
   Ground q loose [] XP w s₀ mg mb s₁.heap→YP w s₁.heap →
   s₁.heap.get? fa=some o→o.data = .func (docDef d.name d.params d.body d.scope pm cd doc)→s₁.heap.CodeRec cd d.name→mg d.name=some (.ref fa) →
   s₁.heap.get? a=some { cls := .type "list",data := .seq vs.toArray }→IntsAre vs ns→ns.length≤n→s₁.gens = #[] →
   codeAny (model l.prog w) callerA (.call (.ref fa) ⟨[.ref a],[]⟩) (λ r s'=>r = .ok (.ret (.bool true))∧OldK s₁.heap s'.heap∧s'.os=s₁.os∧AllBare s'.gens) s₁) :
  WalkO q loose XP YP l.row.toRowW d [] (λ f vs=>PySem.call f vs):=by
 intro w s₀ s₁ mg mb G Y fa o pm cd doc dV kV ho hd hcd hD hmg hg args vals as hpre hlay hrd hwl hlo
 obtain rfl:dV = .none:=Dflts.none hD hdf
 obtain rfl:kV = .none:=Dflts.noKw hD
 obtain ⟨a,vs,ns,rfl,rfl,hobj,hints,hlen⟩:=zwp hn hpre hwl
 refine enter_call (codeAny_mono (call w s₀ s₁ mg mb fa o pm cd doc a vs ns G Y ho (fd_plain hd) hcd hmg hobj hints hlen hg) λ r s' hq=>?_)
 obtain ⟨rfl,h2,h3,h4⟩:=hq
 exact ⟨.inl ⟨.bool true,.bool true,[],rfl,λ _=>rfl,.bool true,zer l _,λ _=>⟨List.Pairwise.nil,λ _ hm=>(nomatch hm)⟩⟩,h2,h3,h4⟩
section
variable {prog:Program} {w:World} {A:Around} {E:Value→Shared→Prop} {s:Shared} {K:Frag}
end
end Att
namespace L2
open PySem PySem.Spec PyProof.Rows
theorem zwj:∀ {vs:List Value} {ns:List Int},IntsAre vs ns→Vals (ns.map V.int) vs
 | _,_,.nil=>.nil
 | _,_,.cons n t h=>.cons ⟨t,rfl⟩ (zwj h)
noncomputable def Only (H:Hp):Prop:=∀ b,H b=none ∨ ∃ o xs,H b=some (.frz o (.lst xs))
theorem zat {P:Program} {w:World} {K:W.Frag} {mg mb:Str→Option Value} {CX:CXT} {k:Nat} {fa a:Addr} {fd:FuncData} {x:Str} {sp:Sp} {s₁:Shared} {vs:List Value} {ns:List Int}
  (KX:K.In s₁.heap) (hns:s₁.heap.Ns mainGlobals mg) (hb:s₁.heap.Ns builtinsNs mb) (hbb:∀ x:Str,x ≠ "__name__" → mb x=bootBuiltins x) (hlim:s₁.heap.NoLimit) (hg:s₁.gens = #[])
  (ha:s₁.heap.get? a=some { cls := .type "list",data := .seq vs.toArray }) (hi:IntsAre vs ns) (hl:ns.length≤sizeLine) (hr:Room k callerA)
  (F:∀ base:Heap,K.In base→base.Ns mainGlobals mg→FnOk P w K mg base CX k fa fd [x] sp) (hbind:∀ (s:Shared) (u:Value),BindsTo s fd ⟨[u],[]⟩ [(x,u)])
  (hsp:∀ H:Hp,Only H→SqL K H a (ns.map V.int)→sp [.ref a] H (λ v _=>v = .bl true) λ _ _ _=>False)
  (hCX:∀ H e s',CX [] H s₁ (λ _ _ _=>False) e s'→False) :
  codeAny (model P w) callerA (.call (.ref fa) ⟨[.ref a],[]⟩) (λ r s'=>r = .ok (.ret (.bool true))∧OldK s₁.heap s'.heap∧s'.os=s₁.os∧AllBare s'.gens) s₁:=by
 have rv:=zwj hi
 have lenV:=hi.length
 have core:∀ H:Hp,Only H→SqL K H a (ns.map V.int)→HOk P w H s₁.heap→(∀ b,H b≠none→b=a)→(H a≠none→K.lookup a=none) →
   codeAny (model P w) callerA (.call (.ref fa) ⟨[.ref a],[]⟩) (λ r s'=>r = .ok (.ret (.bool true))∧OldK s₁.heap s'.heap∧s'.os=s₁.os∧AllBare s'.gens) s₁:=by
  intro H hO hS hok hA hK
  have base_of:∀ {b:Addr} {o:Obj},s₁.heap.get? b=some o→H b=none→(hidT s₁.heap H).get? b=some o:=λ e n=>zjt e n
  have noA:∀ {b:Addr} {o:Obj} {es:Array DictEntry} {ep:Nat},s₁.heap.get? b=some o→o.data = .dict es ep→H b=none:=fun {b o es ep} e d=>by
   cases q:H b with
   | none=>rfl
   | some u =>
    have e':b=a:=hA b (by rw [q];simp)
    subst e'
    rw [ha] at e;cases e
    have d':Data.seq vs.toArray _=Data.dict es ep:=d
    cases d'
  have nsK:∀ {b:Addr} {m:Str→Option Value},s₁.heap.Ns b m→(hidT s₁.heap H).Ns b m:=fun {b m} ⟨o,es,ep,e,d,r⟩=>⟨o,es,ep,base_of e (noA e d),d,r⟩
  have hKb:K.In (hidT s₁.heap H):=λ b o e=>base_of (KX b o e) (by
   cases q:H b with
   | none=>rfl
   | some u =>
    have e':b=a:=hA b (by rw [q];simp)
    subst e'
    rw [hK (by rw [q];simp)] at e;cases e)
  have hM:Mod K mg (hidT s₁.heap H):=⟨hKb,nsK hns,⟨mb,nsK hb,hbb⟩,let ⟨mc,h1,h2⟩:=hlim; ⟨mc,nsK h1,h2⟩⟩
  have e0:Env0 P w K mg (hidT s₁.heap H) callerA [] s₁ H:=⟨rfl,hM,λ b o e=>zkw e,Nat.le_of_eq (zqq _ _),trivial,λ b hb=>absurd (show b∈([]:List Addr) from hb) (by simp),hok,.of_eq hg⟩
  refine codeAny_mono ((F _ hKb (nsK hns)).run callerA [] s₁ H ⟨[.ref a],[]⟩ [.ref a] [.ref a] _ _ hr e0 (hbind s₁ (.ref a)) (.cons rfl .nil) (hsp H hO hS)) λ r s' h=>?_
  cases r with
  | error e=>exact (hCX H e s' h).elim
  | ok fl =>
   cases fl with
   | next=>exact False.elim h
   | brk=>exact False.elim h
   | cont=>exact False.elim h
   | ret u =>
    obtain ⟨v,H',os,bare,un,hok',r',q⟩:=h
    have q':v = .bl true:=q
    subst q'
    obtain rfl:u=Value.bool true:=r'
    refine ⟨rfl,OldK.of_keep λ b o e=>?_,os,bare⟩
    cases q:H b with
    | none=>exact un.keep b o e q (by intro z;exact absurd (show b∈([]:List Addr) from z) (by simp)) (by simp)
    | some u =>
     rcases hO b with z | ⟨ob,xs,z⟩
     ·rw [q] at z;cases z
     ·have z2:=un.frzs b ob _ z
      obtain ⟨e1,_⟩:=hok b _ z
      obtain ⟨e2,_⟩:=hok' b _ z2
      rw [e] at e1;cases e1
      exact e2
 cases hk:K.lookup a with
 | some o =>
  have e:=KX a o hk
  rw [ha] at e
  cases e
  refine core (λ _=>none) (λ _=>.inl rfl) (.inr ⟨_,vs.toArray,_,hk,rfl,rfl,rfl,by rw [List.size_toArray,lenV];exact hl,by simpa using rv⟩) (λ b u z=>by have z':(none:Option HO)=some u:=z;cases z') (λ b z=>absurd rfl z) λ z=>absurd rfl z
 | none =>
  refine core (λ b=>if b=a then some (.frz { cls := .type "list",data := .seq vs.toArray } (.lst (ns.map V.int))) else none) (λ b=>?_) (.inl (.inr ⟨{ cls := .type "list",data := .seq vs.toArray },if_pos rfl⟩)) (λ b u z=>?_) (λ b z=>?_) λ _=>hk
  ·by_cases hb:b=a
   ·exact .inr ⟨_,_,if_pos hb⟩
   ·exact .inl (if_neg hb)
  ·by_cases hb:b=a
   ·have z':=(if_pos hb).symm.trans z
    cases z'
    subst hb
    exact ⟨ha,by rw [List.length_map];exact hl,vs,_,rv,ha⟩
   ·have z':=(if_neg hb).symm.trans z
    cases z'
  ·by_cases hb:b=a
   ·exact hb
   ·exact absurd (if_neg hb) z
end L2
namespace L2
open PySem PySem.Spec PyProof.Rows
theorem walk_of {l:W.OpenLaw} {n k:Nat} {q:Program} {loose:List Str} {XP:(Str→Option Value)→Heap→Prop} {YP:World→Heap→Prop} {d:DefRec} {K:Params→W.Frag} {CX:World→CXT} {sp:World→Sp} {x:Str}
  (hn:l.most=some n) (hn2:n≤sizeLine) (hdf:d.params.defaults=[]) (hr:Room k callerA)
  (hY:∀ (w:World) (h:Heap),YP w h→(K w.params).In h)
  (F:∀ (w:World) (mg:Str→Option Value) (fa:Addr) (h:Heap),(K w.params).In h→h.Ns mainGlobals mg→mg d.name=some (.ref fa) →
   ∃ fd:FuncData,(∀ (s:Shared) (u:Value),BindsTo s fd ⟨[u],[]⟩ [(x,u)]) ∧
    ∀ base:Heap,(K w.params).In base→base.Ns mainGlobals mg→FnOk l.prog w (K w.params) mg base (CX w) k fa fd [x] (sp w))
  (hsp:∀ (w:World) (H:Hp) (a:Addr) (ns:List Int),ns.length≤n→Only H→SqL (K w.params) H a (ns.map V.int)→sp w [.ref a] H (λ v _=>v = .bl true) λ _ _ _=>False)
  (hCX:∀ (w:World) (H:Hp) (s:Shared) (e:Value) (s':Shared),CX w [] H s (λ _ _ _=>False) e s'→False) :
  W.WalkO q loose XP YP l.row.toRowW d [] (λ f vs=>PySem.call f vs):=by
 refine Att.attach_call hn hdf λ w s₀ s₁ mg mb fa o pm cd doc a vs ns G Y ho hd hcd hmg hobj hints hlen hg=>?_
 have KX:=hY w _ Y
 obtain ⟨fd,hb,hF⟩:=F w mg fa _ KX G.T.g hmg
 exact zat KX G.T.g G.T.b G.T.builtins G.T.nolimit hg hobj hints (Nat.le_trans hlen hn2) hr hF hb (λ H hO hS=>hsp w H a ns hlen hO hS) λ H e s'=>hCX w H s₁ e s'
end L2
/- THE LAST THEOREM (shape;LID,My.* are yours):
   My.Adr: a structure of the addresses that your layer names (classes,functions);My.Txt K t: a structure (Prop) of the equations over K;
   My.txt_mk:{K} {implicit addresses ..} (e1:nsIn K mainGlobals "law" = some (some (.ref f))) (e2:K.lookup f=some ⟨oc,od,.func (fnOf "law" "law" params body scope dV kV doc pm an cdv ct),sl⟩) (e3:codeIn K cdv "law" = true) .. : ∃ t,My.Txt K t
set_option maxRecDepth 100000 in
set_option maxHeartbeats 0 in
theorem PySem.Challenge.cw_LID_holds : PySem.Challenge.rw_LID.Holds := by
 w_on;o_law;k_head; (case hw=>w_witness2)
 k_fill
 refine L2.walk_of (l:=PySem.Challenge.rw_LID) (n:=63) (k:=40) (x := "script") (CX:=λ w=>..) (sp:=λ _=>My.sp_law) rfl (by decide) rfl ⟨rfl,by decide,by decide⟩ (λ w h Y=>W.kIn_of Y) ?F ?S ?C
 case F =>
  intro w mg fa h KX G hmg
  have T:∃ t,My.Txt (L2.KOf KX) t:=by
   dsimp only [L2.KOf]                          -- K must stand as «<heap const> w.params» for k_is
   refine' My.txt_mk ?e1 ?e2 ?e3 ..
   (case e1=>W.k_is)                    -- in the order: a name -> its address -> its object -> its parts
   (case e2=>W.k_is)
   ..
  obtain ⟨t,T⟩:=T
  have e0:=hmg.symm.trans (W.mg_of KX G T.law)
  cases e0                                       -- fa is the law's own address
  exact ⟨_,λ s u=>.of_eq rfl,λ base kb nb=>My.law_fn T kb nb⟩     -- if «.of_eq rfl» comes too early: refine' ⟨_,?b,λ base kb nb=>My.law_fn T kb nb⟩;exact λ s u=>.of_eq rfl
 case S=>exact λ w H a ns hl hO hS=>..
 case C=>exact ..
(the tactic k_is has no namespace: write k_is) -/
namespace L2
open PySem PySem.Spec PyProof.Rows
noncomputable def zol (s:Stmt) (j:Nat):Stmt:=match s with
 | .ClassDef _ _ _ body _ _ _ _ _ _ _=>body.getD j (.Pass ⟨0,0,0,0⟩)
 | _=>.Pass ⟨0,0,0,0⟩
noncomputable def zfh (s:Stmt):Arguments:=match s with
 | .FunctionDef _ a _ _ _ _ _ _ _ _=>a
 | _=>{ posonlyargs:=[],args:=[],vararg:=none,kwonlyargs:=[],kw_defaults:=[],kwarg:=none,defaults:=[] }
noncomputable def zaf (s:Stmt):List Stmt:=match s with
 | .FunctionDef _ _ b _ _ _ _ _ _ _=>b
 | _=>[]
noncomputable def zja (s:Stmt):Scope:=match s with
 | .FunctionDef _ _ _ _ _ _ sc _ _ _=>sc
 | _=>{ kind := .function,names:=[],isGenerator:=false,isCoroutine:=false }
noncomputable abbrev E0:XK:=λ _ _ _=>False
structure Fun (K:W.Frag) (x qual:Str) (st:Stmt) (f:Addr) (fd:FuncData):Prop where
 ex:∃ (oc:Value) (od:Option Addr) (kV doc pm:Value) (an:Option Addr) (cdv ct:Value) (osl:Array (Option Value)),
  fd=W.fnOf x qual (zfh st) (zaf st) (zja st) .none kV doc pm an cdv ct∧K.lookup f=some ⟨oc,od,.func fd,osl⟩∧W.codeIn K cdv qual=true
 kp:W.keepIn K (.ref f)=true
section
variable {P:Program} {w:World} {K:W.Frag} {mg:Str→Option Value} {base:Heap}
theorem Fun.binds {x qual:Str} {st:Stmt} {f:Addr} {fd:FuncData} {ps:List Str} (F:Fun K x qual st f fd)
  (h:∀ (kV doc pm:Value) (an:Option Addr) (cdv ct:Value) (us:List Value),us.length=ps.length→bindArgs (W.fnOf x qual (zfh st) (zaf st) (zja st) .none kV doc pm an cdv ct) ⟨us,[]⟩=pure (ps.zip us)):Binds K fd ps []:=by
 obtain ⟨oc,od,kV,doc,pm,an,cdv,ct,osl,rfl,lk,hcd⟩:=F.ex
 exact .all (h kV doc pm an cdv ct)
theorem fun_mk {x qual:Str} {st:Stmt} {f:Addr} {oc:Value} {od an:Option Addr} {osl:Array (Option Value)} {kV doc pm cdv ct:Value} (l:K.lookup f=some ⟨oc,od,.func (W.fnOf x qual (zfh st) (zaf st) (zja st) .none kV doc pm an cdv ct),osl⟩)
  (c:W.codeIn K cdv qual=true) (k:W.keepIn K (.ref f)=true):Fun K x qual st f (W.fnOf x qual (zfh st) (zaf st) (zja st) .none kV doc pm an cdv ct):=⟨⟨oc,od,kV,doc,pm,an,cdv,ct,osl,rfl,l,c⟩,k⟩
end
theorem zef {A:Around} {k:Nat} (hr:Room k A):A.units+1<cLine:=Nat.lt_of_le_of_lt (Nat.add_le_add_left (by decide:1≤64) _) hr.units
theorem zka {n:Nat} (h:n≤1000):n<sizeLine:=Nat.lt_of_le_of_lt h (by decide)
section
variable {X:Cx}
theorem pv (i:Nat) {x:Str} {pos:Pos} (hN:X.N[i]? = some x:=by rfl) (hv:Vis X.env.scope x:=by first | exact Or.inl rfl | exact Or.inr (Or.inl rfl) | exact Or.inr (Or.inr rfl)) (hd:(x == ("__debug__" : Str))=false:=by decide)
  (hcd:(x == ("__classdict__" : Str))=false:=by decide):PE X (.Name x pos) (tVar i):=zh2 hN hv hd hcd
end
theorem iteF {A B:Prop} (h:B):if false=true then A else B:=by
 rw [if_neg Bool.false_ne_true]
 exact h
theorem iteT {A B:Prop} (h:A):if true=true then A else B:=by
 rw [if_pos rfl]
 exact h
theorem zy3 {c A B:Prop} [Decidable c] (hc:c) (h:B):if (!decide c)=true then A else B:=by
 rw [decide_eq_true hc]
 exact iteF h
noncomputable def Same (H H':Hp):Prop:=∀ b o,H b=some o→H' b=some o
theorem Same.refl (H:Hp):Same H H:=λ _ _ h=>h
theorem Same.trans {H H1 H2:Hp} (a:Same H H1) (b:Same H1 H2):Same H H2:=λ c o h=>b c o (a c o h)
theorem Same.free {H H':Hp} (e:Same H H') {l:Addr} (h:H' l=Option.none):H l=Option.none:=by
 cases q:H l with
 | none=>rfl
 | some o =>
  rw [e l o q] at h
  cases h
theorem Same.seq {K:W.Frag} {H H':Hp} {a:Addr} {xs:List V} (e:Same H H') (h:SqL K H a xs):SqL K H' a xs:=by
 rcases h with (h | ⟨o,h⟩) | h
 ·exact .inl (.inl (e _ _ h))
 ·exact .inl (.inr ⟨o,e _ _ h⟩)
 ·exact .inr h
end L2
namespace L2
open PySem PySem.Spec PyProof.Rows
section
variable {X:Cx} {pins:List (Addr×Obj)} {σ:St} {H:Hp} {s:Shared} {h':Heap}
theorem Inv.turnLay {t':Nat} {ch:List Addr} {T:Addr} {o:HO} (I:Inv X pins σ H s) (hf:∀ b∈ch,FpOk X pins H b)
  (k:∀ b u,b∉ch→s.heap.get? b=some u→h'.get? b=some u) (hT:s.heap.objs.size≤T)
  (new:ObjOk X.prog X.w (upd H T o) h' T o):Inv X pins σ (upd H T o) { s with heap:=h',toks:=t' }:=by
 have hn:H T=none:=I.hok.fresh hT
 have nT:∀ b u,s.heap.get? b=some u→b≠T:=λ b u e=>Nat.ne_of_lt (Nat.lt_of_lt_of_le (Heap.lt_size e) hT)
 have nch:∀ b u,H b=some u→b∉ch:=λ b u e hb=>by rw [(hf b hb).1] at e;cases e
 have nTH:∀ b u,H b=some u→b≠T:=λ b u e=>zda e hn
 refine I.step (g':=s.gens) (d':=s.drawn) (ch:=ch) (λ b hb=>?_) (λ b o _ _ hc e _=>k b o hc e) (λ b o _ _ hc e _=>⟨o.slots,k b o hc e⟩)
  (λ b u hc e n=>by rw [zga (nT b u e)];exact n) (λ b u hc e=>⟨u,k b u hc e⟩) (λ b xs e=>by rw [zga (nTH b _ e)];exact e) (λ b o' u e=>by rw [zga (nTH b _ e)];exact e)
  (λ b ps e=>⟨#[],by rw [zga (nTH b _ e),e];simp⟩) (λ m hm=>?_) (λ b u e=>?_) I.bare
 ·obtain ⟨f0,f1,f2,f3,f4,f5⟩:=hf b hb
  exact ⟨f3,f1,f4,f5⟩
 ·obtain ⟨ob,es,ep,ho,r⟩:=hm
  exact ⟨ob,es,ep,k _ ob (λ z=>(hf _ z).2.1 rfl) ho,r⟩
 ·by_cases hb:b=T
  ·subst hb;rw [upd_same] at e;cases e;exact new
  ·rw [zga hb] at e
   refine (I.hok b u e).stay (λ c v hc q=>k c v ?_ q) (λ c q=>by rw [zga (nTH c _ q)];exact q) λ c xs q=>by rw [zga (nTH c _ q)];exact q
   rcases hc with z | z
   ·rw [z];exact nch b u e
   ·exact nch c _ z
theorem Inv.turnedL {t':Nat} {ch:List Addr} (I:Inv X pins σ H s) (hf:∀ b∈ch,FpOk X pins H b)
  (k:∀ b u,b∉ch→s.heap.get? b=some u→h'.get? b=some u):Inv X pins σ H { s with heap:=h',toks:=t' }:=by
 have nch:∀ b u,H b=some u→b∉ch:=λ b u e hb=>by rw [(hf b hb).1] at e;cases e
 refine I.step (g':=s.gens) (d':=s.drawn) (ch:=ch) (λ b hb=>?_) (λ b o _ _ hc e _=>k b o hc e) (λ b o _ _ hc e _=>⟨o.slots,k b o hc e⟩)
  (λ b u hc e n=>n) (λ b u hc e=>⟨u,k b u hc e⟩) (λ b xs e=>e) (λ b o' u e=>e)
  (λ b ps e=>⟨#[],by rw [e];simp⟩) (λ m hm=>?_) (λ b u e=>?_) I.bare
 ·obtain ⟨f0,f1,f2,f3,f4,f5⟩:=hf b hb
  exact ⟨f3,f1,f4,f5⟩
 ·obtain ⟨ob,es,ep,ho,r⟩:=hm
  exact ⟨ob,es,ep,k _ ob (λ z=>(hf _ z).2.1 rfl) ho,r⟩
 ·refine (I.hok b u e).stay (λ c v hc q=>k c v ?_ q) (λ c q=>q) λ c xs q=>q
  rcases hc with z | z
  ·rw [z];exact nch b u e
  ·exact nch c _ z
end
section
variable {X:Cx} {tg:Expr}
end
noncomputable def Ite (K:W.Frag) (a:Addr):It :=
 ⟨λ i H=>∃ xs x,SqL K H a xs∧xs[i]? = some x,λ i H v H'=>∃ T y,v = .ref T∧H T=none∧H'=upd H T (.tup [.int i,y])∧∀ xs,SqL K H a xs→xs[i]? = some y,λ i H=>∃ xs,SqL K H a xs∧xs.length≤i⟩
theorem ztp {P:Program} {w:World} {K:W.Frag} {elts:List Expr} {kk:Nat} {tp:Pos} (a e it:Addr) (hne:e≠it) :
  Turn P w K (.Tuple elts kk tp) (Ite K a) [e,it] e (λ i h=>(∃ old,IsEnum h e it (i:Nat) old)∧h.IsListIter it a i) where
 mem:=by simp
 obj:=λ i h st b hb=>by
  obtain ⟨⟨old,he⟩,o,e',c,d⟩:=st
  have:b=e ∨ b=it:=by simpa using hb
  rcases this with rfl | rfl
  ·exact ⟨_,he,λ v z=>nomatch z⟩
  ·exact ⟨o,e',λ v z=>by rw [d] at z;cases z⟩
 keep:=λ i h h' st k=>⟨let ⟨old,he⟩:=st.1; ⟨old,k e (by simp) _ he⟩,st.2.at λ o q=>k it (by simp) o q⟩
 item:=by
  intro X hP hw hK hc i pins s σ H E I hf st hg
  subst hP hw hK
  obtain ⟨⟨old,he⟩,hit⟩:=st
  obtain ⟨xs,x,hq,hx⟩:=hg
  obtain ⟨its,rv,p,hz⟩:=I.list hq
  obtain ⟨u,hu,ru⟩:=rv.get hx
  have helt:e<s.heap.objs.size:=Heap.lt_size he
  refine wpAny_pyNext_enum_item he hit p.isList (x:=u) (by simpa using hu) hne λ h1 heo hit1 ht1 hz1 hk1=>?_
  refine ⟨_,rfl,wpAny_letOwnedTupleGo_enum heo λ h2 he2 hs2=>?_⟩
  have hT2:h2.get? s.heap.objs.size=some { cls := .type "tuple",data := .seq #[.int i s.toks,u] }:=(hs2.2 _ (Nat.ne_of_gt helt)).trans ht1
  have I2:Inv X pins σ (upd H s.heap.objs.size (.tup [.int i,x])) { s with heap:=h2,toks:=s.toks+1 }:=by
   refine I.turnLay (ch:=[e,it]) hf (λ b o hb q=>?_) (Nat.le_refl _) ?_
   ·have n1:b≠e:=λ z=>hb (by simp [z])
    have n2:b≠it:=λ z=>hb (by simp [z])
    exact (hs2.2 b n1).trans (hk1 b o n1 n2 q)
   ·exact ⟨by show 2≤sizeLine;decide,[.int i s.toks,u],.cons ⟨_,rfl⟩ (.cons ru .nil),⟨_,hT2,rfl,_,rfl⟩⟩
  have hn:H s.heap.objs.size=none:=I.hok.fresh (Nat.le_refl _)
  refine ⟨.ref s.heap.objs.size,_,I2,rfl,⟨_,x,rfl,hn,rfl,λ ys hy=>by rw [I.list_inj hy hq];exact hx⟩,⟨⟨u,by simpa using he2⟩,hit1.at λ o q=>(hs2.2 it (Ne.symm hne)).trans q⟩,λ b hb=>?_⟩
  have hb':b<s.heap.objs.size:=by
   have:b=e ∨ b=it:=by simpa using hb
   rcases this with rfl | rfl
   ·exact helt
   ·obtain ⟨o,q,_⟩:=hit;exact Heap.lt_size q
  rw [zga (Nat.ne_of_lt hb')]
  exact (hf b hb).1
 done:=by
  intro X hP hw hK hc i pins s σ H E I hf st hg
  subst hP hw hK
  obtain ⟨⟨old,he⟩,hit⟩:=st
  obtain ⟨xs,hq,hx⟩:=hg
  obtain ⟨its,rv,p,hz⟩:=I.list hq
  have hl:=rv.length
  exact wpAny_pyNext_enum_end (I.ok.hd hc) he hit p.isList (by simp;omega) λ h' eb=>⟨rfl,I.turnedL (t':=s.toks) hf λ b o hb q=>eb b o (λ z=>hb (by simp [z])) q⟩
 self:=λ A i s Q E st h=>by
  obtain ⟨⟨old,he⟩,hit⟩:=st
  have hT:s.TypeIs (.ref e) "enumerate" := ⟨_,he,rfl⟩
  refine wpAny_pyIter_slot hT F.slot_enumerate_iter (wpAny_call_entry F.slot_enumerate_iter hT F.entry_enumerate_iter ?_ (F.args_enumerate_iter_1 _))
  show wpAny _ _ (ret (.ref e)) _ _ s
  exact wpAny_pure ⟨_,rfl, "enumerate",_,hT,F.slot_enumerate_next.lookup,h⟩
end L2
namespace L2
open PySem PySem.Spec PyProof.Rows
section
variable {X:Cx}
noncomputable def zj4 (K:W.Frag) (ta:TA):TI:=λ σ H R=>ta σ H λ vs H1=>∃ a,vs=[.ref a]∧(∃ xs,SqL K H1 a xs)∧R (Ite K a) H1
theorem zpr {elts:List Expr} {kk:Nat} {tp:Pos} {a:Expr} {ta:TA} {p pos:Pos} (hg:Gl X "enumerate") (hm:X.mg "enumerate" = none) (hb:bootBuiltins "enumerate" = some (.type "enumerate")) (ha:PA X [a] ta) (hs:starEach [a] X.env=[(false,eval a X.env)]:=by rfl) :
  PI X (.Tuple elts kk tp) (.Call (.Name "enumerate" p) [a] [] pos) (zj4 X.K ta) := .mk <| by
 intro pins s σ H R I h
 refine Call_ (zdp I hg hm hb (PyProof.Rows.callWith_type1 (thn (ha pos pins s σ H _ I h) λ us s1 ⟨vs,H1,I1,r1,q1⟩=>?_) hs rfl))
 obtain ⟨b,e,⟨xs,hq⟩,q⟩:=q1
 subst e
 cases r1 with
 | cons r rr =>
  cases rr
  cases r
  obtain ⟨its,rv,pl,hz⟩:=I1.list hq
  refine call_enumerate_list pl.isList λ h' he hi hsz hk=>?_
  have I2:Inv X pins σ H1 { s1 with heap:=h' }:=I1.kept (t':=s1.toks) hk
  have T:=ztp (P:=X.prog) (w:=X.w) (K:=X.K) (elts:=elts) (kk:=kk) (tp:=tp) b (s1.heap.objs.size+1) s1.heap.objs.size (Nat.succ_ne_self _)
  have t0:(∃ old,IsEnum h' (s1.heap.objs.size+1) s1.heap.objs.size ((0:Nat):Int) old)∧h'.IsListIter s1.heap.objs.size b 0:=⟨⟨.none,by simpa using he⟩,hi⟩
  refine T.self X.A 0 _ _ _ t0 ⟨_,_,_,_,H1,rfl,I2,T,t0,λ c hc=>?_,q⟩
  have hc':s1.heap.objs.size≤c:=by
   have:c=s1.heap.objs.size+1 ∨ c=s1.heap.objs.size:=by simpa using hc
   rcases this with rfl | rfl
   ·exact Nat.le_succ _
   ·exact Nat.le_refl _
  exact I1.fpOk hc' (I1.hok.fresh hc')
end
theorem zko {K:W.Frag} {a:Addr} {xs:List V} {g:TG} {tb:TS} {D:Ends} {σ:St} {H:Hp} (Pv:Nat→St→Hp→Prop) (h0:Pv 0 σ H) (hl:∀ i σ H,i≤xs.length→Pv i σ H→SqL K H a xs)
  (hs:∀ i x T σ H,xs[i]? = some x→Pv i σ H→H T=none→g (.ref T) σ (upd H T (.tup [.int i,x])) λ σ2 H2=>tb { D with nx:=Pv (i+1),ct:=Pv (i+1),bk:=D.nx } σ2 H2) (hd:∀ σ H,Pv xs.length σ H→D.nx σ H) :
  ∃ W:Nat→Nat→St→Hp→Prop,(∃ m,W 0 m σ H)∧∀ i m σ H,W i m σ H →
   ((Ite K a).stop i H∧D.nx σ H) ∨ ((Ite K a).go i H∧∃ N:St→Hp→Prop,(∀ σ' H',N σ' H'→∃ m',m'<m∧W (i+1) m' σ' H')∧∀ x H',(Ite K a).yld i H x H'→g x σ H' λ σ2 H2=>tb { D with nx:=N,ct:=N,bk:=D.nx } σ2 H2):=by
 refine ⟨λ i m σ H=>m=xs.length - i∧i≤xs.length∧Pv i σ H,⟨xs.length,by simp,Nat.zero_le _,h0⟩,?_⟩
 rintro i m σ H ⟨rfl,hi,p⟩
 have q:=hl i σ H hi p
 by_cases hlt:i<xs.length
 ·refine .inr ⟨⟨xs,xs[i],q,by simp [hlt]⟩,Pv (i+1),λ σ' H' p'=>⟨xs.length - (i+1),by omega,rfl,hlt,p'⟩,λ x H' y=>?_⟩
  obtain ⟨T,z,rfl,hT,rfl,y⟩:=y
  exact hs i z T σ H (y xs q) p hT
 ·have e:i=xs.length:=by omega
  subst e
  exact .inl ⟨⟨xs,q,Nat.le_refl _⟩,hd σ H p⟩
noncomputable def zhd (env:Env) (cs:List (Str×Addr)) (p:Str×NameKind):List (Str×Addr):=if p.2 = .free then (match env.cells.lookup p.1 with | some c=>(p.1,c)::cs | none=>cs) else cs
noncomputable def clOf (scope:Scope) (env:Env):List (Str×Addr):=scope.names.foldl (zhd env) []
noncomputable def zsd (scope:Scope) (env:Env):Bool :=
 scope.names.all (λ p=>p.2 != .cell) && scope.names.all (λ p=>p.2 != .local || scope.names.lookup p.1 == some .local) && scope.names.all (λ p=>p.2 != .free || (env.scope.names.lookup p.1 == some .cell || env.scope.names.lookup p.1 == some .free))
theorem zvh {env:Env}:∀ (ns:List (Str×NameKind)) (cs:List (Str×Addr)),(∀ p∈ns,p.2 = .free→∃ c,env.cells.lookup p.1=some c) →
  (forIn (m:=Sem) ns cs λ (p:Str×NameKind) (cs:List (Str×Addr))=>(if (p.2 == .free)=true then do
    let c ← cellOf env p.1
    pure (ForInStep.yield ((p.1,c)::cs)) else pure (ForInStep.yield cs)))=pure (ns.foldl (zhd env) cs)
 | [],cs,_=>rfl
 | p::ns,cs,h=>by
  rw [List.forIn_cons,List.foldl_cons]
  have ih:=zvh (env:=env) ns
  have hr:∀ q∈ns,q.2 = .free→∃ c,env.cells.lookup q.1=some c:=λ q hq=>h q (List.mem_cons_of_mem _ hq)
  by_cases hk:p.2 = .free
  ·obtain ⟨c,e⟩:=h p List.mem_cons_self hk
   have e1:(p.2 == NameKind.free)=true:=by simp [hk]
   have e2:zhd env cs p=(p.1,c)::cs:=by unfold zhd;rw [if_pos hk,e]
   have e3:cellOf env p.1=pure c:=by unfold cellOf;rw [e]
   rw [if_pos e1,e3,e2]
   exact ih _ hr
  ·have e1:¬ ((p.2 == NameKind.free)=true):=by simp [hk]
   have e2:zhd env cs p=cs:=by unfold zhd;rw [if_neg hk]
   rw [if_neg e1,e2]
   exact ih _ hr
theorem zcf {scope:Scope} {env:Env} (h:∀ p∈scope.names,p.2 = .free→∃ c,env.cells.lookup p.1=some c):closureFor scope env=pure (clOf scope env):=by
 have e:=zvh (env:=env) scope.names [] h
 have e2:=congrArg (λ (z:Sem (List (Str×Addr)))=>z >>= λ s=>pure s) e
 exact e2
theorem zmy {env:Env} {x:Str} {c:Addr}:∀ (ns:List (Str×NameKind)) (cs:List (Str×Addr)),(∀ y d,cs.lookup y=some d→env.cells.lookup y=some d)→(ns.foldl (zhd env) cs).lookup x=some c→env.cells.lookup x=some c
 | [],cs,h,e=>h x c e
 | p::ns,cs,h,e=>by
  refine zmy ns (zhd env cs p) (λ y d q=>?_) e
  unfold zhd at q
  split at q
  ·split at q
   ·rename_i c' ec
    rw [List.lookup_cons] at q
    split at q
    ·rename_i he
     have:y=p.1:=by simpa using he
     subst this;rw [← q];exact ec
    ·exact h y d q
   ·exact h y d q
  ·exact h y d q
theorem zfs {env:Env} {x:Str} {c:Addr} (hx:env.cells.lookup x=some c):∀ (ns:List (Str×NameKind)) (cs:List (Str×Addr)),cs.lookup x=some c→(ns.foldl (zhd env) cs).lookup x=some c
 | [],cs,e=>e
 | p::ns,cs,e=>by
  refine zfs hx ns (zhd env cs p) ?_
  unfold zhd
  split
  ·split
   ·rename_i c' ec
    rw [List.lookup_cons]
    split
    ·rename_i he
     have:x=p.1:=by simpa using he
     subst this;rw [hx] at ec;exact ec.symm
    ·exact e
   ·exact e
  ·exact e
theorem zwt {env:Env} {x:Str} {c:Addr} (hx:env.cells.lookup x=some c):∀ (ns:List (Str×NameKind)) (cs:List (Str×Addr)),(x,NameKind.free)∈ns→(ns.foldl (zhd env) cs).lookup x=some c
 | [],cs,e=>by simp at e
 | p::ns,cs,e=>by
  rcases List.mem_cons.mp e with e | e
  ·subst e
   refine zfs hx ns _ ?_
   unfold zhd
   rw [if_pos rfl,hx]
   simp
  ·exact zwt hx ns _ e
theorem zpc {scope:Scope} {env:Env} (h:zsd scope env=true):∀ p∈scope.names,p.2 ≠ .cell:=λ p hp=>by
 unfold zsd at h
 simp only [Bool.and_eq_true,List.all_eq_true] at h
 simpa using h.1.1 p hp
theorem zvc {scope:Scope} {env:Env} (h:zsd scope env=true):∀ p∈scope.names,p.2 = .local→scope.names.lookup p.1=some .local:=λ p hp e=>by
 unfold zsd at h
 simp only [Bool.and_eq_true,List.all_eq_true] at h
 have:=h.1.2 p hp
 rw [e] at this
 simpa using this
theorem zub {scope:Scope} {env:Env} (h:zsd scope env=true):∀ p∈scope.names,p.2 = .free→env.kindOf p.1=some .cell ∨ env.kindOf p.1=some .free:=λ p hp e=>by
 unfold zsd at h
 simp only [Bool.and_eq_true,List.all_eq_true] at h
 have:=h.2 p hp
 rw [e] at this
 simpa [Env.kindOf] using this
theorem zed {env:Env}:∀ {names:List (Str×NameKind)} {x:Str} {k:NameKind},
  (names.map λ (n,k)=>if (k == NameKind.free && env.scope.kind == .function && env.kindOf n == some .cell) then (n,NameKind.cell) else (n,k)).lookup x=some k →
   names.lookup x=some k ∨ (names.lookup x=some .free∧k = .cell)
 | [],_,_,h=>by simp at h
 | (n,j)::r,x,k,h=>by
  have ih:=@zed env r x k
  rw [List.map_cons] at h
  by_cases hx:(x == n)=true
  ·rw [List.lookup_cons,hx]
   by_cases hc:(j == NameKind.free && env.scope.kind == .function && env.kindOf n == some .cell)=true
   ·simp only [hc,if_true] at h
    rw [List.lookup_cons,hx] at h
    have hj:j = .free:=by
     simp only [Bool.and_eq_true] at hc
     simpa using hc.1.1
    exact .inr ⟨by simp [hj],(Option.some.inj h).symm⟩
   ·simp only [hc,if_false] at h
    have h':List.lookup x ((n,j)::List.map (λ x=>if (x.snd == NameKind.free && env.scope.kind == ScopeKind.function && env.kindOf x.fst == some NameKind.cell)=true then (x.fst,NameKind.cell) else (x.fst,x.snd)) r)=some k:=by simpa using h
    rw [List.lookup_cons,hx] at h'
    exact .inl h'
  ·have hx':(x == n)=false:=by simpa using hx
   rw [List.lookup_cons,hx']
   apply ih
   by_cases hc:(j == NameKind.free && env.scope.kind == .function && env.kindOf n == some .cell)=true
   ·simp only [hc,if_true] at h
    rw [List.lookup_cons,hx'] at h
    exact h
   ·have h':List.lookup x ((n,j)::List.map (λ x=>if (x.snd == NameKind.free && env.scope.kind == ScopeKind.function && env.kindOf x.fst == some NameKind.cell)=true then (x.fst,NameKind.cell) else (x.fst,x.snd)) r)=some k:=by simpa [hc] using h
    rw [List.lookup_cons,hx'] at h'
    exact h'
theorem zve {env:Env}:∀ {names:List (Str×NameKind)} {x:Str},names.lookup x=some .free →
  ∃ k,(names.map λ (n,k)=>if (k == NameKind.free && env.scope.kind == .function && env.kindOf n == some .cell) then (n,NameKind.cell) else (n,k)).lookup x=some k∧(k = .cell ∨ k = .free)
 | [],_,h=>by simp at h
 | (n,j)::r,x,h=>by
  have ih:=@zve env r x
  by_cases hx:(x == n)=true
  ·rw [List.lookup_cons,hx] at h
   have hj:j = .free:=Option.some.inj h
   subst hj
   by_cases hc:(env.scope.kind == .function && env.kindOf n == some .cell)=true
   ·refine ⟨.cell,?_,.inl rfl⟩
    show List.lookup x ((if (NameKind.free == NameKind.free && env.scope.kind == .function && env.kindOf n == some .cell)=true then (n,NameKind.cell) else (n,NameKind.free))::_)=_
    rw [if_pos (by simpa using hc),List.lookup_cons,hx]
   ·refine ⟨.free,?_,.inr rfl⟩
    show List.lookup x ((if (NameKind.free == NameKind.free && env.scope.kind == .function && env.kindOf n == some .cell)=true then (n,NameKind.cell) else (n,NameKind.free))::_)=_
    rw [if_neg (by simpa using hc),List.lookup_cons,hx]
  ·have hx':(x == n)=false:=by simpa using hx
   rw [List.lookup_cons,hx'] at h
   obtain ⟨k,e,hk⟩:=ih h
   refine ⟨k,?_,hk⟩
   rw [List.map_cons]
   by_cases hc:(j == NameKind.free && env.scope.kind == .function && env.kindOf n == some .cell)=true
   ·simp only [hc,if_true,List.lookup_cons,hx']
    exact e
   ·show List.lookup x ((if (j == NameKind.free && env.scope.kind == .function && env.kindOf n == some .cell)=true then (n,NameKind.cell) else (n,j))::_)=_
    rw [if_neg hc,List.lookup_cons,hx']
    exact e
noncomputable def Cx.comp (X:Cx) (scope:Scope) (C:Addr) (s₀:Shared) (H₀:Hp) (fp:List Addr) (N':List Str) (E':Value→Shared→Prop):Cx :=
 { X with N:=N',s₀:=s₀,H₀:=H₀,env:=compEnvC scope (clOf scope X.env) C X.env,outer:=X.stack,ex:=fp,fn:=λ _=>false,pn:=[],xe:=E' }
noncomputable def caps (cap:List Nat) (σ:St):St:=cap.map λ j=>(σ[j]?).join
noncomputable def zhq (X:Cx) (scope:Scope) (N':List Str) (nt:Nat) (cap:List Nat):Bool :=
 (N'.length == nt+cap.length) && ((List.range cap.length).all λ j=>match cap[j]?,N'[nt+j]? with
  | some i,some x=>X.N[i]? == some x && scope.names.lookup x == some .free
  | _,_=>false)
section
variable {X:Cx}
theorem zhr {scope:Scope} {N':List Str} {nt:Nat} {cap:List Nat} (h:zhq X scope N' nt cap=true):N'.length=nt+cap.length∧∀ j i,cap[j]? = some i→∃ x,N'[nt+j]? = some x∧X.N[i]? = some x∧scope.names.lookup x=some .free:=by
 unfold zhq at h
 simp only [Bool.and_eq_true,List.all_eq_true,beq_iff_eq] at h
 refine ⟨h.1,λ j i e=>?_⟩
 have hj:j<cap.length:=(List.getElem?_eq_some_iff.mp e).1
 have q:=h.2 j (List.mem_range.mpr hj)
 rw [e] at q
 cases q2:N'[nt+j]? with
 | none=>rw [q2] at q;simp at q
 | some x =>
  rw [q2] at q
  simp only [Bool.and_eq_true,beq_iff_eq] at q
  exact ⟨x,rfl,q.1,q.2⟩
theorem zse {pins:List (Addr×Obj)} {σ:St} {H:Hp} {s3:Shared} {scope:Scope} {fp:List Addr} {N':List Str} {nt:Nat} {cap:List Nat} {h4:Heap} {t4:Nat} {E':Value→Shared→Prop} {m:Str→Option Value}
  (I:Inv X pins σ H s3) (hk:scope.kind = .function) (hb:zsd scope X.env=true) (hc:zhq X scope N' nt cap=true) (hf:∀ b∈fp,FpOk X pins H b) (hfl:∀ b∈fp,b<s3.heap.objs.size)
  (hn:h4.Ns s3.heap.objs.size m) (kp:∀ b o,s3.heap.get? b=some o→h4.get? b=some o) :
  Inv (X.comp scope s3.heap.objs.size s3 H fp N' E') [] (List.replicate nt none++caps cap σ) H { s3 with heap:=h4,toks:=t4 }:=by
 obtain ⟨hlen,hcap⟩:=zhr hc
 have cin:∀ x c,(clOf scope X.env).lookup x=some c→X.env.cells.lookup x=some c:=λ x c e=>zmy scope.names [] (λ y d q=>by simp at q) e
 have kin:∀ x,((X.comp scope s3.heap.objs.size s3 H fp N' E').env.kindOf x=some .cell ∨ (X.comp scope s3.heap.objs.size s3 H fp N' E').env.kindOf x=some .free)→scope.names.lookup x=some .free:=λ x hx=>by
  have one:∀ k,(k=NameKind.cell ∨ k=NameKind.free)→(X.comp scope s3.heap.objs.size s3 H fp N' E').env.kindOf x=some k→scope.names.lookup x=some .free:=λ k hk' e=>by
   rcases zed (env:=X.env) (names:=scope.names) (x:=x) (k:=k) e with z | z
   ·rcases hk' with rfl | rfl
    ·exact absurd rfl (zpc hb _ (PySem.mem_of_lookup z))
    ·exact z
   ·exact z.1
  rcases hx with hx | hx
  ·exact one _ (.inl rfl) hx
  ·exact one _ (.inr rfl) hx
 have has:∀ x,scope.names.lookup x=some .free→∃ c,X.env.cells.lookup x=some c∧(clOf scope X.env).lookup x=some c:=λ x hx=>by
  have hm:=PySem.mem_of_lookup hx
  obtain ⟨c,e⟩:=I.ok.has x (zub hb _ hm rfl)
  exact ⟨c,e,zwt e _ _ hm⟩
 refine ⟨⟨I.ok.mod,hk,I.ok.glob,I.ok.blt,Nat.le_refl _,λ x y c e1 e2=>I.ok.inj x y c (cin x c e1) (cin y c e2),λ x hx=>?_,λ x c z _=>absurd z Bool.false_ne_true,I.ok.hd,I.ok.frames,.inl rfl,λ b hb'=>⟨Nat.ne_of_lt (hfl b hb'),λ x c e=>(hf b hb').2.2.2.2.1 x c (cin x c e)⟩,
  I.bs,Nat.le_trans I.ok.bsz I.sz,λ b o e hb'=>?_,λ b hb' hs=>?_,I.stack,I.stkFree⟩,rfl,I.bare,Un.kept kp,⟨m,hn,λ i x v h1 h2 h3=>?_⟩,λ x c e=>?_,I.hok.fresh (Nat.le_refl _),λ x c e=>I.freeC x c (cin x c e),λ p hp=>absurd hp (by simp [Cx.comp]),I.hok.kept kp,?_⟩
 ·obtain ⟨c,_,e⟩:=has x (kin x hx)
  exact ⟨c,e⟩
 ·rcases (hf b hb').2.2.2.1 with z | z
  ·exact I.ok.noex b o e z
  ·exact absurd (Nat.lt_of_lt_of_le (Heap.lt_size e) (Nat.le_trans I.ok.bsz z)) (Nat.lt_irrefl _)
 ·rcases List.mem_cons.mp (I.stkSub b hs) with z | z
  ·exact (hf b hb').2.1 z
  ·exact (hf b hb').2.2.1 z
 ·have hge:nt≤i:=by
   by_cases hlt:i<nt
   ·rw [List.getElem?_append_left (by simpa using hlt),List.getElem?_replicate] at h2
    split at h2 <;> cases h2
   ·omega
  obtain ⟨j,rfl⟩:∃ j,i=nt+j:=⟨i - nt,by omega⟩
  rw [List.getElem?_append_right (by simp),List.length_replicate,Nat.add_sub_cancel_left] at h2
  unfold caps at h2
  rw [List.getElem?_map] at h2
  cases ej:cap[j]? with
  | none=>rw [ej] at h2;cases h2
  | some i' =>
   rw [ej] at h2
   have h2':(σ[i']?).join=some v:=Option.some.inj h2
   obtain ⟨x',e1,e2,e3⟩:=hcap j i' ej
   have:x'=x:=by
    have h1':N'[nt+j]? = some x:=h1
    rw [e1] at h1';exact Option.some.inj h1'
   subst this
   have hσ:σ[i']? = some (some v):=by
    cases q:σ[i']? with
    | none=>rw [q] at h2';cases h2'
    | some o=>rw [q] at h2';exact congrArg some h2'
   have hkx:=zub hb _ (PySem.mem_of_lookup e3) rfl
   obtain ⟨m',hn',hl'⟩:=I.loc
   obtain ⟨u,ru,lk⟩:=hl' i' x' v e2 hσ (hkx.elim (λ z=>.inr (.inl z)) λ z=>.inr (.inr z))
   refine ⟨u,ru,.inr ⟨?_,?_⟩⟩
   ·obtain ⟨k,ek,hk'⟩:=zve (env:=X.env) e3
    rcases hk' with rfl | rfl
    ·exact .inl ek
    ·exact .inr ek
   ·rcases lk with ⟨kl,_⟩ | ⟨_,c,ec,icell⟩
    ·rcases hkx with z | z <;> (rw [kl] at z;cases z)
    ·exact ⟨c,zwt ec _ _ (PySem.mem_of_lookup e3),icell.keeps kp⟩
 ·obtain ⟨v,z⟩:=I.cell x c (cin x c e)
  exact ⟨v,z.keeps kp⟩
 ·show (List.replicate nt none++caps cap σ).length=N'.length
  rw [hlen]
  simp [caps]
end
end L2
namespace L2
open PySem PySem.Spec PyProof.Rows
section
variable {prog:Program} {w:World} {A:Around} {E:Value→Shared→Prop} {R:Result→Shared→Prop} {s:Shared}
theorem zre {elt target iter:Expr} {ifs:List Expr} {scope:Scope} {pos:Pos} {it acc:Value} {env:Env} (I:Nat→Shared→Prop)
  (turn:∀ n s,I n s→wpAny (model prog w) A (pyNext it) (λ r s₁=>match r with
   | none=>R (.ok .next) s₁
   | some v=>wpAny (model prog w) A (letOwnedTupleGo target it v) (λ _ s₁'=>wpAny (model prog w) A (assign target env v) (λ _ s₂ =>
     wpAny (model prog w) A (forIn ifs true λ c r=>if r=true then do let ok ← isTrue c env (eval c env);pure (ForInStep.yield ok) else pure (ForInStep.yield r)) (λ ok s₃ =>
      if ok=true then wpAny (model prog w) A (eval elt env) (λ x s₄ =>
       wpAny (model prog w) A (call (.builtin "list.append") [acc,x]) (λ _ s₅=>∃ m,m<n∧I m s₅) (notedBy (model prog w) A env λ e s'=>R (.error e) s') s₄) (notedBy (model prog w) A env λ e s'=>R (.error e) s') s₃
      else ∃ m,m<n∧I m s₃) (notedBy (model prog w) A env λ e s'=>R (.error e) s') s₂) (notedBy (model prog w) A env λ e s'=>R (.error e) s') s₁') (notedBy (model prog w) A env λ e s'=>R (.error e) s') s₁) (notedBy (model prog w) A env λ e s'=>R (.error e) s') s)
  (n:Nat) (h:I n s):codeAny (model prog w) A (.compLoop (.ListComp elt [⟨target,iter,ifs,0⟩] scope pos) 0 it acc env) R s:=by
 refine codeAny_loop rfl I (λ n s hI=>?_) n h
 show wpAny _ A ((compTurn (.ListComp elt [⟨target,iter,ifs,0⟩] scope pos) 0 it acc env).onRaise (λ x=>do noteFrame x env;theTreesLotGoes x)) _ _ s
 refine wpAny_noted ?_
 rw [compTurn_list]
 refine wpAny_bind (wpAny_standAt (wpAny_bind (wpAny_mono (turn n s hI) (λ r s₁ h₁=>?_) λ _ _ h'=>h')))
 cases r with
 | none=>exact wpAny_pure h₁
 | some v =>
  refine wpAny_bind (wpAny_mono h₁ (λ _ s₁' h₁'=>?_) λ _ _ h'=>h')
  refine wpAny_bind (wpAny_mono h₁' (λ _ s₂ h₂=>wpAny_bind (wpAny_mono h₂ (λ ok s₃ h₃=>?_) λ _ _ h'=>h')) λ _ _ h'=>h')
  cases ok with
  | false=>exact wpAny_pure ⟨rfl,h₃⟩
  | true =>
   exact wpAny_bind (wpAny_bind (wpAny_mono h₃ (λ x s₄ h₄=>wpAny_bind (wpAny_mono h₄ (λ _ s₅ h₅=>wpAny_pure (wpAny_pure ⟨rfl,h₅⟩)) λ _ _ h'=>h')) λ _ _ h'=>h'))
end
structure PIf (X:Cx) (ifs:List Expr) (t:TT):Prop where
 run :
 ∀ (pins:List (Addr×Obj)) (s:Shared) (σ:St) (H:Hp) (Q:Bool→Hp→Prop),Inv X pins σ H s→t σ H Q →
  wpAny (model X.prog X.w) X.A (forIn ifs true λ c r=>if r=true then do let ok ← isTrue c X.env (eval c X.env);pure (ForInStep.yield ok) else pure (ForInStep.yield r)) (TP X pins σ Q) X.xe s
noncomputable instance {X:Cx} {ifs:List Expr} {t:TT}:CoeFun (PIf X ifs t) (λ _ =>
 ∀ (pins:List (Addr×Obj)) (s:Shared) (σ:St) (H:Hp) (Q:Bool→Hp→Prop),Inv X pins σ H s→t σ H Q →
  wpAny (model X.prog X.w) X.A (forIn ifs true λ c r=>if r=true then do let ok ← isTrue c X.env (eval c X.env);pure (ForInStep.yield ok) else pure (ForInStep.yield r)) (TP X pins σ Q) X.xe s
 ):=⟨λ h=>h.run⟩
noncomputable def tYes:TT:=λ _ H Q=>Q true H
noncomputable def zfz (J:It) (D:Addr) (nt:Nat) (cap:List Nat) (g:TG) (ti:TT) (te:TE) (σ:St) (H1:Hp) (Q:VK):Prop:=∃ W:Nat→Nat→List V→Hp→Prop,(∃ m,W 0 m [] (upd H1 D (.lst []))) ∧
 ∀ i m ys H2,W i m ys H2→H2 D=some (.lst ys)∧((J.stop i H2∧Q (.ref D) H2) ∨ (J.go i H2∧ys.length<sizeLine∧∀ x H3,J.yld i H2 x H3→g x (List.replicate nt none++caps cap σ) H3 λ σ4 H4=>ti σ4 H4 λ b H5 =>
  if b=true then te σ4 H5 λ y H6=>H6 D=some (.lst ys)∧∃ m',m'<m∧W (i+1) m' (ys++[y]) (upd H6 D (.lst (ys++[y]))) else ∃ m',m'<m∧W (i+1) m' ys H5))
noncomputable def zcx (wi:TI) (nt:Nat) (cap:List Nat) (g:TG) (ti:TT) (te:TE):TE:=λ σ H Q=>wi σ H λ J H1=>∀ D,H1 D=none→zfz J D nt cap g ti te σ H1 Q
noncomputable def zfg (nt:Nat) (g:TG):Prop:=∀ (x:V) (c:St) (H:Hp) (Q:St→Hp→Prop),g x (List.replicate nt none++c) H Q →
 g x (List.replicate nt none++c) H λ σ' H'=>Q σ' H'∧∀ (j:Nat) v,(List.replicate nt none++c)[j]? = some (some v)→σ'[j]? = some (some v)
theorem gk1:zfg 1 (zuo 0):=λ x c H Q h=>⟨h,λ j v e=>by
 cases j with
 | zero=>simp at e
 | succ j=>simpa using e⟩
theorem gk2 {K:W.Frag}:zfg 2 (gTup K 2 (zyv (zuo 0) (zyv (zuo 1) gNil))):=λ x c H Q h=>by
 obtain ⟨a,xs,e1,hq,hl,v,r,e2,v',r',e3,e4,h⟩:=h
 refine ⟨a,xs,e1,hq,hl,v,r,e2,v',r',e3,e4,h,λ j v e=>?_⟩
 match j,e with
 | 0,e=>simp [List.replicate] at e
 | 1,e=>simp [List.replicate] at e
 | j+2,e=>simpa [List.replicate,List.set] using e
section
variable {X:Cx}
theorem zxd:PIf X [] tYes := .mk <| λ _ _ _ H _ I h=>wpAny_tests_nil ⟨H,I,h⟩
theorem zmw {c:Expr} {t:TT} (h:PT X c t):PIf X [c] t := .mk <| λ pins s σ H Q I hw=>wpAny_tests_one (h pins s σ H Q I hw)
theorem ztg {pins pins':List (Addr×Obj)} {σ σ':St} {H H':Hp} {s3 s':Shared} {scope:Scope} {fp:List Addr} {N':List Str} {E':Value→Shared→Prop}
  (I3:Inv X pins σ H s3) (hf:∀ b∈fp,FpOk X pins H b) (I':Inv (X.comp scope s3.heap.objs.size s3 H fp N' E') pins' σ' H' s'):Inv X pins σ H' s':=by
 refine I3.call' (ch:=fp) I'.os I'.base I'.hok I'.bare λ b hb=>?_
 obtain ⟨f0,f1,f2,f3,f4,f5⟩:=hf b hb
 exact ⟨f3,f1,f4,f5⟩
theorem zcr {elt tg iter:Expr} {ifs:List Expr} {scope:Scope} {pos:Pos} {N':List Str} {nt:Nat} {cap:List Nat} {wi:TI} {g:TG} {ti:TT} {te:TE}
  (EK:Addr→Shared→Hp→List Addr→(Value→Shared→Prop)→Prop)
  (hE:∀ (pins:List (Addr×Obj)) (σ:St) (s3:Shared) (H3:Hp) (fp:List Addr) (Q:VK) (D:Addr),Inv X pins σ H3 s3→(∀ b∈fp,FpOk X pins H3 b) →
   EK s3.heap.objs.size s3 H3 fp (notedBy (model X.prog X.w) X.A (compEnvC scope (clOf scope X.env) s3.heap.objs.size X.env) λ e s'=>compPost (model X.prog X.w) X.A X.xe none (EP X pins σ Q) (.ref D) s3.heap.objs.size (.error e) s'))
  (hc:X.calm=true) (hi:PI X tg iter wi)
  (hg:∀ C s₀ H₀ fp E',EK C s₀ H₀ fp E'→PG (X.comp scope C s₀ H₀ fp N' E') tg g)
  (hif:∀ C s₀ H₀ fp E',EK C s₀ H₀ fp E'→PIf (X.comp scope C s₀ H₀ fp N' E') ifs ti)
  (he:∀ C s₀ H₀ fp E',EK C s₀ H₀ fp E'→PE (X.comp scope C s₀ H₀ fp N' E') elt te)
  (hk:scope.kind = .function) (hb:zsd scope X.env=true) (hcap:zhq X scope N' nt cap=true)
  (hgk:zfg nt g) (hs:∀ x,foldedSetIterable iter X.env x=pure x):PE X (.ListComp elt [⟨tg,iter,ifs,0⟩] scope pos) (zcx wi nt cap g ti te) := .mk <| by
 intro pins s σ H Q I h
 rw [eval_ListComp]
 have hclos:closureFor scope X.env=pure (clOf scope X.env):=zcf λ p hp e=>I.ok.has p.1 (zub hb p hp e)
 refine wpAny_comprehension_free (use:=none) rfl hs hclos hk (zvc hb) (thn (hi pins s σ H _ I h) λ v s1 h1=>thn h1 λ itv s2 h2=>?_)
 obtain ⟨it,fp,tn,J,H2,e,I2,T,st2,f2,q2⟩:=h2
 subst e
 refine wpAny_newObj_type (wpAny_newFunctionEnv (zpc hb) (by intro y hy;simp at hy) (λ h₁ hns₁ hsb₁=>?_) hk)
 have I3:=I2.lnew (ys:=[]) (its:=[]) (t':=s2.toks) .nil (Nat.zero_le _)
 have hfl:∀ b∈fp,b<s2.heap.objs.size:=λ b hb'=>let ⟨o,e,_⟩:=T.obj 0 _ st2 b hb';Heap.lt_size e
 obtain ⟨W,⟨m0,w0⟩,turn⟩:=q2 s2.heap.objs.size (I2.hok.fresh (Nat.le_refl _))
 have nD:∀ b∈fp,b≠s2.heap.objs.size:=λ b hb'=>Nat.ne_of_lt (hfl b hb')
 have f3:∀ b∈fp,FpOk X pins (upd H2 s2.heap.objs.size (.lst [])) b:=λ b hb'=>⟨by rw [zga (nD b hb')];exact (f2 b hb').1,(f2 b hb').2⟩
 obtain ⟨s3,hs3⟩:∃ s3:Shared,s3={ s2 with heap:=s2.heap.push { cls := .type "list",data := .seq ([]:List Value).toArray },toks:=s2.toks }:=⟨_,rfl⟩
 have hs3':s3.heap=s2.heap.push { cls := .type "list",data := .seq ([]:List Value).toArray }:=by rw [hs3]
 rw [← hs3] at I3
 have hsz:s3.heap.objs.size=s2.heap.objs.size+1:=by rw [hs3',Heap.size_push]
 have hfl3:∀ b∈fp,b<s3.heap.objs.size:=λ b hb'=>by rw [hsz];exact Nat.lt_succ_of_lt (hfl b hb')
 have hC:(s2.heap.push { cls:=Value.type "list",dict:=none,data:=Data.seq ([]:List Value).toArray }).objs.size=s3.heap.objs.size:=by rw [hs3']
 dsimp only at hns₁ hsb₁ ⊢
 rw [hC] at hns₁ hsb₁ ⊢
 rw [← hs3'] at hsb₁
 have kp:∀ b o,s3.heap.get? b=some o→h₁.get? b=some o:=λ b o e=>hsb₁.extBut b o (Nat.ne_of_lt (Heap.lt_size e)) (Heap.get?_push_of_some _ e)
 have hEE:=hE pins σ s3 _ fp Q s2.heap.objs.size I3 f3
 generalize hE':(notedBy (model X.prog X.w) X.A (compEnvC scope (clOf scope X.env) s3.heap.objs.size X.env) λ e s'=>compPost (model X.prog X.w) X.A X.xe none (EP X pins σ Q) (.ref s2.heap.objs.size) s3.heap.objs.size (.error e) s')=E' at hEE
 have I4:=zse (t4:=s2.toks+([]:List (Str×Value)).length) (E':=E') I3 hk hb hcap f3 hfl3 hns₁ kp
 have st4:tn 0 h₁:=T.keep 0 _ _ st2 λ b hb' o e=>kp b o (by rw [hs3'];exact Heap.get?_push_of_some _ e)
 obtain ⟨s4,hs4⟩:∃ s4:Shared,s4={ s3 with heap:=h₁,toks:=s2.toks+([]:List (Str×Value)).length }:=⟨_,rfl⟩
 rw [← hs4] at I4
 have st4':tn 0 s4.heap:=by rw [hs4];exact st4
 have cin:∀ x c,(clOf scope X.env).lookup x=some c→X.env.cells.lookup x=some c:=λ x c e=>zmy scope.names [] (λ y d q=>by simp at q) e
 have stat:∀ {H':Hp},(∀ b∈fp,H' b=none)→∀ b∈fp,FpOk (X.comp scope s3.heap.objs.size s3 (upd H2 s2.heap.objs.size (.lst [])) fp N' E') [] H' b:=λ hn b hb'=>by
  refine ⟨hn b hb',Nat.ne_of_lt (hfl3 b hb'),λ z=>?_,.inl hb',λ x c e=>(f3 b hb').2.2.2.2.1 x c (cin x c e),λ p hp=>absurd hp (by simp [Cx.comp])⟩
  rcases List.mem_cons.mp (I3.stkSub b z) with z | z
  ·exact (f3 b hb').2.1 z
  ·exact (f3 b hb').2.2.1 z
 have loop:codeAny (model X.prog X.w) X.A (.compLoop (.ListComp elt [⟨tg,iter,ifs,0⟩] scope pos) 0 (.ref it) (.ref s2.heap.objs.size) (compEnvC scope (clOf scope X.env) s3.heap.objs.size X.env))
   (compPost (model X.prog X.w) X.A X.xe none (EP X pins σ Q) (.ref s2.heap.objs.size) s3.heap.objs.size) s4:=by
  refine zre (λ n s'=>∃ i ys H',Inv (X.comp scope s3.heap.objs.size s3 (upd H2 s2.heap.objs.size (.lst [])) fp N' E') [] (List.replicate nt none++caps cap σ) H' s'∧tn i s'.heap∧(∀ b∈fp,H' b=none)∧W i n ys H') ?_ m0
   ⟨0,[],_,I4,st4',λ b hb'=>(f3 b hb').1,w0⟩
  rintro n s5 ⟨i,ys,H5,I5,st5,fr5,w5⟩
  rw [hE']
  obtain ⟨hD5,alt⟩:=turn i n ys H5 w5
  rcases alt with ⟨stop,qn⟩ | ⟨go,hyl,step⟩
  ·refine thn (T.done (X.comp scope s3.heap.objs.size s3 (upd H2 s2.heap.objs.size (.lst [])) fp N' E') rfl rfl rfl hc i [] s5 _ H5 E' I5 (stat fr5) st5 stop) λ r s6 ⟨hr,I6⟩=>?_
   subst hr
   obtain ⟨m6,hn6,_⟩:=I6.loc
   refine ⟨m6,hn6,λ h' hsb'=>?_⟩
   have I7:=ztg I3 f3 I6
   refine ⟨.ref s2.heap.objs.size,H5,?_,rfl,qn⟩
   refine I7.turnedL (ch:=[s3.heap.objs.size]) (t':=s6.toks) (λ b hb'=>?_) λ b u hb' e=>(hsb'.2 b λ z=>hb' (by simp [z])).trans e
   have eb:b=s3.heap.objs.size:=by simpa using hb'
   subst eb
   exact I3.fpOk (Nat.le_refl _) I6.free
  ·refine thn (T.item (X.comp scope s3.heap.objs.size s3 (upd H2 s2.heap.objs.size (.lst [])) fp N' E') rfl rfl rfl hc i [] s5 _ H5 E' I5 (stat fr5) st5 go) λ r s6 ⟨u,hr,h6⟩=>?_
   subst hr
   refine thn h6 λ _ s7 ⟨x,H7,I7,r7,y7,st7,fr7⟩=>?_
   have I7':=I7.pinned (stat fr7) (T.obj _ _ st7)
   have again:∀ {σ8:St} {H8:Hp} {ys':List V} {s8:Shared},Inv (X.comp scope s3.heap.objs.size s3 (upd H2 s2.heap.objs.size (.lst [])) fp N' E') ([]++zqi fp s7.heap) σ8 H8 s8→(∃ m',m'<n∧W (i+1) m' ys' H8)→(∀ (j:Nat) v,(List.replicate nt none++caps cap σ)[j]? = some (some v)→σ8[j]? = some (some v)) →
     ∃ m,m<n∧∃ i ys H',Inv (X.comp scope s3.heap.objs.size s3 (upd H2 s2.heap.objs.size (.lst [])) fp N' E') [] (List.replicate nt none++caps cap σ) H' s8∧tn i s8.heap∧(∀ b∈fp,H' b=none)∧W i m ys H':=fun {σ8 H8 ys' s8} I8 ⟨m',hm,w8⟩ hσ=>by
    refine ⟨m',hm,i+1,ys',H8,I8.unpinned.weak (by rw [I8.len,I5.len]) hσ,T.keep _ _ _ st7 λ b hb o e=>(I8.pin (b,o) (List.mem_append_right _ (List.mem_append_right _ (zeb hb e)))).1,λ b hb=>?_,w8⟩
    obtain ⟨o,e,d⟩:=T.obj _ _ st7 b hb
    exact (I8.pin (b,o) (List.mem_append_right _ (List.mem_append_right _ (zeb hb e)))).2.1
   refine thn (hg _ _ _ _ _ hEE _ s7 _ H7 x u _ I7' r7 (hgk x _ H7 _ (step x H7 y7))) λ _ s8 ⟨σ8,H8,I8,q8,hσ⟩=>?_
   refine thn (hif _ _ _ _ _ hEE _ s8 σ8 H8 _ I8 q8) λ ok s9 ⟨H9,I9,q9⟩=>?_
   cases ok with
   | false =>
    rw [if_neg Bool.false_ne_true] at q9 ⊢
    exact again I9 q9 hσ
   | true =>
    rw [if_pos rfl] at q9 ⊢
    refine thn (he _ _ _ _ _ hEE _ s9 σ8 H9 _ I9 q9) λ y s10 ⟨vy,H10,I10,r10,hD10,hm10⟩=>?_
    exact thn (zjb (X:=X.comp scope s3.heap.objs.size s3 (upd H2 s2.heap.objs.size (.lst [])) fp N' E') _ s10 σ8 H10 (.ref s2.heap.objs.size) [vy] (.ref s2.heap.objs.size) [y] (λ _ H'=>H'=upd H10 s2.heap.objs.size (.lst (ys++[vy]))) I10 rfl (.cons r10 .nil) ⟨_,_,_,rfl,rfl,hD10,hyl,rfl⟩) λ _ s11 ⟨_,H11,I11,_,e11⟩=>by
     subst e11
     exact again I11 hm10 hσ
 have e4:({ s2 with heap:=h₁,toks:=s2.toks+([]:List (Str×Value)).length }:Shared)=s4:=by rw [hs4,hs3]
 show codeAny _ _ _ _ { s2 with heap:=h₁,toks:=s2.toks+([]:List (Str×Value)).length }
 rw [e4]
 exact codeAny_compStart_list loop (T.self X.A 0 s4 _ _ st4' loop)
theorem zle {elt tg iter:Expr} {ifs:List Expr} {scope:Scope} {pos:Pos} {wi:TI} {g:TG} {ti:TT} {te:TE} (N':List Str) (nt:Nat) (cap:List Nat)
  (hc:X.calm=true) (hi:PI X tg iter wi) (hgk:zfg nt g)
  (hg:∀ C s₀ H₀ fp E',PG (X.comp scope C s₀ H₀ fp N' E') tg g)
  (hif:∀ C s₀ H₀ fp E',PIf (X.comp scope C s₀ H₀ fp N' E') ifs ti)
  (he:∀ C s₀ H₀ fp E',PE (X.comp scope C s₀ H₀ fp N' E') elt te)
  (hk:scope.kind = .function:=by rfl) (hb:zsd scope X.env=true:=by rfl) (hcap:zhq X scope N' nt cap=true:=by rfl)
  (hs:∀ x,foldedSetIterable iter X.env x=pure x:=by intro _;rfl):PE X (.ListComp elt [⟨tg,iter,ifs,0⟩] scope pos) (zcx wi nt cap g ti te) :=
 zcr (λ _ _ _ _ _=>True) (λ _ _ _ _ _ _ _ _ _=>trivial) hc hi (λ C s₀ H₀ fp E' _=>hg C s₀ H₀ fp E') (λ C s₀ H₀ fp E' _=>hif C s₀ H₀ fp E') (λ C s₀ H₀ fp E' _=>he C s₀ H₀ fp E') hk hb hcap hgk hs
end
theorem zpm {lo:Int} {n:Nat} {nt:Nat} {cap:List Nat} {g:TG} {te:TE} {σ:St} {H1:Hp} {Q:VK} {D:Addr} (f:Nat→V) (hx:n≤sizeLine)
  (step:∀ (i:Nat) H2 (R:VK),i<n→(∀ y,y=f i→R y H2)→g (.int (lo+i)) (List.replicate nt none++caps cap σ) H2 λ σ4 H4=>te σ4 H4 R)
  (fin:Q (.ref D) (upd H1 D (.lst ((List.range n).map f)))) :
  zfz (Itr lo n) D nt cap g tYes te σ H1 Q:=by
 refine ⟨λ i m ys H2=>m=n - i∧i≤n∧ys=(List.range i).map f∧H2=upd H1 D (.lst ys),⟨_,rfl,Nat.zero_le _,rfl,rfl⟩,?_⟩
 rintro i m ys H2 ⟨rfl,hi,rfl,rfl⟩
 refine ⟨upd_same,?_⟩
 by_cases hlt:i<n
 ·refine .inr ⟨hlt,by simp;omega,λ v H3 ⟨e,ev⟩=>?_⟩
  subst e ev
  have hst:=step i _ (λ y H6=>H6 D=some (.lst ((List.range i).map f))∧∃ m',m'<n - i∧(m'=n - (i+1)∧i+1≤n∧(List.range i).map f++[y]=(List.range (i+1)).map f∧upd H6 D (.lst ((List.range i).map f++[y]))=upd H1 D (.lst ((List.range i).map f++[y])))) hlt
   (λ y ey=>⟨upd_same,_,by omega,rfl,hlt,by rw [List.range_succ,List.map_append,ey];rfl,zql⟩)
  simp only [tYes,if_true]
  exact hst
 ·have e:i=n:=by omega
  subst e
  exact .inl ⟨Nat.le_refl _,fin⟩
end L2
namespace L2
open PySem PySem.Spec PyProof.Rows
section
variable {X:Cx}
theorem zwl:∀ {ys:List Str} {us:List Value},Vals (ys.map V.str) us→StrsAre us ys:=by
 intro ys
 induction ys with
 | nil=>intro us r;cases r;exact .nil
 | cons y ys ih =>
  intro us r
  cases r with
  | cons h t =>
   obtain ⟨k,rfl⟩:=h
   exact .cons y k (ih t)
noncomputable def zo4 (K:W.Frag):V→List V→Hp→VK→Prop:=λ x xs H Q=>∃ z p ys,x = .str z∧xs=[.ref p]∧SqL K H p (ys.map V.str)∧(ys.map (·.length)).sum+ys.length * z.length≤16777216∧Q (.str (Txt.join z ys)) H
theorem zny:MtR X "str.join" (zo4 X.K):=by
 intro pins s σ H x xs v us Q I rx rv h
 obtain ⟨z,p,ys,rfl,rfl,hq,hl,q⟩:=h
 obtain ⟨t,rfl⟩:=rx
 obtain ⟨u,rfl,ru⟩:=rv.one
 cases ru
 obtain ⟨its,r,pl,_⟩:=I.list hq
 exact join_list pl.isList (zwl r) hl λ t' k=>⟨.str (Txt.join z ys),H,I.tok k,⟨t',rfl⟩,q⟩
noncomputable def zn1:V→List V→Hp→VK→Prop:=λ x xs H Q=>∃ z,x = .str z∧xs=[]∧Builtin.Str.tooLong (Txt.upper z).length=false∧Q (.str (Txt.upper z)) H
theorem zbv:MtR X "str.upper" zn1:=by
 intro pins s σ H x xs v us Q I rx rv h
 obtain ⟨z,rfl,rfl,hl,q⟩:=h
 obtain ⟨t,rfl⟩:=rx
 cases rv.zero
 exact SC.upper hl ⟨.str (Txt.upper z),H,I.tok _,⟨_,rfl⟩,q⟩
end
end L2
namespace L2
open PySem PySem.Spec PyProof.Rows
noncomputable def okHO:HO→Prop
 | .dT _=>False
 | .frz _ (.lst _)=>True
 | .frz _ _=>False
 | _=>True
noncomputable def Plain (H:Hp):Prop:=∀ a o,H a=some o→okHO o
theorem Plain.upd {H:Hp} {l:Addr} {o:HO} (p:Plain H) (h:okHO o):Plain (upd H l o):=λ a u e=>by
 by_cases ha:a=l
 ·subst ha;rw [upd_same] at e;cases e;exact h
 ·rw [zga ha] at e;exact p a u e
theorem Plain.lst {H:Hp} {l:Addr} {xs:List V} (p:Plain H):Plain (L2.upd H l (.lst xs)):=p.upd trivial
theorem Plain.tup {H:Hp} {l:Addr} {xs:List V} (p:Plain H):Plain (L2.upd H l (.tup xs)):=p.upd trivial
theorem Only.plain {H:Hp} (h:Only H):Plain H:=λ a o e=>by
 rcases h a with z | ⟨o',xs,z⟩
 ·rw [z] at e;cases e
 ·rw [z] at e;cases e;exact trivial
structure Cut (H H' H'':Hp):Prop where
 sub:∀ b o,H'' b=some o→H' b=some o
 old:∀ b o,H b=some o→H'' b=H' b
 ins:∀ a C dx fs,H'' a=some (.ins C dx fs)→H'' dx=some (.own a)
 plain:Plain H''
theorem Cut.un {fs:List Addr} {H H' H'':Hp} {h h':Heap} (c:Cut H H' H'') (u:Un fs [] H H' h h'):Un fs [] H H'' h h' where
 keep:=u.keep
 slot:=u.slot
 free:=λ b o e n hx=>by
  have:=u.free b o e n hx
  cases q:H'' b with
  | none=>rfl
  | some z=>rw [c.sub b z q] at this;cases this
 there:=u.there
 tups:=λ b xs e=>by rw [c.old b _ e];exact u.tups b xs e
 frzs:=λ b o z e=>by rw [c.old b _ e];exact u.frzs b o z e
 tbls:=λ b ps e=>by rw [c.old b _ e];exact u.tbls b ps e
theorem Cut.hok {P:Program} {w:World} {H H' H'':Hp} {h:Heap} (c:Cut H H' H'') (k:HOk P w H' h):HOk P w H'' h:=λ a o e=>by
 have q:=k a o (c.sub a o e)
 cases o with
 | ins C dx fs =>
  obtain ⟨d,r⟩:=q
  exact ⟨c.ins a C dx fs e,r⟩
 | dT kvs=>exact (c.plain a _ e).elim
 | frz ob u =>
  have z:=c.plain a _ e
  cases u with
  | lst xs=>exact q
  | _=>exact z.elim
 | lst xs=>exact q
 | tup xs=>exact q
 | dK kvs=>exact q
 | set S n=>exact q
 | own x=>exact q
 | xd fs=>exact q
 | met f x=>exact q
 | rng lo hi=>exact q
 | tbl ps=>exact q
 | ext φ=>exact q
section
variable {P:Program} {w:World} {K:W.Frag} {mg:Str→Option Value} {base:Heap} {CX:CXT} {k:Nat} {f:Addr} {fd:FuncData} {ps:List Str}
theorem FnOk.cut {sp:Sp} (F:FnOk P w K mg base CX k f fd ps sp) :
  FnOk P w K mg base CX k f fd ps (λ vs H Q E=>sp vs H (λ v H'=>∃ H'',((∀ a C dx fs,H a=some (.ins C dx fs)→H dx=some (.own a))→Cut H H' H'')∧Q v H'') E) :=
 ⟨λ vs H Q E h=>F.len vs H _ E h,λ A outer s H args us vs Q E hr he hb hv h=>by
  refine codeAny_mono (F.run A outer s H args us vs _ E hr he hb hv h) λ r s' q=>?_
  cases r with
  | error e=>exact q
  | ok fl =>
   cases fl with
   | ret u =>
    obtain ⟨v,H',os,bare,un,hok,rv,H'',hc,q⟩:=q
    have c:=hc λ a C dx fs e=>(he.hok a _ e).1
    exact ⟨v,H'',os,bare,c.un un,c.hok hok,rv,q⟩
   | _=>exact q⟩
noncomputable def zzt {α:Type} (Pre:α→List V→Prop) (Post:α→V→Prop):Sp:=λ vs H Q _=>Plain H∧∃ a,Pre a vs∧∀ v,Post a v→Q v H
noncomputable def zl4 {α:Type} (Pre:α→List V→Prop) (Post:α→V→Prop):Sp:=λ vs H Q _=>Plain H∧∃ a,Pre a vs∧∀ v H',Post a v→Same H H'→Q v H'
theorem FnOk.pure {α:Type} {Pre:α→List V→Prop} {Post:α→V→Prop} (F:FnOk P w K mg base CX k f fd ps (zl4 Pre Post)):FnOk P w K mg base CX k f fd ps (zzt Pre Post) :=
 F.cut.imp λ vs H Q E ⟨hp,a,ha,q⟩=>⟨hp,a,ha,λ v H' hv hs=>⟨H,λ hi=>⟨hs,λ b o e=>by rw [e,hs b o e],hi,hp⟩,q v hv⟩⟩
noncomputable def zj3 {α:Type} (Pre:α→List V→Prop) (Post:α→HO→Prop):Sp:=λ vs H Q _=>Plain H∧∃ a,Pre a vs∧∀ l o,H l=none→Post a o→Q (.ref l) (upd H l o)
noncomputable def zox {α:Type} (Pre:α→List V→Prop) (Post:α→HO→Prop):Sp:=λ vs H Q _=>Plain H∧∃ a,Pre a vs∧∀ l o H',H l=none→H' l=some o→Post a o→Same H H'→Q (.ref l) H'
theorem FnOk.new {α:Type} {Pre:α→List V→Prop} {Post:α→HO→Prop} (hP:∀ a o,Post a o→(∃ xs,o = .lst xs) ∨ ∃ xs,o = .tup xs) (F:FnOk P w K mg base CX k f fd ps (zox Pre Post)):FnOk P w K mg base CX k f fd ps (zj3 Pre Post) :=
 F.cut.imp λ vs H Q E ⟨hp,a,ha,q⟩=>⟨hp,a,ha,λ l o H' hl hl' ho hs=>⟨upd H l o,λ hi=>by
  have ne:∀ b z,H b=some z→b≠l:=λ b z e=>zda e hl
  refine ⟨λ b z e=>?_,λ b z e=>by rw [zga (ne b z e),e,hs b z e],λ b C dx fs e=>?_,hp.upd ?_⟩
  ·by_cases hb:b=l
   ·subst hb;rw [upd_same] at e;rw [← e];exact hl'
   ·rw [zga hb] at e;exact hs b z e
  ·by_cases hb:b=l
   ·subst hb;rw [upd_same] at e
    have e:=Option.some.inj e
    rcases hP a o ho with ⟨xs,z⟩ | ⟨xs,z⟩ <;> (rw [z] at e;cases e)
   ·rw [zga hb] at e
    have d:=hi b C dx fs e
    rw [zga (ne dx _ d)];exact d
  ·rcases hP a o ho with ⟨xs,z⟩ | ⟨xs,z⟩ <;> (rw [z];exact trivial),q l o hl ho⟩⟩
end
theorem Same.upd {H H':Hp} {l:Addr} {o:HO} (s:Same H H') (hl:H l=none):Same H (L2.upd H' l o):=λ b z e=>by
 rw [zga (zda e hl)];exact s b z e
theorem zba {H:Hp} {l:Addr} {o:HO} (hl:H l=none):Same H (upd H l o):=(Same.refl H).upd hl
theorem zzv {p:Prop} [Decidable p] {A B:Prop} (h1:p→A) (h2:¬ p→B):if decide p=true then A else B:=by
 by_cases h:p
 ·rw [if_pos (decide_eq_true h)];exact h1 h
 ·rw [if_neg (by simpa using h)];exact h2 h
theorem za4 {p:Prop} [Decidable p] {A B:Prop} (h1:¬ p→A) (h2:p→B):if (!decide p)=true then A else B:=by
 by_cases h:p
 ·rw [if_neg (by simpa using h)];exact h2 h
 ·rw [if_pos (by simpa using h)];exact h1 h
theorem zi1 {xs:List Nat} {i:Int} (h0:0≤i) (h1:i<xs.length):atI xs i=some (xs.getD i.toNat 0):=by
 obtain ⟨j,rfl⟩:∃ j:Nat,i=j:=⟨i.toNat,by omega⟩
 have hj:j<xs.length:=by omega
 exact zlf (by simp [List.getElem?_eq_getElem hj])
theorem zfr (ys:List Str):(Txt.join (⟨#[]⟩:Str) ys).length≤(ys.map (·.length)).sum:=by
 have e:Txt.join (⟨#[]⟩:Str) ys=Str.join ⟨#[]⟩ ys:=by simpa using join_plain_closes (⟨#[]⟩:Str) ys
 rw [e]
 have:=StrLaws.join_length_le (⟨#[]⟩:Str) ys
 simpa [Str.length] using this
theorem zpn {n:Nat} {f:Nat→Str} (h:∀ i,(f i).length=1):(((List.range n).map f).map (·.length)).sum=n:=by
 induction n with
 | zero=>rfl
 | succ n ih=>rw [List.range_succ,List.map_append,List.map_append,List.sum_append,ih];simp [h]
theorem zhy {ns:List Int} {lo hi:Option Int} {i:Nat} {x:V} (h:(cutV (ns.map V.int) lo hi)[i]? = some x):∃ n,x=V.int n:=by
 have hm:=List.mem_of_getElem? h
 unfold cutV at hm
 have hm:=List.mem_of_mem_drop (List.mem_of_mem_take hm)
 obtain ⟨n,_,e⟩:=List.mem_map.mp hm
 exact ⟨n,e.symm⟩
noncomputable def Dig (d:Int):Prop:=0≤d∧d<10000
theorem zmr (x:Int):Dig (x % 10000):=⟨Int.emod_nonneg _ (by decide),Int.emod_lt_of_pos _ (by decide)⟩
end L2
namespace L2
open PySem PySem.Spec PyProof.Rows
structure Fly (new:Addr→Prop) (H:Hp) (x C:Addr) (h:Heap):Prop where
 ob:∃ oe vs,h.get? x=some oe∧oe.cls = .ref C∧oe.dict=none∧oe.data = .fields vs∧1<vs.size ∧
  (vs[1]? = some .none ∨ ∃ T oT ts,vs[1]? = some (.ref T)∧T≠x∧h.get? T=some oT∧oT.data = .fields ts∧3<ts.size∧new T∧H T=none)
 new:new x
 free:H x=none
theorem Fly.imp {n n':Addr→Prop} {H:Hp} {x C:Addr} {h:Heap} (f:Fly n H x C h) (k:∀ b,n b→n' b):Fly n' H x C h:=by
 obtain ⟨⟨oe,vs,a,b,c,d,e,g⟩,hn,hf⟩:=f
 refine ⟨⟨oe,vs,a,b,c,d,e,g.imp id ?_⟩,k _ hn,hf⟩
 rintro ⟨T,oT,ts,a,b,c,d,e,f,g⟩
 exact ⟨T,oT,ts,a,b,c,d,e,k _ f,g⟩
theorem zdr (o:Obj) (f:Array Value→Array Value):(o.mapFields f).dict=o.dict:=by
 obtain ⟨c,d,dt,sl⟩:=o
 cases dt <;> rfl
section
variable {M:Model} {A:Around} {E:Value→Shared→Prop} {s:Shared}
theorem zji {env env':Env} (h:env.frame=env'.frame):PySem.frameOf env=PySem.frameOf env':=by
 unfold PySem.frameOf
 rw [h]
theorem zog {env env':Env} {e:Value} (h:env.frame=env'.frame):noteFrame e env=noteFrame e env':=by
 unfold noteFrame
 rw [zji h,h]
structure Kept (x T:Addr) (frames:List Addr) (h h':Heap):Prop where
 keep:∀ b o,b≠x→b≠T→b∉frames→h.get? b=some o→h'.get? b=some o
 slot:∀ b o,b≠x→b≠T→h.get? b=some o→∃ sl,h'.get? b=some { o with slots:=sl }
theorem zik {base:Heap} {env:Env} {outer:List Env} {L x:Addr} {oe:Obj} {vs:Array Value} {head:Value} {hadNext:Bool} {Q:Unit→Shared→Prop}
  (hfr:A.frames=some (env::outer)) (hl:s.heap.FunFrames base (env::outer)) (hf:env.frame=some L)
  (he:s.heap.get? x=some oe) (hd:oe.data = .fields vs) (hz:1<vs.size)
  (h:∀ h' T,(∃ oe' vs',h'.get? x=some oe'∧oe'.cls=oe.cls∧oe'.dict=oe.dict∧oe'.data = .fields vs'∧1<vs'.size∧vs'[1]? = some (.ref T))→(∃ oT ts,h'.get? T=some oT∧oT.data = .fields ts∧3<ts.size)→s.heap.objs.size≤T →
   Kept x x (frs (env::outer)) s.heap h'→Q () { s with heap:=h' }) :
  wpAny M A (do let a ← PySem.frameOf env;let pl ← entryPlaceOf L hadNext;let b ← EntryCells.newEntry head a .none (rawInt L) .none pl;setField (.ref x) 1 b) Q E s:=by
 have xnf:x∉(env::outer).filterMap (·.frame):=λ hm=>by
  obtain ⟨_,o,ho,hnf⟩:=hl.mem hm
  rw [he] at ho
  cases ho
  exact hnf vs hd
 refine wpAny_bind (wpAny_frameOf_fun hfr hl hf λ h1 g1=>?_)
 refine wpAny_bind (wpAny_entryPlaceOf λ pl hpl=>?_)
 unfold EntryCells.newEntry newFields
 refine wpAny_bind (wpAny_newObj_type ?_ (hpl.sizeOk5 _ _ _ _ _))
 have e1:h1.get? x=some oe:=(g1.2.1 x xnf).trans he
 have lt1:x<h1.objs.size:=Heap.lt_size e1
 have e2:=Heap.get?_push_of_some (h:=h1) { cls := .type "traceback",dict:=none,data := .fields ([head,.ref L,.none,rawInt L,.none]++(if pl.isEmpty then List.replicate 6 Value.none else pl)).toArray } e1
 have dm:=Obj.data_mapFields hd (·.setIfInBounds 1 (Value.ref h1.objs.size))
 refine wpAny_setField e2 hd hz (h _ h1.objs.size ⟨_,_,Heap.get?_update_self _ e2 (Obj.isFreed_of_fields dm),Obj.cls_mapFields _ _,zdr _ _,dm,by simpa using hz,by simp [hz]⟩
  ⟨_,_,(Heap.get?_update_other _ _ (Nat.ne_of_lt lt1)).trans (Heap.get?_push_size _ rfl),rfl,by simp only [List.size_toArray,List.length_append,List.length_cons];omega⟩ (by rw [g1.1];exact Nat.le_refl _) ⟨λ b o bx _ bf eb=>?_,λ b o bx _ eb=>?_⟩)
 ·rw [Heap.get?_update_other _ _ (Ne.symm bx)]
  exact Heap.get?_push_of_some _ ((g1.2.1 b bf).trans eb)
 ·obtain ⟨sl,q⟩:=g1.2.2 b o eb
  exact ⟨sl,by rw [Heap.get?_update_other _ _ (Ne.symm bx)];exact Heap.get?_push_of_some _ q⟩
end
section
variable {X:Cx} {σ:St} {H:Hp} {s:Shared} {x C:Addr}
noncomputable def Cx.new (X:Cx) (b:Addr):Prop:=(∀ o,X.s₀.heap.get? b=some o→b∈X.ex)∧∀ p∈X.pn,p.1≠b
theorem Inv.stepN {h':Heap} {t':Nat} {ch:List Addr} (I:Inv X [] σ H s) (hch:∀ b∈ch,X.new b∧H b=none∧b≠X.env.locals∧∀ y c,X.env.cells.lookup y=some c→c≠b)
  (keep:∀ b o,b∉ch→b∉frs X.stack→s.heap.get? b=some o→h'.get? b=some o) (slot:∀ b o,b∉ch→s.heap.get? b=some o→∃ sl,h'.get? b=some { o with slots:=sl }) :
  Inv X [] σ H { s with heap:=h',toks:=t' }:=by
 have old:∀ b o,X.s₀.heap.get? b=some o→b∉X.ex→b∉ch:=λ b o e hx hb=>hx ((hch b hb).1.1 o e)
 have neL:∀ b o,X.s₀.heap.get? b=some o→b≠X.env.locals:=λ b o e=>Nat.ne_of_lt (Nat.lt_of_lt_of_le (Heap.lt_size e) I.ok.above)
 have trk:∀ b u,H b=some u→b∉ch:=λ b u e hb=>by have:=(hch b hb).2.1;rw [e] at this;cases this
 have trs:∀ b u,H b=some u→b∉frs X.stack:=λ b u e hb=>by have:=I.stkFree b hb;rw [e] at this;cases this
 have nfs:∀ b,b≠X.env.locals→b∉X.fs→b∉frs X.stack:=λ b h1 h2 z=>(List.mem_cons.mp (I.stkSub b z)).elim h1 h2
 have cellK:∀ y c,X.env.cells.lookup y=some c→∀ v,s.heap.IsCell c v→h'.IsCell c v:=λ y c e v ⟨o,ho,hd⟩=>by
  obtain ⟨sl,q⟩:=slot c o (λ z=>(hch c z).2.2.2 y c e rfl) ho
  exact ⟨_,q,hd⟩
 refine ⟨I.ok,I.os,I.bare,⟨λ b o e n hb hx=>?_,λ b o e n hb hx=>?_,I.base.free,λ b o e hx=>?_,I.base.tups,I.base.frzs,I.base.tbls⟩,?_,λ y c e=>?_,I.free,I.freeC,λ p hp=>?_,λ b u e=>?_,I.len⟩
 ·exact keep b o (old b o e hx) (nfs b (neL b o e) hb) (I.base.keep b o e n hb hx)
 ·obtain ⟨sl,q⟩:=I.base.slot b o e n hb hx
  obtain ⟨sl',q'⟩:=slot b _ (old b o e hx) q
  exact ⟨sl',q'⟩
 ·obtain ⟨o',q⟩:=I.base.there b o e hx
  obtain ⟨sl,q'⟩:=slot b o' (old b o e hx) q
  exact ⟨_,q'⟩
 ·obtain ⟨m,⟨o,es,ep,ho,r⟩,hl⟩:=I.loc
  obtain ⟨sl,q⟩:=slot _ o (λ z=>(hch _ z).2.2.1 rfl) ho
  refine ⟨m,⟨_,es,ep,q,r⟩,λ i y v e1 e2 e3=>?_⟩
  obtain ⟨u,ru,lk⟩:=hl i y v e1 e2 e3
  exact ⟨u,ru,lk.imp id λ ⟨k,c,e,z⟩=>⟨k,c,e,cellK y c e _ z⟩⟩
 ·obtain ⟨v,z⟩:=I.cell y c e
  exact ⟨v,cellK y c e v z⟩
 ·obtain ⟨e,n,ne,nf,d⟩:=I.pin p hp
  have hp':p∈X.pn:=by simpa using hp
  exact ⟨keep p.1 p.2 (λ z=>(hch p.1 z).1.2 p hp' rfl) (nfs p.1 ne nf) e,n,ne,nf,d⟩
 ·refine (I.hok b u e).stay (λ c v hc q=>?_) (λ _ q=>q) λ _ _ q=>q
  rcases hc with rfl | hc
  ·exact keep c v (trk c u e) (trs c u e) q
  ·exact keep c v (trk c _ hc) (trs c _ hc) q
theorem Inv.fieldsNe (I:Inv X [] σ H s) {b:Addr} {o:Obj} {vs:Array Value} (e:s.heap.get? b=some o) (d:o.data = .fields vs):b≠X.env.locals∧(∀ y c,X.env.cells.lookup y=some c→c≠b)∧b∉frs X.stack:=by
 refine ⟨λ z=>?_,λ y c ec z=>?_,λ z=>?_⟩
 ·obtain ⟨m,⟨o',es,ep,ho,r,_⟩,_⟩:=I.loc
  rw [← z,e] at ho
  cases ho
  rw [d] at r
  cases r
 ·obtain ⟨v,o',ho,hd⟩:=I.cell y c ec
  rw [z,e] at ho
  cases ho
  rw [d] at hd
  cases hd
 ·obtain ⟨_,o',ho,hnf⟩:=I.stack.mem z
  rw [e] at ho
  cases ho
  exact hnf vs d
theorem Inv.kept2 {h':Heap} {T:Addr} (I:Inv X [] σ H s) (F:Fly X.new H x C s.heap) (hT:T=x ∨ ∃ oe vs oT ts,s.heap.get? x=some oe∧oe.data = .fields vs∧vs[1]? = some (.ref T)∧s.heap.get? T=some oT∧oT.data = .fields ts)
  (k:Kept x T (frs X.stack) s.heap h'):Inv X [] σ H { s with heap:=h' }:=by
 obtain ⟨oe,vs,e,_,_,d,_,tb⟩:=F.ob
 have one:X.new x∧H x=none∧x≠X.env.locals∧∀ y c,X.env.cells.lookup y=some c→c≠x:=⟨F.new,F.free,(I.fieldsNe e d).1,(I.fieldsNe e d).2.1⟩
 have two:X.new T∧H T=none∧T≠X.env.locals∧∀ y c,X.env.cells.lookup y=some c→c≠T:=by
  rcases hT with rfl | ⟨oe',vs',oT,ts,e',d',v',eT,dT⟩
  ·exact one
  ·rw [e] at e'
   cases e'
   rw [d] at d'
   cases d'
   rcases tb with z | ⟨T',oT',ts',v,_,_,_,_,hn,hf⟩
   ·rw [z] at v';cases v'
   ·rw [v] at v'
    cases v'
    exact ⟨hn,hf,(I.fieldsNe eT dT).1,(I.fieldsNe eT dT).2.1⟩
 refine I.stepN (ch:=[x,T]) (λ b hb=>?_) (λ b o hb hs q=>k.keep b o (λ z=>hb (by simp [z])) (λ z=>hb (by simp [z])) hs q) λ b o hb q=>k.slot b o (λ z=>hb (by simp [z])) (λ z=>hb (by simp [z])) q
 have:b=x ∨ b=T:=by simpa using hb
 rcases this with rfl | rfl
 ·exact one
 ·exact two
structure Cx.Top (X:Cx):Prop where
 top:∃ env outer L,X.stack=env::outer∧env.frame=some L∧X.env.frame=some L
theorem Cx.newAt {X:Cx} {σ:St} {H:Hp} {s:Shared} (I:Inv X [] σ H s) {T:Addr} (h:s.heap.objs.size≤T):X.new T:=by
 refine ⟨λ o q=>?_,λ p hp z=>?_⟩
 ·exact absurd (Nat.lt_of_lt_of_le (Heap.lt_size q) (Nat.le_trans I.sz h)) (Nat.lt_irrefl _)
 ·have:=Heap.lt_size (I.pin p (List.mem_append_left _ hp)).1
  rw [z] at this
  exact absurd (Nat.lt_of_lt_of_le this h) (Nat.lt_irrefl _)
theorem zwu {E:Value→Shared→Prop} {Q:Unit→Shared→Prop} (I:Inv X [] σ H s) (tp:X.Top) (F:Fly X.new H x C s.heap)
  (h:∀ h',Inv X [] σ H { s with heap:=h' }→Fly X.new H x C h'→(∃ oe vs T,h'.get? x=some oe∧oe.data = .fields vs∧vs[1]? = some (.ref T))→Q () { s with heap:=h' }) :
  wpAny (model X.prog X.w) X.A (noteFrame (.ref x) X.env) Q E s:=by
 obtain ⟨env,outer,L,hst,hf,hfe⟩:=tp.top
 have hfr:X.A.frames=some (env::outer):=by rw [I.ok.frames,hst]
 have hl:s.heap.FunFrames X.base (env::outer):=by rw [← hst];exact I.stack
 obtain ⟨oe,vs,e,ec,ed,d,z,tb⟩:=id F.ob
 rw [zog (show X.env.frame=env.frame by rw [hfe,hf])]
 unfold noteFrame
 simp only [hf]
 rcases tb with v | ⟨T,oT,ts,v,nx,eT,dT,zT,hn,hfT⟩
 ·refine wpAny_bind (wpAny_field e d v ?_)
  rw [if_neg (by decide)]
  refine zik hfr hl hf e d z λ h' T ⟨oe',vs',a1,a2,a3,a4,a5,a6⟩ ⟨oT,ts,b1,b2,b3⟩ hz k=>?_
  rw [← hst] at k
  refine h h' (I.kept2 F (.inl rfl) k) ⟨⟨oe',vs',a1,a2.trans ec,a3.trans ed,a4,a5,.inr ⟨T,oT,ts,a6,?_,b1,b2,b3,Cx.newAt I hz,I.hok.fresh hz⟩⟩,F.new,F.free⟩ ⟨_,_,_,a1,a4,a6⟩
  exact Nat.ne_of_gt (Nat.lt_of_lt_of_le (Heap.lt_size e) hz)
 ·refine wpAny_bind (wpAny_field e d v ?_)
  rw [if_pos (show (Value.ref T != Value.none)=true from by simp)]
  have v3:ts[3]? = some ts[3]:=by simp [zT]
  refine wpAny_bind (wpAny_field eT dT v3 ?_)
  by_cases hq:(ts[3] == rawInt L)=true
  ·rw [if_pos hq]
   exact wpAny_pure (h s.heap I F ⟨_,_,_,e,d,v⟩)
  ·rw [if_neg hq]
   refine wpAny_bind (wpAny_setField eT dT zT ?_)
   have oth:∀ b,b≠T→(s.heap.update T (Obj.mapFields (·.setIfInBounds 3 Value.none))).get? b=s.heap.get? b:=λ b hb=>Heap.get?_update_other _ _ (Ne.symm hb)
   have e2:(s.heap.update T (Obj.mapFields (·.setIfInBounds 3 Value.none))).get? x=some oe:=(oth x (Ne.symm nx)).trans e
   have hl2:(s.heap.update T (Obj.mapFields (·.setIfInBounds 3 Value.none))).FunFrames X.base (env::outer):=hl.of_keeps λ b o ho hnf=>⟨o,(oth b λ q=>by rw [q,eT] at ho;cases ho;exact hnf ts dT).trans ho,rfl⟩
   refine zik (s:={ s with heap:=s.heap.update T (Obj.mapFields (·.setIfInBounds 3 Value.none)) }) hfr hl2 hf e2 d z λ h' T' ⟨oe',vs',a1,a2,a3,a4,a5,a6⟩ ⟨oT',ts',b1,b2,b3⟩ hz k=>?_
   rw [← hst] at k
   have hz':s.heap.objs.size≤T':=by
    have e3:(s.heap.update T (Obj.mapFields (·.setIfInBounds 3 Value.none))).objs.size=s.heap.objs.size:=Heap.size_after_update ..
    have hz2:(s.heap.update T (Obj.mapFields (·.setIfInBounds 3 Value.none))).objs.size≤T':=hz
    omega
   have k':Kept x T (frs X.stack) s.heap h':=⟨λ b o b1 b2 b3 q=>k.keep b o b1 b1 b3 ((oth b b2).trans q),λ b o b1 b2 q=>k.slot b o b1 b1 ((oth b b2).trans q)⟩
   refine h h' (I.kept2 F (.inr ⟨_,_,_,_,e,d,v,eT,dT⟩) k') ⟨⟨oe',vs',a1,a2.trans ec,a3.trans ed,a4,a5,.inr ⟨T',oT',ts',a6,?_,b1,b2,b3,Cx.newAt I hz',I.hok.fresh hz'⟩⟩,F.new,F.free⟩ ⟨_,_,_,a1,a4,a6⟩
   exact Nat.ne_of_gt (Nat.lt_of_lt_of_le (Heap.lt_size e) hz')
theorem znm {A:Around} {E:Value→Shared→Prop} {Q:Unit→Shared→Prop} {f:Option Addr} (I:Inv X [] σ H s) (F:Fly X.new H x C s.heap) (ht:∃ oe vs T,s.heap.get? x=some oe∧oe.data = .fields vs∧vs[1]? = some (.ref T))
  (h:∀ h',Inv X [] σ H { s with heap:=h' }→Fly X.new H x C h'→(∃ oe vs T,h'.get? x=some oe∧oe.data = .fields vs∧vs[1]? = some (.ref T))→Q () { s with heap:=h' }) :
  wpAny (model X.prog X.w) A (setFlight (.ref x) f) Q E s:=by
 obtain ⟨oe,vs,e,ec,ed,d,z,tb⟩:=id F.ob
 obtain ⟨oe',vs',T,e',d',v⟩:=ht
 rw [e] at e'
 cases e'
 rw [d] at d'
 cases d'
 rcases tb with v' | ⟨T',oT,ts,v',nx,eT,dT,zT,hn,hfT⟩
 ·rw [v'] at v;cases v
 rw [v'] at v
 cases v
 unfold setFlight
 refine wpAny_bind (wpAny_field e d v' ?_)
 rw [if_pos (show (Value.ref T != Value.none)=true from by simp)]
 refine wpAny_setField eT dT zT ?_
 have oth:∀ b,b≠T→(s.heap.update T (Obj.mapFields (·.setIfInBounds 3 (f.elim Value.none λ f=>rawInt f)))).get? b=s.heap.get? b:=λ b hb=>Heap.get?_update_other _ _ (Ne.symm hb)
 have dm:=Obj.data_mapFields dT (·.setIfInBounds 3 (f.elim Value.none λ f=>rawInt f))
 have e2:=(oth x (Ne.symm nx)).trans e
 refine h _ (I.kept2 F (.inr ⟨_,_,_,_,e,d,v',eT,dT⟩) ⟨λ b o _ b2 _ q=>(oth b b2).trans q,λ b o _ b2 q=>⟨o.slots,(oth b b2).trans q⟩⟩)
  ⟨⟨oe,vs,e2,ec,ed,d,z,.inr ⟨T,_,_,v',nx,Heap.get?_update_self _ eT (Obj.isFreed_of_fields dm),dm,by simpa using zT,hn,hfT⟩⟩,F.new,F.free⟩ ⟨_,_,_,e2,d,v'⟩
end
end L2
namespace L2
open PySem PySem.Spec PyProof.Rows
noncomputable def CX1 (P:Program) (w:World) (base:Heap):CXT:=λ outer H s E e s'=>∃ (x C:Addr) (H':Hp),e = .ref x∧s'.os=s.os∧AllBare s'.gens∧Un (frs outer) [] H H' s.heap s'.heap∧HOk P w H' s'.heap ∧
 Fly (λ b=>s.heap.get? b=none) H' x C s'.heap∧E (.ref C) none H'
noncomputable def Wants (X:Cx) (E:XK):Prop:=∀ (σ:St) (H':Hp) (s':Shared) (x C:Addr),Inv X [] σ H' s'→Fly X.new H' x C s'.heap→E (.ref C) none H'→X.xe (.ref x) s'
theorem zd3 {X:Cx} {pins:List (Addr×Obj)} {σ:St} {H:Hp} {s:Shared} (I:Inv X pins σ H s) {b:Addr} (h:s.heap.get? b=none):X.new b:=by
 refine ⟨λ o e=>?_,λ p hp z=>?_⟩
 ·by_cases hx:b∈X.ex
  ·exact hx
  ·obtain ⟨o',q⟩:=I.base.there b o e hx
   rw [h] at q
   cases q
 ·have:=(I.pin p (List.mem_append_left _ hp)).1
  rw [z,h] at this
  cases this
theorem Inv.nopins {X:Cx} {pins:List (Addr×Obj)} {σ:St} {H:Hp} {s:Shared} (I:Inv X pins σ H s):Inv X [] σ H s:=I.pins_of λ p hp=>absurd hp (by simp)
theorem Wants.passes {X:Cx} {E:XK} (W:Wants X E):zmg (CX1 X.prog X.w X.base) X E:=λ pins σ H s e s' I ⟨x,C,H',ee,os,bare,un,hok,F,q⟩=>by
 subst ee
 have J:Inv X pins σ H' s':=I.call' (ch:=[]) os un hok bare λ b z=>absurd z (by simp)
 exact W σ H' s' x C J.nopins (F.imp λ b hb=>zd3 I hb) q
theorem zde {P:Program} {w:World} {base:Heap} {X:Cx}:zmg (CX1 P w base) X E0:=λ _ _ _ _ _ _ _ ⟨_,_,_,_,_,_,_,_,_,q⟩=>q.elim
theorem zco {P:Program} {w:World} {K:W.Frag} {mg:Str→Option Value} {base:Heap} {N:List Str} {qual:Str} {scope:Scope} {f:Addr} {cd:Value} {A:Around} {outer:List Env} {s:Shared} {H:Hp} {E:XK} :
  Wants (cxOf (CX1 P w base) P w K mg base N qual scope f cd A outer s H E) E:=λ σ H' s' x C I F q=>by
 refine wpAny_bind (zwu I ⟨⟨_,_,_,rfl,rfl,rfl⟩⟩ F λ h1 I1 F1 t1=>?_)
 refine znm I1 F1 t1 λ h2 I2 F2 _=>?_
 refine ⟨x,C,H',rfl,I2.os,I2.bare,I2.base,I2.hok,F2.imp λ b hb=>?_,q⟩
 cases e:s.heap.get? b with
 | none=>rfl
 | some o=>exact absurd (hb.1 o e) (by simp [cxOf])
section
variable {P:Program} {w:World} {K:W.Frag} {mg:Str→Option Value} {base:Heap}
theorem Fun.okX {x qual:Str} {st:Stmt} {f:Addr} {fd:FuncData} {N ps:List Str} {k:Nat} {sp:Sp} (F:Fun K x qual st f fd) (S:FnScope N ps (zja st)) (len:∀ vs H Q E,sp vs H Q E→vs.length=ps.length)
  (hbody:∀ (cdv:Value) (A:Around) (outer:List Env) (s:Shared) (H:Hp) (vs:List V) (Q:VK) (E:XK),Room k (A.deeper (envOfC qual (zja st) s.heap.objs.size f cdv))→sp vs H Q E →
   ∃ t,PSs (cxOf (CX1 P w base) P w K mg base N qual (zja st) f cdv A outer s H E) (zaf st) t∧t { nx:=λ _ H'=>Q .non H',rt:=Q } (znp N vs) H):FnOk P w K mg base (CX1 P w base) (k+1) f fd ps sp:=by
 obtain ⟨oc,od,kV,doc,pm,an,cdv,ct,osl,rfl,lk,hcd⟩:=F.ex
 exact zz3 lk hcd S len λ A outer s H vs Q E hr hsp=>hbody cdv A outer s H vs Q E hr hsp
theorem Fun.okN {x qual:Str} {st:Stmt} {f:Addr} {fd:FuncData} {N ps:List Str} {k:Nat} {sp:Sp} (F:Fun K x qual st f fd) (S:FnScope N ps (zja st)) (len:∀ vs H Q E,sp vs H Q E→vs.length=ps.length)
  (hbody:∀ (cdv:Value) (A:Around) (outer:List Env) (s:Shared) (H:Hp) (vs:List V) (Q:VK) (E:XK),Room k (A.deeper (envOfC qual (zja st) s.heap.objs.size f cdv))→sp vs H Q E →
   ∃ t,PSs (cxOf (CX1 P w base) P w K mg base N qual (zja st) f cdv A outer s H E).nox (zaf st) t∧t { nx:=λ _ H'=>Q .non H',rt:=Q } (znp N vs) H):FnOk P w K mg base (CX1 P w base) (k+1) f fd ps sp :=
 F.okX S len λ cdv A outer s H vs Q E hr hsp=>let ⟨t,h,q⟩:=hbody cdv A outer s H vs Q E hr hsp; ⟨t,h.nox,q⟩
end
abbrev bmV:List Value:=[.type "ValueError",.type "Exception",.type "BaseException",.type "object"]
structure XCls (K:W.Frag) (C:Addr):Prop where
 ex:W.excIn K C bmV "ValueError.__new__" = true
 ga:W.findIn K (.ref C) "__getattribute__" = some (some (.builtin "BaseException.__getattribute__"))
 gn:W.findIn K (.ref C) "__getattr__" = some none
 be:W.subIn K (.ref C) (.type "BaseException")=some true
 hd:W.hasDictIn K C=true
 ca:W.findIn K (.ref C) "__class__" = some (some (.builtin "object.__class__"))
 mo:W.mroIn K C (.type "object")=some true
 gs:W.specialIn K (.builtin "object.__class__") "__get__" = some (some (.builtin "getset_descriptor.__get__"))
 tk:W.takesIn K (.builtin "object.__class__")=some true
theorem XCls.obj {K:W.Frag} {C:Addr} {h:Heap} (c:XCls K C) (X:K.In h):∃ bm N nm q bs hdct sn sub ab col dd k0 k1 k2 k3 k5 mN,
  h.get? C=some (excClassObj nm q C N bs bm hdct sn sub ab col dd k0 k1 k2 k3 k5 "ValueError.__new__")∧h.Ns N mN∧mN "__init__" = none∧OwnTail h bmV bm ∧
  ∀ b r,W.mroIn K C b=some r→(Value.ref C::bm).contains b=r:=by
 have q:=c.ex
 unfold W.excIn at q
 split at q
 ·rename_i dd cd sl ho
  split at q
  ·rename_i C' bm k0 k1 k2 k3 n k5 hm hs
   simp only [Bool.and_eq_true,beq_iff_eq,Bool.not_eq_true'] at q
   obtain ⟨⟨⟨⟨⟨rfl,rfl⟩,hdel⟩,ht⟩,hok⟩,hni⟩:=q
   have hmro:∀ b r,W.mroIn K C' b=some r→(Value.ref C'::bm).contains b=r:=λ b r e=>by
    unfold W.mroIn W.clsIn at e
    rw [ho] at e
    simp only [Option.bind_some,hm] at e
    simpa using e
   obtain ⟨nm,bs,mro,ns,qn,hd,sn,sub,ab,col,del⟩:=cd
   dsimp only at hm hdel hok hni
   subst hm hdel
   have hsl:sl = #[k0,k1,k2,k3,some (.builtin "ValueError.__new__"),k5]:=by
    obtain ⟨l⟩:=sl
    simp only at hs
    rw [hs]
   subst hsl
   exact ⟨bm,ns,nm,qn,bs,hd,sn,sub,ab,col,dd,k0,k1,k2,k3,k5,_,X _ _ ho,.of_isNs (W.isNs_of_in X hok),W.nsMap_none_of_in X hok hni,W.tail_of_in X ht,hmro⟩
  ·cases q
 ·cases q
section
variable {X:Cx}
noncomputable def zr2 (C:Addr) (E:XK) (ta:TA):TS:=λ _ σ H=>ta σ H λ vs H1=>vs.length≤sizeLine∧E (.ref C) none H1
theorem zlu {C:Addr} {E:XK} {n:Str} {e:Expr} {es:List Expr} {ta:TA} {np cpos pos:Pos} (xc:XCls X.K C) (W:Wants X E) (hc:X.calm=true) (hg:Gl X n) (hm:X.mg n=some (.ref C)) (ha:PA X (e::es) ta)
  (hs:starEach (e::es) X.env=(false,eval e X.env)::starEach es X.env:=by rfl) (hp:(backTo cpos (starEach es X.env)).any (·.1)=false:=by rfl) (hdb:(n == ("__debug__" : Str))=false:=by decide) :
  PS X (.Raise (some (.Call (.Name n np) (e::es) [] cpos)) none pos) (zr2 C E ta) := .mk <| by
 intro pins s σ H D I h
 obtain ⟨bm,N,nm,q,bs,hdct,sn,sub,ab,col,dd,k0,k1,k2,k3,k5,mN,hC,hN,hni,T,_⟩:=xc.obj I.mod.kin
 refine wpAny_Raise_call_subT (C:=C) (nm:=nm) (q:=q) (N:=N) (bs:=bs) (bm:=bm) (hdct:=hdct) (sn:=sn) (sub:=sub) (ab:=ab) (col:=col) (dd:=dd) (k0:=k0) (k1:=k1) (k2:=k2) (k3:=k3) (k5:=k5)
  PySem.F.excBase_ValueError (mN:=mN) (T.hasType (by decide)) (I.ok.hd hc) (by rw [hs];show (false || (backTo cpos (starEach es X.env)).any (·.1))=false;rw [hp];rfl) hni (zhj I hg hm ⟨rfl,?_⟩ hdb)
 have hA:=ha cpos pins s σ H _ I h
 rw [hs] at hA ⊢
 refine Calls.evalArgs_plain (thn hA λ us s1 ⟨vs,H1,I1,r1,hl,hE⟩=>⟨rfl,by rw [← r1.length];exact hl,I1.bk _ _ hC,hN.keeps I1.bk,T.keeps I1.bk,λ h' x mk=>?_⟩)
 obtain ⟨t,e1,_,_⟩:=mk.there
 have J:Inv X [] σ H1 { s1 with heap:=h' }:=(I1.kept (t':=s1.toks) mk.keeps).nopins
 refine W σ H1 _ x C J ⟨⟨_,_,e1,rfl,rfl,rfl,by simp,.inl rfl⟩,zd3 I1 mk.new,?_⟩ hE
 cases z:H1 x with
 | none=>rfl
 | some o =>
  have:=(I1.hok x o z)
  have lt:∃ ob,s1.heap.get? x=some ob:=by
   cases o with
   | lst xs=>obtain ⟨_,_,_,_,e⟩:=this;exact ⟨_,e⟩
   | tup xs=>obtain ⟨_,_,_,p⟩:=this;obtain ⟨ob,e,_⟩:=p;exact ⟨_,e⟩
   | dK kvs=>obtain ⟨_,_,_,_,o,_,_,e,_⟩:=this;exact ⟨_,e⟩
   | dT kvs=>obtain ⟨_,_,_,_,o,_,_,e,_⟩:=this;exact ⟨_,e⟩
   | set S n=>obtain ⟨o,_,_,_,e,_⟩:=this;exact ⟨_,e⟩
   | ins C dx fs=>obtain ⟨_,_,_,e,_⟩:=this;exact ⟨_,e⟩
   | own y=>exact this
   | xd fs=>obtain ⟨_,⟨_,_,_,e,_⟩,_⟩:=this;exact ⟨_,e⟩
   | rng lo hi=>obtain ⟨_,_,_,e⟩:=this;exact ⟨_,e⟩
   | frz ob u=>obtain ⟨e,_⟩:=this;exact ⟨_,e⟩
   | tbl ps=>exact ⟨_,(show s1.heap.get? x=some _ from this)⟩
   | met f y=>exact ⟨_,(show s1.heap.get? x=some _ from this)⟩
   | ext φ=>obtain ⟨_,e,_⟩:=this;exact e
  obtain ⟨ob,e⟩:=lt
  rw [mk.new] at e
  cases e
end
end L2
namespace L2
open PySem PySem.Spec PyProof.Rows
section
variable {X:Cx} {pins:List (Addr×Obj)} {σ:St} {H:Hp} {s:Shared} {x C D:Addr}
end
end L2
namespace L2
open PySem PySem.Spec PyProof.Rows
section
variable {X:Cx}
end
section
variable {X:Cx}
end
theorem ztt {l:W.OpenLaw} {n k:Nat} {q:Program} {loose:List Str} {XP:(Str→Option Value)→Heap→Prop} {YP:World→Heap→Prop} {d:DefRec} {K:Params→W.Frag} {sp:World→Sp} {x:Str}
  (hn:l.most=some n) (hn2:n≤sizeLine) (hdf:d.params.defaults=[]) (hr:Room k callerA) (hY:∀ (w:World) (h:Heap),YP w h→(K w.params).In h)
  (F:∀ (w:World) (mg:Str→Option Value) (fa:Addr) (h:Heap),(K w.params).In h→h.Ns mainGlobals mg→mg d.name=some (.ref fa) →
   ∃ fd:FuncData,(∀ (s:Shared) (u:Value),BindsTo s fd ⟨[u],[]⟩ [(x,u)])∧∀ base:Heap,(K w.params).In base→base.Ns mainGlobals mg→FnOk l.prog w (K w.params) mg base (CX1 l.prog w base) k fa fd [x] (sp w))
  (hsp:∀ (w:World) (H:Hp) (a:Addr) (ns:List Int),ns.length≤n→Only H→SqL (K w.params) H a (ns.map V.int)→sp w [.ref a] H (λ v _=>v = .bl true) λ _ _ _=>False) :
  W.WalkO q loose XP YP l.row.toRowW d [] (λ f vs=>PySem.call f vs):=by
 refine walk_of (x:=x) (K:=K) (CX:=λ _ _ _ _ _ _ _=>False) (sp:=λ w vs H Q E=>sp w vs H Q λ _ _ _=>False) hn hn2 hdf hr hY (λ w mg fa h a b c=>?_) (λ w H a ns h1 h2 h3=>hsp w H a ns h1 h2 h3) λ _ _ _ _ _ z=>z
 obtain ⟨fd,hb,hF⟩:=F w mg fa h a b c
 refine ⟨fd,hb,λ base h1 h2=>?_⟩
 have G:=hF base h1 h2
 refine ⟨λ vs H Q E h=>G.len vs H Q _ h,λ A outer s H args us vs Q E hr he hbi hv h=>codeAny_mono (G.run A outer s H args us vs Q _ hr he hbi hv h) λ r s' z=>?_⟩
 cases r with
 | error e=>obtain ⟨_,_,_,_,_,_,_,_,_,z⟩:=z;exact z
 | ok fl=>cases fl <;> exact z
end L2
namespace L2
open PySem PySem.Spec PyProof.Rows PySem.NumText
section
variable {P:Program} {w:World} {K:W.Frag} {mg:Str→Option Value} {base:Heap} {CX:CXT} {k:Nat} {f:Addr} {fd:FuncData} {ps:List Str}
end
section
variable {X:Cx}
end
end L2
namespace L2
open PySem PySem.Spec PyProof.Rows PySem.NumText
section
variable {X:Cx}
end
theorem Same.seqT {K:W.Frag} {H H':Hp} {a:Addr} {xs:List V} (e:Same H H') (h:SqT K H a xs):SqT K H' a xs:=by
 rcases h with h | h
 ·rcases h with h | ⟨o,h⟩
  ·exact .inl (.inl (e _ _ h))
  ·exact .inl (.inr ⟨o,e _ _ h⟩)
 ·exact .inr h
theorem zqd {J:It} {n:Nat} {nt:Nat} {cap:List Nat} {g:TG} {te:TE} {σ:St} {H1:Hp} {Q:VK} {D:Addr} (val:Nat→V) (R:Nat→V→Hp→Prop) (hD:H1 D=none) (hP:Plain H1) (hx:n≤sizeLine)
  (hJ:∀ i H2,Same H1 H2→(i<n→J.go i H2)∧(J.stop n H2)∧∀ x H3,i<n→J.yld i H2 x H3→H3=H2∧x=val i)
  (mono:∀ i y H H',R i y H→(∀ b o,b≠D→H b=some o→H' b=some o)→(∃ zs,H D=some (.lst zs))→R i y H')
  (step:∀ (i:Nat) H2 (T:VK),i<n→Plain H2→Same H1 H2→(∀ y H6,R i y H6→Same H2 H6→Plain H6→T y H6)→g (val i) (List.replicate nt none++caps cap σ) H2 λ σ4 H4=>te σ4 H4 T)
  (fin:∀ ys H2,ys.length=n→(∀ (i:Nat) y,ys[i]? = some y→R i y H2)→H2 D=some (.lst ys)→Same H1 H2→Plain H2→Q (.ref D) H2) :
  zfz J D nt cap g tYes te σ H1 Q:=by
 refine ⟨λ i m ys H2=>m=n - i∧i≤n∧ys.length=i∧H2 D=some (.lst ys)∧Same H1 H2∧Plain H2∧∀ (j:Nat) y,ys[j]? = some y→R j y H2,⟨_,rfl,Nat.zero_le _,rfl,upd_same,zba hD,hP.lst,λ j y e=>by simp at e⟩,?_⟩
 rintro i m ys H2 ⟨rfl,hi,hl,hd,hs,hp,hr⟩
 refine ⟨hd,?_⟩
 obtain ⟨j1,j2,j3⟩:=hJ i H2 hs
 by_cases hlt:i<n
 ·refine .inr ⟨j1 hlt,by omega,λ v H3 hy=>?_⟩
  obtain ⟨rfl,rfl⟩:=j3 v H3 hlt hy
  simp only [tYes,if_true]
  refine step i _ _ hlt hp hs λ y H6 hR hs6 hp6=>⟨hs6 _ _ hd,_,by omega,rfl,hlt,by simp [hl],upd_same,?_,hp6.lst,?_⟩
  ·exact (hs.trans hs6).upd hD
  ·intro j z e
   have up:∀ b o,b≠D→H6 b=some o→(upd H6 D (.lst (ys++[y]))) b=some o:=λ b o hb e=>by rw [zga hb];exact e
   rcases Nat.lt_or_ge j ys.length with hj | hj
   ·rw [List.getElem?_append_left hj] at e
    refine mono j z H6 _ (mono j z _ H6 (hr j z e) (λ b o _ e=>hs6 b o e) ⟨_,hd⟩) up ⟨_,hs6 _ _ hd⟩
   ·rw [List.getElem?_append_right hj] at e
    have hj0:j - ys.length=0:=by
     rcases Nat.eq_zero_or_pos (j - ys.length) with h0 | h0
     ·exact h0
     ·rw [List.getElem?_eq_none (by simp;omega)] at e;cases e
    rw [hj0] at e
    simp at e
    subst e
    have:j=i:=by omega
    subst this
    exact mono j y H6 _ hR up ⟨_,hs6 _ _ hd⟩
 ·have e:i=n:=by omega
  subst e
  exact .inl ⟨j2,fin ys H2 hl hr hd hs hp⟩
theorem zil {K:W.Frag} {a:Addr} {xs:List V} {H1:Hp} (h:SqL K H1 a xs):∀ i H2,Same H1 H2→(i<xs.length→(Itl K a).go i H2)∧((Itl K a).stop xs.length H2)∧∀ x H3,i<xs.length→(Itl K a).yld i H2 x H3→H3=H2∧x=xs.getD i .non:=λ i H2 e=>by
 refine ⟨λ hi=>⟨xs,xs[i],e.seq h,by simp [hi]⟩,⟨xs,e.seq h,Nat.le_refl _⟩,λ x H3 hi y=>⟨y.1,?_⟩⟩
 have:=y.2 xs (e.seq h)
 rw [List.getD_eq_getElem?_getD,this];rfl
mutual
noncomputable def DV (K:W.Frag) (H:Hp):PyData→V→Prop
 | .none,v=>v = .non
 | .bool b,v=>v = .bl b
 | .int i,v=>v = .int i
 | .str x,v=>v = .str x
 | .list xs,v=>∃ a vs,v = .ref a∧SqL K H a vs∧DVs K H xs vs
 | .tuple xs,v=>∃ a vs,v = .ref a∧SqT K H a vs∧DVs K H xs vs
 | .dict _,_=>False
noncomputable def DVs (K:W.Frag) (H:Hp):List PyData→List V→Prop
 | [],vs=>vs=[]
 | d::ds,vs=>∃ v r,vs=v::r∧DV K H d v∧DVs K H ds r
end
mutual
theorem DV.same {K:W.Frag} {H H':Hp} (e:Same H H'):∀ (d:PyData) (v:V),DV K H d v→DV K H' d v
 | .none,v,h=>h
 | .bool b,v,h=>h
 | .int i,v,h=>h
 | .str x,v,h=>h
 | .list xs,v,⟨a,vs,h1,h2,h3⟩=>⟨a,vs,h1,e.seq h2,DVs.same e xs vs h3⟩
 | .tuple xs,v,⟨a,vs,h1,h2,h3⟩=>⟨a,vs,h1,e.seqT h2,DVs.same e xs vs h3⟩
 | .dict _,v,h=>h.elim
theorem DVs.same {K:W.Frag} {H H':Hp} (e:Same H H'):∀ (ds:List PyData) (vs:List V),DVs K H ds vs→DVs K H' ds vs
 | [],vs,h=>h
 | d::ds,vs,⟨v,r,h1,h2,h3⟩=>⟨v,r,h1,DV.same e d v h2,DVs.same e ds r h3⟩
end
section
variable {X:Cx} {pins:List (Addr×Obj)} {σ:St} {H:Hp} {s:Shared}
mutual
theorem DV.reads (I:Inv X pins σ H s):∀ (d:PyData) (v:V) (u:Value),DV X.K H d v→RelV v u→∃ as,Reads s.heap u d as
 | .none,v,u,h,r=>by cases (show v=V.non from h);cases r;exact ⟨_,.none⟩
 | .bool b,v,u,h,r=>by cases (show v=V.bl b from h);cases r;exact ⟨_,.bool b⟩
 | .int i,v,u,h,r=>by cases (show v=V.int i from h);obtain ⟨t,rfl⟩:=r;exact ⟨_,.int i t⟩
 | .str x,v,u,h,r=>by cases (show v=V.str x from h);obtain ⟨t,rfl⟩:=r;exact ⟨_,.str x t⟩
 | .list xs,v,u,h,r=>by
  obtain ⟨a,vs,rfl,h2,h3⟩:=h
  cases r
  obtain ⟨its,rv,pl,_⟩:=I.list h2
  obtain ⟨o,ho,hc,n,hd⟩:=pl.isList
  obtain ⟨as,ra⟩:=DVs.reads I xs vs its h3 rv
  exact ⟨_,.list ho hc hd (by simpa using ra)⟩
 | .tuple xs,v,u,h,r=>by
  obtain ⟨a,vs,rfl,h2,h3⟩:=h
  cases r
  obtain ⟨its,rv,pl,_⟩:=I.tuple h2
  obtain ⟨o,ho,hc,n,hd⟩:=pl
  obtain ⟨as,ra⟩:=DVs.reads I xs vs its h3 rv
  exact ⟨_,.tuple ho hc hd (by simpa using ra)⟩
 | .dict _,v,u,h,r=>h.elim
theorem DVs.reads (I:Inv X pins σ H s):∀ (ds:List PyData) (vs:List V) (us:List Value),DVs X.K H ds vs→Vals vs us→∃ as,ReadsAll s.heap us ds as
 | [],vs,us,h,r=>by cases (show vs=[] from h);cases r;exact ⟨_,.nil⟩
 | d::ds,vs,us,h,r=>by
  obtain ⟨v,rest,rfl,h2,h3⟩:=h
  cases r with
  | cons r rr =>
   obtain ⟨as,ra⟩:=DV.reads I d _ _ h2 r
   obtain ⟨bs,rb⟩:=DVs.reads I ds _ _ h3 rr
   exact ⟨_,.cons ra rb⟩
end
end
section
variable {X:Cx}
noncomputable def rEqD (K:W.Frag):R2:=λ x y H Q=>∃ d e,DV K H d x∧DV K H e y∧SeqAt.shaped d=true∧SeqAt.shaped e=true∧Q (.bl (PyData.eqv d e)) H
noncomputable def rNeD (K:W.Frag):R2:=λ x y H Q=>∃ d e,DV K H d x∧DV K H e y∧SeqAt.shaped d=true∧SeqAt.shaped e=true∧Q (.bl (!PyData.eqv d e)) H
theorem zbw (hu:X.A.units+64<cLine):OpR X (compareOp .Eq) (rEqD X.K):=by
 intro pins s σ H x y v u Q I rx ry h
 obtain ⟨d,e,hd,he,sd,se,q⟩:=h
 obtain ⟨as,ra⟩:=DV.reads I d x v hd rx
 obtain ⟨bs,rb⟩:=DV.reads I e y u he ry
 exact SeqAt.compareEq_shaped ra rb sd se hu ⟨.bl _,H,I,rfl,q⟩
theorem zrk (hu:X.A.units+64<cLine):OpR X (compareOp .NotEq) (rNeD X.K):=by
 intro pins s σ H x y v u Q I rx ry h
 obtain ⟨d,e,hd,he,sd,se,q⟩:=h
 obtain ⟨as,ra⟩:=DV.reads I d x v hd rx
 obtain ⟨bs,rb⟩:=DV.reads I e y u he ry
 exact SeqAt.compareNe_shaped ra rb sd se hu ⟨.bl _,H,I,rfl,q⟩
end
noncomputable def zr1 {α:Type} (Pre:α→List V→Hp→Prop) (Post:α→V→Hp→Prop) (Exc:α→Addr→Prop):Sp:=λ vs H Q E=>Plain H∧∃ a,Pre a vs H∧(∀ v H',Post a v H'→Same H H'→Plain H'→Q v H')∧(∀ C H',Exc a C→Same H H'→Plain H'→E (.ref C) none H')
end L2
namespace L2
open PySem PySem.Spec PyProof.Rows PySem.NumText
section
variable {X:Cx}
theorem zqo {use:Option (Value→Sem Unit)} {QQ:Value→Shared→Prop} {p0:Pos} {pins:List (Addr×Obj)} {s:Shared} {σ:St} {H:Hp} {Q:VK} {elt tg iter:Expr} {ifs:List Expr} {scope:Scope} {pos:Pos} {N':List Str} {nt:Nat} {cap:List Nat} {wi:TI} {g:TG} {ti:TT} {te:TE}
  (EK:Addr→Shared→Hp→List Addr→(Value→Shared→Prop)→Prop)
  (hE:∀ (pins:List (Addr×Obj)) (σ:St) (s3:Shared) (H3:Hp) (fp:List Addr) (Q:VK) (D:Addr),Inv X pins σ H3 s3→(∀ b∈fp,FpOk X pins H3 b) →
   EK s3.heap.objs.size s3 H3 fp (notedBy (model X.prog X.w) X.A (compEnvC scope (clOf scope X.env) s3.heap.objs.size X.env) λ e s'=>compPost (model X.prog X.w) X.A X.xe none (EP X pins σ Q) (.ref D) s3.heap.objs.size (.error e) s'))
  (hc:X.calm=true) (hi:PI X tg iter wi)
  (hg:∀ C s₀ H₀ fp E',EK C s₀ H₀ fp E'→PG (X.comp scope C s₀ H₀ fp N' E') tg g)
  (hif:∀ C s₀ H₀ fp E',EK C s₀ H₀ fp E'→PIf (X.comp scope C s₀ H₀ fp N' E') ifs ti)
  (he:∀ C s₀ H₀ fp E',EK C s₀ H₀ fp E'→PE (X.comp scope C s₀ H₀ fp N' E') elt te)
  (hk:scope.kind = .function) (hb:zsd scope X.env=true) (hcap:zhq X scope N' nt cap=true)
  (hgk:zfg nt g) (hs:∀ x,foldedSetIterable iter X.env x=pure x) (I:Inv X pins σ H s) (h:zcx wi nt cap g ti te σ H Q)
  (fin:∀ (D C:Addr) (m:Str→Option Value) (H5:Hp) (s6:Shared),Inv X pins σ H5 s6→Q (.ref D) H5→s6.heap.Ns C m→C≠X.env.locals→(∀ x c,X.env.cells.lookup x=some c→c≠C)→(∀ H',H' C=none→FpOk X pins H' C)→H5 C=none →
   compPost (model X.prog X.w) X.A X.xe use QQ (.ref D) C (.ok .next) s6) :
  wpAny (model X.prog X.w) X.A (comprehension (.ListComp elt [⟨tg,iter,ifs,0⟩] scope pos) scope X.env p0 (newList []) false (eval iter X.env) use) QQ X.xe s:=by
 have hclos:closureFor scope X.env=pure (clOf scope X.env):=zcf λ p hp e=>I.ok.has p.1 (zub hb p hp e)
 refine wpAny_comprehension_free (use:=use) rfl hs hclos hk (zvc hb) (thn (hi pins s σ H _ I h) λ v s1 h1=>thn h1 λ itv s2 h2=>?_)
 obtain ⟨it,fp,tn,J,H2,e,I2,T,st2,f2,q2⟩:=h2
 subst e
 refine wpAny_newObj_type (wpAny_newFunctionEnv (zpc hb) (by intro y hy;simp at hy) (λ h₁ hns₁ hsb₁=>?_) hk)
 have I3:=I2.lnew (ys:=[]) (its:=[]) (t':=s2.toks) .nil (Nat.zero_le _)
 have hfl:∀ b∈fp,b<s2.heap.objs.size:=λ b hb'=>let ⟨o,e,_⟩:=T.obj 0 _ st2 b hb';Heap.lt_size e
 obtain ⟨W,⟨m0,w0⟩,turn⟩:=q2 s2.heap.objs.size (I2.hok.fresh (Nat.le_refl _))
 have nD:∀ b∈fp,b≠s2.heap.objs.size:=λ b hb'=>Nat.ne_of_lt (hfl b hb')
 have f3:∀ b∈fp,FpOk X pins (upd H2 s2.heap.objs.size (.lst [])) b:=λ b hb'=>⟨by rw [zga (nD b hb')];exact (f2 b hb').1,(f2 b hb').2⟩
 obtain ⟨s3,hs3⟩:∃ s3:Shared,s3={ s2 with heap:=s2.heap.push { cls := .type "list",data := .seq ([]:List Value).toArray },toks:=s2.toks }:=⟨_,rfl⟩
 have hs3':s3.heap=s2.heap.push { cls := .type "list",data := .seq ([]:List Value).toArray }:=by rw [hs3]
 rw [← hs3] at I3
 have hsz:s3.heap.objs.size=s2.heap.objs.size+1:=by rw [hs3',Heap.size_push]
 have hfl3:∀ b∈fp,b<s3.heap.objs.size:=λ b hb'=>by rw [hsz];exact Nat.lt_succ_of_lt (hfl b hb')
 have hC:(s2.heap.push { cls:=Value.type "list",dict:=none,data:=Data.seq ([]:List Value).toArray }).objs.size=s3.heap.objs.size:=by rw [hs3']
 dsimp only at hns₁ hsb₁ ⊢
 rw [hC] at hns₁ hsb₁ ⊢
 rw [← hs3'] at hsb₁
 have kp:∀ b o,s3.heap.get? b=some o→h₁.get? b=some o:=λ b o e=>hsb₁.extBut b o (Nat.ne_of_lt (Heap.lt_size e)) (Heap.get?_push_of_some _ e)
 have hEE:=hE pins σ s3 _ fp Q s2.heap.objs.size I3 f3
 generalize hE':(notedBy (model X.prog X.w) X.A (compEnvC scope (clOf scope X.env) s3.heap.objs.size X.env) λ e s'=>compPost (model X.prog X.w) X.A X.xe none (EP X pins σ Q) (.ref s2.heap.objs.size) s3.heap.objs.size (.error e) s')=E' at hEE
 have hE2:(notedBy (model X.prog X.w) X.A (compEnvC scope (clOf scope X.env) s3.heap.objs.size X.env) λ e s'=>compPost (model X.prog X.w) X.A X.xe use QQ (.ref s2.heap.objs.size) s3.heap.objs.size (.error e) s')=E':=hE'
 have I4:=zse (t4:=s2.toks+([]:List (Str×Value)).length) (E':=E') I3 hk hb hcap f3 hfl3 hns₁ kp
 have st4:tn 0 h₁:=T.keep 0 _ _ st2 λ b hb' o e=>kp b o (by rw [hs3'];exact Heap.get?_push_of_some _ e)
 obtain ⟨s4,hs4⟩:∃ s4:Shared,s4={ s3 with heap:=h₁,toks:=s2.toks+([]:List (Str×Value)).length }:=⟨_,rfl⟩
 rw [← hs4] at I4
 have st4':tn 0 s4.heap:=by rw [hs4];exact st4
 have cin:∀ x c,(clOf scope X.env).lookup x=some c→X.env.cells.lookup x=some c:=λ x c e=>zmy scope.names [] (λ y d q=>by simp at q) e
 have stat:∀ {H':Hp},(∀ b∈fp,H' b=none)→∀ b∈fp,FpOk (X.comp scope s3.heap.objs.size s3 (upd H2 s2.heap.objs.size (.lst [])) fp N' E') [] H' b:=λ hn b hb'=>by
  refine ⟨hn b hb',Nat.ne_of_lt (hfl3 b hb'),λ z=>?_,.inl hb',λ x c e=>(f3 b hb').2.2.2.2.1 x c (cin x c e),λ p hp=>absurd hp (by simp [Cx.comp])⟩
  rcases List.mem_cons.mp (I3.stkSub b z) with z | z
  ·exact (f3 b hb').2.1 z
  ·exact (f3 b hb').2.2.1 z
 have loop:codeAny (model X.prog X.w) X.A (.compLoop (.ListComp elt [⟨tg,iter,ifs,0⟩] scope pos) 0 (.ref it) (.ref s2.heap.objs.size) (compEnvC scope (clOf scope X.env) s3.heap.objs.size X.env))
   (compPost (model X.prog X.w) X.A X.xe use QQ (.ref s2.heap.objs.size) s3.heap.objs.size) s4:=by
  refine zre (λ n s'=>∃ i ys H',Inv (X.comp scope s3.heap.objs.size s3 (upd H2 s2.heap.objs.size (.lst [])) fp N' E') [] (List.replicate nt none++caps cap σ) H' s'∧tn i s'.heap∧(∀ b∈fp,H' b=none)∧W i n ys H') ?_ m0
   ⟨0,[],_,I4,st4',λ b hb'=>(f3 b hb').1,w0⟩
  rintro n s5 ⟨i,ys,H5,I5,st5,fr5,w5⟩
  rw [hE2]
  obtain ⟨hD5,alt⟩:=turn i n ys H5 w5
  rcases alt with ⟨stop,qn⟩ | ⟨go,hyl,step⟩
  ·refine thn (T.done (X.comp scope s3.heap.objs.size s3 (upd H2 s2.heap.objs.size (.lst [])) fp N' E') rfl rfl rfl hc i [] s5 _ H5 E' I5 (stat fr5) st5 stop) λ r s6 ⟨hr,I6⟩=>?_
   subst hr
   obtain ⟨m6,hn6,_⟩:=I6.loc
   have I7:=ztg I3 f3 I6
   refine fin _ _ m6 H5 s6 I7 qn hn6 ?_ ?_ (λ H' hn=>I3.fpOk (Nat.le_refl _) hn) I6.free
   ·intro z
    exact absurd (Nat.lt_of_lt_of_le I3.lt (Nat.le_of_eq z)) (Nat.lt_irrefl _)
   ·intro x c e z
    obtain ⟨v,q⟩:=I3.cell x c e
    exact absurd (Nat.lt_of_lt_of_le q.lt (by rw [z];exact Nat.le_refl _)) (Nat.lt_irrefl _)
  ·refine thn (T.item (X.comp scope s3.heap.objs.size s3 (upd H2 s2.heap.objs.size (.lst [])) fp N' E') rfl rfl rfl hc i [] s5 _ H5 E' I5 (stat fr5) st5 go) λ r s6 ⟨u,hr,h6⟩=>?_
   subst hr
   refine thn h6 λ _ s7 ⟨x,H7,I7,r7,y7,st7,fr7⟩=>?_
   have I7':=I7.pinned (stat fr7) (T.obj _ _ st7)
   have again:∀ {σ8:St} {H8:Hp} {ys':List V} {s8:Shared},Inv (X.comp scope s3.heap.objs.size s3 (upd H2 s2.heap.objs.size (.lst [])) fp N' E') ([]++zqi fp s7.heap) σ8 H8 s8→(∃ m',m'<n∧W (i+1) m' ys' H8)→(∀ (j:Nat) v,(List.replicate nt none++caps cap σ)[j]? = some (some v)→σ8[j]? = some (some v)) →
     ∃ m,m<n∧∃ i ys H',Inv (X.comp scope s3.heap.objs.size s3 (upd H2 s2.heap.objs.size (.lst [])) fp N' E') [] (List.replicate nt none++caps cap σ) H' s8∧tn i s8.heap∧(∀ b∈fp,H' b=none)∧W i m ys H':=fun {σ8 H8 ys' s8} I8 ⟨m',hm,w8⟩ hσ=>by
    refine ⟨m',hm,i+1,ys',H8,I8.unpinned.weak (by rw [I8.len,I5.len]) hσ,T.keep _ _ _ st7 λ b hb o e=>(I8.pin (b,o) (List.mem_append_right _ (List.mem_append_right _ (zeb hb e)))).1,λ b hb=>?_,w8⟩
    obtain ⟨o,e,d⟩:=T.obj _ _ st7 b hb
    exact (I8.pin (b,o) (List.mem_append_right _ (List.mem_append_right _ (zeb hb e)))).2.1
   refine thn (hg _ _ _ _ _ hEE _ s7 _ H7 x u _ I7' r7 (hgk x _ H7 _ (step x H7 y7))) λ _ s8 ⟨σ8,H8,I8,q8,hσ⟩=>?_
   refine thn (hif _ _ _ _ _ hEE _ s8 σ8 H8 _ I8 q8) λ ok s9 ⟨H9,I9,q9⟩=>?_
   cases ok with
   | false =>
    rw [if_neg Bool.false_ne_true] at q9 ⊢
    exact again I9 q9 hσ
   | true =>
    rw [if_pos rfl] at q9 ⊢
    refine thn (he _ _ _ _ _ hEE _ s9 σ8 H9 _ I9 q9) λ y s10 ⟨vy,H10,I10,r10,hD10,hm10⟩=>?_
    exact thn (zjb (X:=X.comp scope s3.heap.objs.size s3 (upd H2 s2.heap.objs.size (.lst [])) fp N' E') _ s10 σ8 H10 (.ref s2.heap.objs.size) [vy] (.ref s2.heap.objs.size) [y] (λ _ H'=>H'=upd H10 s2.heap.objs.size (.lst (ys++[vy]))) I10 rfl (.cons r10 .nil) ⟨_,_,_,rfl,rfl,hD10,hyl,rfl⟩) λ _ s11 ⟨_,H11,I11,_,e11⟩=>by
     subst e11
     exact again I11 hm10 hσ
 have e4:({ s2 with heap:=h₁,toks:=s2.toks+([]:List (Str×Value)).length }:Shared)=s4:=by rw [hs4,hs3]
 show codeAny _ _ _ _ { s2 with heap:=h₁,toks:=s2.toks+([]:List (Str×Value)).length }
 rw [e4]
 exact codeAny_compStart_list loop (T.self X.A 0 s4 _ _ st4' loop)
theorem zpt {elt tg iter:Expr} {ifs:List Expr} {scope:Scope} {cpos pos pos':Pos} {N':List Str} {nt:Nat} {cap:List Nat} {wi:TI} {g:TG} {ti:TT} {te:TE} {i:Nat} {x:Str}
  (EK:Addr→Shared→Hp→List Addr→(Value→Shared→Prop)→Prop)
  (hE:∀ (pins:List (Addr×Obj)) (σ:St) (s3:Shared) (H3:Hp) (fp:List Addr) (Q:VK) (D:Addr),Inv X pins σ H3 s3→(∀ b∈fp,FpOk X pins H3 b) →
   EK s3.heap.objs.size s3 H3 fp (notedBy (model X.prog X.w) X.A (compEnvC scope (clOf scope X.env) s3.heap.objs.size X.env) λ e s'=>compPost (model X.prog X.w) X.A X.xe none (EP X pins σ Q) (.ref D) s3.heap.objs.size (.error e) s'))
  (hc:X.calm=true) (hi:PI X tg iter wi)
  (hg:∀ C s₀ H₀ fp E',EK C s₀ H₀ fp E'→PG (X.comp scope C s₀ H₀ fp N' E') tg g)
  (hif:∀ C s₀ H₀ fp E',EK C s₀ H₀ fp E'→PIf (X.comp scope C s₀ H₀ fp N' E') ifs ti)
  (he:∀ C s₀ H₀ fp E',EK C s₀ H₀ fp E'→PE (X.comp scope C s₀ H₀ fp N' E') elt te)
  (hk:scope.kind = .function) (hb:zsd scope X.env=true) (hcap:zhq X scope N' nt cap=true)
  (hgk:zfg nt g) (hs:∀ x,foldedSetIterable iter X.env x=pure x)
  (hN:X.N.Nodup) (hix:X.N[i]? = some x) (hx:Loc X.env.scope x) (hf:X.fn x=true ∨ X.env.scope.names.lookup x=some .local)
  (hsw:swapsWith (.ListComp elt [⟨tg,iter,ifs,0⟩] scope cpos) (some (.Name x pos')) pos.line X.env=pure true) :
  PS X (.Assign [.Name x pos'] (.ListComp elt [⟨tg,iter,ifs,0⟩] scope cpos) pos) (tAsg (zcx wi nt cap g ti te) (zuo i)) := .mk <| by
 intro pins s σ H D I h
 rw [exec_Assign_Name_used _ _ _ _ hsw]
 refine wpAny_bind (wpAny_standAt (wpAny_bind ?_))
 show wpAny _ X.A (do let _ ← comprehension (.ListComp elt [⟨tg,iter,ifs,0⟩] scope cpos) scope X.env _ (newList []) false (eval iter X.env) (some (assign (.Name x pos') X.env))) _ _ s
 refine wpAny_bind (thn (zqo (use:=some (assign (.Name x pos') X.env)) (QQ:=λ _ s'=>SP X pins D .next s') EK hE hc hi hg hif he hk hb hcap hgk hs I h ?_) λ _ s' hq=>wpAny_pure (wpAny_pure hq))
 intro Da C m H5 s6 I6 q6 hn hC hcell hfp h5
 show wpAny _ _ (assign (.Name x pos') X.env (.ref Da)) _ _ s6
 refine wpAny_assign_Name (znj I6 hN hix hx (v := .ref Da) rfl (λ s7 I7 ⟨a,hsb,ha⟩=>?_) hf)
 have hCa:C≠a:=by
  rcases ha with rfl | ha
  ·exact hC
  ·exact λ z=>hcell x a ha z.symm
 refine ⟨m,hn.sameBut hsb hCa,λ h' hsb'=>⟨_,H5,?_,q6⟩⟩
 refine I7.turnedL (ch:=[C]) (t':=s7.toks) (λ b hb'=>?_) λ b u hb' e=>(hsb'.2 b λ z=>hb' (by simp [z])).trans e
 have eb:b=C:=by simpa using hb'
 subst eb
 exact hfp _ h5
theorem znw {elt tg iter:Expr} {ifs:List Expr} {scope:Scope} {cpos pos pos':Pos} {wi:TI} {g:TG} {ti:TT} {te:TE} {i:Nat} {x:Str} (N':List Str) (nt:Nat) (cap:List Nat)
  (hN:X.N.Nodup) (hix:X.N[i]? = some x) (hx:Loc X.env.scope x)
  (hc:X.calm=true) (hi:PI X tg iter wi) (hgk:zfg nt g)
  (hg:∀ C s₀ H₀ fp E',PG (X.comp scope C s₀ H₀ fp N' E') tg g)
  (hif:∀ C s₀ H₀ fp E',PIf (X.comp scope C s₀ H₀ fp N' E') ifs ti)
  (he:∀ C s₀ H₀ fp E',PE (X.comp scope C s₀ H₀ fp N' E') elt te)
  (hk:scope.kind = .function:=by rfl) (hb:zsd scope X.env=true:=by rfl) (hcap:zhq X scope N' nt cap=true:=by rfl)
  (hs:∀ x,foldedSetIterable iter X.env x=pure x:=by intro _;rfl) (hf:X.fn x=true ∨ X.env.scope.names.lookup x=some .local:=by first | exact .inl rfl | exact .inr rfl | assumption)
  (hsw:swapsWith (.ListComp elt [⟨tg,iter,ifs,0⟩] scope cpos) (some (.Name x pos')) pos.line X.env=pure true:=by rfl) :
  PS X (.Assign [.Name x pos'] (.ListComp elt [⟨tg,iter,ifs,0⟩] scope cpos) pos) (tAsg (zcx wi nt cap g ti te) (zuo i)) :=
 zpt (λ _ _ _ _ _=>True) (λ _ _ _ _ _ _ _ _ _=>trivial) hc hi (λ C s₀ H₀ fp E' _=>hg C s₀ H₀ fp E') (λ C s₀ H₀ fp E' _=>hif C s₀ H₀ fp E') (λ C s₀ H₀ fp E' _=>he C s₀ H₀ fp E') hk hb hcap hgk hs hN hix hx hf hsw
end
end L2
namespace HT
open PySem PySem.Spec PyProof.Rows
section
variable {prog:Program} {w:World} {A:Around} {E:Value→Shared→Prop} {s:Shared}
theorem getItem_tuple_whole {t sl:Addr} {items:Array Value} {vl vu:Value} {lo hi:Option Int} {Q:Value→Shared→Prop} (ht:IsTup s.heap t items) (hs:s.heap.IsSliceOf sl vl vu .none) (pl:IsPart vl lo) (pu:IsPart vu hi)
  (hw:sIx items.size 0 lo=0∧sIx items.size items.size hi=items.size) (h:Q (.ref t) s):wpAny (model prog w) A (getItem (.ref t) (.ref sl)) Q E s:=by
 obtain ⟨os,hos,hcs,hds⟩:=id hs
 have hTs:s.TypeIs (.ref sl) "slice" := ⟨os,hos,hcs⟩
 unfold getItem
 try with_reducible refine wpAny_holding ?_
 first | refine wpAny_bind (wpAny_pure ?_) | skip
 refine wpAny_bind (wpAny_sequenceKey ht.typeIs (by decide) ?_)
 refine wpAny_bind (wpAny_callSpecial?_slot (name:=Str.ofString "__getitem__") ht.typeIs PyProof.Rows.slot_tuple_getitem
  (wpAny_call_entry PyProof.Rows.slot_tuple_getitem ht.typeIs entry_tuple_getitem ?_ (args_tuple_getitem _ _)))
 show wpAny _ _ (Builtin.Tuple.tupleItemsOf (.ref t) >>= _) _ _ s
 refine wpAny_bind (tupleItemsOf_ ht ?_)
 refine wpAny_bind (wpAny_typeOf hTs ?_)
 rw [if_pos (by decide)]
 refine wpAny_bind (zic hs pl pu ?_)
 have hyes:((((sIx items.size 0 lo:Nat):Int) == 0 && (1:Int) == 1 && (sIx items.size items.size hi - sIx items.size 0 lo) == items.size)=true):=by
  rw [hw.1,hw.2]
  simp
 show wpAny _ _ (if (((sIx items.size 0 lo:Nat):Int) == 0 && (1:Int) == 1 && (sIx items.size items.size hi - sIx items.size 0 lo) == items.size)=true then _ else _) _ _ s
 rw [if_pos hyes]
 refine wpAny_bind ?_
 unfold Builtin.Tuple.tupleIsExact
 refine wpAny_bind (wpAny_typeOf ht.typeIs (wpAny_pure ?_))
 rw [if_pos (by decide)]
 refine wpAny_bind (wpAny_rule ?_)
 refine wpAny_pure ⟨_,rfl,?_⟩
 exact wpAny_pure h
end
end HT
namespace L2
open PySem PySem.Spec PyProof.Rows PySem.NumText
section
variable {X:Cx}
noncomputable def rSlG (K:W.Frag):V→Option Int→Option Int→Hp→VK→Prop:=λ x lo hi H Q=>∃ a xs,x = .ref a∧SqT K H a xs∧∀ p H',SqT K H' p (cutV xs lo hi)→Same H H'→(Plain H→Plain H')→Q (.ref p) H'
theorem zjn:SlR X (rSlG X.K):=by
 intro pins s σ H x v vl vu lo hi sl Q I rx hs pl pu h
 obtain ⟨a,xs,rfl,hx,q⟩:=h
 by_cases hw:HT.sIx xs.length 0 lo=0∧HT.sIx xs.length xs.length hi=xs.length
 ·cases rx
  obtain ⟨its,r,ht,hz⟩:=I.tuple hx
  have hlen:its.toArray.size=xs.length:=by rw [List.size_toArray];exact r.length.symm
  refine ⟨"tuple",_,PyProof.Rows.slot_tuple_getitem.lookup,ht.typeIs,?_⟩
  refine HT.getItem_tuple_whole ht hs pl pu (by rw [hlen];exact hw) ⟨.ref a,H,I,rfl,q _ _ ?_ (Same.refl _) id⟩
  unfold cutV
  rw [hw.1,hw.2]
  simpa using hx
 ·exact zf1 pins s σ H (.ref a) v vl vu lo hi sl Q I rx hs pl pu ⟨a,xs,rfl,hx,hw,λ p hp=>q _ _ (SqT.of upd_same) (zba hp) λ z=>z.tup⟩
end
mutual
noncomputable def noL:PyData→Bool
 | .list _=>false
 | .tuple xs=>noLs xs
 | _=>true
noncomputable def noLs:List PyData→Bool
 | []=>true
 | d::ds=>noL d && noLs ds
end
theorem SqT.mono {K:W.Frag} {H H':Hp} {a D:Addr} {xs:List V} (k:∀ b o,b≠D→H b=some o→H' b=some o) (hd:∃ zs,H D=some (.lst zs)) (h:SqT K H a xs):SqT K H' a xs:=by
 obtain ⟨zs,hd⟩:=hd
 rcases h with h | h
 ·rcases h with h | ⟨o,h⟩
  ·exact .inl (.inl (k _ _ (zqf h hd (λ e=>nomatch e)) h))
  ·exact .inl (.inr ⟨o,k _ _ (zqf h hd (λ e=>nomatch e)) h⟩)
 ·exact .inr h
mutual
theorem DV.mono {K:W.Frag} {H H':Hp} {D:Addr} (k:∀ b o,b≠D→H b=some o→H' b=some o) (hd:∃ zs,H D=some (.lst zs)):∀ (d:PyData) (v:V),noL d=true→DV K H d v→DV K H' d v
 | .none,v,_,h=>h
 | .bool b,v,_,h=>h
 | .int i,v,_,h=>h
 | .str x,v,_,h=>h
 | .list xs,v,n,_=>by cases n
 | .tuple xs,v,n,⟨a,vs,h1,h2,h3⟩=>⟨a,vs,h1,h2.mono k hd,DVs.mono k hd xs vs n h3⟩
 | .dict _,v,_,h=>h.elim
theorem DVs.mono {K:W.Frag} {H H':Hp} {D:Addr} (k:∀ b o,b≠D→H b=some o→H' b=some o) (hd:∃ zs,H D=some (.lst zs)):∀ (ds:List PyData) (vs:List V),noLs ds=true→DVs K H ds vs→DVs K H' ds vs
 | [],vs,_,h=>h
 | d::ds,vs,n,⟨v,r,h1,h2,h3⟩=>by
  have n:noL d=true∧noLs ds=true:=by rw [noLs,Bool.and_eq_true] at n;exact n
  exact ⟨v,r,h1,DV.mono k hd d v n.1 h2,DVs.mono k hd ds r n.2 h3⟩
end
theorem DVs.length {K:W.Frag} {H:Hp}:∀ {ds:List PyData} {vs:List V},DVs K H ds vs→vs.length=ds.length
 | [],vs,h=>by cases (show vs=[] from h);rfl
 | d::ds,vs,⟨v,r,h1,h2,h3⟩=>by subst h1;simp [DVs.length h3]
theorem DVs.get {K:W.Frag} {H:Hp}:∀ {ds:List PyData} {vs:List V} {i:Nat} {d:PyData},DVs K H ds vs→ds[i]? = some d→∃ v,vs[i]? = some v∧DV K H d v
 | [],vs,i,d,h,e=>by simp at e
 | d::ds,vs,0,e',⟨v,r,h1,h2,h3⟩,e=>by subst h1;simp at e;subst e;exact ⟨v,rfl,h2⟩
 | d::ds,vs,i+1,e',⟨v,r,h1,h2,h3⟩,e=>by subst h1;simp at e;obtain ⟨u,hu,q⟩:=DVs.get h3 e;exact ⟨u,by simpa using hu,q⟩
theorem DVs.append {K:W.Frag} {H:Hp}:∀ {ds es:List PyData} {vs us:List V},DVs K H ds vs→DVs K H es us→DVs K H (ds++es) (vs++us)
 | [],es,vs,us,h,h'=>by cases (show vs=[] from h);exact h'
 | d::ds,es,vs,us,⟨v,r,h1,h2,h3⟩,h'=>by subst h1;exact ⟨v,r++us,rfl,h2,DVs.append h3 h'⟩
theorem DVs.take {K:W.Frag} {H:Hp}:∀ {ds:List PyData} {vs:List V} (n:Nat),DVs K H ds vs→DVs K H (ds.take n) (vs.take n)
 | ds,vs,0,h=>by rw [List.take_zero,List.take_zero];rfl
 | [],vs,n+1,h=>by cases (show vs=[] from h);rfl
 | d::ds,vs,n+1,⟨v,r,h1,h2,h3⟩=>by subst h1;exact ⟨v,_,rfl,h2,DVs.take n h3⟩
theorem DVs.of {α:Type} {K:W.Frag} {H:Hp} {f:α→PyData}:∀ {xs:List α} {vs:List V},vs.length=xs.length→(∀ (i:Nat) v x,vs[i]? = some v→xs[i]? = some x→DV K H (f x) v)→DVs K H (xs.map f) vs
 | [],vs,hl,h=>by cases vs with | nil=>rfl | cons _ _=>simp at hl
 | x::xs,vs,hl,h=>by
  cases vs with
  | nil=>simp at hl
  | cons v vs=>exact ⟨v,vs,rfl,h 0 v x rfl rfl,DVs.of (by simpa using hl) λ i u y e1 e2=>h (i+1) u y (by simpa using e1) (by simpa using e2)⟩
theorem zk2 {lo:Int} {n:Nat} {H1:Hp}:∀ i H2,Same H1 H2→(i<n→(Itr lo n).go i H2)∧((Itr lo n).stop n H2)∧∀ x H3,i<n→(Itr lo n).yld i H2 x H3→H3=H2∧x=V.int (lo+(i:Nat)):=λ i H2 e =>
 ⟨λ hi=>hi,Nat.le_refl _,λ x H3 hi y=>y⟩
theorem gk3 {K:W.Frag}:zfg 3 (gTup K 3 (zyv (zuo 0) (zyv (zuo 1) (zyv (zuo 2) gNil)))):=λ x c H Q h=>by
 obtain ⟨a,xs,e1,hq,hl,v,r,e2,v',r',e3,v2,r2,e4,e5,h⟩:=h
 refine ⟨a,xs,e1,hq,hl,v,r,e2,v',r',e3,v2,r2,e4,e5,h,λ j v e=>?_⟩
 match j,e with
 | 0,e=>simp [List.replicate] at e
 | 1,e=>simp [List.replicate] at e
 | 2,e=>simp [List.replicate] at e
 | j+3,e=>simpa [List.replicate,List.set] using e
section
variable {X:Cx} {K:W.Frag}
theorem zey (h:X.K=K):SlR X (rSlG K):=h ▸ zjn
theorem zst (h:X.K=K):IxR X (rIxL K):=h ▸ zma
theorem zxw (h:X.K=K):IxR X (rIxT K):=h ▸ zmq
end
end L2
namespace L2
open PySem PySem.Spec PyProof.Rows PySem.NumText
noncomputable abbrev Stp:=Int×Int×Int
noncomputable def stp (s:Stp):PyData := .tuple [.int s.1,.int s.2.1,.int s.2.2]
noncomputable def plc (ss:List Stp):PyData := .tuple (ss.map stp)
noncomputable abbrev sV (s:Stp):List V:=[.int s.1,.int s.2.1,.int s.2.2]
theorem zlw {K:W.Frag} {H:Hp} {s:Stp} {t:Addr} (h:SqT K H t (sV s)):DV K H (stp s) (.ref t):=⟨t,_,rfl,h,_,_,rfl,rfl,_,_,rfl,rfl,_,_,rfl,rfl,rfl⟩
theorem zcy (s:Stp):noL (stp s)=true:=rfl
theorem zoi:∀ ss:List Stp,noLs (ss.map stp)=true
 | []=>rfl
 | s::ss=>by rw [List.map_cons,noLs,zcy,zoi ss];rfl
theorem zdy (ss:List Stp):noL (plc ss)=true:=zoi ss
theorem zpf:∀ ss:List Stp,PyData.canLayAll0 (ss.map stp)=true
 | []=>rfl
 | s::ss=>by
  rw [List.map_cons,PyData.canLayAll0,zpf ss]
  rfl
theorem zvb:∀ ss:List Stp,PyData.depthAll (ss.map stp)≤1
 | []=>Nat.zero_le _
 | s::ss=>by
  rw [List.map_cons,PyData.depthAll]
  have h1:PyData.depth (stp s)=1:=rfl
  have h2:=zvb ss
  rw [h1]
  omega
theorem zvn (ss:List Stp):PyData.canLay0 (plc ss)=true:=zpf ss
theorem zcs (a b:Stp):PyData.eqv (stp a) (stp b)=decide (a=b):=by
 obtain ⟨a1,a2,a3⟩:=a
 obtain ⟨b1,b2,b3⟩:=b
 have e:PyData.eqv (stp (a1,a2,a3)) (stp (b1,b2,b3))=(a1 == b1 && (a2 == b2 && (a3 == b3 && true))):=rfl
 rw [e,Bool.eq_iff_iff]
 simp
theorem zcl:∀ a b:List Stp,PyData.eqvAll (a.map stp) (b.map stp)=decide (a=b)
 | [],[]=>rfl
 | [],_::_=>rfl
 | _::_,[]=>rfl
 | x::a,y::b=>by
  rw [List.map_cons,List.map_cons,PyData.eqvAll,zcs,zcl a b,Bool.eq_iff_iff]
  simp
theorem zbl (a b:List Stp):PyData.eqv (plc a) (plc b)=decide (a=b):=zcl a b
theorem zgu {xs:List V} {i:Int} (h0:0≤i):cutV xs (some i) none=xs.drop i.toNat:=by
 obtain ⟨j,rfl⟩:∃ j:Nat,i=j:=⟨i.toNat,by omega⟩
 unfold cutV
 rw [HT.sIx_none,HT.sIx_nat,Int.toNat_natCast]
 rcases Nat.le_total j xs.length with h | h
 ·rw [Nat.min_eq_left h,List.take_of_length_le (by rw [List.length_drop];exact Nat.le_refl _)]
 ·rw [Nat.min_eq_right h,List.drop_of_length_le h,List.drop_of_length_le (Nat.le_refl _),List.take_nil]
end L2
namespace L2
open PySem PySem.Spec PyProof.Rows PySem.NumText
noncomputable def lexD (e r:Nat→Bool) (d:Bool):List Nat→Bool
 | []=>d
 | j::js=>if e j=true then lexD e r d js else r j
noncomputable def zal (op:CmpOp) (A:Around) (s:Shared) (y x:Value) (b:Bool):Prop :=
 ∀ (prog:Program) (w:World) (E:Value→Shared→Prop) (Q:Value→Shared→Prop),Q (.bool b) s→wpAny (model prog w) A (richCompare op y x) Q E s
section
open PySem.SeqAt
open PySem.AutoSeq1 (wpAny_loadPart')
open PySem.MeetsSeq PySem.MeetsSeq2 PySem.MeetsSeq3
end
noncomputable def lexG {α:Type} [DecidableEq α] (lt:α→α→Bool):List α→List α→Bool
 | [],[]=>false
 | [],_::_=>true
 | _::_,[]=>false
 | x::xs,y::ys=>if x=y then lexG lt xs ys else lt x y
theorem zmo (e r:Nat→Bool) (d:Bool):∀ js:List Nat,lexD e r d (js.map Nat.succ)=lexD (λ j=>e (j+1)) (λ j=>r (j+1)) d js
 | []=>rfl
 | j::js=>by
  rw [List.map_cons,lexD,lexD,zmo e r d js]
noncomputable abbrev iLt (a b:Int):Bool:=decide (a<b)
noncomputable def sI (s:Stp):List Int:=[s.1,s.2.1,s.2.2]
theorem sI_inj {a b:Stp}:sI a=sI b↔a=b:=by
 obtain ⟨a1,a2,a3⟩:=a
 obtain ⟨b1,b2,b3⟩:=b
 simp [sI]
noncomputable abbrev sLt (a b:Stp):Bool:=lexG iLt (sI a) (sI b)
noncomputable abbrev pLt (a b:List Stp):Bool:=lexG sLt a b
section
variable {X:Cx} {pins:List (Addr×Obj)} {σ:St} {H:Hp} {s:Shared} {A:Around}
end
section
variable {X:Cx} {K:W.Frag}
end
theorem Room.u100 {k:Nat} {A:Around} (r:Room k A):A.units+100<cLine:=by have:=r.un;omega
end L2
namespace L2
open PySem PySem.Spec PyProof.Rows PySem.NumText
section
open PySem.SeqAt
open PySem.AutoSeq1 (wpAny_loadPart')
open PySem.MeetsSeq PySem.MeetsSeq2 PySem.MeetsSeq3
theorem zxk (l b:Addr) (items items2:Array Value) (n n2:Nat) (dd dd2:Option Addr) (sl sl2:Array (Option Value)) (e r:Nat→Bool) :
  Meets (Builtin.«tuple.__lt__» ⟨[.ref l,.ref b],[]⟩)
   (λ A R s=>s.heap.get? l=some { cls := .type "tuple",dict:=dd,data := .seq items n,slots:=sl }∧s.heap.get? b=some { cls := .type "tuple",dict:=dd2,data := .seq items2 n2,slots:=sl2 } ∧
    (∀ j (h1:j<items.size) (h2:j<items2.size),EqAt A.in1 s items[j] items2[j] (e j)) ∧
    (∀ j (h1:j<items.size) (h2:j<items2.size),(∀ i,i<j→e i=true)→e j=false→zal .Lt A.in1 s items[j] items2[j] (r j)) ∧
    R (.ok (.ret (.bool (lexD e r (decide (items.size<items2.size)) (List.range (min items.size items2.size)))))) s) :=
 .of_wp λ prog w A R s h=>by
  obtain ⟨hp,g,d,tk,os⟩:=s;obtain ⟨hl,hb,he,hc,h⟩:=h
  have f2:=AutoSeq1.sub_tuple_tuple
  have hZ:(items.toList.zip items2.toList).length=min items.size items2.size:=by simp
  wp_walk using wpAny_loadPart' hl,wpAny_loadPart' hb,wpAny_forIn_list _ (λ rest b s'=>b.1=none∧s'=⟨hp,g,d,tk,os⟩∧∃ i,rest=(items.toList.zip items2.toList).drop i∧(∀ k,k<i→e k=true) ∧
   R (.ok (.ret (.bool (lexD e r (decide (items.size<items2.size)) ((List.range (min items.size items2.size)).drop i))))) ⟨hp,g,d,tk,os⟩) _
  case turn =>
   rintro ⟨y,x⟩ rest b s' ⟨hb',rfl,i,hz,hall,hR⟩
   have hlt:i<(items.toList.zip items2.toList).length:=by
    rcases Nat.lt_or_ge i (items.toList.zip items2.toList).length with h' | h'
    ·exact h'
    ·rw [List.drop_of_length_le h'] at hz;cases hz
   have hm:i<min items.size items2.size:=hZ ▸ hlt
   have h1:i<items.size:=Nat.lt_of_lt_of_le hm (Nat.min_le_left _ _)
   have h2:i<items2.size:=Nat.lt_of_lt_of_le hm (Nat.min_le_right _ _)
   rw [List.drop_eq_getElem_cons hlt] at hz
   injection hz with hyx hrest
   have hy:y=items[i]:=by have:=congrArg Prod.fst hyx;simpa using this
   have hx:x=items2[i]:=by have:=congrArg Prod.snd hyx;simpa using this
   subst hy hx
   have hd:(List.range (min items.size items2.size)).drop i=i::(List.range (min items.size items2.size)).drop (i+1):=by simp [List.drop_eq_getElem_cons,hm]
   rw [hd,lexD] at hR
   refine wpAny_bind (he i h1 h2 prog w _ _ ?_)
   cases hy:e i with
   | true =>
    rw [hy,if_pos rfl] at hR
    wp_walk
    exact ⟨rfl,rfl,i+1,hrest,λ k hk=>by
     rcases Nat.lt_or_ge k i with h' | h'
     ·exact hall k h'
     ·have:k=i:=by omega
      rw [this];exact hy,hR⟩
   | false =>
    rw [hy,if_neg Bool.false_ne_true] at hR
    have hri:=hc i h1 h2 hall hy prog w
    wp_walk using hri
    exact ⟨_,rfl,by simpa using hR⟩
  case fin =>
   rintro ⟨b1,b2⟩ s' ⟨hb',rfl,i,hz,hall,hR⟩
   simp only at hb'
   subst hb'
   have hge:min items.size items2.size≤i:=by
    rw [← hZ]
    rcases Nat.lt_or_ge i (items.toList.zip items2.toList).length with h' | h'
    ·rw [List.drop_eq_getElem_cons h'] at hz;cases hz
    ·exact h'
   rw [List.drop_of_length_le (by simpa using hge),lexD] at hR
   wp_walk
   exact ⟨_,rfl,by simpa [Builtin.Tuple.tupleCompareSizes] using hR⟩
  case h =>
   exact ⟨rfl,rfl,0,rfl,λ k hk=>absurd hk (Nat.not_lt_zero _),h⟩
theorem zir {prog:Program} {w:World} {A:Around} {E:Value→Shared→Prop} {s:Shared} {l b:Addr} {items items2:Array Value} {e r:Nat→Bool} {Q:Value→Shared→Prop} (hl:IsTup s.heap l items) (hb:IsTup s.heap b items2)
  (he:∀ j (h1:j<items.size) (h2:j<items2.size),EqAt A.in1 s items[j] items2[j] (e j)) (hc:∀ j (h1:j<items.size) (h2:j<items2.size),(∀ i,i<j→e i=true)→e j=false→zal .Lt A.in1 s items[j] items2[j] (r j))
  (hu:A.units<cLine) (h:Q (.bool (lexD e r (decide (items.size<items2.size)) (List.range (min items.size items2.size)))) s):wpAny (model prog w) A (compareOp .Lt (.ref l) (.ref b)) Q E s:=by
 obtain ⟨⟨cls,dd,data,sl⟩,ho,hc1,n,hd⟩:=id hl
 obtain ⟨⟨cls2,dd2,data2,sl2⟩,ho2,hc2,n2,hd2⟩:=id hb
 simp only at hc1 hd hc2 hd2
 subst hc1 hd hc2 hd2
 refine richCompare_meets_room (op := .Lt) ⟨_,ho,rfl⟩ ⟨_,ho2,rfl⟩ PySem.F.slot_tuple_lt PySem.F.entry_tuple_lt (PySem.F.args_tuple_lt_2 _ _) (zxk l b items items2 n n2 dd dd2 sl sl2 e r) ⟨ho,ho2,he,hc,?_⟩ hu
 exact (show Value.bool _≠Value.notImplemented∧Q (.bool _) s from ⟨(λ x=>nomatch x),h⟩)
theorem zok (l b:Addr) (items items2:Array Value) (n n2:Nat) (dd dd2:Option Addr) (sl sl2:Array (Option Value)) (e r:Nat→Bool) :
  Meets (Builtin.«tuple.__ge__» ⟨[.ref l,.ref b],[]⟩)
   (λ A R s=>s.heap.get? l=some { cls := .type "tuple",dict:=dd,data := .seq items n,slots:=sl }∧s.heap.get? b=some { cls := .type "tuple",dict:=dd2,data := .seq items2 n2,slots:=sl2 } ∧
    (∀ j (h1:j<items.size) (h2:j<items2.size),EqAt A.in1 s items[j] items2[j] (e j)) ∧
    (∀ j (h1:j<items.size) (h2:j<items2.size),(∀ i,i<j→e i=true)→e j=false→zal .GtE A.in1 s items[j] items2[j] (r j)) ∧
    R (.ok (.ret (.bool (lexD e r (decide (items2.size≤items.size)) (List.range (min items.size items2.size)))))) s) :=
 .of_wp λ prog w A R s h=>by
  obtain ⟨hp,g,d,tk,os⟩:=s;obtain ⟨hl,hb,he,hc,h⟩:=h
  have f2:=AutoSeq1.sub_tuple_tuple
  have hZ:(items.toList.zip items2.toList).length=min items.size items2.size:=by simp
  wp_walk using wpAny_loadPart' hl,wpAny_loadPart' hb,wpAny_forIn_list _ (λ rest b s'=>b.1=none∧s'=⟨hp,g,d,tk,os⟩∧∃ i,rest=(items.toList.zip items2.toList).drop i∧(∀ k,k<i→e k=true) ∧
   R (.ok (.ret (.bool (lexD e r (decide (items2.size≤items.size)) ((List.range (min items.size items2.size)).drop i))))) ⟨hp,g,d,tk,os⟩) _
  case turn =>
   rintro ⟨y,x⟩ rest b s' ⟨hb',rfl,i,hz,hall,hR⟩
   have hlt:i<(items.toList.zip items2.toList).length:=by
    rcases Nat.lt_or_ge i (items.toList.zip items2.toList).length with h' | h'
    ·exact h'
    ·rw [List.drop_of_length_le h'] at hz;cases hz
   have hm:i<min items.size items2.size:=hZ ▸ hlt
   have h1:i<items.size:=Nat.lt_of_lt_of_le hm (Nat.min_le_left _ _)
   have h2:i<items2.size:=Nat.lt_of_lt_of_le hm (Nat.min_le_right _ _)
   rw [List.drop_eq_getElem_cons hlt] at hz
   injection hz with hyx hrest
   have hy:y=items[i]:=by have:=congrArg Prod.fst hyx;simpa using this
   have hx:x=items2[i]:=by have:=congrArg Prod.snd hyx;simpa using this
   subst hy hx
   have hd:(List.range (min items.size items2.size)).drop i=i::(List.range (min items.size items2.size)).drop (i+1):=by simp [List.drop_eq_getElem_cons,hm]
   rw [hd,lexD] at hR
   refine wpAny_bind (he i h1 h2 prog w _ _ ?_)
   cases hy:e i with
   | true =>
    rw [hy,if_pos rfl] at hR
    wp_walk
    exact ⟨rfl,rfl,i+1,hrest,λ k hk=>by
     rcases Nat.lt_or_ge k i with h' | h'
     ·exact hall k h'
     ·have:k=i:=by omega
      rw [this];exact hy,hR⟩
   | false =>
    rw [hy,if_neg Bool.false_ne_true] at hR
    have hri:=hc i h1 h2 hall hy prog w
    wp_walk using hri
    exact ⟨_,rfl,by simpa using hR⟩
  case fin =>
   rintro ⟨b1,b2⟩ s' ⟨hb',rfl,i,hz,hall,hR⟩
   simp only at hb'
   subst hb'
   have hge:min items.size items2.size≤i:=by
    rw [← hZ]
    rcases Nat.lt_or_ge i (items.toList.zip items2.toList).length with h' | h'
    ·rw [List.drop_eq_getElem_cons h'] at hz;cases hz
    ·exact h'
   rw [List.drop_of_length_le (by simpa using hge),lexD] at hR
   wp_walk
   exact ⟨_,rfl,by simpa [Builtin.Tuple.tupleCompareSizes] using hR⟩
  case h =>
   exact ⟨rfl,rfl,0,rfl,λ k hk=>absurd hk (Nat.not_lt_zero _),h⟩
theorem zxo {prog:Program} {w:World} {A:Around} {E:Value→Shared→Prop} {s:Shared} {l b:Addr} {items items2:Array Value} {e r:Nat→Bool} {Q:Value→Shared→Prop} (hl:IsTup s.heap l items) (hb:IsTup s.heap b items2)
  (he:∀ j (h1:j<items.size) (h2:j<items2.size),EqAt A.in1 s items[j] items2[j] (e j)) (hc:∀ j (h1:j<items.size) (h2:j<items2.size),(∀ i,i<j→e i=true)→e j=false→zal .GtE A.in1 s items[j] items2[j] (r j))
  (hu:A.units<cLine) (h:Q (.bool (lexD e r (decide (items2.size≤items.size)) (List.range (min items.size items2.size)))) s):wpAny (model prog w) A (compareOp .GtE (.ref l) (.ref b)) Q E s:=by
 obtain ⟨⟨cls,dd,data,sl⟩,ho,hc1,n,hd⟩:=id hl
 obtain ⟨⟨cls2,dd2,data2,sl2⟩,ho2,hc2,n2,hd2⟩:=id hb
 simp only at hc1 hd hc2 hd2
 subst hc1 hd hc2 hd2
 refine richCompare_meets_room (op := .GtE) ⟨_,ho,rfl⟩ ⟨_,ho2,rfl⟩ PySem.F.slot_tuple_ge PySem.F.entry_tuple_ge (PySem.F.args_tuple_ge_2 _ _) (zok l b items items2 n n2 dd dd2 sl sl2 e r) ⟨ho,ho2,he,hc,?_⟩ hu
 exact (show Value.bool _≠Value.notImplemented∧Q (.bool _) s from ⟨(λ x=>nomatch x),h⟩)
theorem ztk (l b:Addr) (items items2:Array Value) (n n2:Nat) (dd dd2:Option Addr) (sl sl2:Array (Option Value)) (e r:Nat→Bool) :
  Meets (Builtin.«tuple.__gt__» ⟨[.ref l,.ref b],[]⟩)
   (λ A R s=>s.heap.get? l=some { cls := .type "tuple",dict:=dd,data := .seq items n,slots:=sl }∧s.heap.get? b=some { cls := .type "tuple",dict:=dd2,data := .seq items2 n2,slots:=sl2 } ∧
    (∀ j (h1:j<items.size) (h2:j<items2.size),EqAt A.in1 s items[j] items2[j] (e j)) ∧
    (∀ j (h1:j<items.size) (h2:j<items2.size),(∀ i,i<j→e i=true)→e j=false→zal .Gt A.in1 s items[j] items2[j] (r j)) ∧
    R (.ok (.ret (.bool (lexD e r (decide (items2.size<items.size)) (List.range (min items.size items2.size)))))) s) :=
 .of_wp λ prog w A R s h=>by
  obtain ⟨hp,g,d,tk,os⟩:=s;obtain ⟨hl,hb,he,hc,h⟩:=h
  have f2:=AutoSeq1.sub_tuple_tuple
  have hZ:(items.toList.zip items2.toList).length=min items.size items2.size:=by simp
  wp_walk using wpAny_loadPart' hl,wpAny_loadPart' hb,wpAny_forIn_list _ (λ rest b s'=>b.1=none∧s'=⟨hp,g,d,tk,os⟩∧∃ i,rest=(items.toList.zip items2.toList).drop i∧(∀ k,k<i→e k=true) ∧
   R (.ok (.ret (.bool (lexD e r (decide (items2.size<items.size)) ((List.range (min items.size items2.size)).drop i))))) ⟨hp,g,d,tk,os⟩) _
  case turn =>
   rintro ⟨y,x⟩ rest b s' ⟨hb',rfl,i,hz,hall,hR⟩
   have hlt:i<(items.toList.zip items2.toList).length:=by
    rcases Nat.lt_or_ge i (items.toList.zip items2.toList).length with h' | h'
    ·exact h'
    ·rw [List.drop_of_length_le h'] at hz;cases hz
   have hm:i<min items.size items2.size:=hZ ▸ hlt
   have h1:i<items.size:=Nat.lt_of_lt_of_le hm (Nat.min_le_left _ _)
   have h2:i<items2.size:=Nat.lt_of_lt_of_le hm (Nat.min_le_right _ _)
   rw [List.drop_eq_getElem_cons hlt] at hz
   injection hz with hyx hrest
   have hy:y=items[i]:=by have:=congrArg Prod.fst hyx;simpa using this
   have hx:x=items2[i]:=by have:=congrArg Prod.snd hyx;simpa using this
   subst hy hx
   have hd:(List.range (min items.size items2.size)).drop i=i::(List.range (min items.size items2.size)).drop (i+1):=by simp [List.drop_eq_getElem_cons,hm]
   rw [hd,lexD] at hR
   refine wpAny_bind (he i h1 h2 prog w _ _ ?_)
   cases hy:e i with
   | true =>
    rw [hy,if_pos rfl] at hR
    wp_walk
    exact ⟨rfl,rfl,i+1,hrest,λ k hk=>by
     rcases Nat.lt_or_ge k i with h' | h'
     ·exact hall k h'
     ·have:k=i:=by omega
      rw [this];exact hy,hR⟩
   | false =>
    rw [hy,if_neg Bool.false_ne_true] at hR
    have hri:=hc i h1 h2 hall hy prog w
    wp_walk using hri
    exact ⟨_,rfl,by simpa using hR⟩
  case fin =>
   rintro ⟨b1,b2⟩ s' ⟨hb',rfl,i,hz,hall,hR⟩
   simp only at hb'
   subst hb'
   have hge:min items.size items2.size≤i:=by
    rw [← hZ]
    rcases Nat.lt_or_ge i (items.toList.zip items2.toList).length with h' | h'
    ·rw [List.drop_eq_getElem_cons h'] at hz;cases hz
    ·exact h'
   rw [List.drop_of_length_le (by simpa using hge),lexD] at hR
   wp_walk
   exact ⟨_,rfl,by simpa [Builtin.Tuple.tupleCompareSizes] using hR⟩
  case h =>
   exact ⟨rfl,rfl,0,rfl,λ k hk=>absurd hk (Nat.not_lt_zero _),h⟩
theorem zqp {prog:Program} {w:World} {A:Around} {E:Value→Shared→Prop} {s:Shared} {l b:Addr} {items items2:Array Value} {e r:Nat→Bool} {Q:Value→Shared→Prop} (hl:IsTup s.heap l items) (hb:IsTup s.heap b items2)
  (he:∀ j (h1:j<items.size) (h2:j<items2.size),EqAt A.in1 s items[j] items2[j] (e j)) (hc:∀ j (h1:j<items.size) (h2:j<items2.size),(∀ i,i<j→e i=true)→e j=false→zal .Gt A.in1 s items[j] items2[j] (r j))
  (hu:A.units<cLine) (h:Q (.bool (lexD e r (decide (items2.size<items.size)) (List.range (min items.size items2.size)))) s):wpAny (model prog w) A (compareOp .Gt (.ref l) (.ref b)) Q E s:=by
 obtain ⟨⟨cls,dd,data,sl⟩,ho,hc1,n,hd⟩:=id hl
 obtain ⟨⟨cls2,dd2,data2,sl2⟩,ho2,hc2,n2,hd2⟩:=id hb
 simp only at hc1 hd hc2 hd2
 subst hc1 hd hc2 hd2
 refine richCompare_meets_room (op := .Gt) ⟨_,ho,rfl⟩ ⟨_,ho2,rfl⟩ PySem.F.slot_tuple_gt PySem.F.entry_tuple_gt (PySem.F.args_tuple_gt_2 _ _) (ztk l b items items2 n n2 dd dd2 sl sl2 e r) ⟨ho,ho2,he,hc,?_⟩ hu
 exact (show Value.bool _≠Value.notImplemented∧Q (.bool _) s from ⟨(λ x=>nomatch x),h⟩)
end
mutual
noncomputable def ltD:PyData→PyData→Option Bool
 | .int a,.int b=>some (decide (a<b))
 | .str a,.str b=>some (decide (a.cps.toList<b.cps.toList))
 | .tuple xs,.tuple ys=>ltDs xs ys
 | _,_=>none
noncomputable def ltDs:List PyData→List PyData→Option Bool
 | [],[]=>some false
 | [],_::_=>some true
 | _::_,[]=>some false
 | x::xs,y::ys=>if PyData.eqv x y=true then ltDs xs ys else ltD x y
end
theorem zoj {e r:Nat→Bool}:∀ {xs ys:List PyData} {b:Bool},ltDs xs ys=some b→(∀ (j:Nat) x y,xs[j]? = some x→ys[j]? = some y→e j=PyData.eqv x y) →
  (∀ (j:Nat) x y c,xs[j]? = some x→ys[j]? = some y→(∀ i,i<j→e i=true)→e j=false→ltD x y=some c→r j=c) →
  lexD e r (decide (xs.length<ys.length)) (List.range (min xs.length ys.length))=b:=by
 intro xs
 induction xs generalizing e r with
 | nil =>
  intro ys b h _ _
  cases ys with
  | nil=>cases h;rfl
  | cons y ys=>cases h;rw [List.length_nil,Nat.zero_min];exact decide_eq_true (Nat.succ_pos _)
 | cons x xs ih =>
  intro ys b h he hr
  cases ys with
  | nil=>cases h;rw [List.length_nil,Nat.min_zero];exact decide_eq_false (Nat.not_lt_zero _)
  | cons y ys =>
   have h0:=he 0 x y rfl rfl
   rw [List.length_cons,List.length_cons,Nat.succ_min_succ,List.range_succ_eq_map,lexD]
   rw [ltDs] at h
   by_cases hxy:PyData.eqv x y=true
   ·rw [if_pos hxy] at h
    rw [if_pos (h0.trans hxy),zmo]
    have:=ih (ys:=ys) (e:=λ j=>e (j+1)) (r:=λ j=>r (j+1)) h (λ j a b h1 h2=>he (j+1) a b (by simpa using h1) (by simpa using h2))
     (λ j a b c h1 h2 h3 h4 h5=>hr (j+1) a b c (by simpa using h1) (by simpa using h2) (λ i hi=>by
      cases i with
      | zero=>exact h0.trans hxy
      | succ i=>exact h3 i (by omega)) h4 h5)
    rw [← this]
    congr 1
    exact decide_eq_decide.mpr (by omega)
   ·rw [if_neg hxy] at h
    have hf:e 0=false:=by rw [h0];simpa using hxy
    rw [if_neg (by rw [hf];exact Bool.false_ne_true)]
    exact hr 0 x y b rfl rfl (λ i hi=>absurd hi (Nat.not_lt_zero _)) hf h
theorem znl {e r:Nat→Bool} {d:Bool}:∀ js:List Nat,lexD e (λ j => !r j) (!d) js = !lexD e r d js
 | []=>rfl
 | j::js=>by
  rw [lexD,lexD,znl js]
  split <;> rfl
theorem zyb {h:Heap}:∀ {xs:List PyData} {vs:List Value} {as:List Addr} {j:Nat} {v:Value},ReadsAll h vs xs as→vs[j]? = some v→∃ d bs,xs[j]? = some d∧Reads h v d bs∧d∈xs
 | _,_,_,0,v,.cons (v:=u) (d:=d) r rr,e=>by
  have:u=v:=by simpa using e
  subst this
  exact ⟨_,_,rfl,r,List.mem_cons_self⟩
 | _,_,_,j+1,v,.cons r rr,e=>by
  obtain ⟨d,bs,h1,h2,h3⟩:=zyb rr (j:=j) (by simpa using e)
  exact ⟨d,bs,by simpa using h1,h2,List.mem_cons_of_mem _ h3⟩
theorem zza:∀ {xs:List PyData} {d:PyData},d∈xs→PyData.canLayAll0 xs=true→PyData.canLay0 d=true
 | x::xs,d,h,c=>by
  rw [PyData.canLayAll0,Bool.and_eq_true] at c
  rcases List.mem_cons.mp h with rfl | h
  ·exact c.1
  ·exact zza h c.2
theorem zdd:∀ {xs:List PyData} {d:PyData},d∈xs→PyData.depth d≤PyData.depthAll xs
 | x::xs,d,h=>by
  rw [PyData.depthAll]
  rcases List.mem_cons.mp h with rfl | h
  ·omega
  ·have:=zdd h
   omega
theorem zjm:∀ (n:Nat) (da db:PyData) (c:Bool) (A:Around) (s:Shared) (a b:Value) (as bs:List Addr),PyData.depth da≤n→Reads s.heap a da as→Reads s.heap b db bs→da.canLay0=true→db.canLay0=true→ltD da db=some c →
  A.units+n+2<cLine→zal .Lt A s a b c∧zal .GtE A s a b (!c):=by
 intro n
 induction n with
 | zero =>
  intro da db c A s a b as bs hd ra rb _ _ hc hu
  cases ra with
  | int i t =>
   cases rb with
   | int j u =>
    have hc:decide (i<j)=c:=by simpa [ltD] using hc
    subst hc
    refine ⟨λ prog w E Q hq=>(PyProof.Rows.lt_int hq:wpAny (model prog w) A (compareOp .Lt (.int i t) (.int j u)) Q E s),λ prog w E Q hq=>?_⟩
    have e:(!decide (i<j))=decide (j≤i):=by rw [← decide_not];exact decide_eq_decide.mpr (by omega)
    rw [e] at hq
    exact (PyProof.Rows.ge_int hq:wpAny (model prog w) A (compareOp .GtE (.int i t) (.int j u)) Q E s)
   | _=>simp [ltD] at hc
  | str x t =>
   cases rb with
   | str y u =>
    have hc:decide (x.cps.toList<y.cps.toList)=c:=by simpa [ltD] using hc
    subst hc
    exact ⟨λ prog w E Q hq=>(PyProof.Rows.lt_str hq:wpAny (model prog w) A (compareOp .Lt (.str x t) (.str y u)) Q E s),λ prog w E Q hq=>(PySem.P.ge_str hq:wpAny (model prog w) A (compareOp .GtE (.str x t) (.str y u)) Q E s)⟩
   | _=>simp [ltD] at hc
  | tuple h1 h2 h3 h4=>simp [PyData.depth] at hd
  | _=>simp [ltD] at hc
 | succ n ih =>
  intro da db c A s a b as bs hd ra rb la lb hc hu
  cases ra with
  | int i t =>
   cases rb with
   | int j u =>
    have hc:decide (i<j)=c:=by simpa [ltD] using hc
    subst hc
    refine ⟨λ prog w E Q hq=>(PyProof.Rows.lt_int hq:wpAny (model prog w) A (compareOp .Lt (.int i t) (.int j u)) Q E s),λ prog w E Q hq=>?_⟩
    have e:(!decide (i<j))=decide (j≤i):=by rw [← decide_not];exact decide_eq_decide.mpr (by omega)
    rw [e] at hq
    exact (PyProof.Rows.ge_int hq:wpAny (model prog w) A (compareOp .GtE (.int i t) (.int j u)) Q E s)
   | _=>simp [ltD] at hc
  | str x t =>
   cases rb with
   | str y u =>
    have hc:decide (x.cps.toList<y.cps.toList)=c:=by simpa [ltD] using hc
    subst hc
    exact ⟨λ prog w E Q hq=>(PyProof.Rows.lt_str hq:wpAny (model prog w) A (compareOp .Lt (.str x t) (.str y u)) Q E s),λ prog w E Q hq=>(PySem.P.ge_str hq:wpAny (model prog w) A (compareOp .GtE (.str x t) (.str y u)) Q E s)⟩
   | _=>simp [ltD] at hc
  | @tuple l o vs m xs as h1 h2 h3 h4 =>
   cases rb with
   | @tuple l2 o2 vs2 m2 ys bs g1 g2 g3 g4 =>
    have hc:ltDs xs ys=some c:=by simpa [ltD] using hc
    have z1:vs.size=xs.length:=by have:=SeqAt.ReadsAll.length _ _ _ h4;simpa using this
    have z2:vs2.size=ys.length:=by have:=SeqAt.ReadsAll.length _ _ _ g4;simpa using this
    have la':PyData.canLayAll0 xs=true:=la
    have lb':PyData.canLayAll0 ys=true:=lb
    have hd':PyData.depthAll xs≤n:=by have:PyData.depth (.tuple xs)=PyData.depthAll xs+1:=rfl;omega
    have at1:∀ j (h:j<vs.size),∃ d bs,xs[j]? = some d∧Reads s.heap vs[j] d bs∧d∈xs:=λ j h=>zyb h4 (by simp [h])
    have at2:∀ j (h:j<vs2.size),∃ d bs,ys[j]? = some d∧Reads s.heap vs2[j] d bs∧d∈ys:=λ j h=>zyb g4 (by simp [h])
    have he:∀ j (k1:j<vs.size) (k2:j<vs2.size),SeqAt.EqAt A.in1 s vs[j] vs2[j] (PyData.eqv ((xs[j]?).getD .none) ((ys[j]?).getD .none)):=λ j k1 k2=>by
     obtain ⟨d,b1,e1,r1,m1⟩:=at1 j k1
     obtain ⟨d2,b2,e2,r2,m2⟩:=at2 j k2
     rw [e1,e2]
     refine SeqAt.eqAt_reads d d2 A.in1 s _ _ b1 b2 r1 r2 (zza m1 la') (zza m2 lb') ?_
     have:=zdd m1
     have:min d.depth d2.depth≤d.depth:=Nat.min_le_left _ _
     show A.units+1+min d.depth d2.depth<cLine
     omega
    have hl:IsTup s.heap l vs:=⟨o,h1,h2,m,h3⟩
    have hr:IsTup s.heap l2 vs2:=⟨o2,g1,g2,m2,g3⟩
    have e0:∀ (j:Nat) x y,xs[j]? = some x→ys[j]? = some y→PyData.eqv ((xs[j]?).getD .none) ((ys[j]?).getD .none)=PyData.eqv x y:=λ j x y e1 e2=>by rw [e1,e2];rfl
    have lexlt:=zoj (e:=λ j=>PyData.eqv ((xs[j]?).getD .none) ((ys[j]?).getD .none)) (r:=λ j=>(ltD ((xs[j]?).getD .none) ((ys[j]?).getD .none)).getD false) hc e0 (λ j x y c' e1 e2 _ _ e3=>by rw [e1,e2];simp only [Option.getD_some];rw [e3];rfl)
    have ans:∀ (xs ys:List PyData) (c:Bool),ltDs xs ys=some c→∀ (j:Nat) x y,xs[j]? = some x→ys[j]? = some y→(∀ i x y,i<j→xs[i]? = some x→ys[i]? = some y→PyData.eqv x y=true)→PyData.eqv x y=false→∃ c',ltD x y=some c':=by
     intro xs
     induction xs with
     | nil=>intro ys c _ j x y e1;simp at e1
     | cons x0 xs ih2 =>
      intro ys c h j x y e1 e2 hall hne
      cases ys with
      | nil=>simp at e2
      | cons y0 ys =>
       rw [ltDs] at h
       cases j with
       | zero =>
        simp at e1 e2
        subst e1 e2
        rw [if_neg (by rw [hne];exact Bool.false_ne_true)] at h
        exact ⟨c,h⟩
       | succ j =>
        rw [if_pos (hall 0 x0 y0 (Nat.succ_pos _) rfl rfl)] at h
        exact ih2 ys c h j x y (by simpa using e1) (by simpa using e2) (λ i a b hi h1 h2=>hall (i+1) a b (by omega) (by simpa using h1) (by simpa using h2)) hne
    have hu1:A.in1.units+n+2<cLine:=by show A.units+1+n+2<cLine;omega
    have cmp:∀ j (k1:j<vs.size) (k2:j<vs2.size),(∀ i,i<j→PyData.eqv ((xs[i]?).getD .none) ((ys[i]?).getD .none)=true)→PyData.eqv ((xs[j]?).getD .none) ((ys[j]?).getD .none)=false →
      zal .Lt A.in1 s vs[j] vs2[j] ((ltD ((xs[j]?).getD .none) ((ys[j]?).getD .none)).getD false)∧zal .GtE A.in1 s vs[j] vs2[j] (!(ltD ((xs[j]?).getD .none) ((ys[j]?).getD .none)).getD false):=λ j k1 k2 hall hne=>by
     obtain ⟨d,b1,e1,r1,m1⟩:=at1 j k1
     obtain ⟨d2,b2,e2,r2,m2⟩:=at2 j k2
     rw [e1,e2] at hne ⊢
     obtain ⟨c',hc'⟩:=ans xs ys c hc j d d2 e1 e2 (λ i x y hi h1 h2=>by have:=hall i hi;rw [h1,h2] at this;exact this) hne
     simp only [Option.getD_some]
     rw [hc']
     exact ih d d2 c' A.in1 s _ _ b1 b2 (Nat.le_trans (zdd m1) hd') r1 r2 (zza m1 la') (zza m2 lb') hc' hu1
    refine ⟨λ prog w E Q hq=>?_,λ prog w E Q hq=>?_⟩
    ·refine (zir hl hr he (λ j k1 k2 h3 h4=>(cmp j k1 k2 h3 h4).1) (by omega) ?_:wpAny (model prog w) A (compareOp .Lt (.ref l) (.ref l2)) Q E s)
     rw [z1,z2,lexlt]
     exact hq
    ·refine (zxo hl hr he (λ j k1 k2 h3 h4=>(cmp j k1 k2 h3 h4).2) (by omega) ?_:wpAny (model prog w) A (compareOp .GtE (.ref l) (.ref l2)) Q E s)
     have e:decide (vs2.size≤vs.size) = !decide (vs.size<vs2.size):=by rw [← decide_not];exact decide_eq_decide.mpr (by omega)
     rw [e,znl,z1,z2,lexlt]
     exact hq
   | _=>simp [ltD] at hc
  | _=>simp [ltD] at hc
section
variable {X:Cx}
end
end L2
namespace L2
open PySem
noncomputable abbrev ST:=SetTable
structure Fit (t:ST):Prop where
 dum:t.dummies = #[]
 sz:t.place.size≤t.mask
 msk:t.mask=7 ∨ t.mask=31 ∨ t.mask=127 ∨ t.mask=511
noncomputable def lcg (m i:Nat):Nat:=(i * 5+1) % m
noncomputable def orb (m:Nat):Nat→Nat→Nat
 | 0,i=>i
 | n+1,i=>orb m n (lcg m i)
theorem zpj (m:Nat):∀ (a b i:Nat),orb m (a+b) i=orb m b (orb m a i)
 | 0,b,i=>by rw [Nat.zero_add];rfl
 | a+1,b,i=>by rw [Nat.succ_add];exact zpj m a b (lcg m i)
noncomputable def zio (m:Nat):Nat→Nat→List Nat
 | 0,_=>[]
 | n+1,i=>i::zio m n (lcg m i)
theorem zuf {m:Nat}:∀ {n i j:Nat},j∈zio m n i→∃ k,k<n∧orb m k i=j
 | n+1,i,j,h=>by
  rcases List.mem_cons.mp h with rfl | h
  ·exact ⟨0,Nat.succ_pos _,rfl⟩
  ·obtain ⟨k,hk,e⟩:=zuf h
   exact ⟨k+1,by omega,e⟩
noncomputable def zyc (m:Nat):Bool:=(List.range m).all (λ j=>(zio m m 0).contains j) && (orb m m 0 == 0)
theorem cov8:zyc 8=true:=by decide +kernel
theorem zx2:zyc 32=true:=by decide +kernel
theorem zbz:zyc 128=true:=by decide +kernel
theorem zaz:zyc 512=true:=by decide +kernel
theorem zmp {t:ST} (f:Fit t):zyc (t.mask+1)=true:=by
 rcases f.msk with e | e | e | e <;> rw [e]
 ·exact cov8
 ·exact zx2
 ·exact zbz
 ·exact zaz
theorem zez {m j:Nat} (c:zyc m=true) (hj:j<m):∃ k,k<m∧orb m k 0=j:=by
 unfold zyc at c
 rw [Bool.and_eq_true] at c
 have:=List.all_eq_true.mp c.1 j (List.mem_range.mpr hj)
 exact zuf (by simpa using this)
theorem zs0 {m:Nat} (c:zyc m=true):orb m m 0=0:=by
 unfold zyc at c
 rw [Bool.and_eq_true] at c
 exact eq_of_beq c.2
theorem zb5 {m i j:Nat} (c:zyc m=true) (hi:i<m) (hj:j<m):∃ k,k<m∧orb m k i=j:=by
 obtain ⟨a,ha,ea⟩:=zez c hi
 obtain ⟨b,hb,eb⟩:=zez c hj
 rcases Nat.lt_or_ge b a with h | h
 ·refine ⟨m - a+b,by omega,?_⟩
  rw [← ea,← zpj,show a+(m - a+b)=m+b by omega,zpj,zs0 c,eb]
 ·refine ⟨b - a,by omega,?_⟩
  rw [← ea,← zpj,show a+(b - a)=b by omega,eb]
noncomputable abbrev zm0 (mask:Nat) (p:Nat×Nat):Nat×Nat:=SetTable.leap mask p.1 p.2
noncomputable def zaj (mask:Nat):Nat→Nat×Nat→Nat×Nat
 | 0,p=>p
 | n+1,p=>zaj mask n (zm0 mask p)
theorem zak (mask:Nat):∀ (a b:Nat) (p:Nat×Nat),zaj mask (a+b) p=zaj mask b (zaj mask a p)
 | 0,b,p=>by rw [Nat.zero_add];rfl
 | a+1,b,p=>by rw [Nat.succ_add];exact zak mask a b (zm0 mask p)
theorem zyd (mask:Nat):∀ (n:Nat) (p:Nat×Nat),(zaj mask n p).2=p.2 / 32 ^ n
 | 0,p=>by simp [zaj]
 | n+1,p=>by
  show (zaj mask n (zm0 mask p)).2=_
  rw [zyd mask n]
  show p.2 / 32 / 32 ^ n=_
  rw [Nat.div_div_eq_div_mul,Nat.pow_succ,Nat.mul_comm]
theorem zdi (mask:Nat):∀ (n i:Nat),zaj mask n (i,0)=(orb (mask+1) n i,0)
 | 0,i=>rfl
 | n+1,i=>by
  show zaj mask n ((i * 5+1+0 / 32) % (mask+1),0 / 32)=_
  rw [Nat.zero_div,Nat.add_zero,zdi mask n]
  rfl
theorem znn (mask:Nat):∀ (n:Nat) (p:Nat×Nat),p.1<mask+1→(zaj mask n p).1<mask+1
 | 0,p,h=>h
 | n+1,p,h=>znn mask n _ (Nat.mod_lt _ (Nat.succ_pos _))
theorem zci {mask i perturb j:Nat} (c:zyc (mask+1)=true) (hi:i<mask+1) (hp:perturb<2 ^ 64) (hj:j<mask+1):∃ k,k<mask+14∧(zaj mask k (i,perturb)).1=j:=by
 have h13:(zaj mask 13 (i,perturb)).2=0:=by
  rw [zyd]
  exact Nat.div_eq_of_lt (Nat.lt_of_lt_of_le hp (by decide))
 have hl:=znn mask 13 (i,perturb) hi
 generalize hq:zaj mask 13 (i,perturb)=q at h13 hl
 obtain ⟨qi,qp⟩:=q
 dsimp only at h13 hl
 subst h13
 obtain ⟨k,hk,e⟩:=zb5 c hl hj
 refine ⟨13+k,by omega,?_⟩
 rw [zak,hq,zdi]
 exact e
open SetTable in
noncomputable def path (t:ST):Nat→Probe→Probe
 | 0,p=>p
 | n+1,p=>path t n (t.advance p)
theorem zqe (t:ST):∀ (a b:Nat) (p:SetTable.Probe),path t (a+b) p=path t b (path t a p)
 | 0,b,p=>by rw [Nat.zero_add];rfl
 | a+1,b,p=>by rw [Nat.succ_add];exact zqe t a b (t.advance p)
theorem zob (t:ST) (n:Nat) (p:SetTable.Probe):path t (n+1) p=t.advance (path t n p):=by
 rw [zqe];rfl
theorem zop (t:ST) (p:SetTable.Probe):(t.advance p).dummy=p.dummy:=by
 unfold SetTable.advance
 split <;> rfl
theorem zlh (t:ST):∀ (n:Nat) (p:SetTable.Probe),(path t n p).dummy=p.dummy
 | 0,p=>rfl
 | n+1,p=>by show (path t n (t.advance p)).dummy=_;rw [zlh t n,zop]
theorem zqj (t:ST):∀ (m:Nat) (p:SetTable.Probe),p.more=m→path t (m+1) p={ p with j:=(SetTable.leap t.mask p.i p.perturb).1,more:=SetTable.runEnd t.mask (SetTable.leap t.mask p.i p.perturb).1 - (SetTable.leap t.mask p.i p.perturb).1,i:=(SetTable.leap t.mask p.i p.perturb).1,perturb:=(SetTable.leap t.mask p.i p.perturb).2 }
 | 0,p,h=>by
  show t.advance p=_
  unfold SetTable.advance
  rw [if_neg (by omega)]
 | m+1,p,h=>by
  show path t (m+1) (t.advance p)=_
  have e:t.advance p={ p with j:=p.j+1,more:=p.more - 1 }:=by
   unfold SetTable.advance
   rw [if_pos (by omega)]
  rw [e,zqj t m _ (by show p.more - 1=m;omega)]
theorem zms (mask i:Nat):SetTable.runEnd mask i - i≤9:=by
 unfold SetTable.runEnd
 split <;> omega
theorem zah (t:ST):∀ (k:Nat) (p:SetTable.Probe),p.more≤9→∃ n,n≤10+10 * k∧(path t n p).j=(zaj t.mask (k+1) (p.i,p.perturb)).1
 | 0,p,h=>by
  refine ⟨p.more+1,by omega,?_⟩
  rw [zqj t p.more p rfl]
  rfl
 | k+1,p,h=>by
  have e:=zqj t p.more p rfl
  obtain ⟨n,hn,e2⟩:=zah t k (path t (p.more+1) p) (by rw [e];exact zms _ _)
  refine ⟨(p.more+1)+n,by omega,?_⟩
  rw [zqe,e2,e]
  rfl
theorem met {t:ST} (f:Fit t) {p:SetTable.Probe} {j:Nat} (h9:p.more≤9) (hp:p.perturb<2 ^ 64) (hj:j<t.mask+1):∃ n,n<10 * SetTable.turns t.mask∧(path t n p).j=j:=by
 have hl:(SetTable.leap t.mask p.i p.perturb).1<t.mask+1:=Nat.mod_lt _ (Nat.succ_pos _)
 have hp2:(SetTable.leap t.mask p.i p.perturb).2<2 ^ 64:=Nat.lt_of_le_of_lt (Nat.div_le_self _ _) hp
 obtain ⟨k,hk,e⟩:=zci (zmp f) hl hp2 hj
 obtain ⟨n,hn,e2⟩:=zah t k p h9
 refine ⟨n,?_,?_⟩
 ·unfold SetTable.turns
  omega
 ·rw [e2];exact e
theorem zsh {t:ST} (f:Fit t) (j:Nat):t.slot j = .empty ∨ ∃ i,t.slot j = .live i∧t.place[i]? = some j:=by
 unfold SetTable.slot
 dsimp only
 by_cases h:(t.place[SetTable.below t.place j]? == some j)=true
 ·rw [if_pos h]
  exact .inr ⟨_,rfl,eq_of_beq h⟩
 ·rw [if_neg h]
  have hd:SetTable.has t.dummies j=false:=by rw [f.dum];unfold SetTable.has;simp
  rw [hd,if_neg Bool.false_ne_true]
  exact .inl rfl
theorem zv1:∀ (n:Nat) (g:Nat→Nat) (m:Nat),(∀ j,j<n→g j<m)→(∀ i j,i<n→j<n→g i=g j→i=j)→n≤m:=by
 intro n g m hm hi
 have h1:((List.range n).map g).Nodup:=by
  unfold List.Nodup
  rw [List.pairwise_map]
  refine List.Pairwise.imp_of_mem (λ ha hb hab e=>?_) (List.nodup_range (n:=n))
  exact hab (hi _ _ (List.mem_range.mp ha) (List.mem_range.mp hb) e)
 have h2:((List.range n).map g).length≤(List.range m).length:=List.Nodup.length_le_of_subset h1 (λ x hx=>by
  obtain ⟨j,hj,rfl⟩:=List.mem_map.mp hx
  exact List.mem_range.mpr (hm j (List.mem_range.mp hj)))
 simpa using h2
theorem zqm {t:ST} (f:Fit t):∃ j,j<t.mask+1∧t.slot j = .empty:=by
 refine Classical.byContradiction λ hn=>?_
 have h:∀ j,j<t.mask+1→t.place[SetTable.below t.place j]? = some j:=λ j hj=>by
  rcases zsh f j with e | ⟨i,e,e2⟩
  ·exact absurd ⟨j,hj,e⟩ hn
  ·unfold SetTable.slot at e
   dsimp only at e
   by_cases h:(t.place[SetTable.below t.place j]? == some j)=true
   ·exact eq_of_beq h
   ·rw [if_neg h] at e
    split at e <;> cases e
 have:=zv1 (t.mask+1) (λ j=>SetTable.below t.place j) t.place.size (λ j hj=>(Array.getElem?_eq_some_iff.mp (h j hj)).1) (λ i j hi hj e=>by
  have h1:=h i hi
  have h2:=h j hj
  have e:SetTable.below t.place i=SetTable.below t.place j:=e
  rw [e,h2] at h1
  exact (Option.some.inj h1).symm)
 have:=f.sz
 omega
theorem znf {t:ST} (f:Fit t) {p:SetTable.Probe} (h9:p.more≤9) (hp:p.perturb<2 ^ 64):∃ N,N<10 * SetTable.turns t.mask∧t.slot (path t N p).j = .empty∧∀ k,k<N→∃ i,t.slot (path t k p).j = .live i∧t.place[i]? = some (path t k p).j:=by
 obtain ⟨j,hj,he⟩:=zqm f
 obtain ⟨n,hn,e⟩:=met f h9 hp hj
 have hex:∃ n,t.slot (path t n p).j = .empty:=⟨n,by rw [e];exact he⟩
 have hfirst:∀ m,t.slot (path t m p).j = .empty→∃ N,N≤m∧t.slot (path t N p).j = .empty∧∀ k,k<N→t.slot (path t k p).j ≠ .empty:=by
  intro m
  induction m using Nat.strongRecOn with
  | ind m ih =>
   intro hm
   by_cases h:∃ k,k<m∧t.slot (path t k p).j = .empty
   ·obtain ⟨k,hk,hk2⟩:=h
    obtain ⟨N,h1,h2,h3⟩:=ih k hk hk2
    exact ⟨N,by omega,h2,h3⟩
   ·exact ⟨m,Nat.le_refl _,hm,λ k hk hk2=>h ⟨k,hk,hk2⟩⟩
 obtain ⟨N,h1,h2,h3⟩:=hfirst n (by rw [e];exact he)
 refine ⟨N,by omega,h2,λ k hk=>?_⟩
 rcases zsh f (path t k p).j with e | e
 ·exact absurd e (h3 k hk)
 ·exact e
theorem zhx {t:ST} {hashAt:Nat→Int} {h:Int} {p:SetTable.Probe} {N:Nat} (hd:p.dummy=none) (he:t.slot (path t N p).j = .empty) (hl:∀ k,k<N→∃ i,t.slot (path t k p).j = .live i∧t.place[i]? = some (path t k p).j) :
  ∀ (d m fuel:Nat),d=N - m→m≤N→d<fuel →
   (∃ k i,m≤k∧k<N∧t.slot (path t k p).j = .live i∧(hashAt i == h)=true∧SetTable.probe.go t hashAt h fuel (path t m p)=some (.candidate (path t k p).j i (path t (k+1) p))) ∨ SetTable.probe.go t hashAt h fuel (path t m p)=some (.empty (path t N p).j none):=by
 intro d
 induction d with
 | zero =>
  intro m fuel hdm hm hf
  have e:m=N:=by omega
  subst e
  cases fuel with
  | zero=>omega
  | succ fuel =>
   right
   unfold SetTable.probe.go
   rw [he,zlh,hd]
 | succ d ih =>
  intro m fuel hdm hm hf
  cases fuel with
  | zero=>omega
  | succ fuel =>
   obtain ⟨i,hi,_⟩:=hl m (by omega)
   unfold SetTable.probe.go
   rw [hi]
   dsimp only
   by_cases hh:(hashAt i == h)=true
   ·left
    refine ⟨m,i,Nat.le_refl _,by omega,hi,hh,?_⟩
    rw [if_pos hh,zob]
   ·rw [if_neg hh,← zob]
    rcases ih (m+1) fuel (by omega) (by omega) (by omega) with ⟨k,i',h1,h2,h3,h4,h5⟩ | h5
    ·exact .inl ⟨k,i',by omega,h2,h3,h4,h5⟩
    ·exact .inr h5
end L2
namespace L2
open PySem
noncomputable abbrev own (o:Array (Option Nat)) (j:Nat):Option Nat:=o.getD j none
theorem zrq {mask:Nat} {owner:Array (Option Nat)} (hs:owner.size=mask+1) {j0:Nat} (hj:j0<mask+1) (he:own owner j0=none) :
  ∀ (k fuel i perturb:Nat),k<fuel→i<mask+1→(zaj mask k (i,perturb)).1=j0→∃ j,SetTable.layClean.free mask owner fuel i perturb=some j∧j<mask+1∧own owner j=none:=by
 have get0:∀ j,(owner.getD j (some 0)).isNone=true→j<mask+1∧own owner j=none:=λ j h=>by
  rcases Nat.lt_or_ge j owner.size with hj | hj
  ·rw [Array.getD_eq_getD_getElem?,Array.getElem?_eq_getElem hj] at h
   refine ⟨by omega,?_⟩
   show owner.getD j none=none
   rw [Array.getD_eq_getD_getElem?,Array.getElem?_eq_getElem hj]
   cases e:owner[j] with
   | none=>rfl
   | some v=>rw [e] at h;cases h
  ·rw [Array.getD_eq_getD_getElem?,Array.getElem?_eq_none hj] at h
   cases h
 intro k
 induction k with
 | zero =>
  intro fuel i perturb hf hi e
  cases fuel with
  | zero=>omega
  | succ fuel =>
   have e:i=j0:=e
   subst e
   unfold SetTable.layClean.free
   cases hfd:(List.range (SetTable.runEnd mask i+1 - i)).find? λ k=>(owner.getD (i+k) (some 0)).isNone with
   | some q =>
    have:=List.find?_some hfd
    obtain ⟨h1,h2⟩:=get0 _ this
    exact ⟨_,rfl,h1,h2⟩
   | none =>
    exfalso
    have hr:0∈List.range (SetTable.runEnd mask i+1 - i):=by
     rw [List.mem_range]
     unfold SetTable.runEnd
     split <;> omega
    have:=List.find?_eq_none.mp hfd 0 hr
    apply this
    rw [Nat.add_zero,Array.getD_eq_getD_getElem?,Array.getElem?_eq_getElem (by omega)]
    have he2:owner.getD i none=none:=he
    rw [Array.getD_eq_getD_getElem?,Array.getElem?_eq_getElem (by omega)] at he2
    have he3:owner[i]=none:=he2
    rw [Option.getD_some,he3]
    rfl
 | succ k ih =>
  intro fuel i perturb hf hi e
  cases fuel with
  | zero=>omega
  | succ fuel =>
   unfold SetTable.layClean.free
   cases hfd:(List.range (SetTable.runEnd mask i+1 - i)).find? λ k=>(owner.getD (i+k) (some 0)).isNone with
   | some q =>
    have:=List.find?_some hfd
    obtain ⟨h1,h2⟩:=get0 _ this
    exact ⟨_,rfl,h1,h2⟩
   | none=>exact ih fuel _ _ (by omega) (Nat.mod_lt _ (Nat.succ_pos _)) e
noncomputable def zff (M:Nat) (o:Array (Option Nat)):List (Nat×Nat):=(List.range M).filterMap λ j=>(own o j).map (j, ·)
theorem zsn {β:Type} {f g:Nat→Option β}:∀ {l:List Nat},(∀ x∈l,g x=f x)→l.filterMap g=l.filterMap f:=by
 intro l
 induction l with
 | nil=>intro _;rfl
 | cons x l ih =>
  intro h
  have h1:=ih λ y hy=>h y (List.mem_cons_of_mem _ hy)
  have h2:=h x List.mem_cons_self
  rw [List.filterMap_cons,List.filterMap_cons,h2,h1]
theorem zei {β:Type} {f g:Nat→Option β} {y:β} {j:Nat}:∀ {l:List Nat},l.Nodup→j∈l→f j=none→g j=some y→(∀ x,x≠j→g x=f x)→(l.filterMap g).Perm (y::l.filterMap f):=by
 intro l hn hj hf hg he
 obtain ⟨a,b,rfl⟩:=List.append_of_mem hj
 have hna:∀ x∈a,x≠j:=λ x hx e=>by
  subst e
  have:=List.nodup_append.mp hn
  exact this.2.2 x hx x List.mem_cons_self rfl
 have hnb:∀ x∈b,x≠j:=λ x hx e=>by
  subst e
  have:=(List.nodup_append.mp hn).2.1
  exact (List.nodup_cons.mp this).1 hx
 have ea:a.filterMap g=a.filterMap f:=by
  refine zsn λ x hx=>he x (hna x hx)
 have eb:b.filterMap g=b.filterMap f:=by
  refine zsn λ x hx=>he x (hnb x hx)
 rw [List.filterMap_append,List.filterMap_append,List.filterMap_cons_some hg,List.filterMap_cons_none hf,ea,eb]
 exact List.perm_middle
theorem zhp {M j k:Nat} {o:Array (Option Nat)} (hs:o.size=M) (hj:j<M) (he:own o j=none):(zff M (o.setIfInBounds j (some k))).Perm ((j,k)::zff M o):=by
 refine zei List.nodup_range (List.mem_range.mpr hj) (by rw [he];rfl) ?_ λ x hx=>?_
 ·have:own (o.setIfInBounds j (some k)) j=some k:=by
   show (o.setIfInBounds j (some k)).getD j none=some k
   rw [Array.getD_eq_getD_getElem?,Array.getElem?_setIfInBounds_self_of_lt (by omega)]
   rfl
  rw [this]
  rfl
 ·have:own (o.setIfInBounds j (some k)) x=own o x:=by
   show (o.setIfInBounds j (some k)).getD x none=o.getD x none
   rw [Array.getD_eq_getD_getElem?,Array.getD_eq_getD_getElem?,Array.getElem?_setIfInBounds_ne (λ e=>hx e.symm)]
  rw [this]
theorem zxq {M n:Nat} {o:Array (Option Nat)} (h:((zff M o).map (·.2)).Perm (List.range n)) (hn:n<M):∃ j,j<M∧own o j=none:=by
 refine Classical.byContradiction λ hno=>?_
 have hl:(zff M o).length=M:=by
  have:∀ l:List Nat,(∀ x∈l,x<M)→(l.filterMap λ j=>(own o j).map (j, ·)).length=l.length:=by
   intro l
   induction l with
   | nil=>intro _;rfl
   | cons x l ih =>
    intro hx
    have h1:=ih λ y hy=>hx y (List.mem_cons_of_mem _ hy)
    cases e:own o x with
    | none=>exact absurd ⟨x,hx x List.mem_cons_self,e⟩ hno
    | some v=>rw [List.filterMap_cons_some (by rw [e];rfl),List.length_cons,List.length_cons,h1]
  have h2:=this (List.range M) λ x hx=>List.mem_range.mp hx
  rw [List.length_range] at h2
  exact h2
 have:=h.length_eq
 rw [List.length_map,hl,List.length_range] at this
 omega
end L2
namespace L2
open PySem PySem.Spec PyProof.Rows PySem.NumText
mutual
noncomputable def zvd:PyData→Bool
 | .int _=>true
 | .str z=>PyData.strOk z
 | .tuple xs=>zcb xs
 | _=>false
noncomputable def zcb:List PyData→Bool
 | []=>true
 | x::xs=>zvd x && zcb xs
end
mutual
noncomputable def allI:PyData→Bool
 | .int _=>true
 | .tuple xs=>zyr xs
 | _=>false
noncomputable def zyr:List PyData→Bool
 | []=>true
 | x::xs=>allI x && zyr xs
end
theorem zrh:∀ ss:List Stp,zcb (ss.map stp)=true
 | []=>rfl
 | s::ss=>by rw [List.map_cons,zcb,zrh ss];rfl
theorem zgp (ss:List Stp):zvd (plc ss)=true:=zrh ss
section
variable {prog:Program} {w:World}
theorem zeh:∀ (n:Nat) (d:PyData) (A:Around) (E:Value→Shared→Prop) (s:Shared) (v:Value) (as:List Addr),d.depth≤n→Reads s.heap v d as→zvd d=true→∀ (k:Nat) (Q:Bool→Shared→Prop),n≤k→Q true s→wpAny (model prog w) A (eqIsQuiet k v) Q E s:=by
 intro n
 induction n with
 | zero =>
  intro d A E s v as hd r ho k Q hk h
  cases r with
  | int i t=>rw [eqIsQuiet_byValue _ rfl];exact wpAny_pure h
  | str x t=>rw [eqIsQuiet_byValue _ rfl];exact wpAny_pure h
  | tuple=>simp [PyData.depth] at hd
  | _=>simp [zvd] at ho
 | succ n ih =>
  intro d A E s v as hd r ho k Q hk h
  cases r with
  | int i t=>rw [eqIsQuiet_byValue _ rfl];exact wpAny_pure h
  | str x t=>rw [eqIsQuiet_byValue _ rfl];exact wpAny_pure h
  | @tuple a o vs m xs as h1 h2 h3 h4 =>
   have hT:s.TypeIs (.ref a) "tuple" := ⟨o,h1,h2⟩
   have hdx:PyData.depthAll xs≤n:=by have:PyData.depth (.tuple xs)=PyData.depthAll xs+1:=rfl;omega
   have hox:zcb xs=true:=ho
   obtain ⟨k,rfl⟩:∃ k',k=k'+1:=⟨k - 1,by omega⟩
   unfold eqIsQuiet
   refine wpAny_bind (wpAny_specialOf hT F.slot_tuple_eq.lookup ?_)
   show wpAny _ _ (isInstance (.ref a) (.type "tuple") >>= _) _ _ s
   refine wpAny_bind (wpAny_isInstance hT isSubtype_tuple_tuple ?_)
   simp only [Bool.not_true,Bool.false_eq_true,if_false]
   refine wpAny_bind (wpAny_seqItems h1 h3 ?_)
   refine wpAny_bind ?_
   show wpAny _ _ (forIn vs _ _) _ _ s
   rw [← Array.forIn_toList]
   refine wpAny_forIn_list _ (λ rest r s'=>r.1=none∧s'=s∧∃ ds bs,ReadsAll s.heap rest ds bs∧PyData.depthAll ds≤n∧zcb ds=true) _ ?_ ?_ _ _ ⟨rfl,rfl,xs,as,h4,hdx,hox⟩
   ·rintro x rest r s' ⟨hr,rfl,ds,bs,hrd,hd',ho'⟩
    cases hrd with
    | @cons _ _ d1 ds1 as1 bs1 r1 rr =>
     rw [PyData.depthAll] at hd'
     rw [zcb,Bool.and_eq_true] at ho'
     refine wpAny_bind (ih d1 _ _ _ x as1 (by omega) r1 ho'.1 k _ (by omega) ?_)
     simp only [Bool.not_true,Bool.false_eq_true,if_false]
     exact wpAny_pure ⟨rfl,rfl,ds1,bs1,rr,by omega,ho'.2⟩
   ·rintro ⟨r1,r2⟩ s' ⟨hr,rfl,_⟩
    simp only at hr
    subst hr
    exact wpAny_pure h
  | _=>simp [zvd] at ho
end
end L2
namespace L2
open PySem PySem.Spec PyProof.Rows PySem.NumText
mutual
theorem zas {h h':Heap} (k:∀ b o,h.get? b=some o→h'.get? b=some o):∀ (d:PyData) (v:Value) (as:List Addr),zvd d=true→Reads h v d as→Reads h' v d as
 | .int i,_,_,_,.int _ t=>.int i t
 | .str x,_,_,_,.str _ t=>.str x t
 | .tuple xs,_,_,ho,.tuple h1 h2 h3 h4=>.tuple (k _ _ h1) h2 h3 (zjl k xs _ _ ho h4)
theorem zjl {h h':Heap} (k:∀ b o,h.get? b=some o→h'.get? b=some o):∀ (ds:List PyData) (vs:List Value) (as:List Addr),zcb ds=true→ReadsAll h vs ds as→ReadsAll h' vs ds as
 | [],_,_,_,.nil=>.nil
 | d::ds,_,_,ho,.cons r rr=>by
  rw [zcb,Bool.and_eq_true] at ho
  exact .cons (zas k d _ _ ho.1 r) (zjl k ds _ _ ho.2 rr)
end
section
variable {prog:Program} {w:World}
theorem zzm:∀ (n:Nat) (d:PyData) (A:Around) (E:Value→Shared→Prop) (s:Shared) (v:Value) (as:List Addr),d.depth≤n→Reads s.heap v d as→zvd d=true→∀ (k:Nat) (Q:Bool→Shared→Prop),n≤k→Q false s→wpAny (model prog w) A (ofAClassStatement k v) Q E s:=by
 intro n
 induction n with
 | zero =>
  intro d A E s v as hd r ho k Q hk h
  cases r with
  | int i t=>unfold ofAClassStatement;exact wpAny_pure h
  | str x t=>unfold ofAClassStatement;exact wpAny_pure h
  | tuple=>simp [PyData.depth] at hd
  | _=>simp [zvd] at ho
 | succ n ih =>
  intro d A E s v as hd r ho k Q hk h
  cases r with
  | int i t=>unfold ofAClassStatement;exact wpAny_pure h
  | str x t=>unfold ofAClassStatement;exact wpAny_pure h
  | @tuple a o vs m xs as h1 h2 h3 h4 =>
   have hT:s.TypeIs (.ref a) "tuple" := ⟨o,h1,h2⟩
   have hdx:PyData.depthAll xs≤n:=by have:PyData.depth (.tuple xs)=PyData.depthAll xs+1:=rfl;omega
   have hox:zcb xs=true:=ho
   obtain ⟨k,rfl⟩:∃ k',k=k'+1:=⟨k - 1,by omega⟩
   unfold ofAClassStatement
   refine wpAny_bind (wpAny_typeOf hT ?_)
   dsimp only
   rw [if_pos (by decide)]
   refine wpAny_bind (wpAny_pure ?_)
   simp only [Bool.not_true,Bool.false_eq_true,if_false]
   refine wpAny_bind (wpAny_seqItems h1 h3 ?_)
   dsimp only
   refine wpAny_bind ?_
   rw [← Array.forIn_toList]
   refine wpAny_forIn_list _ (λ rest r s'=>r.1=none∧s'=s∧∃ ds bs,ReadsAll s.heap rest ds bs∧PyData.depthAll ds≤n∧zcb ds=true) _ ?_ ?_ _ _ ⟨rfl,rfl,xs,as,h4,hdx,hox⟩
   ·rintro x rest r s' ⟨hr,rfl,ds,bs,hrd,hd',ho'⟩
    cases hrd with
    | @cons _ _ d1 ds1 as1 bs1 r1 rr =>
     rw [PyData.depthAll] at hd'
     rw [zcb,Bool.and_eq_true] at ho'
     refine wpAny_bind (ih d1 _ _ _ x as1 (by omega) r1 ho'.1 k _ (by omega) ?_)
     simp only [Bool.false_eq_true,if_false]
     exact wpAny_pure ⟨rfl,rfl,ds1,bs1,rr,by omega,ho'.2⟩
   ·rintro ⟨r1,r2⟩ s' ⟨hr,rfl,_⟩
    simp only at hr
    subst hr
    exact wpAny_pure h
  | _=>simp [zvd] at ho
theorem zml:∀ (n:Nat) (d:PyData) (A:Around) (E:Value→Shared→Prop) (s:Shared) (v:Value) (as:List Addr),d.depth≤n→Reads s.heap v d as→zvd d=true→∀ (k:Nat) (Q:Bool→Shared→Prop),n≤k→(∀ b,(allI d=true→b=true)→Q b s)→wpAny (model prog w) A (hashByValue k v) Q E s:=by
 intro n
 induction n with
 | zero =>
  intro d A E s v as hd r ho k Q hk h
  cases r with
  | int i t=>cases k <;> exact wpAny_pure (h _ λ _=>rfl)
  | str x t=>cases k <;> exact wpAny_pure (h _ λ z=>by cases z)
  | tuple=>simp [PyData.depth] at hd
  | _=>simp [zvd] at ho
 | succ n ih =>
  intro d A E s v as hd r ho k Q hk h
  cases r with
  | int i t=>cases k <;> exact wpAny_pure (h _ λ _=>rfl)
  | str x t=>cases k <;> exact wpAny_pure (h _ λ z=>by cases z)
  | @tuple a o vs m xs as h1 h2 h3 h4 =>
   have hT:s.TypeIs (.ref a) "tuple" := ⟨o,h1,h2⟩
   have hdx:PyData.depthAll xs≤n:=by have:PyData.depth (.tuple xs)=PyData.depthAll xs+1:=rfl;omega
   have hox:zcb xs=true:=ho
   have h:∀ b,(zyr xs=true→b=true)→Q b s:=h
   obtain ⟨k,rfl⟩:∃ k',k=k'+1:=⟨k - 1,by omega⟩
   unfold hashByValue
   refine wpAny_bind (wpAny_specialOf hT F.slot_tuple_hash.lookup ?_)
   dsimp only
   refine wpAny_bind (wpAny_seqItems h1 h3 ?_)
   refine wpAny_bind ?_
   show wpAny _ _ (forIn vs _ _) _ _ s
   rw [← Array.forIn_toList]
   refine wpAny_forIn_list _ (λ rest r s'=>r.1=none∧s'=s∧∃ ds bs,ReadsAll s.heap rest ds bs∧PyData.depthAll ds≤n∧zcb ds=true∧(zyr xs=true→zyr ds=true)) _ ?_ ?_ _ _ ⟨rfl,rfl,xs,as,h4,hdx,hox,id⟩
   ·rintro x rest r s' ⟨hr,rfl,ds,bs,hrd,hd',ho',ha'⟩
    cases hrd with
    | @cons _ _ d1 ds1 as1 bs1 r1 rr =>
     rw [PyData.depthAll] at hd'
     rw [zcb,Bool.and_eq_true] at ho'
     rw [zyr,Bool.and_eq_true] at ha'
     refine wpAny_bind (ih d1 _ _ _ x as1 (by omega) r1 ho'.1 k _ (by omega) λ b hb=>?_)
     cases b with
     | true =>
      simp only [Bool.not_true,Bool.false_eq_true,if_false]
      exact wpAny_pure ⟨rfl,rfl,ds1,bs1,rr,by omega,ho'.2,λ z=>(ha' z).2⟩
     | false =>
      simp only [Bool.not_false,if_true]
      exact wpAny_pure (wpAny_pure (h false λ z=>hb (ha' z).1))
   ·rintro ⟨r1,r2⟩ s' ⟨hr,rfl,_⟩
    simp only at hr
    subst hr
    exact wpAny_pure (h true λ _=>rfl)
  | _=>simp [zvd] at ho
structure El (h:Heap) (v:Value) (d:PyData):Prop where
 rd:∃ as,Reads h v d as
 oi:zvd d=true
 dp:d.depth≤4
 rf:∃ a,v = .ref a
theorem zns {s:Shared} {A:Around} {E:Value→Shared→Prop} {x:Value} {dx:PyData} (hx:El s.heap x dx):∀ (l:List Value) (Q:Bool→Shared→Prop),(∀ y∈l,∃ d,El s.heap y d)→Q false s→wpAny (model prog w) A (searchCouldBeSeen x l) Q E s:=by
 intro l Q hl h
 obtain ⟨as,rx⟩:=hx.rd
 unfold searchCouldBeSeen
 refine wpAny_bind ?_
 refine wpAny_forIn_list _ (λ rest r s'=>r.1=none∧s'=s∧∀ y∈rest,∃ d,El s.heap y d) _ ?_ ?_ _ _ ⟨rfl,rfl,hl⟩
 ·rintro y rest r s' ⟨hr,rfl,hall⟩
  obtain ⟨d,hy⟩:=hall y List.mem_cons_self
  obtain ⟨bs,ry⟩:=hy.rd
  obtain ⟨a,rfl⟩:=hx.rf
  obtain ⟨b,rfl⟩:=hy.rf
  have nxt:(none:Option Bool)=none∧s'=s'∧∀ y∈rest,∃ d,El s'.heap y d:=⟨rfl,rfl,λ z hz=>hall z (List.mem_cons_of_mem _ hz)⟩
  dsimp only
  split
  ·exact wpAny_pure nxt
  ·refine wpAny_bind (zeh 4 dx A _ _ _ as hx.dp rx hx.oi 8 _ (by decide) ?_)
   simp only [Bool.not_true,Bool.false_eq_true,if_false]
   refine wpAny_bind (zeh 4 d A _ _ _ bs hy.dp ry hy.oi 8 _ (by decide) ?_)
   simp only [Bool.not_true,Bool.false_eq_true,if_false]
   refine wpAny_bind (zzm 4 dx A _ _ _ as hx.dp rx hx.oi 8 _ (by decide) ?_)
   simp only [Bool.false_eq_true,if_false]
   refine wpAny_bind (zzm 4 d A _ _ _ bs hy.dp ry hy.oi 8 _ (by decide) ?_)
   simp only [Bool.false_eq_true,if_false]
   exact wpAny_pure nxt
 ·rintro ⟨r1,r2⟩ s' ⟨hr,rfl,_⟩
  simp only at hr
  subst hr
  exact wpAny_pure h
end
end L2
namespace L2
open PySem PySem.Spec PyProof.Rows PySem.NumText
mutual
theorem zjd:∀ (d:PyData),zvd d=true→PyData.canLay0 d=true
 | .int _,_=>rfl
 | .tuple xs,h=>zye xs h
 | .none,h=>by cases h
 | .bool _,h=>by cases h
 | .str _,h=>h
 | .list _,h=>by cases h
 | .dict _,h=>by cases h
theorem zye:∀ (ds:List PyData),zcb ds=true→PyData.canLayAll0 ds=true
 | [],_=>rfl
 | d::ds,h=>by
  rw [zcb,Bool.and_eq_true] at h
  rw [PyData.canLayAll0,zjd d h.1,zye ds h.2]
  rfl
end
theorem zgo (t:ST) (h:Int):(t.probeStart h).more≤9∧(t.probeStart h).perturb<2 ^ 64∧(t.probeStart h).dummy=none:=by
 refine ⟨zms _ _,?_,rfl⟩
 show SetTable.bits h<2 ^ 64
 unfold SetTable.bits
 have:=Int.emod_nonneg h (show (2 ^ 64:Int)≠0 by decide)
 have:=Int.emod_lt_of_pos h (show (0:Int)<2 ^ 64 by decide)
 omega
section
variable {prog:Program} {w:World} {A:Around} {E:Value→Shared→Prop} {s:Shared}
end
end L2
namespace L2
open PySem PySem.Spec PyProof.Rows PySem.NumText
theorem zdj {α:Type} (xs:Array α) (p:Nat) (x:α):(SetTable.insertAt xs p x).toList=xs.toList.take p++x::xs.toList.drop p:=by
 unfold SetTable.insertAt
 simp [Array.toList_append,Array.toList_push,Array.toList_extract]
 rw [List.take_of_length_le (by rw [List.length_drop,Array.length_toList];exact Nat.le_refl _)]
theorem zbm {α:Type} (xs:Array α) (p:Nat) (x:α):(SetTable.insertAt xs p x).size=xs.size+1:=by
 rw [← Array.length_toList,zdj,List.length_append,List.length_cons,List.length_take,List.length_drop,Array.length_toList]
 omega
theorem El.kept {h h':Heap} {v:Value} {d:PyData} (e:El h v d) (k:∀ b o,h.get? b=some o→h'.get? b=some o):El h' v d :=
 ⟨let ⟨as,r⟩:=e.rd; ⟨as,zas k d v as e.oi r⟩,e.oi,e.dp,e.rf⟩
section
variable {prog:Program} {w:World} {A:Around} {E:Value→Shared→Prop} {s:Shared}
end
end L2
namespace L2
open PySem PySem.Spec PyProof.Rows PySem.NumText
section
variable {prog:Program} {w:World} {A:Around} {R:Result→Shared→Prop} {I:Addr} {fp wr:List Addr} {G:Array GenState→Array GenState→Prop} {n:Nat} {P:Nat→Value→Prop} {St:Nat→Shared→Prop}
end
section
variable {prog:Program} {w:World} {A:Around} {E:Value→Shared→Prop} {s:Shared}
end
end L2
namespace L2
open PySem PySem.Spec PyProof.Rows PySem.NumText
section
variable {X:Cx}
end
end L2
namespace L2
open PySem PySem.Spec PyProof.Rows PySem.NumText
noncomputable def redH (i:Int):Int :=
 if (decide (-(2:Int) ^ 63≤i) && decide (i<2 ^ 63))=true then (if (i == -1)=true then -2 else i)
 else if ((if i<0 then -((i.natAbs:Int) % (2 ^ 61 - 1)) else (i.natAbs:Int) % (2 ^ 61 - 1)) == -1)=true then -2 else (if i<0 then -((i.natAbs:Int) % (2 ^ 61 - 1)) else (i.natAbs:Int) % (2 ^ 61 - 1))
mutual
noncomputable def zvo (w:World):PyData→Int
 | .int i=>hashInt i
 | .str z=>hashStr w z
 | .tuple xs=>redH (Builtin.Tuple.tupleHashOf (zoe w xs))
 | _=>0
noncomputable def zoe (w:World):List PyData→List Int
 | []=>[]
 | x::xs=>zvo w x::zoe w xs
end
theorem zee (w:World):∀ (xs ys:List PyData),zoe w (xs++ys)=zoe w xs++zoe w ys
 | [],ys=>rfl
 | x::xs,ys=>by rw [List.cons_append,zoe,zoe,zee w xs ys,List.cons_append]
section
variable {prog:Program} {w:World}
theorem zvm:∀ (n:Nat) (d:PyData) (A:Around) (E:Value→Shared→Prop) (s:Shared) (v:Value) (as:List Addr),d.depth≤n→Reads s.heap v d as→zvd d=true→A.units+n<cLine→∀ (Q:Int→Shared→Prop),(∀ tk,s.toks≤tk→Q (zvo w d) { s with toks:=tk })→wpAny (model prog w) A (pyHash v) Q E s:=by
 intro n
 induction n with
 | zero =>
  intro d A E s v as hd r ho hu Q h
  cases r with
  | int i t=>exact (intKind prog w).pyHash (k:=i) (intKind_is _ _ _ _) (h _ (Nat.le_succ _))
  | str x t=>exact wpAny_pyHash_str (h _ (Nat.le_succ _))
  | tuple=>simp [PyData.depth] at hd
  | _=>simp [zvd] at ho
 | succ n ih =>
  intro d A E s v as hd r ho hu Q h
  cases r with
  | int i t=>exact (intKind prog w).pyHash (k:=i) (intKind_is _ _ _ _) (h _ (Nat.le_succ _))
  | str x t=>exact wpAny_pyHash_str (h _ (Nat.le_succ _))
  | @tuple a o vs m xs as h1 h2 h3 h4 =>
   have hT:s.TypeIs (.ref a) "tuple" := ⟨o,h1,h2⟩
   have hdx:PyData.depthAll xs≤n:=by have:PyData.depth (.tuple xs)=PyData.depthAll xs+1:=rfl;omega
   have hox:zcb xs=true:=ho
   unfold pyHash
   first | unfold pyHashByItsType | skip
   first | refine wpAny_bind (wpAny_cRoomFor_or (.inr (by omega)) ?_) | skip
   refine wpAny_bind (wpAny_specialOf hT F.slot_tuple_hash.lookup ?_)
   show wpAny _ _ (if (some (Value.builtin "tuple.__hash__") == some Value.none)=true then _ else _) Q E s
   rw [if_neg (by rw [beq_builtin_none];exact Bool.false_ne_true)]
   refine wpAny_bind (wpAny_specialOf hT F.slot_tuple_hash.lookup ?_)
   show wpAny _ _ (callSpecialIfBoundUnlessNone? (.ref a) "__hash__" _ >>= _) Q E s
   refine wpAny_bind (wpAny_callSpecialIfBoundUnlessNone?_slot hT F.slot_tuple_hash (wpAny_call_entry F.slot_tuple_hash hT F.entry_tuple_hash ?_ (F.args_tuple_hash_1 _)))
   show wpAny _ _ (Builtin.Tuple.tupleItemsOf (.ref a) >>= _) _ _ s
   refine wpAny_bind (wpAny_tupleItemsOf h1 h3 ?_)
   refine wpAny_bind ?_
   rw [← Array.forIn_toList]
   refine wpAny_forIn_list _ (λ rest (b:Array Int) s'=>∃ tk gone ds bs,s.toks≤tk∧s'={ s with toks:=tk }∧ReadsAll s.heap rest ds bs∧PyData.depthAll ds≤n∧zcb ds=true∧xs=gone++ds∧b.toList=zoe w gone) _ ?_ ?_ _ _ ⟨s.toks,[],xs,as,Nat.le_refl _,rfl,h4,hdx,hox,rfl,rfl⟩
   ·rintro x rest b s' ⟨tk,gone,ds,bs,htk,rfl,hr,hd',ho',hx,hb⟩
    cases hr with
    | @cons _ _ d1 ds1 as1 bs1 r1 rr =>
     rw [PyData.depthAll] at hd'
     rw [zcb,Bool.and_eq_true] at ho'
     refine wpAny_bind (ih d1 _ _ { s with toks:=tk } x as1 (by omega) r1 ho'.1 (by show A.units+1+n<cLine;omega) _ λ tk' htk'=>?_)
     have e1:xs=(gone++[d1])++ds1:=by rw [hx,List.append_assoc];rfl
     have e2:(b.push (zvo w d1)).toList=zoe w (gone++[d1]):=by rw [Array.toList_push,hb,zee];rfl
     first
      | exact wpAny_pure ⟨tk',_,ds1,bs1,Nat.le_trans htk htk',rfl,rr,by omega,ho'.2,e1,e2⟩
      | exact wpAny_bind (wpAny_pure (wpAny_pure ⟨tk',_,ds1,bs1,Nat.le_trans htk htk',rfl,rr,by omega,ho'.2,e1,e2⟩))
   ·rintro b s' ⟨tk,gone,ds,bs,htk,rfl,hr,hd',ho',hx,hb⟩
    cases hr
    rw [List.append_nil] at hx
    subst hx
    show wpAny _ _ (retInt (Builtin.Tuple.tupleHashOf b.toList)) _ _ _
    refine wpAny_ret_mkInt ?_
    rw [hb]
    have hq:∀ tk,s.toks≤tk→Q (redH (Builtin.Tuple.tupleHashOf (zoe w xs))) { s with toks:=tk }:=h
    generalize Builtin.Tuple.tupleHashOf (zoe w xs)=hv at hq ⊢
    show wpAny _ _ (if (decide (-(2:Int) ^ 63≤hv) && decide (hv<2 ^ 63))=true then _ else _) Q E _
    unfold redH at hq
    by_cases hr:(decide (-(2:Int) ^ 63≤hv) && decide (hv<2 ^ 63))=true
    ·rw [if_pos hr] at hq ⊢
     exact wpAny_pure (hq _ (Nat.le_succ_of_le htk))
    ·rw [if_neg hr] at hq ⊢
     exact wpAny_bind (wpAny_rule (wpAny_pure (hq _ (Nat.le_succ_of_le htk))))
  | _=>simp [zvd] at ho
end
mutual
theorem zsw:∀ (d e:PyData),zvd d=true→zvd e=true→PyData.eqv d e=true→d=e
 | .int a,.int b,_,_,h=>by
  have h:(a == b)=true:=by simpa [PyData.eqv] using h
  rw [eq_of_beq h]
 | .tuple xs,.tuple ys,h1,h2,h=>by
  have h:PyData.eqvAll xs ys=true:=h
  rw [zmj xs ys h1 h2 h]
 | .str a,.str b,_,_,h=>by
  have h:(a == b)=true:=by simpa [PyData.eqv] using h
  rw [eq_of_beq h]
 | .int a,.tuple ys,_,_,h=>by simp [PyData.eqv] at h
 | .tuple xs,.int b,_,_,h=>by simp [PyData.eqv] at h
 | .int a,.str b,_,_,h=>by simp [PyData.eqv] at h
 | .str a,.int b,_,_,h=>by simp [PyData.eqv] at h
 | .str a,.tuple ys,_,_,h=>by simp [PyData.eqv] at h
 | .tuple xs,.str b,_,_,h=>by simp [PyData.eqv] at h
theorem zmj:∀ (ds es:List PyData),zcb ds=true→zcb es=true→PyData.eqvAll ds es=true→ds=es
 | [],[],_,_,_=>rfl
 | d::ds,e::es,h1,h2,h=>by
  rw [zcb,Bool.and_eq_true] at h1 h2
  have h:(PyData.eqv d e && PyData.eqvAll ds es)=true:=h
  rw [Bool.and_eq_true] at h
  rw [zsw d e h1.1 h2.1 h.1,zmj ds es h1.2 h2.2 h.2]
 | [],e::es,_,_,h=>by simp [PyData.eqvAll] at h
 | d::ds,[],_,_,h=>by simp [PyData.eqvAll] at h
end
theorem zhv {d:PyData} (h:zvd d=true):PyData.eqv d d=true:=by
 cases d with
 | int i=>simp [PyData.eqv]
 | str z=>simp [PyData.eqv]
 | tuple xs=>exact SeqAt.eqvAll_refl xs (zye xs h)
 | _=>simp [zvd] at h
noncomputable def Mono (xs:Array Nat):Prop:=∀ (a b u v:Nat),a<b→xs[a]? = some u→xs[b]? = some v→u<v
theorem zvu {xs:Array Nat} {j:Nat} (hs:Mono xs):∀ (fuel lo hi:Nat),hi - lo≤fuel→lo≤hi→hi≤xs.size→(∀ i v,i<lo→xs[i]? = some v→v<j)→(∀ i v,hi≤i→xs[i]? = some v→j≤v) →
  SetTable.below.go xs j fuel lo hi≤xs.size∧(∀ i v,i<SetTable.below.go xs j fuel lo hi→xs[i]? = some v→v<j)∧(∀ i v,SetTable.below.go xs j fuel lo hi≤i→xs[i]? = some v→j≤v):=by
 intro fuel
 induction fuel with
 | zero =>
  intro lo hi h1 h2 h3 h4 h5
  have e:lo=hi:=by omega
  subst e
  unfold SetTable.below.go
  exact ⟨h3,h4,h5⟩
 | succ fuel ih =>
  intro lo hi h1 h2 h3 h4 h5
  unfold SetTable.below.go
  by_cases hl:lo<hi
  ·rw [if_pos hl]
   dsimp only
   have hm:(lo+hi) / 2<xs.size:=by omega
   have em:xs[(lo+hi) / 2]? = some (xs.getD ((lo+hi) / 2) j):=by rw [Array.getD_eq_getD_getElem?,Array.getElem?_eq_getElem hm];rfl
   by_cases hx:xs.getD ((lo+hi) / 2) j<j
   ·rw [if_pos hx]
    refine ih _ _ (by omega) (by omega) h3 (λ i v hi' e=>?_) h5
    rcases Nat.lt_or_ge i ((lo+hi) / 2) with hlt | hge
    ·exact Nat.lt_trans (hs _ _ _ _ hlt e em) hx
    ·have:i=(lo+hi) / 2:=by omega
     subst this
     rw [em] at e
     cases e
     exact hx
   ·rw [if_neg hx]
    refine ih _ _ (by omega) (by omega) (by omega) h4 (λ i v hi' e=>?_)
    rcases Nat.lt_or_ge ((lo+hi) / 2) i with hlt | hge
    ·exact Nat.le_of_lt (Nat.lt_of_le_of_lt (Nat.le_of_not_lt hx) (hs _ _ _ _ hlt em e))
    ·have:i=(lo+hi) / 2:=by omega
     subst this
     rw [em] at e
     cases e
     exact Nat.le_of_not_lt hx
  ·rw [if_neg hl]
   exact ⟨by omega,h4,λ i v hi' e=>h5 i v (by omega) e⟩
theorem zjc {xs:Array Nat} (hs:Mono xs) (j:Nat):SetTable.below xs j≤xs.size∧(∀ i v,i<SetTable.below xs j→xs[i]? = some v→v<j)∧(∀ i v,SetTable.below xs j≤i→xs[i]? = some v→j≤v):=by
 unfold SetTable.below
 exact zvu hs _ _ _ (by omega) (Nat.zero_le _) (Nat.le_refl _) (λ i v h=>by omega) (λ i v h e=>by rw [Array.getElem?_eq_none h] at e;cases e)
theorem zov {xs:Array Nat} (hs:Mono xs) {i j:Nat} (h:xs[i]? = some j):SetTable.below xs j=i:=by
 obtain ⟨h1,h2,h3⟩:=zjc hs j
 rcases Nat.lt_trichotomy (SetTable.below xs j) i with hl | he | hg
 ·have hb:SetTable.below xs j<xs.size:=Nat.lt_trans hl (Array.getElem?_eq_some_iff.mp h).1
  have e:=Array.getElem?_eq_getElem hb
  have a1:=h3 _ _ (Nat.le_refl _) e
  have a2:=hs _ _ _ _ hl e h
  omega
 ·exact he
 ·have:=h2 _ _ hg h
  omega
theorem zrm {t:ST} (hs:Mono t.place) {i j:Nat} (h:t.place[i]? = some j):t.slot j = .live i:=by
 unfold SetTable.slot
 dsimp only
 rw [zov hs h,h,if_pos (beq_self_eq_true _)]
theorem zdn {α:Type} {xs:Array α} {p:Nat} {x:α} (hp:p≤xs.size) (i:Nat):(SetTable.insertAt xs p x)[i]? = if i<p then xs[i]? else if i=p then some x else xs[i - 1]?:=by
 rw [← Array.getElem?_toList,zdj]
 by_cases h1:i<p
 ·rw [if_pos h1,List.getElem?_append_left (by rw [List.length_take,Array.length_toList];omega),List.getElem?_take,if_pos h1,Array.getElem?_toList]
 ·rw [if_neg h1,List.getElem?_append_right (by rw [List.length_take,Array.length_toList];omega),List.length_take,Array.length_toList,Nat.min_eq_left hp]
  by_cases h2:i=p
  ·subst h2
   rw [if_pos rfl,Nat.sub_self]
   rfl
  ·rw [if_neg h2]
   obtain ⟨k,hk⟩:∃ k,i - p=k+1:=⟨i - p - 1,by omega⟩
   rw [hk,List.getElem?_cons_succ,List.getElem?_drop,Array.getElem?_toList]
   congr 1
   omega
theorem zqt {xs:Array Nat} (hs:Mono xs) {j:Nat} (hn:∀ i:Nat,xs[i]? ≠ some j):Mono (SetTable.insertAt xs (SetTable.below xs j) j):=by
 obtain ⟨h1,h2,h3⟩:=zjc hs j
 have h3':∀ (i v:Nat),SetTable.below xs j≤i→xs[i]? = some v→j<v:=λ i v hi e=>by
  have:=h3 i v hi e
  rcases Nat.lt_or_eq_of_le this with hl | he
  ·exact hl
  ·subst he;exact absurd e (hn i)
 intro a b u v hab ea eb
 rw [zdn h1] at ea eb
 by_cases a1:a<SetTable.below xs j
 ·rw [if_pos a1] at ea
  have a2:=h2 _ _ a1 ea
  by_cases b1:b<SetTable.below xs j
  ·rw [if_pos b1] at eb
   exact hs _ _ _ _ hab ea eb
  ·rw [if_neg b1] at eb
   by_cases b2:b=SetTable.below xs j
   ·rw [if_pos b2] at eb;cases eb;exact a2
   ·rw [if_neg b2] at eb
    exact Nat.lt_trans a2 (h3' _ _ (by omega) eb)
 ·rw [if_neg a1] at ea
  rw [if_neg (by omega:¬ b<SetTable.below xs j)] at eb
  rw [if_neg (by omega:¬ b=SetTable.below xs j)] at eb
  by_cases a2:a=SetTable.below xs j
  ·rw [if_pos a2] at ea;cases ea
   exact h3' _ _ (by omega) eb
  ·rw [if_neg a2] at ea
   exact hs _ _ _ _ (by omega) ea eb
theorem zwv {t t':ST} (h:t.mask=t'.mask) (p:SetTable.Probe):t.advance p=t'.advance p:=by
 unfold SetTable.advance
 rw [h]
theorem zgd {t t':ST} (h:t.mask=t'.mask):∀ (n:Nat) (p:SetTable.Probe),path t n p=path t' n p
 | 0,p=>rfl
 | n+1,p=>by rw [zob,zob,zgd h n p,zwv h]
theorem zad {t t':ST} (h:t.mask=t'.mask) (x:Int):t.probeStart x=t'.probeStart x:=by
 unfold SetTable.probeStart
 rw [h]
structure Wp (t:ST) (es:Array (Int×Value)):Prop where
 mono:Mono t.place
 rch:∀ (i j:Nat) (e:Int×Value),t.place[i]? = some j→es[i]? = some e→∃ n,(path t n (t.probeStart e.1)).j=j∧∀ k,k<n→∃ i':Nat,t.place[i']? = some (path t k (t.probeStart e.1)).j
theorem Wp.ins {t t1:ST} {es:Array (Int×Value)} (h:Wp t es) (hz:t.place.size=es.size) {j N:Nat} {e:Int×Value} (he:(path t N (t.probeStart e.1)).j=j) (hf:∀ i:Nat,t.place[i]? ≠ some j) (hl:∀ k,k<N→∃ i':Nat,t.place[i']? = some (path t k (t.probeStart e.1)).j)
  (hm:t1.mask=t.mask) (hp:t1.place=SetTable.insertAt t.place (SetTable.below t.place j) j):Wp t1 (SetTable.insertAt es (SetTable.below t.place j) e):=by
 obtain ⟨b1,b2,b3⟩:=zjc h.mono j
 have grow:∀ (i' v:Nat),t.place[i']? = some v→∃ i'':Nat,t1.place[i'']? = some v:=λ i' v hv=>by
  rw [hp]
  by_cases hi:i'<SetTable.below t.place j
  ·exact ⟨i',by rw [zdn b1,if_pos hi];exact hv⟩
  ·exact ⟨i'+1,by rw [zdn b1,if_neg (by omega),if_neg (by omega),Nat.add_sub_cancel];exact hv⟩
 have mk:∀ (e':Int×Value) (j':Nat),(∃ n,(path t n (t.probeStart e'.1)).j=j'∧∀ k,k<n→∃ i':Nat,t.place[i']? = some (path t k (t.probeStart e'.1)).j)→∃ n,(path t1 n (t1.probeStart e'.1)).j=j'∧∀ k,k<n→∃ i':Nat,t1.place[i']? = some (path t1 k (t1.probeStart e'.1)).j:=by
  rintro e' j' ⟨n,q1,q2⟩
  refine ⟨n,?_,λ k hk=>?_⟩
  ·rw [zgd hm,zad hm];exact q1
  ·obtain ⟨i',hi'⟩:=q2 k hk
   rw [zgd hm,zad hm]
   exact grow i' _ hi'
 refine ⟨by rw [hp];exact zqt h.mono hf,λ i j' e' h1 h2=>mk e' j' ?_⟩
 rw [hp,zdn b1] at h1
 rw [zdn (by rw [← hz];exact b1)] at h2
 by_cases i1:i<SetTable.below t.place j
 ·rw [if_pos i1] at h1 h2
  exact h.rch i j' e' h1 h2
 ·rw [if_neg i1] at h1 h2
  by_cases i2:i=SetTable.below t.place j
  ·rw [if_pos i2] at h1 h2
   cases h1
   cases h2
   exact ⟨N,he,hl⟩
  ·rw [if_neg i2] at h1 h2
   exact h.rch (i - 1) j' e' h1 h2
noncomputable abbrev tm (mask:Nat):ST:={ mask,place := #[],dummies := #[],finger:=0,led:=false,moves:=0,plain:=false }
theorem zie (t:ST):∀ (q:Nat) (p:SetTable.Probe),q≤p.more→path t q p={ p with j:=p.j+q,more:=p.more - q }
 | 0,p,_=>rfl
 | q+1,p,h=>by
  rw [zob,zie t q p (by omega)]
  unfold SetTable.advance
  dsimp only
  rw [if_pos (by omega)]
  congr 1
theorem zar {mask:Nat} {owner:Array (Option Nat)} (hs:owner.size=mask+1):∀ (fuel i perturb j:Nat) (p:SetTable.Probe),i<mask+1→p.j=i→p.more=SetTable.runEnd mask i - i→p.i=i→p.perturb=perturb→SetTable.layClean.free mask owner fuel i perturb=some j →
  ∃ N,(path (tm mask) N p).j=j∧∀ k,k<N→own owner (path (tm mask) k p).j≠none:=by
 have occ:∀ j,j<mask+1→¬ (owner.getD j (some 0)).isNone=true→own owner j≠none:=λ j hj h e=>by
  apply h
  rw [Array.getD_eq_getD_getElem?,Array.getElem?_eq_getElem (by omega)]
  have e:owner.getD j none=none:=e
  rw [Array.getD_eq_getD_getElem?,Array.getElem?_eq_getElem (by omega)] at e
  have e:owner[j]=none:=e
  rw [e]
  rfl
 have rng:∀ i k,i<mask+1→k<SetTable.runEnd mask i+1 - i→i+k<mask+1:=λ i k hi hk=>by
  unfold SetTable.runEnd at hk
  split at hk <;> omega
 intro fuel
 induction fuel with
 | zero =>
  intro i perturb j p hi h1 h2 h3 h4 hf
  unfold SetTable.layClean.free at hf
  cases hf
 | succ fuel ih =>
  intro i perturb j p hi h1 h2 h3 h4 hf
  unfold SetTable.layClean.free at hf
  cases hfd:(List.range (SetTable.runEnd mask i+1 - i)).find? λ k=>(owner.getD (i+k) (some 0)).isNone with
  | some q =>
   rw [hfd] at hf
   have hf:some (i+q)=some j:=hf
   cases hf
   have hq:q<SetTable.runEnd mask i+1 - i:=List.mem_range.mp (List.mem_of_find?_eq_some hfd)
   refine ⟨q,?_,λ k hk=>?_⟩
   ·rw [zie _ q p (by rw [h2];omega)]
    show p.j+q=i+q
    rw [h1]
   ·rw [zie _ k p (by rw [h2];omega)]
    show own owner (p.j+k)≠none
    rw [h1]
    refine occ _ (rng i k hi (by omega)) ?_
    have:=(List.find?_range_eq_some.mp hfd).2.2 k hk
    intro hc
    rw [hc] at this
    exact absurd this (by decide)
  | none =>
   rw [hfd] at hf
   have hall:=List.find?_eq_none.mp hfd
   have hrun:∀ k,k≤p.more→(path (tm mask) k p).j=i+k∧own owner (i+k)≠none:=λ k hk=>by
    have hk':k<SetTable.runEnd mask i+1 - i:=by
     rw [h2] at hk
     have:i≤SetTable.runEnd mask i:=by unfold SetTable.runEnd;split <;> omega
     omega
    refine ⟨?_,occ _ (rng i k hi hk') (hall k (List.mem_range.mpr hk'))⟩
    rw [zie _ k p hk]
    show p.j+k=i+k
    rw [h1]
   have he:=zqj (tm mask) p.more p rfl
   obtain ⟨N,n1,n2⟩:=ih _ _ j (path (tm mask) (p.more+1) p) (Nat.mod_lt _ (Nat.succ_pos mask)) (by rw [he];show (SetTable.leap mask p.i p.perturb).1=_;rw [h3,h4];rfl) (by rw [he];show SetTable.runEnd mask (SetTable.leap mask p.i p.perturb).1 - (SetTable.leap mask p.i p.perturb).1=_;rw [h3,h4];rfl) (by rw [he];show (SetTable.leap mask p.i p.perturb).1=_;rw [h3,h4];rfl) (by rw [he];show (SetTable.leap mask p.i p.perturb).2=_;rw [h3,h4];rfl) hf
   refine ⟨p.more+1+N,by rw [zqe];exact n1,λ k hk=>?_⟩
   rcases Nat.lt_or_ge k (p.more+1) with hl | hg
   ·obtain ⟨e1,e2⟩:=hrun k (by omega)
    rw [e1]
    exact e2
   ·obtain ⟨d,rfl⟩:∃ d,k=p.more+1+d:=⟨k - (p.more+1),by omega⟩
    rw [zqe]
    exact n2 d (by omega)
end L2
namespace L2
open PySem PySem.Spec PyProof.Rows PySem.NumText
mutual
theorem zmn:∀ a b:PyData,PyData.eqv a b=PyData.eqv b a
 | .list xs,.list ys=>by rw [PyData.eqv,PyData.eqv];exact znd xs ys
 | .tuple xs,.tuple ys=>by rw [PyData.eqv,PyData.eqv];exact znd xs ys
 | .bool a,.bool b=>by rw [PyData.eqv,PyData.eqv];exact Bool.beq_comm
 | .bool a,.int j=>by rw [PyData.eqv,PyData.eqv];exact Bool.beq_comm
 | .int i,.bool b=>by rw [PyData.eqv,PyData.eqv];exact Bool.beq_comm
 | .int i,.int j=>by rw [PyData.eqv,PyData.eqv];exact Bool.beq_comm
 | .str x,.str y=>by rw [PyData.eqv,PyData.eqv];exact Bool.beq_comm
 | .dict _,.dict _=>by rw [PyData.eqv,PyData.eqv]
 | .none,b=>by cases b <;> simp [PyData.eqv]
 | .bool _,.none | .bool _,.str _ | .bool _,.list _ | .bool _,.tuple _ | .bool _,.dict _=>by simp [PyData.eqv]
 | .int _,.none | .int _,.str _ | .int _,.list _ | .int _,.tuple _ | .int _,.dict _=>by simp [PyData.eqv]
 | .str _,.none | .str _,.bool _ | .str _,.int _ | .str _,.list _ | .str _,.tuple _ | .str _,.dict _=>by simp [PyData.eqv]
 | .list _,.none | .list _,.bool _ | .list _,.int _ | .list _,.str _ | .list _,.tuple _ | .list _,.dict _=>by simp [PyData.eqv]
 | .tuple _,.none | .tuple _,.bool _ | .tuple _,.int _ | .tuple _,.str _ | .tuple _,.list _ | .tuple _,.dict _=>by simp [PyData.eqv]
 | .dict _,.none | .dict _,.bool _ | .dict _,.int _ | .dict _,.str _ | .dict _,.list _ | .dict _,.tuple _=>by simp [PyData.eqv]
theorem znd:∀ a b:List PyData,PyData.eqvAll a b=PyData.eqvAll b a
 | [],[]=>rfl
 | [],_::_=>by simp [PyData.eqvAll]
 | _::_,[]=>by simp [PyData.eqvAll]
 | x::xs,y::ys=>by rw [PyData.eqvAll,PyData.eqvAll,zmn x y,znd xs ys]
end
theorem zbu:∀ (xs ys:List PyData) (c:Bool),ltDs xs ys=some c→∀ (j:Nat) x y,xs[j]? = some x→ys[j]? = some y→(∀ i x y,i<j→xs[i]? = some x→ys[i]? = some y→PyData.eqv x y=true)→PyData.eqv x y=false→∃ c',ltD x y=some c':=by
 intro xs
 induction xs with
 | nil=>intro ys c _ j x y e1;simp at e1
 | cons x0 xs ih2 =>
  intro ys c h j x y e1 e2 hall hne
  cases ys with
  | nil=>simp at e2
  | cons y0 ys =>
   rw [ltDs] at h
   cases j with
   | zero =>
    simp at e1 e2
    subst e1 e2
    rw [if_neg (by rw [hne];exact Bool.false_ne_true)] at h
    exact ⟨c,h⟩
   | succ j =>
    rw [if_pos (hall 0 x0 y0 (Nat.succ_pos _) rfl rfl)] at h
    exact ih2 ys c h j x y (by simpa using e1) (by simpa using e2) (λ i a b hi h1 h2=>hall (i+1) a b (by omega) (by simpa using h1) (by simpa using h2)) hne
theorem zeo:∀ (n:Nat) (da db:PyData) (c:Bool) (A:Around) (s:Shared) (a b:Value) (as bs:List Addr),PyData.depth da≤n→Reads s.heap a da as→Reads s.heap b db bs→da.canLay0=true→db.canLay0=true→ltD db da=some c →
  A.units+n+2<cLine→zal .Gt A s a b c:=by
 intro n
 induction n with
 | zero =>
  intro da db c A s a b as bs hd ra rb _ _ hc hu
  cases ra with
  | int i t =>
   cases rb with
   | int j u =>
    have hc:decide (j<i)=c:=by simpa [ltD] using hc
    subst hc
    exact λ prog w E Q hq=>(PyProof.Rows.gt_int hq:wpAny (model prog w) A (compareOp .Gt (.int i t) (.int j u)) Q E s)
   | _=>simp [ltD] at hc
  | str x t =>
   cases rb with
   | str y u =>
    have hc:decide (y.cps.toList<x.cps.toList)=c:=by simpa [ltD] using hc
    subst hc
    exact λ prog w E Q hq=>(PySem.P.gt_str hq:wpAny (model prog w) A (compareOp .Gt (.str x t) (.str y u)) Q E s)
   | _=>simp [ltD] at hc
  | tuple h1 h2 h3 h4=>simp [PyData.depth] at hd
  | _=>cases rb <;> simp [ltD] at hc
 | succ n ih =>
  intro da db c A s a b as bs hd ra rb la lb hc hu
  cases ra with
  | int i t =>
   cases rb with
   | int j u =>
    have hc:decide (j<i)=c:=by simpa [ltD] using hc
    subst hc
    exact λ prog w E Q hq=>(PyProof.Rows.gt_int hq:wpAny (model prog w) A (compareOp .Gt (.int i t) (.int j u)) Q E s)
   | _=>simp [ltD] at hc
  | str x t =>
   cases rb with
   | str y u =>
    have hc:decide (y.cps.toList<x.cps.toList)=c:=by simpa [ltD] using hc
    subst hc
    exact λ prog w E Q hq=>(PySem.P.gt_str hq:wpAny (model prog w) A (compareOp .Gt (.str x t) (.str y u)) Q E s)
   | _=>simp [ltD] at hc
  | @tuple l o vs m xs as h1 h2 h3 h4 =>
   cases rb with
   | @tuple l2 o2 vs2 m2 ys bs g1 g2 g3 g4 =>
    have hc:ltDs ys xs=some c:=by simpa [ltD] using hc
    have z1:vs.size=xs.length:=by have:=SeqAt.ReadsAll.length _ _ _ h4;simpa using this
    have z2:vs2.size=ys.length:=by have:=SeqAt.ReadsAll.length _ _ _ g4;simpa using this
    have la':PyData.canLayAll0 xs=true:=la
    have lb':PyData.canLayAll0 ys=true:=lb
    have hd':PyData.depthAll xs≤n:=by have:PyData.depth (.tuple xs)=PyData.depthAll xs+1:=rfl;omega
    have at1:∀ j (h:j<vs.size),∃ d bs,xs[j]? = some d∧Reads s.heap vs[j] d bs∧d∈xs:=λ j h=>zyb h4 (by simp [h])
    have at2:∀ j (h:j<vs2.size),∃ d bs,ys[j]? = some d∧Reads s.heap vs2[j] d bs∧d∈ys:=λ j h=>zyb g4 (by simp [h])
    have he:∀ j (k1:j<vs.size) (k2:j<vs2.size),SeqAt.EqAt A.in1 s vs[j] vs2[j] (PyData.eqv ((ys[j]?).getD .none) ((xs[j]?).getD .none)):=λ j k1 k2=>by
     obtain ⟨d,b1,e1,r1,m1⟩:=at1 j k1
     obtain ⟨d2,b2,e2,r2,m2⟩:=at2 j k2
     rw [e1,e2,zmn]
     refine SeqAt.eqAt_reads d d2 A.in1 s _ _ b1 b2 r1 r2 (zza m1 la') (zza m2 lb') ?_
     have:=zdd m1
     have:min d.depth d2.depth≤d.depth:=Nat.min_le_left _ _
     show A.units+1+min d.depth d2.depth<cLine
     omega
    have hl:IsTup s.heap l vs:=⟨o,h1,h2,m,h3⟩
    have hr:IsTup s.heap l2 vs2:=⟨o2,g1,g2,m2,g3⟩
    have e0:∀ (j:Nat) x y,ys[j]? = some x→xs[j]? = some y→PyData.eqv ((ys[j]?).getD .none) ((xs[j]?).getD .none)=PyData.eqv x y:=λ j x y e1 e2=>by rw [e1,e2];rfl
    have lexlt:=zoj (e:=λ j=>PyData.eqv ((ys[j]?).getD .none) ((xs[j]?).getD .none)) (r:=λ j=>(ltD ((ys[j]?).getD .none) ((xs[j]?).getD .none)).getD false) hc e0 (λ j x y c' e1 e2 _ _ e3=>by rw [e1,e2];simp only [Option.getD_some];rw [e3];rfl)
    have hu1:A.in1.units+n+2<cLine:=by show A.units+1+n+2<cLine;omega
    have cmp:∀ j (k1:j<vs.size) (k2:j<vs2.size),(∀ i,i<j→PyData.eqv ((ys[i]?).getD .none) ((xs[i]?).getD .none)=true)→PyData.eqv ((ys[j]?).getD .none) ((xs[j]?).getD .none)=false →
      zal .Gt A.in1 s vs[j] vs2[j] ((ltD ((ys[j]?).getD .none) ((xs[j]?).getD .none)).getD false):=λ j k1 k2 hall hne=>by
     obtain ⟨d,b1,e1,r1,m1⟩:=at1 j k1
     obtain ⟨d2,b2,e2,r2,m2⟩:=at2 j k2
     rw [e1,e2] at hne ⊢
     obtain ⟨c',hc'⟩:=zbu ys xs c hc j d2 d e2 e1 (λ i x y hi h1 h2=>by have:=hall i hi;rw [h1,h2] at this;exact this) hne
     simp only [Option.getD_some]
     rw [hc']
     exact ih d d2 c' A.in1 s _ _ b1 b2 (Nat.le_trans (zdd m1) hd') r1 r2 (zza m1 la') (zza m2 lb') hc' hu1
    intro prog w E Q hq
    refine (zqp hl hr he (λ j k1 k2 h3 h4=>cmp j k1 k2 h3 h4) (by omega) ?_:wpAny (model prog w) A (compareOp .Gt (.ref l) (.ref l2)) Q E s)
    rw [z1,z2,Nat.min_comm,lexlt]
    exact hq
   | _=>simp [ltD] at hc
  | _=>cases rb <;> simp [ltD] at hc
section
variable {X:Cx}
end
noncomputable abbrev Ext (h h':Heap):Prop:=∀ b o,h.get? b=some o→h'.get? b=some o
noncomputable def zzz (prog:Program) (w:World) (A:Around) (op:CmpOp) (h0:Heap) (P:Nat→Value→Prop) (bt:Nat→Nat→Bool):Prop :=
 ∀ (i j:Nat) (x y:Value) (s:Shared) (Q E:Value→Shared→Prop),j<i→Ext h0 s.heap→P i x→P j y→Q (.bool (bt i j)) s→wpAny (model prog w) A (richCompare op x y) Q E s
theorem zfi (bt:Nat→Nat→Bool):∀ k,argBest bt k≤k
 | 0=>Nat.le_refl _
 | k+1=>by have:=zfi bt k;rw [argBest];split <;> omega
section
variable {prog:Program} {w:World} {A:Around} {R:Result→Shared→Prop} {I:Addr} {fp wr:List Addr} {n:Nat} {P:Nat→Value→Prop} {St:Nat→Heap→Prop} {h0:Heap} {kw:List (Str×Value)}
theorem zm1 (W:Walks prog w A.in1 I fp wr n P St) (bt:Nat→Nat→Bool) (cmp:zzz prog w A.in1 .Gt h0 P bt) (S:Addr) (S1:S∉fp) (N1:∀ b∈wr,h0.get? b=none) (N2:h0.get? S=none)
  (k:Nat):∀ (j:Nat) (s:Shared) (best:Value) (c:Nat),n - (j+1)=k→j+1≤n→St (j+1) s.heap→P (argBest bt j) best→Ext h0 s.heap →
   s.heap.get? S=some { cls := .type "list",dict:=none,data := .seq #[best,best] c,slots := #[] } →
   (∀ v h' tk,P (argBest bt (n - 1)) v→Ext h0 h'→R (.ok (.ret v)) { s with heap:=h',toks:=tk }) →
   codeAny (model prog w) A (.builtin "max.loop" ⟨[.ref I,.none,.ref S],kw⟩) R s:=by
 have S2:S∉wr:=λ z=>S1 (W.sub _ z)
 have nm:(toString "max" ++ toString ".loop" : String) = "max.loop" := by decide
 have keep:∀ {h h':Heap},Ext h0 h→(∀ b o,b∉wr→h.get? b=some o→h'.get? b=some o)→Ext h0 h':=fun {h h'} e1 e2 b o e=>e2 b o (λ z=>by rw [N1 b z] at e;cases e) (e1 b o e)
 have keepS:∀ {h:Heap} {f:Obj→Obj},Ext h0 h→Ext h0 (h.update S f):=fun {h f} e1 b o e=>(Heap.get?_update_other _ _ (λ z:S=b=>by rw [← z,N2] at e;cases e)).trans (e1 b o e)
 induction k with
 | zero =>
  intro j s best c hk hj st hP ex hS fin
  have jn:j+1=n:=by omega
  refine codeAny_builtin F.entry_max_loop ?_
  rw [Around.under_plainId F.plain_max_loop _]
  show wpAny _ A.in1 (seqItems? (.ref S) >>= _) _ _ s
  refine wpAny_bind (wpAny_seqItems hS rfl ?_)
  show wpAny _ A.in1 (tryCatch (pyNext (.ref I)) _ >>= _) _ _ s
  refine wpAny_bind (wpAny_tryCatch (W.done s _ _ (jn ▸ st) λ h' tk kp=>?_))
  have hS':=kp S _ S2 hS
  show wpAny _ A.in1 (updateSeq S (λ _ => #[]) >>= _) _ _ _
  refine wpAny_bind (wpAny_updateSeq hS' rfl (wpAny_bind (wpAny_letGo (wpAny_pure ?_))))
  exact fin best _ tk (by rw [← jn];exact hP) (keepS (keep ex kp))
 | succ k ih =>
  intro j s best c hk hj st hP ex hS fin
  have jl:j+1<n:=by omega
  refine codeAny_builtin F.entry_max_loop ?_
  rw [Around.under_plainId F.plain_max_loop _]
  show wpAny _ A.in1 (seqItems? (.ref S) >>= _) _ _ s
  refine wpAny_bind (wpAny_seqItems hS rfl ?_)
  show wpAny _ A.in1 (tryCatch (pyNext (.ref I)) _ >>= _) _ _ s
  refine wpAny_bind (wpAny_tryCatch (W.item (j+1) s _ _ jl st λ v h' tk pv st' kp=>?_))
  have hS':=kp S _ S2 hS
  have ex':=keep ex kp
  show wpAny _ A.in1 (tryCatch (holding [v,v] (richCompare .Gt v best >>= _)) _ >>= _) _ _ _
  refine wpAny_bind (wpAny_tryCatch (wpAny_holding (wpAny_bind (cmp (j+1) (argBest bt j) v best _ _ _ (Nat.lt_succ_of_le (zfi bt j)) ex' pv hP ?_))))
  refine wpAny_bind (wpAny_holding (wpAny_truthy_bool (wpAny_bind (wpAny_letGo (wpAny_pure ?_)))))
  cases hb:bt (j+1) (argBest bt j) with
  | true =>
   simp only [if_true]
   refine wpAny_bind (wpAny_updateSeq hS' rfl (wpAny_bind (wpAny_letGo ?_)))
   rw [nm]
   have st2:=W.frame _ _ (h'.update S (Obj.mapSeq λ _ => #[v,v])) st' λ b bf o e=>(Heap.get?_update_other _ _ (λ z:S=b=>S1 (by rw [z];exact bf))).trans e
   exact wpAny_pure ⟨plainId_quiet F.plain_max_loop _,ih (j+1) _ v _ (by omega) jl st2 (by simp only [argBest,hb,if_true];exact pv) (keepS ex') (Heap.get?_update_self _ hS' rfl) λ v' h2 tk2 p2 e2=>fin v' h2 tk2 p2 e2⟩
  | false =>
   simp only [Bool.false_eq_true,if_false]
   refine wpAny_bind (wpAny_letGo ?_)
   rw [nm]
   exact wpAny_pure ⟨plainId_quiet F.plain_max_loop _,ih (j+1) _ best c (by omega) jl st' (by simp only [argBest,hb,Bool.false_eq_true,if_false];exact hP) ex' hS' λ v' h2 tk2 p2 e2=>fin v' h2 tk2 p2 e2⟩
theorem ztv (W:Walks prog w A.in1 I fp wr n P St) (bt:Nat→Nat→Bool) (cmp:zzz prog w A.in1 .Gt h0 P bt) (S:Addr) (S1:S∉fp) (N1:∀ b∈wr,h0.get? b=none) (N2:h0.get? S=none) (n0:0<n)
  {s:Shared} {c:Nat} (st:St 0 s.heap) (ex:Ext h0 s.heap) (hS:s.heap.get? S=some { cls := .type "list",dict:=none,data := .seq #[] c,slots := #[] })
  (fin:∀ v h' tk,P (argBest bt (n - 1)) v→Ext h0 h'→R (.ok (.ret v)) { s with heap:=h',toks:=tk }) :
  codeAny (model prog w) A (.builtin "max.loop" ⟨[.ref I,.none,.ref S],kw⟩) R s:=by
 have S2:S∉wr:=λ z=>S1 (W.sub _ z)
 have nm:(toString "max" ++ toString ".loop" : String) = "max.loop" := by decide
 refine codeAny_builtin F.entry_max_loop ?_
 rw [Around.under_plainId F.plain_max_loop _]
 show wpAny _ A.in1 (seqItems? (.ref S) >>= _) _ _ s
 refine wpAny_bind (wpAny_seqItems hS rfl ?_)
 show wpAny _ A.in1 (tryCatch (pyNext (.ref I)) _ >>= _) _ _ s
 refine wpAny_bind (wpAny_tryCatch (W.item 0 s _ _ n0 st λ v h' tk pv st' kp=>?_))
 have hS':=kp S _ S2 hS
 have ex':Ext h0 h':=λ b o e=>kp b o (λ z=>by rw [N1 b z] at e;cases e) (ex b o e)
 have ex2:Ext h0 (h'.update S (Obj.mapSeq λ _ => #[v,v])):=λ b o e=>(Heap.get?_update_other _ _ (λ z:S=b=>by rw [← z,N2] at e;cases e)).trans (ex' b o e)
 show wpAny _ A.in1 (updateSeq S (λ _ => #[v,v]) >>= _) _ _ _
 refine wpAny_bind (wpAny_updateSeq hS' rfl ?_)
 rw [nm]
 have st2:=W.frame _ _ (h'.update S (Obj.mapSeq λ _ => #[v,v])) st' λ b bf o e=>(Heap.get?_update_other _ _ (λ z:S=b=>S1 (by rw [z];exact bf))).trans e
 exact wpAny_pure ⟨plainId_quiet F.plain_max_loop _,zm1 W bt cmp S S1 N1 N2 _ 0 _ v _ rfl n0 st2 pv ex2 (Heap.get?_update_self _ hS' rfl) λ v' h2 tk2 p2 e2=>fin v' h2 tk2 p2 e2⟩
end
section
variable {X:Cx}
noncomputable def zc4 (K:W.Frag):List V→Hp→VK→Prop:=λ xs H Q=>∃ x y d e c,xs=[x,y]∧DV K H d x∧DV K H e y∧SeqAt.shaped d=true∧SeqAt.shaped e=true∧ltD d e=some c∧Q (if c=true then y else x) H
mutual
theorem zng {h h':Heap} (e:Ext h h'):∀ {v:Value} {d:PyData} {as:List Addr},Reads h v d as→Reads h' v d as
 | _,_,_,.none=>.none
 | _,_,_,.bool b=>.bool b
 | _,_,_,.int i t=>.int i t
 | _,_,_,.str x t=>.str x t
 | _,_,_,.list a b c d=>.list (e _ _ a) b c (zbb e d)
 | _,_,_,.tuple a b c d=>.tuple (e _ _ a) b c (zbb e d)
 | _,_,_,.dict a b c d f=>.dict (e _ _ a) b c (zbb e d) (zbb e f)
theorem zbb {h h':Heap} (e:Ext h h'):∀ {vs:List Value} {ds:List PyData} {as:List Addr},ReadsAll h vs ds as→ReadsAll h' vs ds as
 | _,_,_,.nil=>.nil
 | _,_,_,.cons a b=>.cons (zng e a) (zbb e b)
end
theorem ztn (hc:X.calm=true) (hu:X.A.units+100<cLine):zrj X (.builtin "max") (zc4 X.K):=by
 intro pins s σ H xs us Q I r h
 obtain ⟨x,y,d,e,c,rfl,hd,he,sd,se,hlt,q⟩:=h
 obtain ⟨u,v,rfl,ru,rv⟩:=ze5 r
 obtain ⟨as,ra⟩:=DV.reads I d x u hd ru
 obtain ⟨bs,rb⟩:=DV.reads I e y v he rv
 have sz:(s.heap.push { cls := .type "tuple",data := .seq #[u,v] }).objs.size=s.heap.objs.size+1:=Heap.size_push ..
 have hT:(s.heap.push { cls := .type "tuple",data := .seq #[u,v] }).IsTuple s.heap.objs.size #[u,v]:=⟨_,Heap.get?_push_size _ rfl,rfl,0,rfl⟩
 have nm:(toString "max" ++ toString ".loop" : String) = "max.loop" := by decide
 refine call_function_tree F.kind_max F.plain_max F.entry_max (F.args_max2 _ _) ?_
 show wpAny _ X.A.in1 (Builtin.Builtins.bindParams "max" ["key", "default"] 0 ⟨[],[]⟩ >>= _) _ _ s
 refine wpAny_bind (wpAny_of_eq (show Builtin.Builtins.bindParams "max" ["key", "default"] 0 ⟨[],[]⟩=pure [none,none] from rfl) ?_)
 show wpAny _ X.A.in1 (newTuple [u,v] >>= _) _ _ s
 refine wpAny_bind (wpAny_newObj_type (wpAny_bind (wpAny_pyIter_tuple hT (wpAny_bind (wpAny_newObj_type ?_)))))
 rw [nm]
 have n0:∀ b,s.heap.objs.size≤b→s.heap.get? b=none:=λ b hb=>Heap.get?_none_of_le hb
 have sz2:((s.heap.push { cls := .type "tuple",data := .seq #[u,v] }).push { cls := .type "tuple_iterator",data := .fields #[.ref s.heap.objs.size,.int 0 0] }).objs.size=s.heap.objs.size+2:=by rw [Heap.size_push,sz]
 have W:=Walks.tuple (prog:=X.prog) (w:=X.w) (A:=X.A.in1) (I.ok.hd hc) (s.heap.objs.size+1) s.heap.objs.size (Nat.ne_of_lt (Nat.lt_succ_self _)) #[u,v]
 have key:zzz X.prog X.w X.A.in1 .Gt s.heap (λ i z => #[u,v][i]? = some z) (λ _ _=>c):=by
  intro i j x' y' s' Q' E' hij ex e1 e2 hq
  have l1:i<2:=(Array.getElem?_eq_some_iff.mp e1).1
  obtain rfl:i=1:=by omega
  obtain rfl:j=0:=by omega
  cases (show v=x' by simpa using e1)
  cases (show u=y' by simpa using e2)
  exact zeo 64 e d c X.A.in1 s' v u bs as (SeqAt.depth_of_shaped se) (zng ex rb) (zng ex ra) (SeqAt.canLay_of_shaped se) (SeqAt.canLay_of_shaped sd) hlt (by show X.A.units+1+64+2<cLine;omega) _ _ _ _ hq
 have kp:∀ (h:Heap) (o1 o2 o3:Obj),Ext h (((h.push o1).push o2).push o3):=λ h o1 o2 o3 b o q=>Heap.get?_push_of_some _ (Heap.get?_push_of_some _ (Heap.get?_push_of_some _ q))
 dsimp only
 rw [sz2,sz]
 refine wpAny_pure ⟨plainId_quiet F.plain_max_loop _,ztv (h0:=s.heap) W _ key _ ?_ ?_ (n0 _ (by omega)) (by show 0<2;decide) ⟨⟨{ cls := .type "tuple_iterator",data := .fields #[.ref s.heap.objs.size,.int 0 0] },?_,rfl,rfl⟩,(hT.push _).push _⟩ (kp _ _ _ _) (by have:=Heap.get?_push_size ((s.heap.push { cls := .type "tuple",data := .seq #[u,v] }).push { cls := .type "tuple_iterator",data := .fields #[.ref s.heap.objs.size,.int 0 0] }) (o:={ cls := .type "list",data := .seq #[] }) rfl;rw [sz2] at this;exact this) λ z h' tk hz ex=>?_⟩
 ·simp
 ·intro b hb
  rw [List.mem_singleton.mp hb]
  exact n0 _ (by omega)
 ·refine Heap.get?_push_of_some _ ?_
  have:=Heap.get?_push_size (s.heap.push { cls := .type "tuple",data := .seq #[u,v] }) (o:={ cls := .type "tuple_iterator",data := .fields #[.ref s.heap.objs.size,.int 0 0] }) rfl
  rw [sz] at this
  exact this
 ·refine ⟨if c=true then y else x,H,I.kept (t':=tk) ex,?_,q⟩
  cases c with
  | true =>
   cases (show v=z by simpa [argBest] using hz)
   exact rv
  | false =>
   cases (show u=z by simpa [argBest] using hz)
   exact ru
end
end L2
namespace L2
open PySem PySem.Spec PyProof.Rows
section
variable {X:Cx} {CX:CXT} {k:Nat} {f C D:Addr} {fd:FuncData} {ps:List Str} {sp:Sp} {dvs:List V} {ds:List Value} {EX:XK} {x m:Str} {p pos apos:Pos} {e o:Expr} {es:List Expr} {ta:TE} {t:TA} {σ₀:St}
end
end L2
namespace L2
open PySem PySem.Spec PyProof.Rows PySem.NumText
section
variable {X:Cx}
end
end L2
namespace L2
open PySem PySem.Spec PyProof.Rows PySem.NumText
theorem zoz {z:Str}:PyData.strOk z=true ↔ ∀ n∈z.cps.toList,n<0x110000:=by
 unfold PyData.strOk
 rw [← Array.all_toList,List.all_eq_true]
 constructor
 ·intro h n hn;exact of_decide_eq_true (h n hn)
 ·intro h n hn;exact decide_eq_true (h n hn)
theorem znz (s:String):PyData.strOk (Str.ofString s)=true:=by
 rw [zoz]
 intro n hn
 rw [signs_ofString] at hn
 obtain ⟨c,_,rfl⟩:=List.mem_map.mp hn
 have:=c.valid
 unfold UInt32.isValidChar Nat.isValidChar at this
 show c.val.toNat<1114112
 omega
end L2
namespace L2
open PySem PySem.Spec PyProof.Rows PySem.NumText
structure STO {α:Type} (lt:α→α→Bool):Prop where
 irr:∀ a,lt a a=false
 tr:∀ a b c,lt a b=true→lt b c=true→lt a c=true
 tri:∀ a b,a≠b→lt a b=false→lt b a=true
theorem STO.asym {α:Type} {lt:α→α→Bool} (h:STO lt) {a b:α} (x:lt a b=true):lt b a=false:=by
 cases e:lt b a with
 | false=>rfl
 | true=>have:=h.tr a b a x e;rw [h.irr] at this;cases this
theorem zzr:STO iLt where
 irr:=λ a=>decide_eq_false (by omega)
 tr:=λ a b c h1 h2=>decide_eq_true (by have:=of_decide_eq_true h1;have:=of_decide_eq_true h2;omega)
 tri:=λ a b h1 h2=>decide_eq_true (by have:=of_decide_eq_false h2;omega)
theorem zwm {α:Type} [DecidableEq α] {lt:α→α→Bool} (h:STO lt):STO (lexG lt) where
 irr:=λ a=>by
  induction a with
  | nil=>rfl
  | cons x xs ih=>rw [lexG,if_pos rfl];exact ih
 tr:=λ a=>by
  induction a with
  | nil =>
   intro b c h1 h2
   cases c with
   | nil=>cases b <;> cases h2
   | cons z zs=>rfl
  | cons x xs ih =>
   intro b c h1 h2
   cases b with
   | nil=>cases h1
   | cons y ys =>
    cases c with
    | nil=>cases h2
    | cons z zs =>
     rw [lexG] at h1 h2 ⊢
     by_cases e1:x=y
     ·rw [if_pos e1] at h1
      by_cases e2:y=z
      ·rw [if_pos e2] at h2
       rw [if_pos (e1.trans e2)]
       exact ih ys zs h1 h2
      ·rw [if_neg e2] at h2
       rw [e1,if_neg e2]
       exact h2
     ·rw [if_neg e1] at h1
      by_cases e2:y=z
      ·rw [if_pos e2] at h2
       subst e2
       rw [if_neg e1]
       exact h1
      ·rw [if_neg e2] at h2
       have h3:=h.tr x y z h1 h2
       have e3:x≠z:=λ e=>by rw [e,h.irr] at h3;cases h3
       rw [if_neg e3]
       exact h3
 tri:=λ a=>by
  induction a with
  | nil =>
   intro b h1 h2
   cases b with
   | nil=>exact absurd rfl h1
   | cons y ys=>cases h2
  | cons x xs ih =>
   intro b h1 h2
   cases b with
   | nil=>rfl
   | cons y ys =>
    rw [lexG] at h2 ⊢
    by_cases e:x=y
    ·rw [if_pos e] at h2
     rw [if_pos e.symm]
     exact ih ys (λ z=>h1 (by rw [e,z])) h2
    ·rw [if_neg e] at h2
     rw [if_neg (λ z=>e z.symm)]
     exact h.tri x y e h2
theorem STO.map {α β:Type} {lt:β→β→Bool} (h:STO lt) {f:α→β} (inj:∀ a b,f a=f b→a=b):STO (λ a b=>lt (f a) (f b)) where
 irr:=λ a=>h.irr _
 tr:=λ a b c=>h.tr _ _ _
 tri:=λ a b hn=>h.tri _ _ λ e=>hn (inj a b e)
theorem zdw:STO sLt:=(zwm zzr).map (f:=sI) λ a b e=>sI_inj.mp e
theorem zay:STO pLt:=zwm zdw
noncomputable def xLt (a b:Str):Bool:=decide (a.cps.toList<b.cps.toList)
theorem xLt_sto:STO xLt where
 irr:=λ a=>decide_eq_false (List.lt_irrefl _)
 tr:=λ a b c h1 h2=>decide_eq_true (List.lt_trans (of_decide_eq_true h1) (of_decide_eq_true h2))
 tri:=λ a b h1 h2=>decide_eq_true (by
  have h2:=of_decide_eq_false h2
  exact Classical.byContradiction λ h3=>h1 (ext_toList (List.le_antisymm (List.not_lt.mp h3) (List.not_lt.mp h2))))
noncomputable def zfe {α β:Type} [DecidableEq α] (l1:α→α→Bool) (l2:β→β→Bool) (a b:α×β):Bool:=if a.1=b.1 then l2 a.2 b.2 else l1 a.1 b.1
theorem zlg {α β:Type} [DecidableEq α] {l1:α→α→Bool} {l2:β→β→Bool} (h1:STO l1) (h2:STO l2):STO (zfe l1 l2) where
 irr:=λ a=>by unfold zfe;rw [if_pos rfl];exact h2.irr _
 tr:=λ a b c x y=>by
  unfold zfe at *
  by_cases e1:a.1=b.1
  ·rw [if_pos e1] at x
   by_cases e2:b.1=c.1
   ·rw [if_pos e2] at y
    rw [if_pos (e1.trans e2)]
    exact h2.tr _ _ _ x y
   ·rw [if_neg e2] at y
    rw [e1,if_neg e2]
    exact y
  ·rw [if_neg e1] at x
   by_cases e2:b.1=c.1
   ·rw [if_pos e2] at y
    rw [← e2,if_neg e1]
    exact x
   ·rw [if_neg e2] at y
    have z:=h1.tr _ _ _ x y
    have e3:a.1≠c.1:=λ e=>by rw [e,h1.irr] at z;cases z
    rw [if_neg e3]
    exact z
 tri:=λ a b hn x=>by
  unfold zfe at *
  by_cases e:a.1=b.1
  ·rw [if_pos e] at x
   rw [if_pos e.symm]
   exact h2.tri _ _ (λ z=>hn (Prod.ext e z)) x
  ·rw [if_neg e] at x
   rw [if_neg (λ z=>e z.symm)]
   exact h1.tri _ _ e x
noncomputable abbrev Ver:=Int×List Stp×Str
noncomputable def ver (v:Ver):PyData := .tuple [.int v.1,plc v.2.1,.str v.2.2]
noncomputable def vdat:Option Ver→PyData
 | none=>.none
 | some v=>ver v
noncomputable def okV (v:Ver):Prop:=PySem.PyData.strOk v.2.2=true
noncomputable def okO (o:Option Ver):Prop:=∀ v,o=some v→okV v
noncomputable abbrev zce:Ver→Ver→Bool:=zfe iLt (zfe pLt xLt)
theorem verLt_sto:STO zce:=zlg zzr (zlg zay xLt_sto)
theorem zvi {K:W.Frag} {H:Hp} {v:Ver} {x:V} (h:DV K H (ver v) x):∃ t pv,x = .ref t∧SqT K H t [.int v.1,pv,.str v.2.2]∧DV K H (plc v.2.1) pv:=by
 obtain ⟨t,vs,rfl,hq,a,r,rfl,ha,b,r2,rfl,hb,c,r3,rfl,hc,h4⟩:=h
 cases (show a=V.int v.1 from ha)
 cases (show c=V.str v.2.2 from hc)
 cases (show r3=[] from h4)
 exact ⟨t,b,rfl,hq,hb⟩
theorem zou {K:W.Frag} {H:Hp} {v:Ver} {t:Addr} {pv:V} (h:SqT K H t [.int v.1,pv,.str v.2.2]) (hp:DV K H (plc v.2.1) pv):DV K H (ver v) (.ref t):=⟨t,_,rfl,h,_,_,rfl,rfl,_,_,rfl,hp,_,_,rfl,rfl,rfl⟩
theorem zpg (o:Option Ver):noL (vdat o)=true:=by
 cases o with
 | none=>rfl
 | some v =>
  show (noL (.int v.1) && (noL (plc v.2.1) && (noL (.str v.2.2) && true)))=true
  rw [zdy]
  rfl
theorem zvw (a b:Ver):PyData.eqv (ver a) (ver b)=decide (a=b):=by
 obtain ⟨a1,a2,a3⟩:=a
 obtain ⟨b1,b2,b3⟩:=b
 have e:PyData.eqv (ver (a1,a2,a3)) (ver (b1,b2,b3))=(a1 == b1 && (PyData.eqv (plc a2) (plc b2) && (a3 == b3 && true))):=rfl
 rw [e,zbl,Bool.eq_iff_iff]
 simp
theorem zme (a b:Option Ver):PyData.eqv (vdat a) (vdat b)=decide (a=b):=by
 cases a with
 | none=>cases b <;> rfl
 | some x =>
  cases b with
  | none=>rfl
  | some y =>
   show PyData.eqv (ver x) (ver y)=_
   rw [zvw]
   exact decide_eq_decide.mpr (by simp)
theorem zzc {v:Ver} (h:okV v):SeqAt.shaped (ver v)=true:=by
 unfold SeqAt.shaped
 have h1:PyData.canLay0 (ver v)=true:=by
  show (true && (PyData.canLay0 (plc v.2.1) && (PySem.PyData.strOk v.2.2 && true)))=true
  rw [zvn,h]
  rfl
 rw [h1,Bool.true_and]
 have h2:PyData.depth (ver v)=max 0 (max (PyData.depthAll (v.2.1.map stp)+1) (max 0 0))+1:=rfl
 have:=zvb v.2.1
 exact decide_eq_true (by omega)
theorem zxa {o:Option Ver} (h:okO o):SeqAt.shaped (vdat o)=true:=by
 cases o with
 | none=>rfl
 | some v=>exact zzc (h v rfl)
theorem zgw (a b:Stp):ltD (stp a) (stp b)=some (sLt a b):=by
 obtain ⟨a1,a2,a3⟩:=a
 obtain ⟨b1,b2,b3⟩:=b
 show ltDs [.int a1,.int a2,.int a3] [.int b1,.int b2,.int b3]=some (lexG iLt [a1,a2,a3] [b1,b2,b3])
 have ie:∀ x y:Int,PyData.eqv (.int x) (.int y)=decide (x=y):=λ x y=>by rw [show PyData.eqv (.int x) (.int y)=(x == y) from rfl,Bool.eq_iff_iff];simp
 rw [ltDs,ltDs,ltDs,ltDs,lexG,lexG,lexG,lexG,ie,ie,ie]
 by_cases e1:a1=b1
 ·rw [if_pos (decide_eq_true e1),if_pos e1]
  by_cases e2:a2=b2
  ·rw [if_pos (decide_eq_true e2),if_pos e2]
   by_cases e3:a3=b3
   ·rw [if_pos (decide_eq_true e3),if_pos e3]
   ·rw [if_neg (by simpa using e3),if_neg e3];rfl
  ·rw [if_neg (by simpa using e2),if_neg e2];rfl
 ·rw [if_neg (by simpa using e1),if_neg e1];rfl
theorem zgn:∀ a b:List Stp,ltDs (a.map stp) (b.map stp)=some (pLt a b)
 | [],[]=>rfl
 | [],_::_=>rfl
 | _::_,[]=>rfl
 | x::a,y::b=>by
  rw [List.map_cons,List.map_cons,ltDs,zcs,zgn a b,zgw]
  show _=some (if x=y then lexG sLt a b else sLt x y)
  by_cases e:x=y
  ·rw [if_pos (decide_eq_true e),if_pos e]
  ·rw [if_neg (by simpa using e),if_neg e]
theorem zsy (a b:List Stp):ltD (plc a) (plc b)=some (pLt a b):=zgn a b
theorem zcm (a b:Ver):ltD (ver a) (ver b)=some (zce a b):=by
 obtain ⟨a1,a2,a3⟩:=a
 obtain ⟨b1,b2,b3⟩:=b
 show ltDs [.int a1,plc a2,.str a3] [.int b1,plc b2,.str b3]=some (zfe iLt (zfe pLt xLt) (a1,a2,a3) (b1,b2,b3))
 have ie:PyData.eqv (.int a1) (.int b1)=decide (a1=b1):=by rw [show PyData.eqv (.int a1) (.int b1)=(a1 == b1) from rfl,Bool.eq_iff_iff];simp
 have se:PyData.eqv (.str a3) (.str b3)=decide (a3=b3):=by rw [show PyData.eqv (.str a3) (.str b3)=(a3 == b3) from rfl,Bool.eq_iff_iff];simp
 rw [ltDs,ltDs,ltDs,ltDs,ie,se,zbl,zsy]
 unfold zfe
 dsimp only
 by_cases e1:a1=b1
 ·rw [if_pos (decide_eq_true e1),if_pos e1]
  by_cases e2:a2=b2
  ·rw [if_pos (decide_eq_true e2),if_pos e2]
   by_cases e3:a3=b3
   ·rw [if_pos (decide_eq_true e3),e3,xLt_sto.irr]
   ·rw [if_neg (by simpa using e3)];rfl
  ·rw [if_neg (by simpa using e2),if_neg e2]
 ·rw [if_neg (by simpa using e1),if_neg e1];rfl
noncomputable def mx:Option Ver→Option Ver→Option Ver
 | none,b=>b
 | some a,none=>some a
 | some a,some b=>if zce a b=true then some b else some a
theorem zpo (a:Option Ver):mx a none=a:=by cases a <;> rfl
theorem zmx (a:Option Ver):mx a a=a:=by
 cases a with
 | none=>rfl
 | some v=>show (if _ then _ else _)=_;split <;> rfl
end L2
namespace L2
open PySem PySem.Spec PyProof.Rows PySem.NumText PySem.W
section
variable {n:Nat} {s:Shared} {cmp:Nat→Nat→(Bool→Shared→Prop)→Shared→Prop} {lt:Nat→Nat→Bool}
noncomputable def Asks (n:Nat) (s:Shared) (cmp:Nat→Nat→(Bool→Shared→Prop)→Shared→Prop) (lt:Nat→Nat→Bool):Prop:=∀ i j C,i<n→j<n→C (lt i j) s→cmp i j C s
structure Ord (n:Nat) (lt:Nat→Nat→Bool):Prop where
 tr:∀ a b c,a<n→b<n→c<n→lt a b=true→lt b c=true→lt a c=true
 tri:∀ a b,a<n→b<n→a≠b→lt a b=false→lt b a=true
 asy:∀ a b,a<n→b<n→lt a b=true→lt b a=false
structure Pm (n:Nat) (p:Array Nat):Prop where
 pm:p.toList.Perm (List.range n)
noncomputable abbrev at_ (p:Array Nat) (k:Nat):Nat:=p.getD k 0
theorem Pm.size {p:Array Nat} (h:Pm n p):p.size=n:=by have:=h.pm.length_eq;simpa using this
theorem zdx {p:Array Nat} {k:Nat} (h:k<p.size):at_ p k=p[k]:=by simp [at_,Array.getD,h]
theorem Pm.inb {p:Array Nat} (h:Pm n p) {k:Nat} (hk:k<n):at_ p k<n:=by
 have hs:=h.size
 rw [zdx (by omega)]
 have:p[k]'(by omega)∈p.toList:=by simp
 have:=h.pm.mem_iff.mp this
 simpa using this
theorem Pm.inj {p:Array Nat} (h:Pm n p) {i j:Nat} (hi:i<n) (hj:j<n) (e:at_ p i=at_ p j):i=j:=by
 have hs:=h.size
 rw [zdx (by omega),zdx (by omega)] at e
 have nd:p.toList.Nodup:=h.pm.nodup_iff.mpr List.nodup_range
 have pw:=List.pairwise_iff_getElem.mp nd
 rcases Nat.lt_trichotomy i j with z | z | z
 ·exact absurd e (pw i j (by simp;omega) (by simp;omega) z)
 ·exact z
 ·exact absurd e.symm (pw j i (by simp;omega) (by simp;omega) z)
noncomputable def Up (lt:Nat→Nat→Bool) (p:Array Nat) (m:Nat):Prop:=∀ i j,i<j→j<m→lt (at_ p i) (at_ p j)=true
theorem zao {p:Array Nat} {m:Nat} (O:Ord n lt) (h:Pm n p) (hm:m≤n) (c:∀ k,1≤k→k<m→lt (at_ p (k - 1)) (at_ p k)=true):Up lt p m:=by
 intro i j hij hj
 induction j with
 | zero=>omega
 | succ j ih =>
  have h1:=c (j+1) (by omega) hj
  rw [Nat.add_sub_cancel] at h1
  by_cases e:i=j
  ·rw [e];exact h1
  ·exact O.tr _ _ _ (h.inb (by omega)) (h.inb (by omega)) (h.inb (by omega)) (ih (by omega) (by omega)) h1
theorem zyt (hc:Asks n s cmp lt) {p:Array Nat} (h:Pm n p):∀ (f m:Nat) {Q:Nat→Shared→Prop},1≤m→m+f≤n →
  (∀ r,m≤r→r≤m+f→(∀ k,m≤k→k<r→lt (at_ p k) (at_ p (k - 1))=false)→(r<m+f→lt (at_ p r) (at_ p (r - 1))=true)→Q r s)→(kas_asc p f m).kasWp cmp Q s
 | 0,m,Q,h1,hm,q=>q m (Nat.le_refl _) (Nat.le_refl _) (λ k a b=>by omega) (λ a=>by omega)
 | f+1,m,Q,h1,hm,q=>by
  refine hc _ _ _ (h.inb (by omega)) (h.inb (by omega)) ?_
  cases e:lt (at_ p m) (at_ p (m - 1)) with
  | true=>exact q m (Nat.le_refl _) (by omega) (λ k a b=>by omega) (λ _=>e)
  | false =>
   refine zyt hc h f (m+1) (by omega) (by omega) λ r a b c d=>q r (by omega) (by omega) (λ k k1 k2=>?_) (λ z=>d (by omega))
   by_cases ek:k=m
   ·rw [ek];exact e
   ·exact c k (by omega) k2
theorem zjs (O:Ord n lt) (hc:Asks n s cmp lt) {p:Array Nat} (h:Pm n p):∀ (f m:Nat) {Q:Array Nat×Nat×Nat→Shared→Prop},1≤m→m+f≤n →
  (∀ r,m≤r→r≤m+f→(∀ k,m≤k→k<r→lt (at_ p k) (at_ p (k - 1))=true)→Q (p,r,0) s)→(kas_desc f p m 0).kasWp cmp Q s
 | 0,m,Q,h1,hm,q=>q m (Nat.le_refl _) (Nat.le_refl _) (λ k a b=>by omega)
 | f+1,m,Q,h1,hm,q=>by
  refine hc _ _ _ (h.inb (by omega)) (h.inb (by omega)) ?_
  cases e:lt (at_ p m) (at_ p (m - 1)) with
  | true =>
   show (kas_desc f p (m+1) 0).kasWp cmp Q s
   refine zjs O hc h f (m+1) (by omega) (by omega) λ r a b c=>q r (by omega) (by omega) (λ k k1 k2=>?_)
   by_cases ek:k=m
   ·rw [ek];exact e
   ·exact c k (by omega) k2
  | false =>
   refine hc _ _ _ (h.inb (by omega)) (h.inb (by omega)) ?_
   have:=O.tri _ _ (h.inb (k:=m) (by omega)) (h.inb (k:=m - 1) (by omega)) (λ z=>by have:=h.inj (by omega) (by omega) z;omega) e
   rw [show lt (p.getD (m - 1) 0) (p.getD m 0)=true from this]
   exact q m (Nat.le_refl _) (by omega) (λ k a b=>by omega)
theorem zch {p q:Array Nat} (h:Pm n p) (e:q.Perm p):Pm n q:=⟨(Array.perm_iff_toList_perm.mp e).trans h.pm⟩
theorem zvy {p:Array Nat} (h:Pm n p) {m:Nat} (hm:m≤n) {k:Nat} (hk:k<n):at_ (kas_rev p 0 m) k=if k<m then at_ p (m - 1 - k) else at_ p k:=by
 have hs:=h.size
 have:=getElem?_mirror_all (xs:=p) (i:=0) (j:=m) (by omega) k
 unfold at_
 rw [Array.getD_eq_getD_getElem?,kas_rev,this]
 by_cases hkm:k<m
 ·rw [if_pos hkm,if_pos ⟨by omega,hkm⟩,Array.getD_eq_getD_getElem?,show 0+m - 1 - k=m - 1 - k by omega]
 ·rw [if_neg hkm,if_neg (by omega),Array.getD_eq_getD_getElem?]
theorem zzu (O:Ord n lt) (hc:Asks n s cmp lt) {p:Array Nat} (h:Pm n p) {m:Nat} {Q:Nat×Array Nat→Shared→Prop} (h1:1≤m) (hm:m≤n) (hd:∀ k,1≤k→k<m→lt (at_ p k) (at_ p (k - 1))=true)
  (q:∀ r p',1≤r→r≤n→Pm n p'→Up lt p' r→Q (r,p') s):(kas_tail3 m n p).kasWp cmp Q s:=by
 have hp':Pm n (kas_rev p 0 m):=zch h (mirror_perm _ _ _ _)
 unfold kas_tail3
 rw [KasT.kasWp_bind]
 refine zyt hc hp' (n - m) m h1 (by omega) λ r a b c _=>q r _ (by omega) (by omega) hp' (zao O hp' (by omega) λ k k1 k2=>?_)
 by_cases hk:k<m
 ·rw [zvy h hm (by omega),zvy h hm (by omega),if_pos (by omega),if_pos hk]
  have:=hd (m - 1 - (k - 1)) (by omega) (by omega)
  rw [show m - 1 - (k - 1) - 1=m - 1 - k by omega] at this
  exact this
 ·exact O.tri _ _ (hp'.inb (by omega)) (hp'.inb (by omega)) (λ z=>by have:=hp'.inj (by omega) (by omega) z;omega) (c k (by omega) k2)
theorem zmk (O:Ord n lt) (hc:Asks n s cmp lt) {p:Array Nat} (h:Pm n p) {Q:Nat×Array Nat→Shared→Prop} (h2:2≤n) (hd:lt (at_ p 1) (at_ p 0)=true)
  (q:∀ r p',1≤r→r≤n→Pm n p'→Up lt p' r→Q (r,p') s):(kas_descPart 1 n p).kasWp cmp Q s:=by
 unfold kas_descPart
 rw [KasT.kasWp_bind]
 refine zjs O hc h (n - 2) 2 (by omega) (by omega) λ r a b c=>?_
 show (kas_tail3 r n p).kasWp cmp Q s
 refine zzu O hc h (by omega) (by omega) (λ k k1 k2=>?_) q
 by_cases e:k=1
 ·rw [e];exact hd
 ·exact c k (by omega) k2
theorem zfv (O:Ord n lt) (hc:Asks n s cmp lt) {p:Array Nat} (h:Pm n p) {Q:Nat×Array Nat→Shared→Prop} (h2:2≤n)
  (q:∀ r p',1≤r→r≤n→Pm n p'→Up lt p' r→Q (r,p') s):(kas_count n p).kasWp cmp Q s:=by
 unfold kas_count
 rw [KasT.kasWp_bind]
 refine zyt hc h (n - 1) 1 (by omega) (by omega) λ r a b c d=>?_
 have up:Up lt p r:=zao O h (by omega) λ k k1 k2=>O.tri _ _ (h.inb (by omega)) (h.inb (by omega)) (λ z=>by have:=h.inj (by omega) (by omega) z;omega) (c k k1 k2)
 by_cases e:r=n
 ·rw [if_pos (by simp [e])]
  exact q r p (by omega) (by omega) h up
 ·rw [if_neg (by simp [e])]
  by_cases e1:r > 1
  ·rw [if_pos e1]
   refine hc _ _ _ (h.inb (by omega)) (h.inb (by omega)) ?_
   have:=up 0 (r - 1) (by omega) (by omega)
   rw [show lt (p.getD 0 0) (p.getD (r - 1) 0)=true from this]
   exact q r p (by omega) (by omega) h up
  ·rw [if_neg e1]
   obtain rfl:r=1:=by omega
   exact zmk O hc h h2 (d (by omega)) q
theorem zxi (O:Ord n lt) (hc:Asks n s cmp lt) {p:Array Nat} (h:Pm n p) {k:Nat} (hk:k<n) (up:Up lt p k):∀ (f l r:Nat) {Q:Nat→Shared→Prop},l≤r→r≤k→r - l≤f →
  (∀ i,i<l→lt (at_ p k) (at_ p i)=false)→(∀ i,r≤i→i<k→lt (at_ p k) (at_ p i)=true) →
  (∀ l',l'≤k→(∀ i,i<l'→lt (at_ p k) (at_ p i)=false)→(∀ i,l'≤i→i<k→lt (at_ p k) (at_ p i)=true)→Q l' s)→(kas_place p k f l r).kasWp cmp Q s
 | 0,l,r,Q,h1,h2,h3,a,b,q=>q l (by omega) a λ i i1 i2=>b i (by omega) i2
 | f+1,l,r,Q,h1,h2,h3,a,b,q=>by
  unfold kas_place
  by_cases e:l ≥ r
  ·rw [if_pos e]
   exact q l (by omega) a λ i i1 i2=>b i (by omega) i2
  ·rw [if_neg e]
   refine hc _ _ _ (h.inb hk) (h.inb (by omega)) ?_
   cases e2:lt (p.getD k 0) (p.getD ((l+r) / 2) 0) with
   | true =>
    refine zxi O hc h hk up f l ((l+r) / 2) (by omega) (by omega) (by omega) a (λ i i1 i2=>?_) q
    by_cases ei:i=(l+r) / 2
    ·rw [ei];exact e2
    ·exact O.tr _ _ _ (h.inb hk) (h.inb (by omega)) (h.inb (by omega)) e2 (up _ _ (by omega) i2)
   | false =>
    refine zxi O hc h hk up f ((l+r) / 2+1) r (by omega) h2 (by omega) (λ i i1=>?_) b q
    have hm:=O.tri _ _ (h.inb hk) (h.inb (k:=(l+r) / 2) (by omega)) (λ z=>by have:=h.inj hk (by omega) z;omega) e2
    by_cases ei:i=(l+r) / 2
    ·rw [ei];exact e2
    ·exact O.asy _ _ (h.inb (by omega)) (h.inb hk) (O.tr _ _ _ (h.inb (by omega)) (h.inb (k:=(l+r) / 2) (by omega)) (h.inb hk) (up i _ (by omega) (by omega)) hm)
theorem zex {p:Array Nat} (h:Pm n p) {k l:Nat} (hk:k<n) (hl:l≤k) {i:Nat} (hi:i<n):at_ (bubble p k (k - l)) i=if i<l then at_ p i else if i=l then at_ p k else if i≤k then at_ p (i - 1) else at_ p i:=by
 have hs:=h.size
 have:=getElem?_bubble (xs:=p) (src:=k) (by omega) (k - l) (by omega) i
 unfold at_
 simp only [Array.getD_eq_getD_getElem?]
 rw [this]
 rw [show k - (k - l)=l by omega]
 by_cases e1:i<l
 ·rw [if_pos e1,if_neg (by omega),if_neg (by omega)]
 ·rw [if_neg e1]
  by_cases e2:i=l
  ·rw [if_pos e2,if_pos e2]
  ·rw [if_neg e2,if_neg e2]
   by_cases e3:i≤k
   ·rw [if_pos e3,if_pos ⟨by omega,e3⟩]
   ·rw [if_neg e3,if_neg (by omega)]
theorem zoy (O:Ord n lt) (hc:Asks n s cmp lt):∀ (f:Nat) (p:Array Nat) (k:Nat) {Q:Array Nat→Shared→Prop},Pm n p→k+f=n→Up lt p k→(∀ p',Pm n p'→Up lt p' n→Q p' s)→(kas_bin f p k).kasWp cmp Q s
 | 0,p,k,Q,h,hk,up,q=>by
  obtain rfl:k=n:=by omega
  exact q p h up
 | f+1,p,k,Q,h,hk,up,q=>by
  unfold kas_bin
  rw [KasT.kasWp_bind]
  have hkn:k<n:=by omega
  refine zxi O hc h hkn up k 0 k (by omega) (Nat.le_refl _) (by omega) (λ i z=>by omega) (λ i z z2=>by omega) λ l hl a b=>?_
  have hp':Pm n (bubble p k (k - l)):=zch h (bubble_perm _ _ _)
  refine zoy O hc f _ (k+1) hp' (by omega) (λ i j hij hj=>?_) q
  rw [zex h hkn hl (by omega),zex h hkn hl (by omega)]
  have lo:∀ i,i<l→lt (at_ p i) (at_ p k)=true:=λ i hi=>O.tri _ _ (h.inb hkn) (h.inb (by omega)) (λ z=>by have:=h.inj hkn (by omega) z;omega) (a i hi)
  by_cases i1:i<l
  ·rw [if_pos i1]
   by_cases j1:j<l
   ·rw [if_pos j1];exact up i j hij (by omega)
   ·rw [if_neg j1]
    by_cases j2:j=l
    ·rw [if_pos j2];exact lo i i1
    ·rw [if_neg j2,if_pos (by omega)];exact up i (j - 1) (by omega) (by omega)
  ·rw [if_neg i1,if_neg (show ¬ j<l by omega),if_neg (show ¬ j=l by omega),if_pos (show j≤k by omega)]
   by_cases i2:i=l
   ·rw [if_pos i2];exact b (j - 1) (by omega) (by omega)
   ·rw [if_neg i2,if_pos (by omega)];exact up (i - 1) (j - 1) (by omega) (by omega)
theorem zcn:Pm n (List.range n).toArray:=⟨by simp⟩
theorem zzy (O:Ord n lt) (hc:Asks n s cmp lt) (h2:2≤n) {Q:Array Nat→Shared→Prop} (q:∀ p',Pm n p'→Up lt p' n→Q p' s):(kas_sort n).kasWp cmp Q s:=by
 unfold kas_sort
 rw [KasT.kasWp_bind]
 refine zfv O hc zcn h2 λ r p' a b hp up=>?_
 by_cases e:r<n
 ·show (if r<n then kas_bin (n - max r 1) p' (max r 1) else .ret p':KasT _).kasWp cmp Q s
  rw [if_pos e,show max r 1=r by omega]
  exact zoy O hc _ p' r hp (by omega) up q
 ·show (if r<n then kas_bin (n - max r 1) p' (max r 1) else .ret p':KasT _).kasWp cmp Q s
  rw [if_neg e]
  obtain rfl:r=n:=by omega
  exact q p' hp up
end
end L2
namespace L2
open PySem PySem.Spec PyProof.Rows PySem.NumText PySem.W
section
variable {prog:Program} {w:World} {A:Around} {E:Value→Shared→Prop} {s:Shared} {a:Addr} {vs:List Value} {lt:Nat→Nat→Bool}
noncomputable abbrev zvk (vs:List Value) (p:Array Nat):List Value:=p.toList.map λ i=>vs.getD i .none
theorem zpp (vs:List Value):zvk vs (List.range vs.length).toArray=vs:=by
 unfold zvk
 refine List.ext_getElem (by simp) λ i h1 h2=>?_
 simp only [List.getElem_map,List.getElem_range]
 simp [h2]
theorem zxl {c:Nat} {P:PySem.Fin→Shared→Prop} (ho:s.heap.get? a=some (seqObj "list" vs.toArray c)) (few:vs.length<64) (O:Ord vs.length lt)
  (hk:2≤vs.length→∀ h',(∀ b o,b≠a→s.heap.get? b=some o→h'.get? b=some o)→∃ κ,(∀ (R:SortKind→Shared→Prop) (E':Value→Shared→Prop),R κ { s with heap:=h' }→wpAny (model prog w) A (keyKind' vs.toArray) R E' { s with heap:=h' })∧Asks vs.length { s with heap:=h' } (kas_ask prog w A κ vs) lt)
  (h:∀ (p:Array Nat) (h':Heap) (c':Nat),Pm vs.length p→Up lt p vs.length→h'.get? a=some (seqObj "list" (zvk vs p).toArray c')→(∀ b o,b≠a→s.heap.get? b=some o→h'.get? b=some o)→P (.done (.ret .none)) { s with heap:=h' }) :
  wpAny (model prog w) A (Builtin.«list.sort» ⟨[.ref a],[]⟩) P E s:=by
 have la:a<s.heap.objs.size:=Heap.lt_size ho
 have line:vs.length≤sizeLine:=by rw [sizeLine_eq];omega
 obtain ⟨e1,ho1⟩:∃ e1,(s.heap.update a (Obj.mapSeq λ _=>(#[]:Array Value))).get? a=some (seqObj "list" #[] e1):=⟨_,get?_update_seq ho λ _ => #[]⟩
 generalize hh:((s.heap.update a (Obj.mapSeq λ _=>(#[]:Array Value))).push (seqObj "tuple" vs.toArray 0)).push (seqObj "list" #[] 0)=h3
 have keep3:∀ b o,b≠a→s.heap.get? b=some o→h3.get? b=some o:=λ b o nb q=>by
  rw [← hh]
  refine Heap.get?_push_of_some _ (Heap.get?_push_of_some _ ?_)
  rw [Heap.get?_update_other _ _ (Ne.symm nb)]
  exact q
 have at3:h3.get? a=some (seqObj "list" #[] e1):=by rw [← hh];exact Heap.get?_push_of_some _ (Heap.get?_push_of_some _ ho1)
 have fin:∀ (p:Array Nat),Pm vs.length p→Up lt p vs.length→P (.done (.ret .none)) { s with heap:=h3.update a (Obj.mapSeq λ _=>(zvk vs p).toArray) }:=λ p hp up=>by
  obtain ⟨c2,hc2⟩:∃ c2,(h3.update a (Obj.mapSeq λ _=>(zvk vs p).toArray)).get? a=some (seqObj "list" (zvk vs p).toArray c2):=⟨_,get?_update_seq at3 λ _=>(zvk vs p).toArray⟩
  refine h p _ c2 hp up hc2 λ b o nb q=>?_
  rw [Heap.get?_update_other _ _ (Ne.symm nb)]
  exact keep3 b o nb q
 rw [list_sort_plain]
 refine wpAny_bind (listItems_at ho rfl (wpAny_bind (listUpdate_at ho rfl ?_ (by rw [List.size_toArray];exact line) (Nat.zero_le _))))
 refine wpAny_bind (seqEpoch_at ho1 rfl (wpAny_bind (wpAny_newTuple (wpAny_bind (wpAny_newList (wpAny_holding ?_) (Nat.zero_le _))) line)))
 show wpAny (model prog w) A _ P E { s with heap:=((s.heap.update a (Obj.mapSeq λ _=>(#[]:Array Value))).push (seqObj "tuple" vs.toArray 0)).push (seqObj "list" #[] 0) }
 rw [hh]
 dsimp only
 by_cases few2:vs.toArray.size<2
 ·rw [if_pos few2,if_pos few2]
  refine wpAny_bind (wpAny_pure ?_)
  rw [StateT.run_pure]
  refine wpAny_bind (wpAny_pure ?_)
  dsimp only
  have hsz:vs.length<2:=by simpa using few2
  have e:(arrOf (SortSt.mk' general' (vs.toArray.zip vs.toArray) #[] 7 none)).map (·.2)=(zvk vs (List.range vs.length).toArray).toArray:=by
   rw [zpp]
   show (vs.toArray.zip vs.toArray).map (·.2)=vs.toArray
   refine Array.ext (by simp) λ i h1 h2=>?_
   simp
  refine wpAny_bind (seqEpoch_at at3 rfl (wpAny_bind (listUpdate_at at3 rfl ?_ (Nat.zero_le _) ?_)))
  ·simp only [bne_self_eq_false,Bool.false_eq_true,if_false]
   refine wpAny_pure ?_
   rw [e]
   exact fin _ zcn λ i j hij hj=>by omega
  ·rw [e]
   simp only [zvk,List.size_toArray,List.length_map,List.length_range]
   omega
 ·rw [if_neg few2,if_neg few2]
  have two:2≤vs.length:=by
   have:¬ vs.length<2:=by simpa using few2
   omega
  obtain ⟨κ,kind,asks⟩:=hk two h3 keep3
  refine wpAny_bind (kind _ _ ?_)
  refine wpAny_bind (wpAny_mono (kat_run (Q:=λ st' s'=>s'={ s with heap:=h3 }∧∃ p:Array Nat,Pm vs.length p∧Up lt p vs.length∧arrOf st'=p.map (kas_item (vs.toArray.zip vs.toArray))∧failedOf st'=none)
   (G:=λ p s'=>s'={ s with heap:=h3 }∧Pm vs.length p∧Up lt p vs.length) rfl two few (λ p' st' s' _ a2 a3 a4=>⟨a4.1,p',a4.2.1,a4.2.2,a2,a3⟩) (zzy O asks two λ p' hp up=>⟨rfl,hp,up⟩)) ?_ λ _ _ e=>e)
  rintro ⟨⟨⟩,st'⟩ s' ⟨rfl,p,hp,up,har,hf⟩
  have e:=kat_snds rfl har
  dsimp only
  rw [e]
  refine wpAny_bind (seqEpoch_at at3 rfl (wpAny_bind (listUpdate_at at3 rfl ?_ (Nat.zero_le _) ?_)))
  ·rw [hf]
   simp only [bne_self_eq_false,Bool.false_eq_true,if_false]
   exact wpAny_pure (fin p hp up)
  ·rw [List.size_toArray,List.length_map,Array.length_toList,hp.size]
   omega
noncomputable def zdu (prog:Program) (w:World) (A:Around) (vs:List Value) (s:Shared) (Q:Value→Shared→Prop):Prop:=∃ lt,vs.length<64∧Ord vs.length lt ∧
 (2≤vs.length→∀ h',(∀ b o,s.heap.get? b=some o→h'.get? b=some o)→∃ κ,(∀ (R:SortKind→Shared→Prop) (E':Value→Shared→Prop),R κ { s with heap:=h' }→wpAny (model prog w) A.in1.in1 (keyKind' vs.toArray) R E' { s with heap:=h' })∧Asks vs.length { s with heap:=h' } (kas_ask prog w A.in1.in1 κ vs) lt) ∧
 ∀ (p:Array Nat) (h':Heap) (l c:Nat),Pm vs.length p→Up lt p vs.length→s.heap.objs.size≤l→h'.get? l=some (seqObj "list" (zvk vs p).toArray c)→(∀ b o,s.heap.get? b=some o→h'.get? b=some o)→Q (.ref l) { s with heap:=h' }
theorem zxc {x:Value} {Q:Value→Shared→Prop} (hc:wpAny (model prog w) A.in1 (collect x) (λ us s1=>zdu prog w A us s1 Q) E s) :
  wpAny (model prog w) A (call (.builtin "sorted") [x]) Q E s:=by
 refine Calls.call_function_entry kind_sorted plain_sorted entry_sorted (args_sorted1 _) ?_
 unfold Builtin.«sorted»
 refine wpAny_bind (m:=checkCount "sorted" 1 1 _) (wpAny_pure (wpAny_bind (wpAny_mono hc (λ us s1 hg=>?_) λ _ _ e=>e)))
 obtain ⟨lt,few,O,hk,h⟩:=hg
 have line:us.length≤sizeLine:=by rw [sizeLine_eq];omega
 refine wpAny_bind (wpAny_newList ?_ line)
 have at2:(s1.heap.push (seqObj "list" us.toArray 0)).get? s1.heap.objs.size=some (seqObj "list" us.toArray 0):=Heap.get?_push_size _ rfl
 have old:∀ b o,s1.heap.get? b=some o→b≠s1.heap.objs.size:=λ b o q=>Nat.ne_of_lt (Heap.lt_size q)
 refine wpAny_bind (wpAny_holding (wpAny_call_entry slot_list_sort ⟨_,at2,rfl⟩ entry_list_sort (zxl at2 few O (λ two h' kp=>hk two h' λ b o q=>kp b o (old b o q) (Heap.get?_push_of_some _ q)) λ p h' c hp up hl kp=>⟨_,rfl,?_⟩) (args_list_sort _)))
 exact wpAny_pure ⟨_,rfl,h p h' _ c hp up (Nat.le_refl _) hl λ b o q=>kp b o (old b o q) (Heap.get?_push_of_some _ q)⟩
end
end L2
namespace L2
open PySem PySem.Spec PyProof.Rows PySem.NumText PySem.W
section
variable {prog:Program} {w:World} {A:Around} {E:Value→Shared→Prop} {s:Shared}
theorem zjf (hu:A.units+70<cLine) {b fin:Bool} {Q:Bool→Shared→Prop}:∀ (ds es:List PyData) (us ws:List Value) (as bs:List Addr) (i:Nat) (c:Bool),ReadsAll s.heap us ds as→ReadsAll s.heap ws es bs →
  PyData.canLayAll0 ds=true→PyData.canLayAll0 es=true→PyData.depthAll ds≤64→(b=true→i=0→∀ d e r t,ds=d::r→es=e::t→∃ m n,d = .int m∧e = .int n) →
  fin=decide (us.length<ws.length)→ltDs ds es=some c→Q c s→KatLex prog w A b fin Q (us.zip ws) i s
 | [],[],_,_,_,_,i,c,.nil,.nil,_,_,_,_,hf,hc,hq=>by
  cases hc
  subst hf
  exact kat_nil hq
 | [],e::es,_,_,_,_,i,c,.nil,.cons r rr,_,_,_,_,hf,hc,hq=>by
  cases hc
  subst hf
  refine kat_nil ?_
  simpa using hq
 | d::ds,[],_,_,_,_,i,c,.cons r rr,.nil,_,_,_,_,hf,hc,hq=>by
  cases hc
  subst hf
  rw [List.zip_nil_right]
  refine kat_nil ?_
  simpa using hq
 | d::ds,e::es,_,_,_,_,i,c,.cons (v:=u) (vs:=us) r rr,.cons (v:=x) (vs:=ws) q qq,la,lb,hd,hi,hf,hc,hq=>by
  rw [PyData.canLayAll0,Bool.and_eq_true] at la lb
  rw [PyData.depthAll] at hd
  rw [ltDs] at hc
  have d1:PyData.depth d≤64:=by omega
  have d2:PyData.depthAll ds≤64:=by omega
  have hmin:min d.depth e.depth≤d.depth:=Nat.min_le_left _ _
  refine kat_cons (SeqAt.eqAt_reads d e A s _ _ _ _ r q la.1 lb.1 (by omega) prog w _ _ ?_)
  cases he:PyData.eqv d e with
  | true =>
   rw [he,if_pos rfl] at hc
   refine kat_yes (zjf hu ds es us ws _ _ (i+1) c rr qq la.2 lb.2 d2 (λ _ z=>by omega) ?_ hc hq)
   rw [hf]
   exact decide_eq_decide.mpr (by simp)
  | false =>
   rw [he,if_neg Bool.false_ne_true] at hc
   refine kat_no ?_
   cases hb:(b && i == 0) with
   | false=>exact kat_one _ _ ((zjm 64 d e c A s _ _ _ _ d1 r q la.1 lb.1 hc (by omega)).1 prog w _ _ (show W.BoolBack Q (.bool c) s from hq))
   | true =>
    rw [Bool.and_eq_true] at hb
    obtain ⟨m,n,rfl,rfl⟩:=hi hb.1 (by simpa using hb.2) d e ds es rfl rfl
    cases r
    cases q
    have hc:decide (m<n)=c:=by simpa [ltD] using hc
    subst hc
    exact oneLt_int hq
inductive FirstTy | int | tup
noncomputable def FirstTy.ty:FirstTy→Value
 | .int=>.type "int"
 | .tup=>.type "tuple"
noncomputable def FirstTy.of:FirstTy→PyData→Prop
 | .int,d=>∃ n,d = .int n
 | .tup,d=>∃ l,d = .tuple l
theorem zcj {h:Heap} {v:Value} {d:PyData} {as:List Addr} (r:Reads h v d as) {f:FirstTy} (hf:f.of d):Looks (model prog w) h (typeOf v) f.ty:=by
 cases f with
 | int =>
  obtain ⟨n,rfl⟩:=hf
  cases r
  exact λ A Q E s _ q=>wpAny_pure q
 | tup =>
  obtain ⟨l,rfl⟩:=hf
  cases r with
  | tuple h1 h2 h3 h4 =>
   have:=(show Looks (model prog w) h (typeOf (.ref _)) _ from (Looks.ld h1).andThen .now)
   rw [h2] at this
   exact this
theorem zws {prog:Program} {w:World} {h:Heap} {f:FirstTy}:∀ {vs:List Value} {ds:List PyData} {as:List Addr},ReadsAll h vs ds as→(∀ d∈ds,∃ x r,d = .tuple (x::r)∧f.of x)→∃ fs,KatTups h vs fs∧fs.length=vs.length∧∀ v∈fs,Looks (model prog w) h (typeOf v) f.ty
 | _,_,_,.nil,_=>⟨[],trivial,rfl,λ _ z=>nomatch z⟩
 | _,_,_,.cons r rr,hd=>by
  obtain ⟨fs,k,l,t⟩:=zws (prog:=prog) (w:=w) rr λ d hm=>hd d (List.mem_cons_of_mem _ hm)
  obtain ⟨x,rest,rfl,hx⟩:=hd _ List.mem_cons_self
  cases r with
  | @tuple a o vs n xs as h1 h2 h3 h4 =>
   have h4':=h4
   generalize hvs:vs.toList=vl at h4
   cases h4 with
   | @cons y ys _ _ _ _ ry rys =>
    refine ⟨y::fs,⟨⟨_,_,_,_,rfl,h1,h2,h3,?_⟩,k⟩,by simp [l],λ v hv=>?_⟩
    ·rw [← Array.getElem?_toList,hvs];rfl
    ·rcases List.mem_cons.mp hv with rfl | hv
     ·exact zcj ry hx
     ·exact t v hv
end
theorem zpd {h:Heap}:∀ {vs:List Value} {ds:List PyData} {as:List Addr},ReadsAll h vs ds as→∀ {i:Nat} {d:PyData},ds[i]? = some d→∃ v bs,vs[i]? = some v∧Reads h v d bs
 | _,_,_,.nil,i,d,e=>by simp at e
 | _,_,_,.cons r rr,0,d,e=>by
  have e:=Option.some.inj e
  subst e
  exact ⟨_,_,rfl,r⟩
 | _,_,_,.cons r rr,i+1,d,e=>by
  obtain ⟨v,bs,h1,h2⟩:=zpd rr (i:=i) (d:=d) (by simpa using e)
  exact ⟨v,bs,by simpa using h1,h2⟩
theorem zke {h:Heap}:∀ {vs:List Value} {ds:List PyData} {as:List Addr},ReadsAll h vs ds as→vs.length=ds.length
 | _,_,_,.nil=>rfl
 | _,_,_,.cons r rr=>by rw [List.length_cons,List.length_cons,zke rr]
structure Srt {α:Type} (as:List α) (enc:α→List PyData) (lt:α→α→Bool) (f:FirstTy):Prop where
 sto:STO lt
 few:as.length<64
 nd:as.Nodup
 lts:∀ a∈as,∀ b∈as,ltDs (enc a) (enc b)=some (lt a b)
 fst:∀ a∈as,∃ x r,enc a=x::r∧f.of x
 shp:∀ a∈as,SeqAt.shaped (.tuple (enc a))=true
section
variable {α:Type} {as:List α} {enc:α→List PyData} {lt:α→α→Bool} {f:FirstTy}
theorem Srt.ord (S:Srt as enc lt f) (d:α):Ord as.length (λ i j=>lt (as.getD i d) (as.getD j d)) where
 tr:=λ a b c _ _ _ h1 h2=>S.sto.tr _ _ _ h1 h2
 tri:=λ a b ha hb hn h=>S.sto.tri _ _ (λ e=>hn (by
  rw [List.getD_eq_getElem?_getD,List.getD_eq_getElem?_getD,List.getElem?_eq_getElem ha,List.getElem?_eq_getElem hb] at e
  have e:as[a]=as[b]:=e
  have pw:=List.pairwise_iff_getElem.mp S.nd
  rcases Nat.lt_trichotomy a b with z | z | z
  ·exact absurd e (pw a b ha hb z)
  ·exact z
  ·exact absurd e.symm (pw b a hb ha z))) h
 asy:=λ a b _ _ h=>S.sto.asym h
theorem Srt.go (S:Srt as enc lt f) (d:α) {prog:Program} {w:World} {A:Around} {s:Shared} {us:List Value} {bs:List Addr} {Q:Value→Shared→Prop} (hu:A.units+80<cLine) (r:ReadsAll s.heap us (as.map λ a=>.tuple (enc a)) bs)
  (q:∀ (p:Array Nat) (h':Heap) (l c:Nat),Pm as.length p→(p.toList.map λ i=>as.getD i d).Pairwise (λ a b=>lt a b=true)→(p.toList.map λ i=>as.getD i d).Perm as→s.heap.objs.size≤l→h'.get? l=some (seqObj "list" (zvk us p).toArray c)→(∀ b o,s.heap.get? b=some o→h'.get? b=some o)→Q (.ref l) { s with heap:=h' }) :
  zdu prog w A us s Q:=by
 have hl:us.length=as.length:=by rw [zke r,List.length_map]
 refine ⟨λ i j=>lt (as.getD i d) (as.getD j d),by rw [hl];exact S.few,by rw [hl];exact S.ord d,λ two h' kp=>?_,λ p h' l c hp up hlt hat kp=>?_⟩
 ·have r':=zbb kp r
  obtain ⟨fs,k,lf,tf⟩:=zws (prog:=prog) (w:=w) (f:=f) r' (λ x hx=>by
   obtain ⟨a,ha,rfl⟩:=List.mem_map.mp hx
   obtain ⟨y,t,e,hy⟩:=S.fst a ha
   exact ⟨y,t,by rw [e],hy⟩)
  refine ⟨tuples' (f.ty != .type "tuple"),λ R E' hR=>kat_kind (s:={ s with heap:=h' }) k (by omega) tf (by cases f <;> decide) hR,λ i j C hi hj hC=>?_⟩
  rw [hl] at hi hj
  have gi:as[i]? = some as[i]:=List.getElem?_eq_getElem hi
  have gj:as[j]? = some as[j]:=List.getElem?_eq_getElem hj
  have mi:=List.getElem_mem hi
  have mj:=List.getElem_mem hj
  have ei:as.getD i d=as[i]:=by rw [List.getD_eq_getElem?_getD,gi];rfl
  have ej:as.getD j d=as[j]:=by rw [List.getD_eq_getElem?_getD,gj];rfl
  dsimp only at hC
  rw [ei,ej] at hC
  obtain ⟨v,b1,hv,rv⟩:=zpd r' (i:=i) (d := .tuple (enc as[i])) (by rw [List.getElem?_map,gi];rfl)
  obtain ⟨x,b2,hx,rx⟩:=zpd r' (i:=j) (d := .tuple (enc as[j])) (by rw [List.getElem?_map,gj];rfl)
  have evi:us.getD i .none=v:=by rw [List.getD_eq_getElem?_getD,hv];rfl
  have evj:us.getD j .none=x:=by rw [List.getD_eq_getElem?_getD,hx];rfl
  unfold kas_ask
  rw [evi,evj]
  generalize as[i]=a at *
  generalize as[j]=b at *
  have sa:=S.shp a mi
  have sb:=S.shp b mj
  have la:PyData.canLayAll0 (enc a)=true:=SeqAt.canLay_of_shaped sa
  have lb:PyData.canLayAll0 (enc b)=true:=SeqAt.canLay_of_shaped sb
  have da:PyData.depth (.tuple (enc a))≤64:=SeqAt.depth_of_shaped sa
  have da:PyData.depthAll (enc a)+1≤64:=da
  have first:∀ d e r t,enc a=d::r→enc b=e::t→f = .int→∃ m n,d = .int m∧e = .int n:=λ d e r t e1 e2 hf=>by
   subst hf
   obtain ⟨y,t1,e3,m,hm⟩:=S.fst a mi
   obtain ⟨z,t2,e4,n,hn⟩:=S.fst b mj
   rw [e1] at e3
   rw [e2] at e4
   cases e3
   cases e4
   exact ⟨m,n,hm,hn⟩
  cases rv with
  | @tuple l1 o1 x1 n1 _ _ h1 h2 h3 h4 =>
   cases rx with
   | @tuple l2 o2 x2 n2 _ _ g1 g2 g3 g4 =>
    refine kat_lt h1 h3 g1 g3 (zjf (by show A.units+1+1+70<cLine;omega) _ _ _ _ _ _ 0 (lt a b) h4 g4 la lb (by omega) (λ hb _ d e r t e1 e2=>first d e r t e1 e2 ?_) (by simp) (S.lts a mi b mj) hC)
    cases f with
    | int=>rfl
    | tup=>exact absurd hb (by decide)
 ·rw [hl] at hp up
  refine q p h' l c hp ?_ ?_ hlt hat kp
  ·rw [List.pairwise_iff_getElem]
   intro i j hi hj hij
   simp only [List.length_map,Array.length_toList] at hi hj
   have hs:=hp.size
   have:=up i j hij (by omega)
   rw [List.getElem_map,List.getElem_map]
   rw [zdx (by omega),zdx (by omega)] at this
   simpa using this
  ·have h1:=hp.pm.map (λ i=>as.getD i d)
   refine h1.trans ?_
   have:(List.range as.length).map (λ i=>as.getD i d)=as:=by
    refine List.ext_getElem (by simp) λ i h1 h2=>?_
    simp [h2]
   rw [this]
end
end L2
namespace L2
open PySem PySem.Spec PyProof.Rows PySem.NumText PySem.W
section
variable {X:Cx}
theorem zen {K:W.Frag} {H:Hp} {α:Type} {as:List α} {en:α→PyData} {vs:List V} (h:DVs K H (as.map en) vs) (d:α):∀ (is:List Nat),(∀ i∈is,i<as.length)→DVs K H ((is.map λ i=>as.getD i d).map en) (is.map λ i=>vs.getD i .non)
 | [],_=>rfl
 | i::is,hi=>by
  have h1:=hi i List.mem_cons_self
  obtain ⟨v,hv,hd⟩:=h.get (i:=i) (d:=en as[i]) (by rw [List.getElem?_map,List.getElem?_eq_getElem h1];rfl)
  have e1:as.getD i d=as[i]:=by rw [List.getD_eq_getElem?_getD,List.getElem?_eq_getElem h1];rfl
  have e2:vs.getD i .non=v:=by rw [List.getD_eq_getElem?_getD,hv];rfl
  refine ⟨v,_,?_,?_,zen h d is λ j hj=>hi j (List.mem_cons_of_mem _ hj)⟩
  ·rw [List.map_cons,e2]
  ·show DV K H (en (as.getD i d)) v
   rw [e1]
   exact hd
theorem zuj {vs:List V} {us:List Value} (r:Vals vs us):∀ (is:List Nat),(∀ i∈is,i<vs.length)→Vals (is.map λ i=>vs.getD i .non) (is.map λ i=>us.getD i .none)
 | [],_=>.nil
 | i::is,hi=>by
  have h1:=hi i List.mem_cons_self
  obtain ⟨u,hu,ru⟩:=r.get (i:=i) (x:=vs[i]) (List.getElem?_eq_getElem h1)
  have e1:vs.getD i .non=vs[i]:=by rw [List.getD_eq_getElem?_getD,List.getElem?_eq_getElem h1];rfl
  have e2:us.getD i .none=u:=by rw [List.getD_eq_getElem?_getD,hu];rfl
  rw [List.map_cons,List.map_cons,e1,e2]
  exact .cons ru (zuj r is λ j hj=>hi j (List.mem_cons_of_mem _ hj))
noncomputable def zo3 (K:W.Frag) (H:Hp) {α:Type} (as:List α) (enc:α→List PyData) (lt:α→α→Bool) (Q:VK):Prop :=
 ∀ (l:Addr) (bs:List α) (ws:List V),H l=none→bs.Perm as→bs.Pairwise (λ a b=>lt a b=true)→DVs K H (bs.map λ a=>.tuple (enc a)) ws→Q (.ref l) (upd H l (.lst ws))
theorem zrn {pins:List (Addr×Obj)} {s s1:Shared} {σ:St} {H:Hp} {Q:VK} {α:Type} {as:List α} {enc:α→List PyData} {lt:α→α→Bool} {f:FirstTy} {vs:List V} {us:List Value} (hu:X.A.units+100<cLine) (S:Srt as enc lt f)
  (I:Inv X pins σ H s1) (r:Vals vs us) (hd:DVs X.K H (as.map λ a=>.tuple (enc a)) vs) (q:zo3 X.K H as enc lt Q):zdu X.prog X.w X.A us s1 (EP X pins σ Q):=by
 obtain ⟨bs,ra⟩:=DVs.reads I _ _ _ hd r
 have hl:vs.length=as.length:=by rw [hd.length,List.length_map]
 have lay:∀ (p:Array Nat) (d:α) (h':Heap) (l c:Nat),Pm as.length p→(p.toList.map λ i=>as.getD i d).Pairwise (λ a b=>lt a b=true)→(p.toList.map λ i=>as.getD i d).Perm as→s1.heap.objs.size≤l →
   h'.get? l=some (seqObj "list" (zvk us p).toArray c)→(∀ b o,s1.heap.get? b=some o→h'.get? b=some o)→EP X pins σ Q (.ref l) { s1 with heap:=h' }:=λ p d h' l c hp pw pm hle hat kp=>by
  have hin:∀ i∈p.toList,i<as.length:=λ i hi=>by simpa using hp.pm.mem_iff.mp hi
  have hn:=I.hok.fresh hle
  refine ⟨.ref l,_,I.laid (t':=s1.toks) (o := .lst (p.toList.map λ i=>vs.getD i .non)) kp hle ⟨?_,_,c,zuj r p.toList (λ i hi=>by rw [hl];exact hin i hi),hat⟩,rfl,q l _ _ hn pm pw (zen hd d p.toList hin)⟩
  rw [List.length_map,Array.length_toList,hp.size,sizeLine_eq]
  have:=S.few
  omega
 cases has:as with
 | nil =>
  have hus:us.length=0:=by rw [← r.length,hl,has];rfl
  refine ⟨λ _ _=>false,by omega,⟨λ a b c ha=>by omega,λ a b ha=>by omega,λ a b ha=>by omega⟩,λ two=>by omega,λ p h' l c hp up hle hat kp=>?_⟩
  have hp0:p.toList=[]:=by
   have:=hp.pm
   rw [hus] at this
   exact List.perm_nil.mp this
  have hn:=I.hok.fresh hle
  refine ⟨.ref l,_,I.laid (t':=s1.toks) (o := .lst []) kp hle ⟨Nat.zero_le _,_,c,.nil,?_⟩,rfl,q l [] [] hn (by rw [has]) .nil rfl⟩
  rw [hat,zvk,hp0]
  rfl
 | cons d rest =>
  exact S.go d (by omega) ra λ p h' l c hp pw pm hle hat kp=>lay p d h' l c hp pw pm hle hat kp
noncomputable def zg2 (K:W.Frag):List V→Hp→VK→Prop:=λ xs H Q=>∃ (α:Type) (as:List α) (enc:α→List PyData) (lt:α→α→Bool) (f:FirstTy) (p:Addr) (vs:List V),xs=[.ref p]∧SqL K H p vs∧DVs K H (as.map λ a=>.tuple (enc a)) vs∧Srt as enc lt f∧zo3 K H as enc lt Q
theorem znb (hu:X.A.units+100<cLine):zrj X (.builtin "sorted") (zg2 X.K):=by
 intro pins s σ H xs us Q I r h
 obtain ⟨α,as,enc,lt,f,p,vs,rfl,hq,hd,S,q⟩:=h
 obtain ⟨u,rfl,rx⟩:=zno r
 cases rx
 obtain ⟨its,rv,pl,hz⟩:=I.list hq
 refine zxc (collect_list pl.isList ?_ (by rw [← rv.length];exact hz))
 have kp:∀ b o,s.heap.get? b=some o→((s.heap.push (seqObj "list" #[] 0)).update s.heap.objs.size (Obj.mapSeq (· ++ its.toArray))).get? b=some o:=λ b o e=>by
  rw [Heap.get?_update_other _ _ (Nat.ne_of_gt (Heap.lt_size e))]
  exact Heap.get?_push_of_some _ e
 exact zrn (s:=s) hu S (I.kept (t':=s.toks) kp) rv hd q
end
end L2
namespace L2
open PySem PySem.Spec PyProof.Rows PySem.NumText
noncomputable abbrev Mark:=Int×Int
noncomputable abbrev Ent:=Mark×Addr×V
noncomputable def mkK (m:Mark):List Key:=[.inl m.1,.inl m.2]
noncomputable def mkV (m:Mark):List V:=[.int m.1,.int m.2]
theorem zts {a b:Mark} (h:mkK a=mkK b):a=b:=by
 unfold mkK at h
 have h1:=(List.cons.inj h).1
 have h2:=(List.cons.inj (List.cons.inj h).2).1
 exact Prod.ext (Sum.inl.inj h1) (Sum.inl.inj h2)
noncomputable def EntR (e:Ent) (x:List Key×Addr×Value):Prop:=x.1=mkK e.1∧x.2.1=e.2.1∧RelV e.2.2 x.2.2
noncomputable abbrev dK (P:Program) (w:World):=tupleKind (zug P w)
noncomputable def dOk (P:Program) (w:World) (a:Addr) (es:List Ent) (o:Obj) (h:Heap):Prop:=es.length≤sizeLine∧(a == sysModules)=false∧h.get? a=some o∧∃ xs,Paired EntR es xs ∧
 ∃ ds ep,o.ExactDict∧o.data = .dict ds ep∧ds.toList=xs.map (entryOfKey (dK P w))∧(xs.map (·.1)).Nodup
noncomputable def dO (P:Program) (w:World) (a:Addr) (es:List Ent) (o:Obj):HO := .ext (dOk P w a es o)
structure DM (P:Program) (w:World) (K:W.Frag) (H:Hp) (a:Addr) (es:List Ent):Prop where
 ob:∃ o,H a=some (dO P w a es o)
 ky:∀ e∈es,SqT K H e.2.1 (mkV e.1)
theorem zum {P:Program} {w:World} {h:Heap}:∀ {es:List Ent} {xs:List (List Key×Addr×Value)},Paired EntR es xs→(∀ e∈es,(dK P w).is h (mkK e.1) e.2.1)→∀ x∈xs,(dK P w).is h x.1 x.2.1
 | _,_,.nil,_,x,hx=>nomatch hx
 | _,_,.cons r rr,hk,x,hx=>by
  rcases List.mem_cons.mp hx with rfl | hx
  ·rw [r.1,r.2.1];exact hk _ List.mem_cons_self
  ·exact zum rr (λ e he=>hk e (List.mem_cons_of_mem _ he)) x hx
noncomputable def zab:List Ent→Mark→Option V
 | [],_=>none
 | e::es,m=>if e.1=m then some e.2.2 else zab es m
theorem zuc:∀ {es:List Ent} {xs:List (List Key×Addr×Value)},Paired EntR es xs→∀ m,RelO (zab es m) ((atKey xs (mkK m)).map (·.2))
 | _,_,.nil,m=>trivial
 | e::es,x::xs,.cons r rr,m=>by
  unfold zab atKey
  rw [List.find?_cons]
  by_cases h:e.1=m
  ·rw [if_pos h,show decide (x.1=mkK m)=true from decide_eq_true (by rw [r.1,h])]
   exact r.2.2
  ·rw [if_neg h,show decide (x.1=mkK m)=false from decide_eq_false (by rw [r.1];exact λ z=>h (zts z))]
   exact zuc rr m
theorem zeq {v:V} {o:Option Value} (h:RelO (some v) o):∃ u,o=some u∧RelV v u:=by
 cases o with
 | none=>exact h.elim
 | some u=>exact ⟨u,rfl,h⟩
theorem zto {a:Option V} {b:Option Value} (h:RelO a b):a.isSome=b.isSome:=by
 cases a <;> cases b <;> first | rfl | exact h.elim
theorem zzj {a:Option V} {b:Option Value} {d:V} {e:Value} (h:RelO a b) (hd:RelV d e):RelV (a.getD d) (b.getD e):=by
 cases a <;> cases b <;> first | exact hd | exact h | exact h.elim
noncomputable def putM (es:List Ent) (m:Mark) (q:Addr) (v:V):List Ent:=if (zab es m).isSome then es.map (λ e=>if e.1=m then (e.1,e.2.1,v) else e) else es++[(m,q,v)]
theorem zxr {es:List Ent} {xs:List (List Key×Addr×Value)} (r:Paired EntR es xs) (m:Mark) {q:Addr} {v:V} {u:Value} (rv:RelV v u):Paired EntR (putM es m q v) (storedH xs (mkK m) q u):=by
 have hi:(zab es m).isSome=(atKey xs (mkK m)).isSome:=by rw [zto (zuc r m),Option.isSome_map]
 unfold putM storedH
 rw [hi]
 by_cases h:(atKey xs (mkK m)).isSome=true
 ·rw [if_pos h,if_pos h]
  clear hi h
  induction r with
  | nil=>exact .nil
  | @cons e x es xs a b ih =>
   rw [List.map_cons,List.map_cons]
   refine .cons ?_ ih
   unfold putAt
   by_cases he:e.1=m
   ·rw [if_pos he,if_pos (by rw [a.1,he])]
    exact ⟨a.1,a.2.1,rv⟩
   ·rw [if_neg he,if_neg (by rw [a.1];exact λ z=>he (zts z))]
    exact a
 ·rw [if_neg h,if_neg h]
  exact Paired.snoc r ⟨rfl,rfl,rv⟩
theorem zdm (es:List Ent) (m:Mark) (q:Addr) (v:V):(putM es m q v).length≤es.length+1:=by
 unfold putM
 split
 ·rw [List.length_map];omega
 ·rw [List.length_append];exact Nat.le_refl _
section
variable {X:Cx} {pins:List (Addr×Obj)} {σ:St} {H:Hp} {s:Shared} {a:Addr} {es:List Ent}
theorem zmu {P:Program} {w:World} {m:Mark} {us:List Value} (r:Vals (mkV m) us):ItemsAre (zug P w) (mkK m) us:=by
 unfold mkV at r
 cases r with
 | cons r1 r2 =>
  cases r2 with
  | cons r3 r4 =>
   cases r4
   obtain ⟨t,rfl⟩:=r1
   obtain ⟨u,rfl⟩:=r3
   exact .cons (zrf P w m.1 t) (.cons (zrf P w m.2 u) .nil)
theorem Inv.mark (I:Inv X pins σ H s) {q:Addr} {m:Mark} (h:SqT X.K H q (mkV m)):(dK X.prog X.w).is s.heap (mkK m) q:=by
 obtain ⟨its,r,⟨o,h1,h2,n,h3⟩,hz⟩:=I.tuple h
 exact ⟨o,its.toArray,n,h1,h2,h3,by simpa using zmu r⟩
theorem Inv.dict (I:Inv X pins σ H s) (D:DM X.prog X.w X.K H a es):es.length≤sizeLine∧(a == sysModules)=false∧∃ xs,Paired EntR es xs∧s.heap.DictOfH (dK X.prog X.w) a xs:=by
 obtain ⟨o,ob⟩:=D.ob
 obtain ⟨⟨z,y,h1,xs,r,ds,ep,h2,h3,h4,h5⟩,_,_⟩:=(show ObjOk X.prog X.w H s.heap a (dO X.prog X.w a es o) from I.hok a _ ob)
 exact ⟨z,y,xs,r,o,ds,ep,h1,h2,h3,h4,zum r λ e he=>I.mark (D.ky e he),h5⟩
theorem zg0 {P:Program} {w:World} {H:Hp} {h:Heap} {a:Addr} {es:List Ent} {xs:List (List Key×Addr×Value)} (z:es.length≤sizeLine) (y:(a == sysModules)=false) (r:Paired EntR es xs) (d:h.DictOfH (dK P w) a xs):∃ o,ObjOk P w (upd H a (dO P w a es o)) h a (dO P w a es o):=by
 obtain ⟨o,ds,ep,h1,h2,h3,h4,_,h5⟩:=d
 exact ⟨o,⟨z,y,h1,xs,r,ds,ep,h2,h3,h4,h5⟩,⟨o,h1⟩,λ h1' h2' ⟨z,y,g1,g2⟩ k=>⟨z,y,k o g1,g2⟩⟩
theorem Inv.bigM (I:Inv X pins σ H s):sysModules<s.heap.objs.size:=Nat.lt_trans (by decide) (I.mod.glob.keeps I.bk).lt
variable {o i e value:Expr} {pos pos':Pos} {td ty tv:TE}
noncomputable def zjv (P:Program) (w:World):TE:=λ _ H Q=>∀ p o,H p=none→Q (.ref p) (upd H p (dO P w p [] o))
theorem zyf:PE X (.Dict [] [] pos) (zjv X.prog X.w) := .mk <| λ pins s σ H Q I h=>by
 obtain ⟨ob,hob⟩:=zg0 (P:=X.prog) (w:=X.w) (H:=H) (es:=[]) (Nat.zero_le _) (beq_eq_false_iff_ne.mpr (Ne.symm (Nat.ne_of_lt I.bigM))) .nil (Heap.DictOfH.new s.heap)
 exact wpAny_Dict_empty ⟨.ref s.heap.objs.size,_,I.laid (t':=s.toks) (λ _ _ q=>Heap.get?_push_of_some _ q) (Nat.le_refl _) hob,rfl,h _ ob (I.hok.fresh (Nat.le_refl _))⟩
noncomputable def rInM (P:Program) (w:World) (K:W.Frag):R2:=λ x y H Q=>∃ q m a es,x = .ref q∧SqT K H q (mkV m)∧y = .ref a∧DM P w K H a es∧Q (.bl (zab es m).isSome) H
noncomputable def zjy (P:Program) (w:World) (K:W.Frag):R2:=λ x y H Q=>∃ q m a es,x = .ref q∧SqT K H q (mkV m)∧y = .ref a∧DM P w K H a es∧Q (.bl (!(zab es m).isSome)) H
theorem zpz (hu:X.A.units+1<cLine):OpR X (compareOp .In) (rInM X.prog X.w X.K):=by
 intro pins s σ H x y v u Q I rx ry h
 obtain ⟨q,m,a,es,rfl,hm,rfl,D,k⟩:=h
 cases rx
 cases ry
 obtain ⟨_,hd,xs,r,dd⟩:=I.dict D
 refine wpAny_in_heap (tupleKind_room_in1 hu) (I.mark hm) hd dd ?_
 rw [← Option.isSome_map (f:=(·.2)),← zto (zuc r m)]
 exact ⟨.bl _,H,I.tok _,rfl,k⟩
theorem zwq (hu:X.A.units+1<cLine):OpR X (compareOp .NotIn) (zjy X.prog X.w X.K):=by
 intro pins s σ H x y v u Q I rx ry h
 obtain ⟨q,m,a,es,rfl,hm,rfl,D,k⟩:=h
 cases rx
 cases ry
 obtain ⟨_,hd,xs,r,dd⟩:=I.dict D
 refine wpAny_notIn_heap (tupleKind_room_in1 hu) (I.mark hm) hd dd ?_
 rw [← Option.isSome_map (f:=(·.2)),← zto (zuc r m)]
 exact ⟨.bl _,H,I.tok _,rfl,k⟩
noncomputable def rIxM (P:Program) (w:World) (K:W.Frag):R2:=λ x y H Q=>∃ a es q m v,x = .ref a∧DM P w K H a es∧y = .ref q∧SqT K H q (mkV m)∧zab es m=some v∧Q v H
theorem ix_M (hu:X.A.units+1<cLine):IxR X (rIxM X.prog X.w X.K):=by
 intro value slice pins s σ H x y v u Q I rx ry h hs
 obtain ⟨a,es,q,m,z,rfl,D,rfl,hm,hf,k⟩:=h
 cases rx
 cases ry
 obtain ⟨_,hd,xs,r,dd⟩:=I.dict D
 have fr:=zuc r m
 rw [hf] at fr
 obtain ⟨uz,e1,r1⟩:=zeq fr
 obtain ⟨p,hp,hp2⟩:=Option.map_eq_some_iff.mp e1
 have hT:s.TypeIs (.ref a) "dict" := dd.typeIs
 have fin:wpAny (model X.prog X.w) X.A (subscripted slice false (.ref a) (.ref q)) (λ r s3=>wpAny (model X.prog X.w) X.A (letTemporaryGo value (.ref a) r >>= λ _=>pure r) (EP X pins σ Q) X.xe s3) X.xe s:=by
  rw [hs]
  refine wpAny_operating (wpAny_getItem_heap (tupleKind_room_in1 hu) (I.mark hm) dd hp ?_)
  rw [hp2]
  exact wpAny_bind (wpAny_letTemporaryGo (wpAny_pure ⟨z,H,I.tok _,r1,k⟩))
 unfold subscriptTail
 refine wpAny_bind ?_
 rw [getitemInPython_of_ne hT.not_modules]
 refine wpAny_bind (wpAny_specialOf hT PySem.F.slot_dict_getitem.lookup ?_)
 first
  | exact wpAny_pure (wpAny_bind fin)
  | exact wpAny_bind (wpAny_pure (wpAny_bind fin))
  | exact wpAny_bind fin
noncomputable def zyq (P:Program) (w:World) (K:W.Frag) (td ty tv:TE):TS:=λ D σ H=>tv σ H λ v H1=>td σ H1 λ x H2=>ty σ H2 λ y H3=>∃ a es q m,x = .ref a∧DM P w K H3 a es∧y = .ref q∧SqT K H3 q (mkV m)∧es.length<sizeLine∧∀ o,D.nx σ (upd H3 a (dO P w a (putM es m q v) o))
theorem zae (hu:X.A.units+1<cLine) (ho:PE X o td) (hi:PE X i ty) (hv:PE X value tv) (hs:swapsWith value (some (.Subscript o i pos')) pos.line X.env=pure false) :
  PS X (.Assign [.Subscript o i pos'] value pos) (zyq X.prog X.w X.K td ty tv) := .mk <| by
 intro pins s σ H D I h
 refine wpAny_Assign_Subscript (thn (hv pins s σ H _ I h) λ r s1 ⟨v,H1,I1,rv,q1⟩=>thn (ho pins s1 σ H1 _ I1 q1) λ u s2 ⟨x,H2,I2,rx,q2⟩=>thn (hi pins s2 σ H2 _ I2 q2) λ iv s3 ⟨y,H3,I3,ry,a,es,q,m,ex,DD,ey,hm,hl,k⟩=>?_) hs
 subst ex ey
 cases rx
 cases ry
 obtain ⟨z,hd,xs,rr,dd⟩:=I3.dict DD
 refine wpAny_setItem_heap (hsz:=by rw [← Paired.length rr];exact z) (tupleKind_room_in1 hu) (I3.mark hm) dd λ h' dd' sb=>?_
 have he:∃ ob,h'.get? a=some ob:=let ⟨ob,_,_,hq,_⟩:=dd'; ⟨ob,hq⟩
 obtain ⟨o1,o2⟩:=DD.ob
 obtain ⟨ob,hob⟩:=zg0 (P:=X.prog) (w:=X.w) (H:=H3) (es:=putM es m q v) (by have:=zdm es m q v;omega) hd (zxr rr m rv) dd'
 exact ⟨σ,_,I3.write (t':=_) (x:=a) (e:=a) (by rw [o2];exact True.intro) (.inl rfl) (λ b ob hb z=>(sb.2 b hb).trans z) he hob,k ob⟩
noncomputable def zd5 (P:Program) (w:World) (K:W.Frag) (td ty:TE):TE:=λ σ H Q=>td σ H λ x H1=>∃ a es,x = .ref a∧DM P w K H1 a es∧ty σ H1 λ y H2=>∃ q m,y = .ref q∧DM P w K H2 a es∧SqT K H2 q (mkV m)∧Q ((zab es m).getD .non) H2
theorem zun {apos cpos:Pos} (hu:X.A.units+1<cLine) (ho:PE X o td) (he:PE X e ty) (hbase:attributeBase o "get" X.env (eval o X.env)=eval o X.env:=by rfl)
  (hfew:((backTo cpos (starEach [e] X.env)).all (λ x => !x.1) && (backToKw cpos (keywordEach [] X.env)).all (λ x=>x.1.isSome)
   && decide (([e]:List Expr).length+([]:List Keyword).length+(if ([]:List Keyword).isEmpty then 0 else 1)<30))=true:=by rfl)
  (hline:(apos.endLine == cpos.line)=true:=by rfl) (htr:backTo cpos (starEach [e] X.env)=[(false,eval e X.env)]:=by rfl):PE X (.Call (.Attribute o "get" apos) [e] [] cpos) (zd5 X.prog X.w X.K td ty) := .mk <| by
 intro pins s σ H Q I h
 refine wpAny_Call_method hbase hfew hline PySem.F.plainAttrs_dict PySem.F.slot_dict_get PySem.F.type_dict_get (thn (ho pins s σ H _ I h) λ u s1 ⟨x,H1,I1,rx,a,es,ex,D,q1⟩=>?_)
 subst ex
 cases rx
 obtain ⟨_,_,xs,_,dd⟩:=I1.dict D
 refine ⟨dd.typeIs,λ b q=>?_,?_⟩
 ·cases q
  obtain ⟨ob,_,_,h1,h2,_⟩:=dd
  exact ⟨ob,h1,h2.2.1⟩
 rw [htr]
 refine Calls.callWith_builtin rfl (Calls.evalArgs_plain (Calls.spliced_cons (thn (he pins s1 σ H1 _ I1 q1) λ iv s2 ⟨y,H2,I2,ry,q,m,ey,D2,hm,k⟩=>Calls.spliced_nil ?_)))
 subst ey
 cases ry
 obtain ⟨_,hd,xs,r,dd⟩:=I2.dict D2
 exact call_meetsIn PySem.F.slot_dict_get dd.typeIs PySem.F.entry_dict_get (PySem.F.args_dict_get_2 _ _) (meetsH_dict_get (dK X.prog X.w) a q hd) ⟨tupleKind_room_in1 hu,mkK m,xs,I2.mark hm,dd,⟨_,H2,I2.tok _,zzj (d := .non) (zuc r m) (show RelV .non Value.none from rfl),k⟩⟩
end
end L2
namespace L2
open PySem PySem.Spec PyProof.Rows PySem.NumText
noncomputable def RawD (h:Heap) (d:Addr) (ds:Array DictEntry) (ep:Nat):Prop:=∃ o,h.get? d=some o∧o.cls = .type "dict" ∧ o.data = .dict ds ep
noncomputable def zhi (d:Addr) (i n ep:Nat) (first:Value) (f:Bool) (ok ov:Value):Obj:={ cls := .type "dict_itemiterator",data := .fields #[first,.bool f,.ref d,.int i 0,.int n 0,.int ep 0,ok,ov] }
section
variable {prog:Program} {w:World} {A:Around} {E:Value→Shared→Prop} {s:Shared} {d it v:Addr} {ds:Array DictEntry} {ep i:Nat} {ok ov:Value}
theorem zne:Builtin.Dict_items.ownsTuple "dict_itemiterator" = true:=by decide
theorem zso {Q:Value→Shared→Prop} (hv:s.heap.IsItemsView v d) (hd:RawD s.heap d ds ep)
  (k:Q (.ref s.heap.objs.size) { s with heap:=s.heap.push (zhi d 0 ds.size ep .none false .none .none) }) :
  wpAny (model prog w) A (pyIter (.ref v)) Q E s:=by
 obtain ⟨vo,v1,v2,v3⟩:=id hv
 obtain ⟨o,d1,d2,d3⟩:=hd
 refine wpAny_pyIter_slot hv.typeIs F.slot_dict_items_iter (wpAny_call_entry F.slot_dict_items_iter hv.typeIs F.entry_dict_items_iter ?_ (F.args_dict_items_iter_1 _))
 unfold Builtin.«dict_items.__iter__» Builtin.Dict_items.dictOf Builtin.Dict_items.newIterator
 refine wpAny_bind (wpAny_pure (wpAny_bind (wpAny_bind (wpAny_field v1 v3 (x := .ref d) rfl (wpAny_pure (wpAny_bind (wpAny_bind (wpAny_dictEntries d1 d3 (wpAny_bind (wpAny_dictEpoch d1 d3 ?_))))))))))
 simp only [zne,if_true]
 refine wpAny_newObj_type (wpAny_pure ⟨_,rfl, "dict_itemiterator",_,⟨_,Heap.get?_push_size _ rfl,rfl⟩,F.slot_dict_itemiterator_next.lookup,?_⟩) ?_
 ·simpa [rawInt,Builtin.Dict_items.ownedTupleFields,zhi] using k
 ·simp only [sizeOk,Builtin.Dict_items.ownedTupleFields,List.size_toArray,List.length_append,List.length_cons,List.length_nil,sizeLine_eq]
  omega
theorem zkq {Q:Option Value→Shared→Prop} {e:DictEntry} (hi:s.heap.get? it=some (zhi d i ds.size ep .none false ok ov)) (hd:RawD s.heap d ds ep) (he:ds[i]? = some e)
  (k:∀ h',h'.get? it=some (zhi d (i+1) ds.size ep (rawInt s.heap.objs.size) false e.key e.val)→h'.get? s.heap.objs.size=some { cls := .type "tuple",data := .seq #[e.key,e.val] }→h'.objs.size=s.heap.objs.size+1 →
   (∀ b o,b≠it→s.heap.get? b=some o→h'.get? b=some o)→Q (some (.ref s.heap.objs.size)) { s with heap:=h' }):wpAny (model prog w) A (pyNext (.ref it)) Q E s:=by
 obtain ⟨o,d1,d2,d3⟩:=hd
 have ty:s.TypeIs (.ref it) "dict_itemiterator" := ⟨_,hi,rfl⟩
 unfold pyNext
 refine wpAny_bind (wpAny_attempt (wpAny_callSpecial?_slot ty F.slot_dict_itemiterator_next (wpAny_call_entry F.slot_dict_itemiterator_next ty F.entry_dict_itemiterator_next ?_ (F.args_dict_itemiterator_next_1 _))))
 unfold Builtin.«dict_itemiterator.__next__»
 refine wpAny_bind (wpAny_pure (wpAny_bind (wpAny_bind (wpAny_bind (wpAny_typeNameOfWhole_itemiter ty (wpAny_pure (wpAny_bind (wpAny_fieldsOf hi rfl ?_))))))))
 simp only [zne,if_true]
 have e1:(Value.ref d == Value.none)=false:=rfl
 dsimp only [List.drop,List.take]
 rw [if_neg (by rw [e1];exact Bool.false_ne_true)]
 refine wpAny_bind (wpAny_pure (wpAny_bind (wpAny_dictEntries d1 d3 ?_)))
 rw [if_neg (by simp)]
 refine wpAny_bind (wpAny_pure (wpAny_bind (wpAny_dictEpoch d1 d3 ?_)))
 rw [if_neg (by simp)]
 refine wpAny_pure ?_
 dsimp only
 rw [if_neg (by omega),Int.toNat_natCast,he]
 dsimp only
 refine wpAny_bind (wpAny_bind (wpAny_typeNameOfWhole_itemiter ty (wpAny_pure ?_)))
 refine wpAny_bind (wpAny_isOneOf_itemiter ty ?_)
 simp only [zne,if_true]
 rw [if_neg (by decide)]
 refine wpAny_bind (wpAny_setField_rec (k:=3) hi (by show 3<8;decide) λ h1 g1 sb1=>?_)
 have g1:h1.get? it=some (zhi d (i+1) ds.size ep .none false ok ov):=g1
 have ty1:({ s with heap:=h1 }:Shared).TypeIs (.ref it) "dict_itemiterator" := ⟨_,g1,rfl⟩
 refine wpAny_bind (wpAny_holding (wpAny_bind (wpAny_isOneOf_itemiter ty1 ?_)))
 rw [if_neg (by decide)]
 refine wpAny_bind (wpAny_isOneOf_itemiter ty1 ?_)
 rw [if_neg (by decide)]
 unfold Builtin.Dict_items.pairFromOwner
 refine wpAny_bind (wpAny_newTuple ?_)
 have hz:h1.objs.size=s.heap.objs.size:=sb1.1
 obtain ⟨h2,hh2⟩:∃ h2,h2=h1.push { cls := .type "tuple",data := .seq [e.key,e.val].toArray }:=⟨_,rfl⟩
 dsimp only
 rw [← hh2]
 have g2:h2.get? it=some (zhi d (i+1) ds.size ep .none false ok ov):=by rw [hh2];exact Heap.get?_push_of_some _ g1
 have t2:h2.get? h1.objs.size=some { cls := .type "tuple",data := .seq [e.key,e.val].toArray }:=by rw [hh2];exact Heap.get?_push_size _ rfl
 have z2:h2.objs.size=s.heap.objs.size+1:=by rw [hh2,Heap.size_push,hz]
 have nit:h1.objs.size≠it:=Nat.ne_of_gt (Heap.lt_size g1)
 unfold Builtin.Dict_items.ownedTupleIsFree
 refine wpAny_bind (wpAny_bind (wpAny_field g2 rfl (x := .none) rfl (wpAny_pure ?_)))
 rw [if_pos rfl]
 refine wpAny_bind (wpAny_field g2 rfl (x:=ok) rfl (wpAny_bind (wpAny_field g2 rfl (x:=ov) rfl ?_)))
 refine wpAny_bind (wpAny_setField_rec (k:=6) g2 (by show 6<8;decide) λ h3 g3 sb3=>?_)
 refine wpAny_bind (wpAny_setField_rec (k:=7) g3 (by show 7<8;decide) λ h4 g4 sb4=>?_)
 refine wpAny_bind (wpAny_setField_rec (k:=0) g4 (by show 0<8;decide) λ h5 g5 sb5=>?_)
 refine wpAny_bind (wpAny_setField_rec (k:=1) g5 (by show 1<8;decide) λ h6 g6 sb6=>?_)
 refine wpAny_bind (wpAny_letGo (wpAny_pure (wpAny_pure ⟨_,rfl,wpAny_pure ?_⟩)))
 have kp:∀ b o,b≠it→h2.get? b=some o→h6.get? b=some o:=λ b o hb q=>(sb6.2 b hb).trans ((sb5.2 b hb).trans ((sb4.2 b hb).trans ((sb3.2 b hb).trans q)))
 rw [hz]
 refine k h6 ?_ ?_ ?_ λ b o hb q=>kp b o hb ?_
 ·rw [← hz];exact g6
 ·rw [← hz];exact kp _ _ nit t2
 ·rw [sb6.1,sb5.1,sb4.1,sb3.1];exact z2
 ·rw [hh2];exact Heap.get?_push_of_some _ ((sb1.2 b hb).trans q)
theorem zuq {Q:Option Value→Shared→Prop} {e:DictEntry} {a:Addr} {f:Bool} {oa:Obj} (hi:s.heap.get? it=some (zhi d i ds.size ep (rawInt a) f ok ov)) (ha:s.heap.get? a=some oa) (hn:a≠it) (hd:RawD s.heap d ds ep) (he:ds[i]? = some e)
  (k:∀ h',h'.get? it=some (zhi d (i+1) ds.size ep (rawInt a) true ok ov)→h'.get? s.heap.objs.size=some { cls := .type "tuple",data := .seq #[e.key,e.val] }→h'.objs.size=s.heap.objs.size+1 →
   (∀ b o,b≠it→s.heap.get? b=some o→h'.get? b=some o)→Q (some (.ref s.heap.objs.size)) { s with heap:=h' }):wpAny (model prog w) A (pyNext (.ref it)) Q E s:=by
 obtain ⟨o,d1,d2,d3⟩:=hd
 have ty:s.TypeIs (.ref it) "dict_itemiterator" := ⟨_,hi,rfl⟩
 unfold pyNext
 refine wpAny_bind (wpAny_attempt (wpAny_callSpecial?_slot ty F.slot_dict_itemiterator_next (wpAny_call_entry F.slot_dict_itemiterator_next ty F.entry_dict_itemiterator_next ?_ (F.args_dict_itemiterator_next_1 _))))
 unfold Builtin.«dict_itemiterator.__next__»
 refine wpAny_bind (wpAny_pure (wpAny_bind (wpAny_bind (wpAny_bind (wpAny_typeNameOfWhole_itemiter ty (wpAny_pure (wpAny_bind (wpAny_fieldsOf hi rfl ?_))))))))
 simp only [zne,if_true]
 have e1:(Value.ref d == Value.none)=false:=rfl
 dsimp only [List.drop,List.take]
 rw [if_neg (by rw [e1];exact Bool.false_ne_true)]
 refine wpAny_bind (wpAny_pure (wpAny_bind (wpAny_dictEntries d1 d3 ?_)))
 rw [if_neg (by simp)]
 refine wpAny_bind (wpAny_pure (wpAny_bind (wpAny_dictEpoch d1 d3 ?_)))
 rw [if_neg (by simp)]
 refine wpAny_pure ?_
 dsimp only
 rw [if_neg (by omega),Int.toNat_natCast,he]
 dsimp only
 refine wpAny_bind (wpAny_bind (wpAny_typeNameOfWhole_itemiter ty (wpAny_pure ?_)))
 refine wpAny_bind (wpAny_isOneOf_itemiter ty ?_)
 simp only [zne,if_true]
 rw [if_neg (by decide)]
 refine wpAny_bind (wpAny_setField_rec (k:=3) hi (by show 3<8;decide) λ h1 g1 sb1=>?_)
 have g1:h1.get? it=some (zhi d (i+1) ds.size ep (rawInt a) f ok ov):=g1
 have ty1:({ s with heap:=h1 }:Shared).TypeIs (.ref it) "dict_itemiterator" := ⟨_,g1,rfl⟩
 refine wpAny_bind (wpAny_holding (wpAny_bind (wpAny_isOneOf_itemiter ty1 ?_)))
 rw [if_neg (by decide)]
 refine wpAny_bind (wpAny_isOneOf_itemiter ty1 ?_)
 rw [if_neg (by decide)]
 unfold Builtin.Dict_items.pairFromOwner
 refine wpAny_bind (wpAny_newTuple ?_)
 have hz:h1.objs.size=s.heap.objs.size:=sb1.1
 obtain ⟨h2,hh2⟩:∃ h2,h2=h1.push { cls := .type "tuple",data := .seq [e.key,e.val].toArray }:=⟨_,rfl⟩
 dsimp only
 rw [← hh2]
 have g2:h2.get? it=some (zhi d (i+1) ds.size ep (rawInt a) f ok ov):=by rw [hh2];exact Heap.get?_push_of_some _ g1
 have t2:h2.get? h1.objs.size=some { cls := .type "tuple",data := .seq [e.key,e.val].toArray }:=by rw [hh2];exact Heap.get?_push_size _ rfl
 have a2:h2.get? a=some oa:=by rw [hh2];exact Heap.get?_push_of_some _ ((sb1.2 a hn).trans ha)
 have z2:h2.objs.size=s.heap.objs.size+1:=by rw [hh2,Heap.size_push,hz]
 have nit:h1.objs.size≠it:=Nat.ne_of_gt (Heap.lt_size g1)
 have old:∀ b o,b≠it→s.heap.get? b=some o→h2.get? b=some o:=λ b o hb q=>by rw [hh2];exact Heap.get?_push_of_some _ ((sb1.2 b hb).trans q)
 unfold Builtin.Dict_items.ownedTupleIsFree
 refine wpAny_bind (wpAny_bind (wpAny_field g2 rfl (x:=rawInt a) rfl ?_))
 show wpAny _ _ (do let x ← loadIfAlive (a:Int).toNat;_) _ _ _
 refine wpAny_bind (W.kdx_alive a2 ?_)
 rw [if_neg (by simp)]
 refine wpAny_bind (wpAny_field g2 rfl (x := .bool f) rfl ?_)
 cases f with
 | true =>
  rw [if_neg (by decide)]
  refine wpAny_pure ?_
  rw [if_neg (by decide)]
  refine wpAny_pure (wpAny_pure ⟨_,rfl,wpAny_pure ?_⟩)
  rw [hz]
  refine k h2 g2 ?_ z2 old
  rw [← hz];exact t2
 | false =>
  rw [if_pos (by decide)]
  refine wpAny_bind (wpAny_setField_rec (k:=1) g2 (by show 1<8;decide) λ h3 g3 sb3=>?_)
  refine wpAny_pure ?_
  rw [if_neg (by decide)]
  refine wpAny_pure (wpAny_pure ⟨_,rfl,wpAny_pure ?_⟩)
  rw [hz]
  refine k h3 g3 ?_ (by rw [sb3.1];exact z2) λ b o hb q=>(sb3.2 b hb).trans (old b o hb q)
  rw [← hz];exact (sb3.2 _ nit).trans t2
theorem zfq {Q:Option Value→Shared→Prop} {first:Value} {f:Bool} (hh:A.handled=none) (hi:s.heap.get? it=some (zhi d i ds.size ep first f ok ov)) (hd:RawD s.heap d ds ep) (he:ds[i]? = none)
  (k:∀ h',(∀ b o,b≠it→s.heap.get? b=some o→h'.get? b=some o)→Q none { s with heap:=h' }):wpAny (model prog w) A (pyNext (.ref it)) Q E s:=by
 obtain ⟨o,d1,d2,d3⟩:=hd
 have ty:s.TypeIs (.ref it) "dict_itemiterator" := ⟨_,hi,rfl⟩
 unfold pyNext
 refine wpAny_bind (wpAny_attempt (wpAny_callSpecial?_slot ty F.slot_dict_itemiterator_next (wpAny_call_entry F.slot_dict_itemiterator_next ty F.entry_dict_itemiterator_next ?_ (F.args_dict_itemiterator_next_1 _))))
 unfold Builtin.«dict_itemiterator.__next__»
 refine wpAny_bind (wpAny_pure (wpAny_bind (wpAny_bind (wpAny_bind (wpAny_typeNameOfWhole_itemiter ty (wpAny_pure (wpAny_bind (wpAny_fieldsOf hi rfl ?_))))))))
 simp only [zne,if_true]
 have e1:(Value.ref d == Value.none)=false:=rfl
 dsimp only [List.drop,List.take]
 rw [if_neg (by rw [e1];exact Bool.false_ne_true)]
 refine wpAny_bind (wpAny_pure (wpAny_bind (wpAny_dictEntries d1 d3 ?_)))
 rw [if_neg (by simp)]
 refine wpAny_bind (wpAny_pure (wpAny_bind (wpAny_dictEpoch d1 d3 ?_)))
 rw [if_neg (by simp)]
 refine wpAny_pure ?_
 dsimp only
 rw [if_neg (by omega),Int.toNat_natCast,he]
 dsimp only
 refine wpAny_bind (wpAny_bind (wpAny_typeNameOfWhole_itemiter ty (wpAny_pure ?_)))
 simp only [zne,if_true]
 refine wpAny_bind (wpAny_setField_rec (k:=2) hi (by show 2<8;decide) λ h1 g1 sb=>?_)
 unfold newExc raiseNew
 refine wpAny_bind (wpAny_bind (wpAny_newObj_type ?_))
 have fa:firstArgMember (.type "StopIteration") []=pure Value.none:=by
  rw [firstArgMember.eq_1]
  generalize (Manifest.find? "StopIteration").elim false (λ t=>t.mro.contains "StopIteration" || t.mro.contains "SystemExit")=b
  cases b <;> rfl
 refine wpAny_bind (wpAny_of_eq fa (wpAny_newObj_type ?_ (sizeOk_excFields _ _ _ _ _ _ _ _)))
 refine wpAny_bind (wpAny_handled ?_)
 rw [show A.in1.handled=none from hh]
 refine wpAny_throw ?_
 refine wpAny_bind (wpAny_isInstance ⟨_,Heap.get?_push_size _ rfl,rfl⟩ isSubtype_stop ?_)
 rw [if_pos rfl]
 refine wpAny_pure (k _ λ b o hb e=>?_)
 exact Heap.get?_push_of_some _ (Heap.get?_push_of_some _ ((sb.2 b hb).trans e))
end
end L2
namespace L2
open PySem PySem.Spec PyProof.Rows PySem.NumText
noncomputable def ziy (a b:Value):Obj:={ cls := .type "tuple",data := .seq #[a,b] }
structure Got (ds:Array DictEntry) (lo:Addr) (h:Heap) (as:List Addr):Prop where
 at_:∀ (j:Nat) (a:Addr),as[j]? = some a→lo≤a∧∃ e,ds[j]? = some e∧h.get? a=some (ziy e.key e.val)
 nd:as.Nodup
section
variable {prog:Program} {w:World} {A:Around} {E:Value→Shared→Prop} {s:Shared} {d it S r:Addr} {ds:Array DictEntry} {ep:Nat}
theorem zho {R:Result→Shared→Prop} (hh:A.handled=none) (hn:ds.size≤sizeLine) (nSI:S≠it) (ndS:d≠S) (ndI:d≠it) (res:Value) {h1:Heap} {lo:Addr}
  (k:∀ h' tk acc c as,(∀ b o,b≠S→b≠it→h1.get? b=some o→h'.get? b=some o)→h'.get? S=some { cls := .type "list",data := .seq acc c }→as.length=ds.size→Got ds lo h' as→acc.toList=as.map Value.ref→R (.ok (.ret res)) { s with heap:=h',toks:=tk }) :
  ∀ (n i:Nat) (h:Heap) (tk c:Nat) (acc:Array Value) (as:List Addr) (first:Value) (f:Bool) (ok ov:Value),ds.size - i=n→i≤ds.size→h.get? it=some (zhi d i ds.size ep first f ok ov)→((first = .none∧f=false) ∨ ∃ (a:Addr) (oa:Obj),first=rawInt a∧h.get? a=some oa∧a≠it∧a≠S)→RawD h d ds ep →
   (∀ b o,b≠S→b≠it→h1.get? b=some o→h.get? b=some o)→h.get? S=some { cls := .type "list",data := .seq acc c }→acc.toList=as.map Value.ref→as.length=i→Got ds lo h as→(∀ a∈as,a≠S∧a≠it)→lo≤h.objs.size →
   codeAny (model prog w) A (.builtin "list.extend.loop" ⟨[.ref S,.ref it,res],[]⟩) R { s with heap:=h,toks:=tk }:=by
 intro n
 induction n with
 | zero =>
  intro i h tk c acc as first f ok ov hni hi hit hfirst hd kp hS hacc hal hG hne hlo
  refine codeAny_builtin F.entry_extend_loop ?_
  rw [Around.under_plainId F.plain_extend_loop]
  refine wpAny_bind (zfq (s:={ s with heap:=h,toks:=tk }) hh hit hd (by rw [Array.getElem?_eq_none];omega) λ h' kp'=>?_)
  refine wpAny_pure (k h' tk acc c as (λ b o h1' h2' e=>kp' b o h2' (kp b o h1' h2' e)) (kp' _ _ nSI hS) (by omega) ⟨λ j a e=>?_,hG.nd⟩ hacc)
  obtain ⟨q1,e1,q2,q3⟩:=hG.at_ j a e
  exact ⟨q1,e1,q2,kp' _ _ (hne a (List.mem_of_getElem? e)).2 q3⟩
 | succ n ih =>
  intro i h tk c acc as first f ok ov hni hi hit hfirst hd kp hS hacc hal hG hne hlo
  obtain ⟨e,he⟩:∃ e,ds[i]? = some e:=⟨_,Array.getElem?_eq_getElem (by omega)⟩
  refine codeAny_builtin F.entry_extend_loop ?_
  rw [Around.under_plainId F.plain_extend_loop]
  have hItL:=Heap.lt_size hit
  have hSL:=Heap.lt_size hS
  have go:∀ h' first' f' ok' ov',h'.get? it=some (zhi d (i+1) ds.size ep first' f' ok' ov')→((first' = .none∧f'=false) ∨ ∃ (a:Addr) (oa:Obj),first'=rawInt a∧h'.get? a=some oa∧a≠it∧a≠S)→h'.get? h.objs.size=some (ziy e.key e.val)→h'.objs.size=h.objs.size+1 →
    (∀ b o,b≠it→h.get? b=some o→h'.get? b=some o)→wpAny (model prog w) A.in1 (do Builtin.List.listUpdate (.ref S) λ x=>x.push (.ref h.objs.size);again (.builtin "list.extend.loop" ⟨[.ref S,.ref it,res],[]⟩))
     (λ fin s'=>match fin with | .done f=>R (.ok f) s' | .again c'=>c'.quiet=true∧codeAny (model prog w) A c' R s') (λ e s'=>R (.error e) s') { s with heap:=h',toks:=tk }:=by
   intro h' first' f' ok' ov' hit' hfirst' ht hz kp'
   have hS':=kp' _ _ nSI hS
   have haz:acc.size=as.length:=by rw [← Array.length_toList,hacc,List.length_map]
   refine wpAny_bind (wpAny_updateSeq (a:=S) (s:={ s with heap:=h',toks:=tk }) hS' rfl ?_ (by omega) (by rw [Array.size_push];omega))
   refine wpAny_pure ⟨plainId_quiet F.plain_extend_loop _,?_⟩
   have nt:h.objs.size≠S:=Nat.ne_of_gt hSL
   have nti:h.objs.size≠it:=Nat.ne_of_gt hItL
   have oth:∀ b,b≠S→(h'.update S (Obj.mapSeq λ x=>x.push (.ref h.objs.size))).get? b=h'.get? b:=λ b hb=>Heap.get?_update_other _ _ (Ne.symm hb)
   have self:(h'.update S (Obj.mapSeq λ x=>x.push (.ref h.objs.size))).get? S=some { cls := .type "list",data := .seq (acc.push (.ref h.objs.size)) (if (acc.push (.ref h.objs.size)).size == acc.size then c else c+1) }:=by
    exact Heap.get?_update_self _ hS' rfl
   refine ih (i+1) _ tk _ _ (as++[h.objs.size]) first' f' ok' ov' (by omega) (by omega) (by rw [oth _ nSI.symm];exact hit') ?_ ?_ ?_ self ?_ ?_ ?_ ?_ ?_
   ·rcases hfirst' with z | ⟨a,oa,z1,z2,z3,z4⟩
    ·exact .inl z
    ·exact .inr ⟨a,oa,z1,by rw [oth _ z4];exact z2,z3,z4⟩
   ·obtain ⟨o,o1,o2⟩:=hd
    exact ⟨o,by rw [oth _ ndS];exact kp' _ _ ndI o1,o2⟩
   ·intro b o hb1 hb2 q
    rw [oth _ hb1]
    exact kp' _ _ hb2 (kp b o hb1 hb2 q)
   ·rw [Array.toList_push,hacc,List.map_append]
    rfl
   ·rw [List.length_append,List.length_cons,List.length_nil];omega
   ·refine ⟨λ j a q=>?_,List.nodup_append.mpr ⟨hG.nd,List.nodup_cons.mpr ⟨by simp,List.nodup_nil⟩,λ x hx y hy=>?_⟩⟩
    rotate_left
    ·rw [List.mem_singleton.mp hy]
     obtain ⟨j,hj⟩:=List.getElem?_of_mem hx
     obtain ⟨_,_,_,q3⟩:=hG.at_ j x hj
     exact Nat.ne_of_lt (Heap.lt_size q3)
    rcases Nat.lt_or_ge j as.length with hj | hj
    ·rw [List.getElem?_append_left hj] at q
     obtain ⟨q1,e1,q2,q3⟩:=hG.at_ j a q
     obtain ⟨n1,n2⟩:=hne a (List.mem_of_getElem? q)
     exact ⟨q1,e1,q2,by rw [oth _ n1];exact kp' _ _ n2 q3⟩
    ·have hj':j=as.length:=by
      have:=(List.getElem?_eq_some_iff.mp q).1
      rw [List.length_append,List.length_cons,List.length_nil] at this
      omega
     rw [hj',List.getElem?_concat_length] at q
     cases q
     refine ⟨hlo,e,by rw [hj',hal];exact he,?_⟩
     rw [oth _ nt]
     exact ht
   ·intro a ha
    rcases List.mem_append.mp ha with z | z
    ·exact hne a z
    ·rw [List.mem_singleton.mp z];exact ⟨nt,nti⟩
   ·rw [Heap.size_update,hz];exact Nat.le_succ_of_le hlo
  rcases hfirst with ⟨rfl,rfl⟩ | ⟨a,oa,rfl,ha,hai,haS⟩
  ·refine wpAny_bind (zkq (s:={ s with heap:=h,toks:=tk }) hit hd he λ h' g1 g2 g3 g4=>?_)
   exact go h' _ _ _ _ g1 (.inr ⟨_,_,rfl,g2,Nat.ne_of_gt hItL,Nat.ne_of_gt hSL⟩) g2 g3 g4
  ·refine wpAny_bind (zuq (s:={ s with heap:=h,toks:=tk }) hit ha hai hd he λ h' g1 g2 g3 g4=>?_)
   exact go h' _ _ _ _ g1 (.inr ⟨a,oa,rfl,g4 _ _ hai ha,hai,haS⟩) g2 g3 g4
theorem zjh {R:List Value→Shared→Prop} (hh:A.handled=none) (hv:s.heap.IsItemsView r d) (hd:RawD s.heap d ds ep) (hn:ds.size≤sizeLine)
  (k:∀ h' tk as,(∀ b o,s.heap.get? b=some o→h'.get? b=some o)→as.length=ds.size→Got ds s.heap.objs.size h' as→R (as.map Value.ref) { s with heap:=h',toks:=tk }):wpAny (model prog w) A (collect (.ref r)) R E s:=by
 unfold collect
 refine wpAny_bind (wpAny_runValue (codeAny_builtin entry_proto_collect' ?_))
 rw [Around.under_plainId F.plain_proto_collect]
 refine wpAny_bind (wpAny_newObj_type (wpAny_pure ⟨plainId_quiet F.plain_list_iadd _,codeAny_builtin entry_list_iadd' ?_⟩))
 rw [Around.under_plainId F.plain_list_iadd]
 obtain ⟨o,d1,d2,d3⟩:=id hd
 obtain ⟨vo,v1,v2⟩:=id hv
 obtain ⟨h1,hh1⟩:∃ h1,h1=s.heap.push { cls := .type "list",data := .seq (#[]:Array Value) }:=⟨_,rfl⟩
 have hS1:h1.get? s.heap.objs.size=some { cls := .type "list",data := .seq #[] }:=by rw [hh1];exact Heap.get?_push_size _ rfl
 have kp1:∀ b ob,s.heap.get? b=some ob→h1.get? b=some ob:=λ b ob e=>by rw [hh1];exact Heap.get?_push_of_some _ e
 have z1:h1.objs.size=s.heap.objs.size+1:=by rw [hh1,Heap.size_push]
 have hv1:h1.IsItemsView r d:=⟨vo,kp1 _ _ v1,v2⟩
 have hd1:RawD h1 d ds ep:=⟨o,kp1 _ _ d1,d2,d3⟩
 show wpAny _ _ (Builtin.«list.__iadd__» _) _ _ { s with heap:=s.heap.push { cls := .type "list",data := .seq (#[]:Array Value) } }
 rw [← hh1]
 unfold Builtin.«list.__iadd__»
 refine wpAny_bind (wpAny_pure ?_)
 show wpAny _ _ (Builtin.List.listExtendWith (.ref s.heap.objs.size) (.ref r) (.ref s.heap.objs.size)) _ _ _
 unfold Builtin.List.listExtendWith
 have hv1':({ s with heap:=h1 }:Shared).heap.IsItemsView r d:=hv1
 refine wpAny_bind (wpAny_typeOf hv1'.typeIs ?_)
 have nr:s.heap.objs.size≠r:=Nat.ne_of_gt (Heap.lt_size v1)
 rw [if_neg (by simp [Builtin.List.listSameRef,nr])]
 refine wpAny_bind (zso (s:={ s with heap:=h1 }) hv1 hd1 ?_)
 obtain ⟨h2,hh2⟩:∃ h2,h2=h1.push (zhi d 0 ds.size ep .none false .none .none):=⟨_,rfl⟩
 have z2:h2.objs.size=h1.objs.size+1:=by rw [hh2,Heap.size_push]
 have kp2:∀ b ob,h1.get? b=some ob→h2.get? b=some ob:=λ b ob e=>by rw [hh2];exact Heap.get?_push_of_some _ e
 have i2:h2.get? h1.objs.size=some (zhi d 0 ds.size ep .none false .none .none):=by rw [hh2];exact Heap.get?_push_size _ rfl
 show wpAny _ _ _ _ _ { s with heap:=h1.push (zhi d 0 ds.size ep .none false .none .none) }
 rw [← hh2]
 have hv2:({ s with heap:=h2 }:Shared).heap.IsItemsView r d:=⟨vo,kp2 _ _ (kp1 _ _ v1),v2⟩
 refine wpAny_bind (wpAny_holding (W.kdx_hint hv2.typeIs ?_))
 have nSI:s.heap.objs.size≠h1.objs.size:=by rw [z1];exact Nat.ne_of_lt (Nat.lt_succ_self _)
 have ndS:d≠s.heap.objs.size:=Nat.ne_of_lt (Heap.lt_size d1)
 have ndI:d≠h1.objs.size:=Nat.ne_of_lt (Heap.lt_size (kp1 _ _ d1))
 have fin:∀ h3 c,h3.objs.size=h2.objs.size→(∀ b,b≠s.heap.objs.size→h3.get? b=h2.get? b)→h3.get? s.heap.objs.size=some { cls := .type "list",data := .seq #[] c } →
   codeAny (model prog w) A (.builtin "list.extend.loop" ⟨[.ref s.heap.objs.size,.ref h1.objs.size,.ref s.heap.objs.size],[]⟩) (λ r s'=>∃ h' tk acc c' as,r = .ok (.ret (.ref s.heap.objs.size))∧s'={ s with heap:=h',toks:=tk }∧(∀ b ob,s.heap.get? b=some ob→h'.get? b=some ob)∧h'.get? s.heap.objs.size=some { cls := .type "list",data := .seq acc c' }∧as.length=ds.size∧Got ds s.heap.objs.size h' as∧acc.toList=as.map Value.ref) { s with heap:=h3,toks:=s.toks }:=by
  intro h3 c z3 oth3 hS3
  refine zho (ep:=ep) (d:=d) (h1:=h2) (lo:=s.heap.objs.size) hh hn nSI ndS ndI (.ref s.heap.objs.size) ?_ (ds.size - 0) 0 h3 s.toks c #[] [] .none false .none .none rfl (Nat.zero_le _) (by rw [oth3 _ nSI.symm];exact i2) (.inl ⟨rfl,rfl⟩) ⟨o,by rw [oth3 _ ndS];exact kp2 _ _ (kp1 _ _ d1),d2,d3⟩ (λ b ob hb1 hb2 e=>by rw [oth3 _ hb1];exact e) hS3 rfl rfl ⟨(λ j a e=>by simp at e),List.nodup_nil⟩ (λ a ha=>by simp at ha) (by rw [z3,z2,z1];exact Nat.le_succ_of_le (Nat.le_succ _))
  intro h' tk acc c' as kp' hS' hal hG hacc
  exact ⟨h',tk,acc,c',as,rfl,rfl,λ b ob e=>kp' b ob (Nat.ne_of_lt (Heap.lt_size e)) (Nat.ne_of_lt (Heap.lt_size (kp1 _ _ e))) (kp2 _ _ (kp1 _ _ e)),hS',hal,hG,hacc⟩
 refine wpAny_ite_split (λ _=>?_) (λ _=>?_)
 ·refine wpAny_bind (wpAny_rule (wpAny_bind (wpAny_bind (wpAny_updateSeq (a:=s.heap.objs.size) (s:={ s with heap:=h2 }) (kp2 _ _ hS1) rfl ?_ (Nat.zero_le _) (by show 1≤_;rw [sizeLine_eq];omega)))))
  have self:(h2.update s.heap.objs.size (Obj.mapSeq λ x=>x.push .none)).get? s.heap.objs.size=some { cls := .type "list",data := .seq #[.none] 1 }:=Heap.get?_update_self _ (kp2 _ _ hS1) rfl
  refine wpAny_updateSeq (a:=s.heap.objs.size) self rfl ?_ (by show 1≤_;rw [sizeLine_eq];omega) (Nat.zero_le _)
  refine wpAny_pure ⟨plainId_quiet F.plain_extend_loop _,codeAny_mono (fin _ 2 ?_ ?_ ?_) λ r s' ⟨h',tk,acc,c',as,e1,e2,kp',hS',hal,hG,hacc⟩=>?_⟩
  ·rw [Heap.size_update,Heap.size_update]
  ·intro b hb
   rw [Heap.get?_update_other _ _ (Ne.symm hb),Heap.get?_update_other _ _ (Ne.symm hb)]
  ·exact Heap.get?_update_self _ self rfl
  ·subst e1 e2
   refine wpAny_bind (wpAny_load hS' ?_)
   dsimp only
   rw [hacc]
   exact wpAny_pure (k h' tk as kp' hal hG)
 ·refine wpAny_pure ⟨plainId_quiet F.plain_extend_loop _,codeAny_mono (fin h2 0 rfl (λ _ _=>rfl) (kp2 _ _ hS1)) λ r s' ⟨h',tk,acc,c',as,e1,e2,kp',hS',hal,hG,hacc⟩=>?_⟩
  subst e1 e2
  refine wpAny_bind (wpAny_load hS' ?_)
  dsimp only
  rw [hacc]
  exact wpAny_pure (k h' tk as kp' hal hG)
end
noncomputable def layT (H:Hp):List (Addr×List V)→Hp
 | []=>H
 | t::ts=>upd (layT H ts) t.1 (.tup t.2)
theorem zwd {H:Hp} {b:Addr}:∀ {ts:List (Addr×List V)},(∀ t∈ts,b≠t.1)→layT H ts b=H b
 | [],_=>rfl
 | t::ts,h=>by
  show upd (layT H ts) t.1 (.tup t.2) b=H b
  rw [zga (h t List.mem_cons_self)]
  exact zwd λ u hu=>h u (List.mem_cons_of_mem _ hu)
theorem zes {H:Hp} {b:Addr} {o:HO}:∀ {ts:List (Addr×List V)},layT H ts b=some o→(∃ t∈ts,t.1=b∧o = .tup t.2) ∨ ((∀ t∈ts,b≠t.1)∧H b=some o)
 | [],h=>.inr ⟨(λ _ z=>by cases z),h⟩
 | t::ts,h=>by
  have h:upd (layT H ts) t.1 (.tup t.2) b=some o:=h
  by_cases hb:b=t.1
  ·subst hb
   rw [upd_same] at h
   exact .inl ⟨t,List.mem_cons_self,rfl,(Option.some.inj h).symm⟩
  ·rw [zga hb] at h
   rcases zes h with ⟨u,hu,e1,e2⟩ | ⟨h1,h2⟩
   ·exact .inl ⟨u,List.mem_cons_of_mem _ hu,e1,e2⟩
   ·refine .inr ⟨λ u hu=>?_,h2⟩
    rcases List.mem_cons.mp hu with rfl | hu
    ·exact hb
    ·exact h1 u hu
theorem zjr {H:Hp}:∀ {ts:List (Addr×List V)} {t:Addr×List V},(ts.map (·.1)).Nodup→t∈ts→layT H ts t.1=some (.tup t.2)
 | u::ts,t,hd,ht=>by
  show upd (layT H ts) u.1 (.tup u.2) t.1=some (.tup t.2)
  rcases List.mem_cons.mp ht with rfl | ht'
  ·exact upd_same
  ·have hn:=(List.nodup_cons.mp hd)
   rw [zga (λ z=>hn.1 (by show u.1∈_;rw [← z];exact List.mem_map_of_mem (f:=(·.1)) ht'))]
   exact zjr hn.2 ht'
section
variable {X:Cx} {pins:List (Addr×Obj)} {σ:St} {H:Hp} {s:Shared} {h':Heap}
theorem Inv.laidAll {t':Nat} (I:Inv X pins σ H s) (k:∀ b u,s.heap.get? b=some u→h'.get? b=some u) {ts:List (Addr×List V)} (hts:∀ t∈ts,s.heap.objs.size≤t.1∧ObjOk X.prog X.w H h' t.1 (.tup t.2)) :
  Inv X pins σ (layT H ts) { s with heap:=h',toks:=t' }:=by
 have old:∀ b u,H b=some u→∀ t∈ts,b≠t.1:=λ b u q t ht=>Nat.ne_of_lt (Nat.lt_of_lt_of_le (I.hok.lt q) (hts t ht).1)
 refine I.un ⟨λ b u q _ _ _=>k b u q,λ b u q _ _ _=>⟨u.slots,k b u q⟩,λ b u q n _=>?_,λ b u q _=>⟨u,k b u q⟩,λ b xs q=>?_,λ b u xs q=>?_,λ b ps q=>⟨#[],?_⟩⟩ ?_
 ·rw [zwd λ t ht=>Nat.ne_of_lt (Nat.lt_of_lt_of_le (Heap.lt_size q) (hts t ht).1)];exact n
 ·rw [zwd (old b _ q)];exact q
 ·rw [zwd (old b _ q)];exact q
 ·rw [zwd (old b _ q),q];simp
 ·intro b o q
  rcases zes q with ⟨t,ht,rfl,rfl⟩ | ⟨hb,q⟩
  ·exact (hts t ht).2
  ·exact (I.hok b o q).stay (λ c v _ e=>k c v e) (λ c e=>by rw [zwd (old c _ e)];exact e) λ c xs e=>by rw [zwd (old c _ e)];exact e
end
end L2
namespace L2
open PySem PySem.Spec PyProof.Rows PySem.NumText
section
variable {prog:Program} {w:World} {A:Around} {E:Value→Shared→Prop} {s:Shared} {l:Addr} {xs:Array Value} {c:Nat} {sl:Array (Option Value)}
theorem zkk {Q:Option Value→Shared→Prop} (hh:A.handled=none) (ho:s.heap.get? l=some { cls := .type "list",data := .seq xs c,slots:=sl })
  (k:∀ h' tk,(∀ b o,s.heap.get? b=some o→h'.get? b=some o)→Q none { s with heap:=h',toks:=tk }):wpAny (model prog w) A (getAttr? (.ref l) (Str.ofString "keys")) Q E s:=by
 unfold getAttr? mkText
 refine wpAny_bind (wpAny_bind (wpAny_fresh' (wpAny_pure ?_)))
 unfold getAttrBy?
 have ty:∀ tk,({ s with toks:=tk }:Shared).TypeIs (.ref l) "list" := λ tk=>⟨_,ho,rfl⟩
 refine wpAny_bind (wpAny_attempt ?_)
 unfold getAttrBy
 refine wpAny_holding (wpAny_bind (wpAny_typeOf (ty _) (wpAny_bind (wpAny_of_eq F.slot_list_getattribute.lookup ?_))))
 dsimp only
 rw [if_neg (by decide)]
 unfold getAttrByItsOwn hookBefore
 refine wpAny_bind (wpAny_of_eq (a:=none) (if_neg (by decide)) (wpAny_bind (wpAny_attempt (wpAny_holding ?_))))
 unfold callGetattribute
 rw [if_neg (by decide)]
 unfold boundAndCalled
 refine wpAny_bind (wpAny_of_eq (F.slot_list_getattribute.bind (.ref l)) ?_)
 have hmiss:typeLookup (.type "list") (Str.ofString "keys")=pure none:=am_miss_of_fast (by decide +kernel)
 refine call_meets F.slot_list_getattribute (ty _) am_entry_list_getattribute (F.args_list_getattribute_2 _ _) (meets_getattribute_miss_list l xs c sl _ _ hmiss (by decide +kernel) (by rw [sizeLine_eq];decide +kernel)) ⟨ho,hh,λ h' tk e ne=>?_⟩
 show wpAny _ _ (getattributeRaised _ _ _ _ _ _ _) _ _ _
 obtain ⟨t,u,he⟩:=ne.there
 unfold getattributeRaised
 refine wpAny_bind (wpAny_isInstance ⟨_,he,rfl⟩ sub_AttributeError ?_)
 rw [if_pos rfl]
 unfold hookBehind
 rw [if_neg (by decide)]
 refine wpAny_bind (wpAny_of_eq am_list_getattr_none ?_)
 unfold hookOrError attributeErrorLeaves
 dsimp only
 rw [if_pos (by decide)]
 refine wpAny_bind (wpAny_throw ?_)
 refine wpAny_bind (wpAny_isInstance ⟨_,he,rfl⟩ sub_AttributeError ?_)
 rw [if_pos rfl]
 exact wpAny_pure (k h' tk ne.keeps)
end
theorem zkd:entryFor table "dict.update.loop" = some Builtin.«dict.update.loop» := entryFor_of_tree (by rfl)
theorem zib:plainId "dict.update.loop" = true:=by decide +kernel
noncomputable abbrev Row:=List Key×Addr×Value
noncomputable def zdb (xs:List Row) (ps:List Row):List Row:=ps.foldl (λ xs p=>storedH xs p.1 p.2.1 p.2.2) xs
section
variable {prog:Program} {w:World} {A:Around} {E:Value→Shared→Prop} {s:Shared} {l d it:Addr}
theorem zim (xs:List Row) (k:List Key) (a:Addr) (v:Value):(storedH xs k a v).length≤xs.length+1:=by
 unfold storedH
 split
 ·rw [List.length_map];omega
 ·rw [List.length_append];exact Nat.le_refl _
theorem zlm {xs:List Row} {k:List Key} {a:Addr} {v:Value} {x:Row} (h:x∈storedH xs k a v):x.2.1=a ∨ ∃ y∈xs,y.2.1=x.2.1:=by
 unfold storedH at h
 split at h
 ·obtain ⟨y,hy,rfl⟩:=List.mem_map.mp h
  refine .inr ⟨y,hy,?_⟩
  unfold putAt
  split <;> rfl
 ·rcases List.mem_append.mp h with z | z
  ·exact .inr ⟨x,z,rfl⟩
  ·rw [List.mem_singleton.mp z];exact .inl rfl
theorem zom {h h':Heap} {k:List Key} {a:Addr} (hi:(dK prog w).is h k a) (q:∀ o,h.get? a=some o→h'.get? a=some o):(dK prog w).is h' k a:=by
 obtain ⟨o,its,n,h1,r⟩:=hi
 exact ⟨o,its,n,q o h1,r⟩
theorem zzg {h h':Heap} {xs:List Row} (hd:h.DictOfH (dK prog w) d xs) (q:∀ b o,b≠it→h.get? b=some o→h'.get? b=some o) (ndi:d≠it) (hn:∀ x∈xs,x.2.1≠it):h'.DictOfH (dK prog w) d xs:=by
 obtain ⟨o,ds,ep,a1,a2,a3,a4,a5,a6⟩:=hd
 exact ⟨o,ds,ep,q _ _ ndi a1,a2,a3,a4,λ x hx=>zom (a5 x hx) λ o e=>q _ _ (hn x hx) e,a6⟩
theorem zbe (ps:List Row) (p:Row):zdb [] (ps++[p])=storedH (zdb [] ps) p.1 p.2.1 p.2.2:=by
 unfold zdb
 rw [List.foldl_append]
 rfl
theorem zbf:∀ (ps:List Row) (xs:List Row),(zdb xs ps).length≤xs.length+ps.length
 | [],xs=>Nat.le_refl _
 | p::ps,xs=>by
  have h1:=zbf ps (storedH xs p.1 p.2.1 p.2.2)
  have h2:=zim xs p.1 p.2.1 p.2.2
  show (zdb (storedH xs p.1 p.2.1 p.2.2) ps).length≤xs.length+(ps.length+1)
  omega
theorem zlk {R:Result→Shared→Prop} {items:Array Value} {ps:List Row} (hh:A.handled=none) (room:(dK prog w).room A.in1) (ndl:d≠l) (ndi:d≠it) (nli:l≠it) {h1:Heap} (res:Value) (hlen:items.size=ps.length) (hsz:ps.length≤1000)
  (hps:∀ (i:Nat) p,ps[i]? = some p→∃ t,items[i]? = some (.ref t)∧t≠d∧t≠it∧p.2.1≠d∧p.2.1≠it∧IsTup h1 t #[.ref p.2.1,p.2.2]∧(dK prog w).is h1 p.1 p.2.1)
  (k:∀ h' tk,(∀ b o,b≠d→b≠it→h1.get? b=some o→h'.get? b=some o)→h'.DictOfH (dK prog w) d (zdb [] ps)→R (.ok (.ret res)) { s with heap:=h',toks:=tk }) :
  ∀ (n i:Nat) (h:Heap) (tk:Nat) (cnt:Int) (ct:Tok),ps.length - i=n→i≤ps.length→h.IsListIter it l i→h.IsList l items→(∀ b o,b≠d→b≠it→h1.get? b=some o→h.get? b=some o)→h.DictOfH (dK prog w) d (zdb [] (ps.take i))→(∀ x∈zdb [] (ps.take i),x.2.1≠it∧x.2.1≠d) →
   codeAny (model prog w) A (.builtin "dict.update.loop" ⟨[.ref d,.ref it,.int cnt ct,res],[]⟩) R { s with heap:=h,toks:=tk }:=by
 intro n
 induction n with
 | zero =>
  intro i h tk cnt ct hni hi hit hl kp hd hx
  refine codeAny_builtin zkd ?_
  rw [Around.under_plainId zib]
  refine wpAny_bind (wpAny_pyNext_list_end (s:={ s with heap:=h,toks:=tk }) hh hit hl (by rw [Array.getElem?_eq_none];omega) λ h' ex=>?_)
  refine wpAny_bind (wpAny_bind (wpAny_pure (wpAny_pure (wpAny_pure ?_))))
  refine k h' tk (λ b o h1' h2' e=>ex b o h2' (kp b o h1' h2' e)) ?_
  have e:ps.take i=ps:=List.take_of_length_le (by omega)
  rw [e] at hd hx
  exact zzg hd ex ndi λ x q=>(hx x q).1
 | succ n ih =>
  intro i h tk cnt ct hni hi hit hl kp hd hx
  obtain ⟨p,hp⟩:∃ p,ps[i]? = some p:=⟨_,List.getElem?_eq_getElem (by omega)⟩
  obtain ⟨t,ht,n1,n2,n3,n4,ht1,his⟩:=hps i p hp
  refine codeAny_builtin zkd ?_
  rw [Around.under_plainId zib]
  refine wpAny_bind (wpAny_pyNext_list_item (s:={ s with heap:=h,toks:=tk }) hit hl ht λ h2 hit2 sb=>?_)
  obtain ⟨to,tc1,tc2,tn,tc3⟩:=ht1
  have ht2:h2.get? t=some to:=(sb.2 t n2).trans (kp t _ n1 n2 tc1)
  have hd2:h2.DictOfH (dK prog w) d (zdb [] (ps.take i)):=zzg hd (λ b o hb e=>(sb.2 b hb).trans e) ndi λ x q=>(hx x q).1
  have his2:(dK prog w).is h2 p.1 p.2.1:=zom his λ o e=>(sb.2 _ n4).trans (kp _ _ n3 n4 e)
  have hlt:(zdb [] (ps.take i)).length≤sizeLine:=by
   have:=zbf (ps.take i) []
   rw [List.length_take,List.length_nil] at this
   rw [sizeLine_eq]
   omega
  refine wpAny_bind (wpAny_holding (wpAny_bind ?_))
  rw [← Sem.tryCatch_eq]
  refine wpAny_tryCatch ?_
  unfold Builtin.Dict.pairItems
  refine wpAny_bind (wpAny_typeOf (T := "tuple") ⟨_,ht2,tc2⟩ ?_)
  rw [if_pos (by decide)]
  refine wpAny_bind (wpAny_seqItems ht2 tc3 (wpAny_pure ?_))
  show wpAny _ _ (holding [.ref p.2.1,p.2.2] (dictSet d (.ref p.2.1) p.2.2)) _ _ _
  refine wpAny_holding (wpAny_dictSet_heap (hsz:=hlt) room his2 hd2 λ h3 hd3 sb3=>?_)
  refine wpAny_pure ⟨plainId_quiet zib _,?_⟩
  have e1:ps.take (i+1)=ps.take i++[p]:=by
   obtain ⟨hlt',rfl⟩:=List.getElem?_eq_some_iff.mp hp
   exact List.take_succ_eq_append_getElem hlt'
  have keep3:∀ b o,b≠d→b≠it→h.get? b=some o→h3.get? b=some o:=λ b o hb1 hb2 e=>(sb3.2 b hb1).trans ((sb.2 b hb2).trans e)
  refine ih (i+1) h3 _ (cnt+1) 0 (by omega) (by omega) ?_ ?_ (λ b o hb1 hb2 e=>keep3 b o hb1 hb2 (kp b o hb1 hb2 e)) ?_ ?_
  ·obtain ⟨o,a1,a2⟩:=hit2
   exact ⟨o,(sb3.2 it ndi.symm).trans a1,a2⟩
  ·obtain ⟨o,a1,a2⟩:=hl
   exact ⟨o,keep3 _ _ ndl.symm nli a1,a2⟩
  ·rw [e1,zbe];exact hd3
  ·rw [e1,zbe]
   intro x hxm
   rcases zlm hxm with z | ⟨y,hy,z⟩
   ·rw [z];exact ⟨n4,n3⟩
   ·rw [← z];exact hx y hy
theorem zhg {Q:Value→Shared→Prop} {items:Array Value} {ps:List Row} {sl:Array (Option Value)} {c:Nat} (hh:A.handled=none) (room:(dK prog w).room A.in1.in1) (ho:s.heap.get? l=some { cls := .type "list",data := .seq items c,slots:=sl }) (hlen:items.size=ps.length) (hsz:ps.length≤1000)
  (hps:∀ (i:Nat) p,ps[i]? = some p→∃ t,items[i]? = some (.ref t)∧IsTup s.heap t #[.ref p.2.1,p.2.2]∧(dK prog w).is s.heap p.1 p.2.1)
  (k:∀ h' tk,(∀ b o,s.heap.get? b=some o→h'.get? b=some o)→h'.DictOfH (dK prog w) s.heap.objs.size (zdb [] ps)→Q (.ref s.heap.objs.size) { s with heap:=h',toks:=tk }):wpAny (model prog w) A (call (.type "dict") [.ref l]) Q E s:=by
 obtain ⟨h1,hh1⟩:∃ h1,h1=s.heap.push { cls := .type "dict",data := .dict (#[]:Array DictEntry) }:=⟨_,rfl⟩
 have kp1:∀ b o,s.heap.get? b=some o→h1.get? b=some o:=λ b o e=>by rw [hh1];exact Heap.get?_push_of_some _ e
 have hd1:h1.get? s.heap.objs.size=some { cls := .type "dict",data := .dict #[] }:=by rw [hh1];exact Heap.get?_push_size _ rfl
 refine callType_codes (Q₁:=λ obj s1=>obj = .ref s.heap.objs.size∧s1={ s with heap:=h1 }) F.kt_called_dict (F.kt_typeCall_dict_1 _) F.entry_dict_init (kt_code_dict_new _ ⟨rfl,by rw [hh1]⟩) λ obj s1 ⟨e1,e2⟩=>?_
 subst e1 e2
 have td:({ s with heap:=h1 }:Shared).TypeIs (.ref s.heap.objs.size) "dict" := ⟨_,hd1,rfl⟩
 refine ⟨td,F.args_dict_init_2 _ _,?_⟩
 unfold Builtin.«dict.__init__» Builtin.Dict.selfAndRest
 refine wpAny_bind (wpAny_bind (wpAny_notOrdered_dict td ?_))
 refine wpAny_bind (wpAny_pure (wpAny_pure ?_))
 show wpAny _ _ (Builtin.Dict.updateFrom "dict.__init__" s.heap.objs.size (.ref l) [] .none) _ _ _
 unfold Builtin.Dict.updateFrom
 have ho1:=kp1 _ _ ho
 refine wpAny_bind (wpAny_typeOf (T := "list") ⟨_,ho1,rfl⟩ ?_)
 rw [if_pos (by decide)]
 refine wpAny_bind (zkk (s:={ s with heap:=h1 }) hh ho1 λ h2 tk kp2=>?_)
 rw [if_pos (by decide)]
 refine wpAny_bind (wpAny_rule ?_)
 have hl2:h2.IsList l items:=⟨_,kp2 _ _ ho1,rfl,c,rfl⟩
 refine wpAny_bind (wpAny_pyIter_list (s:={ s with heap:=h2,toks:=tk }) hl2 ?_)
 refine wpAny_pure ⟨plainId_quiet zib _,?_⟩
 obtain ⟨h3,hh3⟩:∃ h3,h3=h2.push { cls := .type "list_iterator",data := .fields #[.ref l,.int 0 0] }:=⟨_,rfl⟩
 have kp3:∀ b o,h2.get? b=some o→h3.get? b=some o:=λ b o e=>by rw [hh3];exact Heap.get?_push_of_some _ e
 have it3:h3.IsListIter h2.objs.size l 0:=by rw [hh3];exact ⟨_,Heap.get?_push_size _ rfl,rfl,rfl⟩
 show codeAny _ _ (.builtin "dict.update.loop" ⟨[.ref s.heap.objs.size,.ref h2.objs.size,.int 0 0,.none],[]⟩) _ { s with heap:=h2.push { cls := .type "list_iterator",data := .fields #[.ref l,.int 0 0] },toks:=tk }
 rw [← hh3]
 have old:∀ b o,s.heap.get? b=some o→h3.get? b=some o∧b≠s.heap.objs.size∧b≠h2.objs.size:=λ b o e=>⟨kp3 _ _ (kp2 _ _ (kp1 _ _ e)),Nat.ne_of_lt (Heap.lt_size e),Nat.ne_of_lt (Heap.lt_size (kp2 _ _ (kp1 _ _ e)))⟩
 have ndi:s.heap.objs.size≠h2.objs.size:=Nat.ne_of_lt (Heap.lt_size (kp2 _ _ hd1))
 refine zlk (A:=A.in1) (h1:=h3) (items:=items) (ps:=ps) (l:=l) (show A.in1.handled=none from hh) room (old _ _ ho).2.1.symm ndi (old _ _ ho).2.2 .none hlen hsz ?_ ?_ (ps.length - 0) 0 h3 tk 0 0 rfl (Nat.zero_le _) it3 ⟨_,(old _ _ ho).1,rfl,c,rfl⟩ (λ _ _ _ _ e=>e) ?_ (λ x hx=>by cases hx)
 ·intro i p hp
  obtain ⟨t,q1,⟨to,q2,q3⟩,q4⟩:=hps i p hp
  have ht:=old _ _ q2
  have q4':=q4
  obtain ⟨po,_,_,r1,_⟩:=q4'
  have hq:=old _ _ r1
  exact ⟨t,q1,ht.2.1,ht.2.2,hq.2.1,hq.2.2,⟨to,ht.1,q3⟩,zom q4 λ o e=>(old _ _ e).1⟩
 ·intro h' tk' kp' hd'
  refine ⟨rfl,k h' tk' (λ b o e=>?_) hd'⟩
  obtain ⟨q1,q2,q3⟩:=old b o e
  exact kp' b o q2 q3 q1
 ·exact ⟨_, #[],0,kp3 _ _ (kp2 _ _ hd1),⟨rfl,rfl,rfl⟩,rfl,rfl,(λ x hx=>by cases hx),List.nodup_nil⟩
end
noncomputable def zqb (es:List Ent) (ps:List Ent):List Ent:=ps.foldl (λ es p=>putM es p.1 p.2.1 p.2.2) es
theorem zzh:∀ {ps:List Ent} {rs:List Row},Paired EntR ps rs→∀ {es:List Ent} {xs:List Row},Paired EntR es xs→Paired EntR (zqb es ps) (zdb xs rs)
 | _,_,.nil,_,_,h=>h
 | p::ps,r::rs,.cons a b,es,xs,h=>by
  show Paired EntR (zqb (putM es p.1 p.2.1 p.2.2) ps) (zdb (storedH xs r.1 r.2.1 r.2.2) rs)
  refine zzh b ?_
  rw [a.1,a.2.1]
  exact zxr h p.1 a.2.2
theorem zdf:∀ (ps:List Ent) (es:List Ent),(zqb es ps).length≤es.length+ps.length
 | [],es=>Nat.le_refl _
 | p::ps,es=>by
  have h1:=zdf ps (putM es p.1 p.2.1 p.2.2)
  have h2:=zdm es p.1 p.2.1 p.2.2
  show (zqb (putM es p.1 p.2.1 p.2.2) ps).length≤es.length+(ps.length+1)
  omega
section
variable {X:Cx}
noncomputable def zev (K:W.Frag) (H:Hp) (ps:List Ent) (vs:List V):Prop:=Paired (λ (p:Ent) (v:V)=>∃ t,v = .ref t∧SqT K H t [.ref p.2.1,p.2.2]∧SqT K H p.2.1 (mkV p.1)) ps vs
noncomputable def zr0 (P:Program) (w:World) (K:W.Frag):List V→Hp→VK→Prop:=λ xs H Q=>∃ (p:Addr) (vs:List V) (ps:List Ent),xs=[.ref p]∧SqL K H p vs∧zev K H ps vs∧ps.length≤1000∧∀ q o,H q=none→Q (.ref q) (upd H q (dO P w q (zqb [] ps) o))
theorem zyh {pins:List (Addr×Obj)} {σ:St} {H:Hp} {s:Shared} (I:Inv X pins σ H s):∀ {ps:List Ent} {vs:List V} {us:List Value},zev X.K H ps vs→Vals vs us→∃ rs:List Row,Paired EntR ps rs∧us.length=rs.length∧∀ (i:Nat) r,rs[i]? = some r→∃ t,us[i]? = some (.ref t)∧IsTup s.heap t #[.ref r.2.1,r.2.2]∧(dK X.prog X.w).is s.heap r.1 r.2.1
 | _,_,_,.nil,.nil=>⟨[],.nil,rfl,λ i r e=>by simp at e⟩
 | p::ps,v::vs,u::us,.cons a b,.cons ra rb=>by
  obtain ⟨rs,h1,h2,h3⟩:=zyh I b rb
  obtain ⟨t,rfl,ht,hm⟩:=a
  cases ra
  obtain ⟨its,rv,tp,_⟩:=I.tuple ht
  cases rv with
  | cons r1 r2 =>
   cases r2 with
   | cons r3 r4 =>
    cases r4
    cases r1
    rename_i uv
    refine ⟨(mkK p.1,p.2.1,uv)::rs,.cons ⟨rfl,rfl,r3⟩ h1,by rw [List.length_cons,List.length_cons,h2],λ i r e=>?_⟩
    cases i with
    | zero =>
     cases (Option.some.inj e)
     exact ⟨t,rfl,tp,I.mark hm⟩
    | succ i=>exact h3 i r (by simpa using e)
theorem zlo (hc:X.calm=true) (hu:X.A.units+100<cLine):zrj X (.type "dict") (zr0 X.prog X.w X.K):=by
 intro pins s σ H xs us Q I r h
 obtain ⟨p,vs,ps,rfl,hq,hp,hz,q⟩:=h
 obtain ⟨u,rfl,ru⟩:=zno r
 cases ru
 obtain ⟨its,rv,pl,hsz⟩:=I.list hq
 obtain ⟨rs,h1,h2,h3⟩:=zyh I hp rv
 have hpl:ps.length=rs.length:=Paired.length h1
 obtain ⟨o,n,ho,oc,od,odt⟩:=id pl
 obtain ⟨cls,dct,dat,sl⟩:=o
 cases oc
 cases od
 cases odt
 refine zhg (ps:=rs) (I.ok.hd hc) (tupleKind_room_in1 (A:=X.A.in1) (by show X.A.units+1+1<cLine;omega)) ho (by rw [List.size_toArray];exact h2) (by omega) (λ i r' e=>by rw [List.getElem?_toArray];exact h3 i r' e) λ h' tk kp dd=>?_
 have hb:(s.heap.objs.size == sysModules)=false:=beq_eq_false_iff_ne.mpr (Ne.symm (Nat.ne_of_lt I.bigM))
 have hl:=zdf ps []
 obtain ⟨ob,hob⟩:=zg0 (P:=X.prog) (w:=X.w) (H:=H) (es:=zqb [] ps) (Nat.le_of_lt (zka (by rw [List.length_nil] at hl;omega))) hb (zzh h1 .nil) dd
 exact ⟨.ref s.heap.objs.size,_,I.laid (t':=tk) kp (Nat.le_refl _) hob,rfl,q _ ob (I.hok.fresh (Nat.le_refl _))⟩
end
end L2
namespace L2
open PySem PySem.Spec PyProof.Rows PySem.NumText
noncomputable def zgz (v d:Addr):HO := .ext λ h=>h.IsItemsView v d
structure Raw (P:Program) (w:World) (es:List Ent) (o:Obj) (ds:Array DictEntry) (ep:Nat) (rs:List Row):Prop where
 rel:Paired EntR es rs
 cl:o.cls = .type "dict"
 dat:o.data = .dict ds ep
 lst:ds.toList=rs.map (entryOfKey (dK P w))
theorem Raw.size {P:Program} {w:World} {es:List Ent} {o:Obj} {ds:Array DictEntry} {ep:Nat} {rs:List Row} (R:Raw P w es o ds ep rs):ds.size=es.length:=by
 rw [← Array.length_toList,R.lst,List.length_map,← Paired.length R.rel]
theorem zwx:∀ {es:List Ent} {rs:List Row},Paired EntR es rs→∀ {i:Nat} {e:Ent},es[i]? = some e→∃ r,rs[i]? = some r∧EntR e r
 | _,_,.nil,i,e,h=>by simp at h
 | _,_,.cons a b,0,e,h=>by cases (Option.some.inj h);exact ⟨_,rfl,a⟩
 | _,_,.cons a b,i+1,e,h=>by
  obtain ⟨r,h1,h2⟩:=zwx b (i:=i) (by simpa using h)
  exact ⟨r,by simpa using h1,h2⟩
theorem Raw.at_ {P:Program} {w:World} {es:List Ent} {o:Obj} {ds:Array DictEntry} {ep:Nat} {rs:List Row} (R:Raw P w es o ds ep rs) {i:Nat} {e:Ent} (h:es[i]? = some e):∃ u q,ds[i]? = some u∧u.key = .ref e.2.1∧u.val=q∧RelV e.2.2 q:=by
 obtain ⟨r,h1,h2⟩:=zwx R.rel h
 refine ⟨entryOfKey (dK P w) r,r.2.2,?_,?_,rfl,h2.2.2⟩
 ·rw [← Array.getElem?_toList,R.lst,List.getElem?_map,h1];rfl
 ·show Value.ref r.2.1=_
  rw [h2.2.1]
section
variable {X:Cx} {pins:List (Addr×Obj)} {σ:St} {H:Hp} {s:Shared} {a:Addr} {es:List Ent} {o:Obj}
theorem Inv.raw (I:Inv X pins σ H s) (ob:H a=some (dO X.prog X.w a es o)):s.heap.get? a=some o∧(a == sysModules)=false∧es.length≤sizeLine∧∃ ds ep rs,Raw X.prog X.w es o ds ep rs:=by
 obtain ⟨⟨z,y,h1,xs,r,ds,ep,h2,h3,h4,h5⟩,_,_⟩:=(show ObjOk X.prog X.w H s.heap a (dO X.prog X.w a es o) from I.hok a _ ob)
 exact ⟨h1,y,z,ds,ep,xs,r,h2.1,h3,h4⟩
end
section
variable {X:Cx} {o:Expr} {td:TE} {apos cpos:Pos}
theorem zbn {prog:Program} {w:World} {A:Around} {E:Value→Shared→Prop} {s:Shared} {d:Addr} {Q:Value→Shared→Prop} (hT:s.TypeIs (.ref d) "dict") (hd:(d == sysModules)=false) (h:Q (.ref s.heap.objs.size) { s with heap:=s.heap.push { cls := .type "dict_items",data := .fields #[.ref d] } }) :
  wpAny (model prog w) A (call (.builtin "dict.items") [.ref d]) Q E s:=by
 refine wpAny_call_entry F.slot_dict_items hT F.entry_dict_items ?_ (F.args_dict_items_1 _)
 unfold Builtin.«dict.items» Builtin.Dict.noArgs Builtin.Dict.showsAll Builtin.Dict.nameIsSure
 refine wpAny_bind (wpAny_bind (wpAny_notOrdered_dict hT (wpAny_bind (wpAny_of_eq (a:=()) (if_neg (by show ¬ (false || false)=true;decide)) (wpAny_bind (wpAny_pure (wpAny_pure ?_)))))))
 rw [hd]
 refine wpAny_bind (wpAny_of_eq (a:=()) (if_neg Bool.false_ne_true) (wpAny_bind (wpAny_newObj_type (wpAny_pure ⟨_,rfl,h⟩) ?_)))
 simp only [sizeOk,List.size_toArray,List.length_cons,List.length_nil,sizeLine_eq]
 omega
noncomputable def zi0 (P:Program) (w:World) (td:TE):TE:=λ σ H Q=>td σ H λ x H1=>∃ a es o,x = .ref a∧H1 a=some (dO P w a es o)∧∀ v,H1 v=none→Q (.ref v) (upd H1 v (zgz v a))
theorem Inv.isDict {pins:List (Addr×Obj)} {σ:St} {H:Hp} {s:Shared} {a:Addr} {es:List Ent} {ob:Obj} (I:Inv X pins σ H s) (h:H a=some (dO X.prog X.w a es ob)):s.TypeIs (.ref a) "dict" ∧ ob.dict=none:=by
 obtain ⟨⟨z,y,h1,xs,r,ds,ep,h2,h3,h4,h5⟩,_,_⟩:=(show ObjOk X.prog X.w H s.heap a (dO X.prog X.w a es ob) from I.hok a _ h)
 exact ⟨⟨_,h1,h2.1⟩,h2.2.1⟩
theorem zxt (ho:PE X o td) (hbase:attributeBase o "items" X.env (eval o X.env)=eval o X.env:=by rfl) (hline:(apos.endLine == cpos.line)=true:=by rfl):PE X (.Call (.Attribute o "items" apos) [] [] cpos) (zi0 X.prog X.w td) := .mk <| by
 intro pins s σ H Q I h
 refine wpAny_Call_method0_late hbase hline (thn (ho pins s σ H _ I h) λ v s1 ⟨x,H1,I1,r1,a,es,ob,ex,hob,q1⟩=>?_)
 subst ex
 cases r1
 obtain ⟨hT,hdn⟩:=I1.isDict hob
 obtain ⟨h1,hb,_⟩:=I1.raw hob
 refine ⟨"dict", "dict.items",PySem.F.plainAttrs_dict,PySem.F.slot_dict_items,PySem.F.type_dict_items,hT,λ b e=>?_,Calls.callWith_builtin rfl (PySem.evalArgs_none (zbn hT hb ?_))⟩
 ·cases e
  exact ⟨ob,h1,hdn⟩
 ·have hat:=Heap.get?_push_size s1.heap (o:={ cls := .type "dict_items",data := .fields #[.ref a] }) rfl
  refine ⟨.ref s1.heap.objs.size,_,I1.laid (t':=s1.toks) (λ b u e=>Heap.get?_push_of_some _ e) (Nat.le_refl _) (o:=zgz s1.heap.objs.size a) ⟨⟨_,hat,rfl,rfl⟩,⟨_,hat⟩,?_⟩,rfl,q1 _ (I1.hok.fresh (Nat.le_refl _))⟩
  rintro g1 g2 ⟨vo,v1,v2⟩ k
  exact ⟨vo,k _ v1,v2⟩
end
end L2
namespace L2
open PySem PySem.Spec PyProof.Rows PySem.NumText
noncomputable def mLt (a b:Mark):Bool:=decide (a.1<b.1 ∨ (a.1=b.1∧a.2<b.2))
theorem mLt_sto:STO mLt where
 irr:=λ a=>decide_eq_false (by omega)
 tr:=λ a b c h1 h2=>by
  have h1:=of_decide_eq_true h1
  have h2:=of_decide_eq_true h2
  exact decide_eq_true (by omega)
 tri:=λ a b hn h=>by
  have h:=of_decide_eq_false h
  refine decide_eq_true ?_
  by_cases e1:a.1=b.1
  ·have e2:a.2≠b.2:=λ e2=>hn (Prod.ext e1 e2)
   omega
  ·omega
noncomputable def markD (m:Mark):PyData := .tuple [.int m.1,.int m.2]
theorem zek (a b:Mark):PyData.eqv (markD a) (markD b)=decide (a=b):=by
 have e:PyData.eqv (markD a) (markD b)=(a.1 == b.1 && (a.2 == b.2 && true)):=rfl
 rw [e,Bool.eq_iff_iff]
 obtain ⟨a1,a2⟩:=a
 obtain ⟨b1,b2⟩:=b
 simp
theorem zli (a b:Mark):ltD (markD a) (markD b)=some (mLt a b):=by
 show ltDs [.int a.1,.int a.2] [.int b.1,.int b.2]=_
 have i1:∀ x y:Int,PyData.eqv (.int x) (.int y)=(x == y):=λ _ _=>rfl
 have i2:∀ x y:Int,ltD (.int x) (.int y)=some (decide (x<y)):=λ _ _=>rfl
 unfold ltDs
 rw [i1]
 by_cases e1:a.1=b.1
 ·rw [if_pos (by simp [e1])]
  unfold ltDs
  rw [i1]
  by_cases e2:a.2=b.2
  ·rw [if_pos (by simp [e2])]
   unfold ltDs mLt
   simp [e1,e2]
  ·rw [if_neg (by simp [e2]),i2]
   unfold mLt
   simp [e1]
 ·rw [if_neg (by simp [e1]),i2]
  unfold mLt
  simp [e1]
theorem zsg {K:W.Frag} {H:Hp} {q:Addr} {m:Mark} (h:SqT K H q (mkV m)):DV K H (markD m) (.ref q):=⟨q,_,rfl,h,_,_,rfl,rfl,_,_,rfl,rfl,rfl⟩
theorem zll {K:W.Frag} {H:Hp} {m:Mark} {v:V} (h:DV K H (markD m) v):∃ q,v = .ref q∧SqT K H q (mkV m):=by
 obtain ⟨q,vs,rfl,h1,v1,r1,rfl,e1,v2,r2,rfl,e2,e3⟩:=h
 cases (show v1 = .int m.1 from e1)
 cases (show v2 = .int m.2 from e2)
 cases (show r2=[] from e3)
 exact ⟨q,rfl,h1⟩
noncomputable def zsp (val:Mark→PyData) (m:Mark):PyData := .tuple [markD m,val m]
theorem ztm {es:List Ent} {val:Mark→PyData} (hsh:∀ e∈es,SeqAt.shaped (zsp val e.1)=true) (nd:(es.map (·.1)).Nodup) (few:es.length<64):Srt (es.map (·.1)) (λ m=>[markD m,val m]) mLt .tup where
 sto:=mLt_sto
 few:=by rw [List.length_map];exact few
 nd:=nd
 lts:=by
  intro a ha b hb
  show (if PyData.eqv (markD a) (markD b)=true then ltDs [val a] [val b] else ltD (markD a) (markD b))=_
  rw [zek]
  by_cases e:a=b
  ·subst e
   rw [if_pos (decide_eq_true rfl),mLt_sto.irr]
   obtain ⟨e0,he0,rfl⟩:=List.mem_map.mp ha
   have h1:=hsh e0 he0
   unfold SeqAt.shaped at h1
   have h2:PyData.canLay0 (zsp val e0.1)=true:=by
    rw [Bool.and_eq_true] at h1
    exact h1.1
   have h3:PyData.eqvAll [markD e0.1,val e0.1] [markD e0.1,val e0.1]=true:=SeqAt.eqvAll_refl _ h2
   have h4:PyData.eqv (val e0.1) (val e0.1)=true:=by
    have h3:(PyData.eqv (markD e0.1) (markD e0.1) && (PyData.eqv (val e0.1) (val e0.1) && true))=true:=h3
    rw [Bool.and_eq_true,Bool.and_eq_true] at h3
    exact h3.2.1
   show (if PyData.eqv (val e0.1) (val e0.1)=true then ltDs [] [] else _)=_
   rw [if_pos h4]
   unfold ltDs
   rfl
  ·rw [if_neg (by rw [decide_eq_false e];exact Bool.false_ne_true)]
   exact zli a b
 fst:=λ a _=>⟨_,_,rfl,⟨_,rfl⟩⟩
 shp:=by
  intro a ha
  obtain ⟨e0,he0,rfl⟩:=List.mem_map.mp ha
  exact hsh e0 he0
noncomputable def zsz (K:W.Frag) (H:Hp) (es:List Ent) (val:Mark→PyData) (Q:VK):Prop:=∀ (H':Hp) (l:Addr) (bs:List Mark) (ws:List V),Same H H'→(Plain H→Plain H')→H' l=none→bs.Perm (es.map (·.1))→bs.Pairwise (λ a b=>mLt a b=true)→DVs K H' (bs.map (zsp val)) ws→Q (.ref l) (upd H' l (.lst ws))
theorem Plain.layT {H:Hp} (p:Plain H):∀ (ts:List (Addr×List V)),Plain (layT H ts)
 | []=>p
 | t::ts=>(Plain.layT p ts).tup
section
variable {X:Cx}
noncomputable def zk0 (P:Program) (w:World) (K:W.Frag):List V→Hp→VK→Prop:=λ xs H Q=>∃ (v a:Addr) (es:List Ent) (o:Obj) (val:Mark→PyData),xs=[.ref v]∧H v=some (zgz v a)∧H a=some (dO P w a es o)∧(∀ e∈es,SqT K H e.2.1 (mkV e.1))∧(∀ e∈es,DV K H (val e.1) e.2.2) ∧
 (∀ e∈es,SeqAt.shaped (zsp val e.1)=true)∧(es.map (·.1)).Nodup∧es.length<64∧zsz K H es val Q
theorem zki (hc:X.calm=true) (hu:X.A.units+100<cLine):zrj X (.builtin "sorted") (zk0 X.prog X.w X.K):=by
 intro pins s σ H xs us Q I r h
 obtain ⟨v,a,es,o,val,rfl,hv,ha,hk,hd,hsh,nd,few,q⟩:=h
 obtain ⟨u,rfl,ru⟩:=zno r
 cases ru
 obtain ⟨hview,_,_⟩:=I.hok v _ hv
 obtain ⟨h1,_,_,ds,ep,rs,RR⟩:=I.raw ha
 refine zxc (zjh (I.ok.hd hc) hview ⟨o,h1,RR.cl,RR.dat⟩ (by rw [RR.size,sizeLine_eq];omega) λ h' tk as kp hal hG=>?_)
 rw [RR.size] at hal
 have hts:∀ t∈List.zipWith (λ a (e:Ent)=>(a,[V.ref e.2.1,e.2.2])) as es,s.heap.objs.size≤t.1∧ObjOk X.prog X.w H h' t.1 (.tup t.2):=by
  intro t ht
  obtain ⟨j,hj⟩:=List.getElem?_of_mem ht
  rw [List.getElem?_zipWith] at hj
  cases ea:as[j]? with
  | none=>rw [ea] at hj;cases hj
  | some aj =>
   cases ee:es[j]? with
   | none=>rw [ea,ee] at hj;cases hj
   | some e =>
    rw [ea,ee] at hj
    cases hj
    obtain ⟨q1,u,q2,q3⟩:=hG.at_ j aj ea
    obtain ⟨u',x,q4,q5,q6,q7⟩:=RR.at_ ee
    rw [q4] at q2
    cases q2
    refine ⟨q1,by show 2≤sizeLine;decide,[.ref e.2.1,x],.cons rfl (.cons q7 .nil),⟨_,q3,rfl,0,?_⟩⟩
    rw [q5,q6]
    rfl
 have I1:=I.laidAll (t':=tk) kp hts
 have sm:Same H (layT H (List.zipWith (λ a (e:Ent)=>(a,[V.ref e.2.1,e.2.2])) as es)):=λ b z e=>by
  rw [zwd λ t ht=>Nat.ne_of_lt (Nat.lt_of_lt_of_le (I.hok.lt e) (hts t ht).1)];exact e
 have hnd:((List.zipWith (λ a (e:Ent)=>(a,[V.ref e.2.1,e.2.2])) as es).map (·.1)).Nodup:=by
  have:(List.zipWith (λ a (e:Ent)=>(a,[V.ref e.2.1,e.2.2])) as es).map (·.1)=as:=by
   rw [List.map_zipWith]
   exact List.ext_getElem? λ j=>by
    rw [List.getElem?_zipWith]
    cases ea:as[j]? with
    | none=>rfl
    | some aj =>
     cases ee:es[j]? with
     | none =>
      have h1:=(List.getElem?_eq_some_iff.mp ea).1
      have h2:=List.getElem?_eq_none_iff.mp ee
      omega
     | some e=>rfl
  rw [this]
  exact hG.nd
 have dvs:DVs X.K (layT H (List.zipWith (λ a (e:Ent)=>(a,[V.ref e.2.1,e.2.2])) as es)) ((es.map (·.1)).map (zsp val)) (as.map V.ref):=by
  have gen:∀ (as':List Addr) (es':List Ent),as'.length=es'.length→(∀ (j:Nat) aj e,as'[j]? = some aj→es'[j]? = some e→(aj,[V.ref e.2.1,e.2.2])∈List.zipWith (λ a (e:Ent)=>(a,[V.ref e.2.1,e.2.2])) as es∧e∈es)→DVs X.K (layT H (List.zipWith (λ a (e:Ent)=>(a,[V.ref e.2.1,e.2.2])) as es)) ((es'.map (·.1)).map (zsp val)) (as'.map V.ref):=by
   intro as'
   induction as' with
   | nil =>
    intro es' hl hm
    cases es' with
    | nil=>rfl
    | cons e es'=>cases hl
   | cons a1 as' ih =>
    intro es' hl hm
    cases es' with
    | nil=>cases hl
    | cons e es' =>
     obtain ⟨m1,m2⟩:=hm 0 a1 e rfl rfl
     refine ⟨_,_,rfl,⟨a1,_,rfl,SqT.of (zjr hnd m1),_,_,rfl,zsg (sm.seqT (hk e m2)),_,_,rfl,DV.same sm _ _ (hd e m2),rfl⟩,ih es' (by simpa using hl) λ j aj e h1 h2=>hm (j+1) aj e (by simpa using h1) (by simpa using h2)⟩
  refine gen as es hal λ j aj e h1 h2=>⟨List.mem_of_getElem? (i:=j) ?_,List.mem_of_getElem? h2⟩
  rw [List.getElem?_zipWith,h1,h2]
 have vals:Vals (as.map V.ref) (as.map Value.ref):=by
  clear hts I1 sm hnd dvs hal hG
  induction as with
  | nil=>exact .nil
  | cons a as ih=>exact .cons rfl ih
 exact zrn (s:=s) (α:=Mark) (enc:=λ m=>[markD m,val m]) (lt:=mLt) hu (ztm hsh nd few) I1 vals dvs λ l bs ws hl pm pw hw=>q _ l bs ws sm (λ p=>Plain.layT p _) hl pm pw hw
theorem ziq:zrj X (.builtin "len") (λ xs H Q=>∃ a es o,xs=[.ref a]∧H a=some (dO X.prog X.w a es o)∧Q (.int es.length) H):=by
 intro pins s σ H xs us Q I r h
 obtain ⟨a,es,o,rfl,ha,q⟩:=h
 obtain ⟨u,rfl,ru⟩:=zno r
 cases ru
 obtain ⟨hT,_⟩:=I.isDict ha
 obtain ⟨h1,hb,hz,ds,ep,rs,RR⟩:=I.raw ha
 have hz':es.length≤16777216:=by rw [← sizeLine_eq];exact hz
 refine PyProof.Rows.call_len_slot (n:=(es.length:Int)) hT F.slot_dict_len (λ Q' q'=>?_) (by omega) (by omega) ⟨.int es.length,H,I.tok _,⟨_,rfl⟩,q⟩
 refine wpAny_call_entry F.slot_dict_len hT F.entry_dict_len ?_ (F.args_dict_len_1 _)
 unfold Builtin.«dict.__len__» Builtin.Dict.dictSlotNone
 unfold Builtin.Dict.pendingCount dictSize retInt
 refine wpAny_bind (wpAny_bind (wpAny_notOrdered_dict hT (wpAny_bind (wpAny_pure (wpAny_pure (wpAny_bind (wpAny_pure (wpAny_bind (wpAny_bind (wpAny_dictEntries h1 RR.dat (wpAny_pure ?_)))))))))))
 refine wpAny_bind (wpAny_of_eq (a:=0) (if_neg (by rw [hb];exact Bool.false_ne_true)) (wpAny_bind (wpAny_mkInt (wpAny_pure ⟨_,rfl,?_⟩))))
 rw [RR.size,show ((es.length:Nat):Int)+((0:Nat):Int)=(es.length:Int) by omega]
 exact q'
end
end L2
namespace L2
open PySem PySem.Spec PyProof.Rows PySem.NumText
noncomputable abbrev Sh:=List (Mark×Ver)
noncomputable def prD (m:Mark×Ver):PyData := .tuple [markD m.1,ver m.2]
noncomputable def look:Sh→Mark→Option Ver
 | [],_=>none
 | m::ms,k=>if m.1=k then some m.2 else look ms k
noncomputable def EnS (K:W.Frag) (H:Hp):List Ent→Sh→Prop:=Paired λ (e:Ent) (m:Mark×Ver)=>e.1=m.1∧SqT K H e.2.1 (mkV m.1)∧DV K H (ver m.2) e.2.2
structure ShAt (P:Program) (w:World) (K:W.Frag) (C:Addr) (H:Hp) (p:Addr) (ms:Sh):Prop where
 ex:∃ dx d es o,H p=some (.ins C dx [("versions",.ref d)])∧H d=some (dO P w d es o)∧EnS K H es ms
 nd:(ms.map (·.1)).Nodup
 ok:∀ m∈ms,okV m.2
 few:ms.length<64
theorem EnS.imp {K:W.Frag} {H H':Hp} {es:List Ent} {ms:Sh} (h:EnS K H es ms) (f:∀ (q:Addr) m,SqT K H q (mkV m)→SqT K H' q (mkV m)) (g:∀ v x,DV K H (ver v) x→DV K H' (ver v) x):EnS K H' es ms :=
 Paired.mapP h λ e m ⟨h1,h2,h3⟩=>⟨h1,f _ _ h2,g _ _ h3⟩
theorem ShAt.same {P:Program} {w:World} {K:W.Frag} {C:Addr} {H H':Hp} {p:Addr} {ms:Sh} (h:ShAt P w K C H p ms) (s:Same H H'):ShAt P w K C H' p ms:=by
 obtain ⟨dx,d,es,o,h1,h2,h3⟩:=h.ex
 exact ⟨⟨dx,d,es,o,s _ _ h1,s _ _ h2,h3.imp (λ _ _ q=>s.seqT q) λ _ _ q=>DV.same s _ _ q⟩,h.nd,h.ok,h.few⟩
theorem zlq {K:W.Frag} {H H':Hp} {D a:Addr} {xs:List V} (k:∀ b o,b≠D→H b=some o→H' b=some o) (hd:∃ zs,H D=some (.lst zs)) (h:SqT K H a xs):SqT K H' a xs:=by
 obtain ⟨zs,hz⟩:=hd
 rcases h with h | h
 ·rcases h with h | ⟨o,h⟩
  ·exact .inl (.inl (k _ _ (zqf h hz (by intro z;cases z)) h))
  ·exact .inl (.inr ⟨o,k _ _ (zqf h hz (by intro z;cases z)) h⟩)
 ·exact .inr h
theorem zrc (v:Ver):noL (ver v)=true:=zpg (some v)
theorem ShAt.mono {P:Program} {w:World} {K:W.Frag} {C:Addr} {H H':Hp} {p D:Addr} {ms:Sh} (h:ShAt P w K C H p ms) (k:∀ b o,b≠D→H b=some o→H' b=some o) (hd:∃ zs,H D=some (.lst zs)):ShAt P w K C H' p ms:=by
 obtain ⟨dx,d,es,o,h1,h2,h3⟩:=h.ex
 obtain ⟨zs,hz⟩:=id hd
 exact ⟨⟨dx,d,es,o,k _ _ (zqf h1 hz (by intro z;cases z)) h1,k _ _ (zqf h2 hz (by intro z;cases z)) h2,h3.imp (λ _ _ q=>zlq k hd q) λ v x q=>DV.mono k hd _ _ (zrc v) q⟩,h.nd,h.ok,h.few⟩
theorem zge {K:W.Frag} {H:Hp}:∀ {es:List Ent} {ms:Sh},EnS K H es ms→∀ m,DV K H (vdat (look ms m)) ((zab es m).getD .non)
 | _,_,.nil,m=>rfl
 | e::es,n::ms,.cons a b,m=>by
  unfold zab look
  by_cases h:e.1=m
  ·rw [if_pos h,if_pos (a.1 ▸ h)]
   exact a.2.2
  ·rw [if_neg h,if_neg (a.1 ▸ h)]
   exact zge b m
theorem zfc {ms:Sh} (nd:(ms.map (·.1)).Nodup):∀ {m:Mark×Ver},m∈ms→look ms m.1=some m.2:=by
 induction ms with
 | nil=>intro m h;cases h
 | cons a ms ih =>
  intro m h
  have hn:=List.nodup_cons.mp nd
  unfold look
  rcases List.mem_cons.mp h with rfl | h
  ·rw [if_pos rfl]
  ·rw [if_neg (λ z=>hn.1 (by show a.1∈_;rw [z];exact List.mem_map_of_mem (f:=(·.1)) h))]
   exact ih hn.2 h
theorem zoc:∀ {es:List Ent} {m:Mark},m∉es.map (·.1)→zab es m=none
 | [],_,_=>rfl
 | e::es,m,h=>by
  unfold zab
  rw [if_neg (λ z=>h (by rw [← z];exact List.mem_cons_self))]
  exact zoc λ z=>h (List.mem_cons_of_mem _ z)
theorem zbd:∀ {es:List Ent} {m:Mark},m∈es.map (·.1)→(zab es m).isSome=true
 | e::es,m,h=>by
  unfold zab
  by_cases z:e.1=m
  ·rw [if_pos z];rfl
  ·rw [if_neg z]
   rcases List.mem_cons.mp h with q | q
   ·exact absurd q.symm z
   ·exact zbd q
theorem zxg:∀ (ps:List Ent) (es:List Ent),((es++ps).map (·.1)).Nodup→zqb es ps=es++ps
 | [],es,_=>by rw [List.append_nil];rfl
 | p::ps,es,h=>by
  have hm:p.1∉es.map (·.1):=by
   rw [List.map_append,List.map_cons] at h
   intro z
   exact (List.nodup_append.mp h).2.2 _ z _ List.mem_cons_self rfl
  show zqb (putM es p.1 p.2.1 p.2.2) ps=es++p::ps
  have e:putM es p.1 p.2.1 p.2.2=es++[p]:=by
   unfold putM
   rw [zoc hm]
   rfl
  rw [e,zxg ps (es++[p]) (by rw [List.append_assoc];exact h),List.append_assoc]
  rfl
theorem zvf:∀ (ps:List Ent) (es:List Ent),(es.map (·.1)).Nodup→¬ ((es++ps).map (·.1)).Nodup→(zqb es ps).length<es.length+ps.length
 | [],es,h1,h2=>absurd (by rw [List.append_nil];exact h1) h2
 | p::ps,es,h1,h2=>by
  show (zqb (putM es p.1 p.2.1 p.2.2) ps).length<es.length+(ps.length+1)
  by_cases hm:p.1∈es.map (·.1)
  ·have hl:(putM es p.1 p.2.1 p.2.2).length=es.length:=by
    unfold putM
    rw [if_pos (zbd hm),List.length_map]
   have:=zdf ps (putM es p.1 p.2.1 p.2.2)
   omega
  ·have e:putM es p.1 p.2.1 p.2.2=es++[p]:=by
    unfold putM
    rw [zoc hm]
    rfl
   rw [e]
   have:=zvf ps (es++[p]) (by
    rw [List.map_append]
    exact List.nodup_append.mpr ⟨h1,List.nodup_cons.mpr ⟨by simp,List.nodup_nil⟩,λ x hx y hy z=>hm ((show x=p.1 from z.trans (List.mem_singleton.mp hy)) ▸ hx)⟩) (by rw [List.append_assoc];exact h2)
   rw [List.length_append,List.length_cons,List.length_nil] at this
   omega
theorem zdl {K:W.Frag} {H:Hp}:∀ {ms:Sh} {vs:List V},DVs K H (ms.map prD) vs→∃ ps:List Ent,zev K H ps vs∧EnS K H ps ms
 | [],vs,h=>by cases (show vs=[] from h);exact ⟨[],.nil,.nil⟩
 | m::ms,vs,h=>by
  obtain ⟨v,r,rfl,hv,hr⟩:=h
  obtain ⟨ps,h1,h2⟩:=zdl hr
  obtain ⟨t,xs,rfl,ht,x1,r1,rfl,e1,x2,r2,rfl,e2,e3⟩:=hv
  cases (show r2=[] from e3)
  obtain ⟨q,rfl,hq⟩:=zll e1
  exact ⟨(m.1,q,x2)::ps,.cons ⟨t,rfl,ht,hq⟩ h1,.cons ⟨rfl,hq,e2⟩ h2⟩
theorem zpb {K:W.Frag} {H:Hp}:∀ {es:List Ent} {ms:Sh},EnS K H es ms→es.map (·.1)=ms.map (·.1)
 | _,_,.nil=>rfl
 | _,_,.cons a b=>by rw [List.map_cons,List.map_cons,a.1,zpb b]
theorem zkb {K:W.Frag} {H:Hp}:∀ {es:List Ent} {ms:Sh},EnS K H es ms→∀ e∈es,SqT K H e.2.1 (mkV e.1)∧∃ v,(e.1,v)∈ms∧DV K H (ver v) e.2.2
 | _,_,.nil,e,h=>nomatch h
 | _,m::_,.cons a b,e,h=>by
  rcases List.mem_cons.mp h with rfl | h
  ·exact ⟨by rw [a.1];exact a.2.1,m.2,by rw [a.1];exact List.mem_cons_self,a.2.2⟩
  ·obtain ⟨h1,v,h2,h3⟩:=zkb b e h
   exact ⟨h1,v,List.mem_cons_of_mem _ h2,h3⟩
theorem zld {m:Mark×Ver} (h:okV m.2):SeqAt.shaped (prD m)=true:=by
 unfold SeqAt.shaped
 have h1:PyData.canLay0 (prD m)=true:=by
  show ((true && (true && true)) && ((true && (PyData.canLay0 (plc m.2.2.1) && (PyData.strOk m.2.2.2 && true))) && true))=true
  rw [zvn,show PyData.strOk m.2.2.2=true from h]
  rfl
 rw [h1,Bool.true_and]
 refine decide_eq_true ?_
 have h2:PyData.depth (prD m)=max 1 (max (max 0 (max (PyData.depthAll (m.2.2.1.map stp)+1) (max 0 0))+1) 0)+1:=rfl
 have:=zvb m.2.2.1
 rw [h2]
 omega
noncomputable def toSh (ms:Sh) (bs:List Mark):Sh:=bs.map λ m=>(m,(look ms m).getD (0,[], ""))
theorem zvj {ms:Sh} (nd:(ms.map (·.1)).Nodup):toSh ms (ms.map (·.1))=ms:=by
 unfold toSh
 rw [List.map_map]
 have:∀ m∈ms,((λ m=>(m,(look ms m).getD (0,[], ""))) ∘ (·.1)) m=m:=λ m hm=>by
  show (m.1,(look ms m.1).getD (0,[], ""))=m
  rw [zfc nd hm]
  rfl
 conv=>rhs;rw [← List.map_id ms]
 exact List.map_congr_left this
theorem zbg {ms:Sh} (nd:(ms.map (·.1)).Nodup) {bs:List Mark} (h:bs.Perm (ms.map (·.1))):(toSh ms bs).Perm ms:=by
 have:=h.map (λ m=>(m,(look ms m).getD (0,[], "")))
 rw [show (ms.map (·.1)).map (λ m=>(m,(look ms m).getD (0,[], "")))=ms from zvj nd] at this
 exact this
theorem zjg {ms:Sh} (nd:(ms.map (·.1)).Nodup) {bs:List Mark} (h:bs.Perm (ms.map (·.1))):bs.map (zsp λ m=>vdat (look ms m))=(toSh ms bs).map prD:=by
 unfold toSh
 rw [List.map_map]
 refine List.map_congr_left λ m hm=>?_
 obtain ⟨x,hx,rfl⟩:=List.mem_map.mp (h.mem_iff.mp hm)
 show zsp (λ m=>vdat (look ms m)) x.1=prD (x.1,(look ms x.1).getD (0,[], ""))
 show PyData.tuple [markD x.1,vdat (look ms x.1)]=_
 rw [zfc nd hx]
 rfl
theorem zis {ms:Sh} {bs:List Mark} (h:bs.Pairwise λ a b=>mLt a b=true):(toSh ms bs).Pairwise λ a b=>mLt a.1 b.1=true:=List.pairwise_map.mpr h
end L2
namespace L2
open PySem PySem.Spec PyProof.Rows PySem.NumText
theorem zwh {K:W.Frag} {H:Hp} {α:Type} {f:α→PyData}:∀ {xs:List α} {ys:List V},Paired (λ x y=>DV K H (f x) y) xs ys→DVs K H (xs.map f) ys
 | _,_,.nil=>rfl
 | _,_,.cons a b=>⟨_,_,rfl,a,zwh b⟩
end L2
namespace L2
open PySem PySem.Spec PyProof.Rows PySem.NumText
section
variable {X:Cx}
theorem zcv {α β:Type} {f:α→Option β} {g:α→β}:∀ {l:List α},(∀ x∈l,f x=some (g x))→l.filterMap f=l.map g
 | [],_=>rfl
 | x::l,h=>by
  rw [List.filterMap_cons,h x List.mem_cons_self,List.map_cons,zcv λ y hy=>h y (List.mem_cons_of_mem _ hy)]
theorem zft (its:List Value):slicePick its.toArray none none (some (-1))=its.reverse.toArray:=by
 show (List.filterMap (λ x=>its.toArray[x]?) (sliceRange (↑its.toArray.size - 1) (-1) (-1))).toArray=_
 rw [W.krv_sliceRange,List.size_toArray]
 congr 1
 rw [List.filterMap_map]
 have h1:List.filterMap ((λ x=>its.toArray[x]?) ∘ λ k=>its.length - 1 - k) (List.range its.length)=(List.range its.length).map λ k=>its.getD (its.length - 1 - k) .none:=by
  refine zcv λ k hk=>?_
  have hk:=List.mem_range.mp hk
  show its.toArray[its.length - 1 - k]? = some (its.getD (its.length - 1 - k) .none)
  rw [List.getElem?_toArray,List.getD_eq_getElem?_getD,List.getElem?_eq_getElem (by omega)]
  rfl
 rw [h1]
 refine List.ext_getElem (by simp) λ i h1 h2=>?_
 simp only [List.length_map,List.length_range] at h1
 rw [List.getElem_map,List.getElem_range,List.getElem_reverse,List.getD_eq_getElem?_getD,List.getElem?_eq_getElem (by omega)]
 rfl
theorem Vals.rev:∀ {xs:List V} {us:List Value},Vals xs us→Vals xs.reverse us.reverse
 | _,_,.nil=>.nil
 | _,_,.cons r t=>by
  rw [List.reverse_cons,List.reverse_cons]
  exact (Vals.rev t).append (.cons r .nil)
theorem zew {e st:Expr} {te ts:TE} {p2 pos:Pos} (he:PE X e te) (hst:PE X st ts):PE X (.Subscript e (.Slice none none (some st) p2) pos) (λ σ H Q=>te σ H λ x H1=>ts σ H1 λ y H2=>y = .int (-1)∧∃ a xs,x = .ref a∧SqL X.K H2 a xs∧∀ p,H2 p=none→Q (.ref p) (upd H2 p (.lst xs.reverse))) := .mk <| by
 intro pins s σ H Q I h
 refine Subscript_ (thn (he pins s σ H _ I h) λ v s1 ⟨x,H1,I1,r1,q1⟩=>?_)
 refine wpAny_Slice ?_
 rw [evalPart_none]
 refine wpAny_pure (wpAny_pure ?_)
 refine thn (hst pins s1 σ H1 _ I1 q1) λ vs s3 ⟨y,H3,I3,ry,ey,a,xs,ex,hq,q3⟩=>?_
 subst ex ey
 cases r1
 obtain ⟨t,rfl⟩:=ry
 have I4:Inv X pins σ H3 { s3 with heap:=s3.heap.push { cls := .type "slice",data := .fields #[.none,.none,.int (-1) t] } }:=I3.kept (t':=s3.toks) λ b ob q=>Heap.get?_push_of_some _ q
 obtain ⟨its,r,ht,hz⟩:=I4.list hq
 have hlen:=r.length
 show wpAny (model X.prog X.w) X.A (subscriptTail e (.Slice none none (some st) p2) (.ref a) (.ref s3.heap.objs.size)) (EP X pins σ Q) X.xe { s3 with heap:=s3.heap.push { cls := .type "slice",data := .fields #[.none,.none,.int (-1) t] } }
 refine tail_any (ops:=[.ref a,.ref s3.heap.objs.size]) ht.isList.typeIs slot_list_getitem.lookup (wpAny_getItem_list_slice ht.isList (Heap.IsSliceOf.new ..) .none .none (.int (-1) t) (by simp) ?_ (by rw [List.size_toArray] <;> omega)) (by with_unfolding_all rfl)
 rw [zft]
 refine ⟨.ref _,_,I4.laid (t':=s3.toks) (o := .lst xs.reverse) (λ b ob q=>Heap.get?_push_of_some _ q) (Nat.le_refl _) ?_,rfl,q3 _ (I4.hok.fresh (Nat.le_refl _))⟩
 exact ⟨by rw [List.length_reverse];exact hz,_,0,r.rev,Heap.get?_push_size _ rfl⟩
end
noncomputable def zaw (o:HO):Prop:=(∀ xs,o ≠ .tup xs)∧∀ ob u,o ≠ .frz ob u
theorem zsa {K:W.Frag} {H:Hp} {p:Addr} {o o':HO} {a:Addr} {xs:List V} (hp:H p=some o) (n:zaw o) (h:SqT K H a xs):SqT K (upd H p o') a xs:=by
 rcases h with (h | ⟨ob,h⟩) | h
 ·exact .inl (.inl (by rw [zga (zqf h hp λ z=>n.1 _ z.symm)];exact h))
 ·exact .inl (.inr ⟨ob,by rw [zga (zqf h hp λ z=>n.2 _ _ z.symm)];exact h⟩)
 ·exact .inr h
mutual
theorem zhc {K:W.Frag} {H:Hp} {p:Addr} {o o':HO} (hp:H p=some o) (n:zaw o):∀ (d:PyData) (v:V),noL d=true→DV K H d v→DV K (upd H p o') d v
 | .none,v,_,h=>h
 | .bool b,v,_,h=>h
 | .int i,v,_,h=>h
 | .str x,v,_,h=>h
 | .list xs,v,n',_=>by cases n'
 | .tuple xs,v,n',⟨a,vs,h1,h2,h3⟩=>⟨a,vs,h1,zsa hp n h2,zna hp n xs vs n' h3⟩
 | .dict _,v,_,h=>h.elim
theorem zna {K:W.Frag} {H:Hp} {p:Addr} {o o':HO} (hp:H p=some o) (n:zaw o):∀ (ds:List PyData) (vs:List V),noLs ds=true→DVs K H ds vs→DVs K (upd H p o') ds vs
 | [],vs,_,h=>h
 | d::ds,vs,n',⟨v,r,h1,h2,h3⟩=>by
  have n':noL d=true∧noLs ds=true:=by rw [noLs,Bool.and_eq_true] at n';exact n'
  exact ⟨v,r,h1,zhc hp n d v n'.1 h2,zna hp n ds r n'.2 h3⟩
end
theorem zlb (xs:List V):zaw (.lst xs):=⟨λ _ z=>(by cases z),λ _ _ z=>(by cases z)⟩
theorem zgb (φ:Heap→Prop):zaw (.ext φ):=⟨λ _ z=>(by cases z),λ _ _ z=>(by cases z)⟩
theorem zxb:∀ ms:Sh,noLs (ms.map prD)=true
 | []=>rfl
 | m::ms=>by
  show (noL (prD m) && noLs (ms.map prD))=true
  rw [zxb ms,show noL (prD m)=true by show (noL (markD m.1) && (noL (ver m.2) && true))=true;rw [zrc];rfl]
  rfl
end L2
namespace L2
open PySem PySem.Spec PyProof.Rows PySem.NumText
noncomputable def Rc (mask:Nat) (o:Array (Option Nat)) (h:Int) (j:Nat):Prop:=∃ N,(path (tm mask) N ((tm mask).probeStart h)).j=j∧∀ i,i<N→own o (path (tm mask) i ((tm mask).probeStart h)).j≠none
theorem zwr {o:Array (Option Nat)} {j k x:Nat} (hj:j<o.size):own (o.setIfInBounds j (some k)) x=if x=j then some k else own o x:=by
 show (o.setIfInBounds j (some k)).getD x none=_
 rw [Array.getD_eq_getD_getElem?]
 by_cases h:x=j
 ·subst h
  rw [if_pos rfl,Array.getElem?_setIfInBounds_self_of_lt hj]
  rfl
 ·rw [if_neg h,Array.getElem?_setIfInBounds_ne (λ e=>h e.symm)]
  show _=o.getD x none
  rw [Array.getD_eq_getD_getElem?]
theorem zlp {mask:Nat} (c:zyc (mask+1)=true):∀ (hs:List Int) (pre:List Int) (o:Array (Option Nat)) (n:Nat),o.size=mask+1→((zff (mask+1) o).map (·.2)).Perm (List.range n)→n+hs.length≤mask→pre.length=n→(∀ j k,own o j=some k→∃ h,pre[k]? = some h∧Rc mask o h j) →
  ∃ o',hs.foldl (λ (acc:Option (Array (Option Nat)×Nat)) h=>do
   let (owner,k) ← acc
   let j ← SetTable.layClean.free mask owner (SetTable.turns mask) (SetTable.bits h % (mask+1)) (SetTable.bits h)
   pure (owner.setIfInBounds j (some k),k+1)) (some (o,n))=some (o',n+hs.length)∧o'.size=mask+1∧((zff (mask+1) o').map (·.2)).Perm (List.range (n+hs.length))∧(∀ j k,own o' j=some k→∃ h,(pre++hs)[k]? = some h∧Rc mask o' h j):=by
 intro hs
 induction hs with
 | nil=>intro pre o n h1 h2 _ _ h5;exact ⟨o,rfl,h1,h2,by rw [List.append_nil];exact h5⟩
 | cons h hs ih =>
  intro pre o n h1 h2 h3 h4 h5
  rw [List.length_cons] at h3
  obtain ⟨j0,hj0,he0⟩:=zxq h2 (by omega)
  have hb:SetTable.bits h<2 ^ 64:=by
   unfold SetTable.bits
   have:=Int.emod_nonneg h (show (2 ^ 64:Int)≠0 by decide)
   have:=Int.emod_lt_of_pos h (show (0:Int)<2 ^ 64 by decide)
   omega
  obtain ⟨k,hk,e⟩:=zci c (Nat.mod_lt (SetTable.bits h) (Nat.succ_pos mask)) hb hj0
  obtain ⟨j,ej,hj,hje⟩:=zrq h1 hj0 he0 k (SetTable.turns mask) _ _ (by unfold SetTable.turns;omega) (Nat.mod_lt (SetTable.bits h) (Nat.succ_pos mask)) e
  obtain ⟨N,n1,n2⟩:=zar h1 _ _ _ j ((tm mask).probeStart h) (Nat.mod_lt (SetTable.bits h) (Nat.succ_pos mask)) rfl rfl rfl rfl ej
  have hp:=zhp (k:=n) h1 hj hje
  have grow:∀ x,own o x≠none→own (o.setIfInBounds j (some n)) x≠none:=λ x hx=>by
   rw [zwr (by omega)]
   by_cases hxj:x=j
   ·rw [if_pos hxj];exact λ z=>by cases z
   ·rw [if_neg hxj];exact hx
  obtain ⟨o',e1,e2,e3,e4⟩:=ih (pre++[h]) (o.setIfInBounds j (some n)) (n+1) (by rw [Array.size_setIfInBounds];exact h1) (by
   refine (hp.map _).trans ?_
   rw [List.map_cons,List.range_succ]
   exact ((List.Perm.cons n h2).trans (List.perm_append_singleton n (List.range n)).symm)) (by omega) (by rw [List.length_append,List.length_singleton,h4]) (λ x k hx=>by
   rw [zwr (by omega)] at hx
   by_cases hxj:x=j
   ·rw [if_pos hxj] at hx
    cases hx
    exact ⟨h,by rw [← h4,List.getElem?_concat_length],N,by rw [hxj];exact n1,λ i hi=>grow _ (n2 i hi)⟩
   ·rw [if_neg hxj] at hx
    obtain ⟨h',q1,M,q2,q3⟩:=h5 x k hx
    have hkl:=(List.getElem?_eq_some_iff.mp q1).1
    exact ⟨h',by rw [List.getElem?_append_left hkl];exact q1,M,q2,λ i hi=>grow _ (q3 i hi)⟩)
  refine ⟨o',?_,e2,by rw [List.length_cons,show n+(hs.length+1)=n+1+hs.length by omega];exact e3,by rw [show pre++h::hs=pre++[h]++hs by simp];exact e4⟩
  rw [List.foldl_cons,List.length_cons,show n+(hs.length+1)=n+1+hs.length by omega,← e1]
  congr 1
  show (SetTable.layClean.free mask o (SetTable.turns mask) (SetTable.bits h % (mask+1)) (SetTable.bits h)).bind _=_
  rw [ej]
  rfl
theorem zgm {mask:Nat} (c:zyc (mask+1)=true) (hs:Array Int) (h:hs.size≤mask):∃ o,SetTable.layClean mask hs=some o∧o.size=mask+1∧((zff (mask+1) o).map (·.2)).Perm (List.range hs.size)∧(∀ j k,own o j=some k→∃ h,hs[k]? = some h∧Rc mask o h j):=by
 have hn:∀ j,own (Array.replicate (mask+1) none) j=none:=λ j=>by
  show (Array.replicate (mask+1) (none:Option Nat)).getD j none=none
  rw [Array.getD_eq_getD_getElem?,Array.getElem?_replicate]
  split <;> rfl
 have h0:zff (mask+1) (Array.replicate (mask+1) none)=[]:=by
  unfold zff
  refine List.filterMap_eq_nil_iff.mpr λ j hj=>?_
  rw [hn]
  rfl
 obtain ⟨o,e1,e2,e3,e4⟩:=zlp c hs.toList [] (Array.replicate (mask+1) none) 0 (by simp) (by rw [h0];exact .nil) (by simpa using h) rfl (λ j k e=>by rw [hn] at e;cases e)
 refine ⟨o,?_,e2,by simpa using e3,λ j k e=>?_⟩
 ·unfold SetTable.layClean
  rw [← Array.foldl_toList]
  exact congrArg (Option.map (·.1)) e1
 ·obtain ⟨h',q1,q2⟩:=e4 j k e
  exact ⟨h',by rw [List.nil_append,Array.getElem?_toList] at q1;exact q1,q2⟩
theorem zck (M:Nat) (o:Array (Option Nat)):(zff M o).map (·.1)=(List.range M).filter λ j=>(own o j).isSome:=by
 unfold zff
 induction List.range M with
 | nil=>rfl
 | cons j l ih =>
  cases e:own o j with
  | none=>rw [List.filterMap_cons_none (by rw [e];rfl),List.filter_cons_of_neg (by rw [e];decide)];exact ih
  | some k=>rw [List.filterMap_cons_some (by rw [e];rfl),List.map_cons,List.filter_cons_of_pos (by rw [e];rfl),ih]
theorem zyp {M:Nat} {o:Array (Option Nat)} {j k:Nat} (h:(j,k)∈zff M o):own o j=some k:=by
 obtain ⟨x,_,hx⟩:=List.mem_filterMap.mp h
 cases e:own o x with
 | none=>rw [e] at hx;cases hx
 | some v=>rw [e] at hx;cases hx;exact e
theorem zrv {mask finger moves:Nat} {led plain:Bool} (c:zyc (mask+1)=true) (es:Array (Int×Value)) (h:es.size≤mask):∃ pl order,SetTable.laid mask finger moves led plain (es.map (·.1))=some ({ mask,place:=pl,dummies := #[],finger,led,moves,plain },order)∧pl.size=es.size∧(order.filterMap (es[·]?)).toList.Perm es.toList∧∀ t:ST,t.mask=mask→t.place=pl→Wp t (order.filterMap (es[·]?)):=by
 obtain ⟨o,e1,e2,e3,e4⟩:=zgm c (es.map (·.1)) (by simpa using h)
 have e3:((zff (mask+1) o).map (·.2)).Perm (List.range es.size):=by simpa using e3
 refine ⟨((zff (mask+1) o).map (·.1)).toArray,((zff (mask+1) o).map (·.2)).toArray,?_,?_,?_,λ t hm hp=>?_⟩
 ·unfold SetTable.laid
  rw [e1]
  rfl
 ·have:=e3.length_eq
  rw [List.length_map,List.length_range] at this
  simpa using this
 ·rw [Array.toList_filterMap]
  refine (e3.filterMap _).trans ?_
  have:(List.range es.size).filterMap (λ x=>es[x]?)=es.toList:=by
   have go:∀ (l:List (Int×Value)),(List.range l.length).filterMap (λ x=>l[x]?)=l:=by
    intro l
    induction l with
    | nil=>rfl
    | cons a l ih =>
     rw [List.length_cons,List.range_succ_eq_map,List.filterMap_cons]
     show a::List.filterMap _ (List.map Nat.succ (List.range l.length))=a::l
     rw [List.filterMap_map]
     exact congrArg (a :: ·) ih
   have:=go es.toList
   simpa using this
  rw [this]
 ·have hk:∀ p∈zff (mask+1) o,p.2<es.size:=λ p hp'=>List.mem_range.mp (e3.mem_iff.mp (List.mem_map_of_mem hp'))
  have hes:(((zff (mask+1) o).map (·.2)).toArray.filterMap (es[·]?)).toList=(zff (mask+1) o).map λ p=>es.getD p.2 (0,.none):=by
   rw [Array.toList_filterMap,List.filterMap_map]
   refine zcv λ p hp'=>?_
   show es[p.2]? = some (es.getD p.2 (0,.none))
   rw [Array.getD_eq_getD_getElem?,Array.getElem?_eq_getElem (hk p hp')]
   rfl
  have srt:((zff (mask+1) o).map (·.1)).Pairwise (· < ·):=by
   rw [zck]
   exact List.Pairwise.filter _ List.pairwise_lt_range
  refine ⟨?_,λ i j e h1 h2=>?_⟩
  ·rw [hp]
   intro a b u v hab ea eb
   rw [List.getElem?_toArray] at ea eb
   obtain ⟨ha,ea⟩:=List.getElem?_eq_some_iff.mp ea
   obtain ⟨hb,eb⟩:=List.getElem?_eq_some_iff.mp eb
   rw [← ea,← eb]
   exact List.pairwise_iff_getElem.mp srt a b ha hb hab
  ·rw [hp,List.getElem?_toArray,List.getElem?_map] at h1
   rw [← Array.getElem?_toList,hes,List.getElem?_map] at h2
   cases hL:(zff (mask+1) o)[i]? with
   | none=>rw [hL] at h1;cases h1
   | some p =>
    rw [hL] at h1 h2
    cases h1
    cases h2
    have hm':=List.mem_of_getElem? hL
    obtain ⟨h',q1,N,q2,q3⟩:=e4 p.1 p.2 (zyp hm')
    have eh:h'=(es.getD p.2 (0,.none)).1:=by
     rw [Array.getElem?_map,Array.getElem?_eq_getElem (hk p hm')] at q1
     cases q1
     rw [Array.getD_eq_getD_getElem?,Array.getElem?_eq_getElem (hk p hm')]
     rfl
    refine ⟨N,?_,λ k hk'=>?_⟩
    ·rw [zgd (t':=tm mask) hm,zad (t':=tm mask) hm,← eh];exact q2
    ·rw [zgd (t':=tm mask) hm,zad (t':=tm mask) hm,← eh]
     have q4:=q3 k hk'
     generalize (path (tm mask) k ((tm mask).probeStart h')).j=x at q4
     have hx:x<mask+1:=by
      refine Classical.byContradiction λ hc=>q4 ?_
      show o.getD x none=none
      rw [Array.getD_eq_getD_getElem?,Array.getElem?_eq_none (by omega)]
      rfl
     have hxm:x∈(zff (mask+1) o).map (·.1):=by
      rw [zck]
      refine List.mem_filter.mpr ⟨List.mem_range.mpr hx,?_⟩
      cases e:own o x with
      | none=>exact absurd e q4
      | some v=>rfl
     obtain ⟨i',hi'⟩:=List.getElem?_of_mem hxm
     exact ⟨i',by rw [hp,List.getElem?_toArray];exact hi'⟩
section
variable {prog:Program} {w:World} {A:Around} {E:Value→Shared→Prop} {s:Shared}
theorem zpk {a:Addr} {o:Obj} {es:Array (Int×Value)} {ep:Nat} {t:ST} {x:Value} {dx:PyData} {h:Int} {Q:SetFound→Shared→Prop} (ho:s.heap.get? a=some o) (hd:o.data = .set es ep t) (hf:t.fits es.size=true) (f:Fit t)
  (hx:El s.heap x dx) (hes:∀ e∈es.toList,∃ d,El s.heap e.2 d∧PyData.eqv d dx=false) (hu:A.units+10<cLine) (b:Bool) (hQ:∀ N,t.slot (path t N (t.probeStart h)).j = .empty→(∀ k,k<N→∃ i:Nat,t.place[i]? = some (path t k (t.probeStart h)).j)→Q (.free (path t N (t.probeStart h)).j false) s):wpAny (model prog w) A (setSearch a x h b) Q E s:=by
 obtain ⟨s9,sp,sd⟩:=zgo t h
 obtain ⟨N,hN,he,hl⟩:=znf f s9 sp
 have hmask:t.mask≤511:=by rcases f.msk with e | e | e | e <;> omega
 have hN2:N<10 * (511+15):=by
  unfold SetTable.turns at hN
  omega
 have hgw:t.gaveWay=false:=by
  unfold SetTable.gaveWay
  rcases f.msk with e | e | e | e <;> rw [e] <;> rfl
 have hpl:t.place.size=es.size:=by
  unfold SetTable.fits at hf
  rw [Bool.and_eq_true] at hf
  exact eq_of_beq hf.1
 obtain ⟨as,rx⟩:=hx.rd
 have from_:∀ (d m fuel:Nat),d=N - m→m≤N→d<fuel→∀ (stand:Option SetTable.Probe),stand.getD (t.probeStart h)=path t m (t.probeStart h)→wpAny (model prog w) A (setSearchFrom a x h b fuel stand) Q E s:=by
  intro d
  induction d using Nat.strongRecOn with
  | ind d ih =>
   intro m fuel hdm hm hfu stand hst
   cases fuel with
   | zero=>omega
   | succ fuel =>
    unfold setSearchFrom
    refine wpAny_bind (wpAny_setState_of ho hd hf ?_)
    dsimp only
    rw [hgw]
    simp only [Bool.false_eq_true,if_false]
    rw [hst]
    unfold SetTable.probe
    rcases zhx (t:=t) (h:=h) sd he hl (N - m) m (10 * SetTable.turns t.mask) rfl hm (by omega) with ⟨k,i,k1,k2,k3,k4,k5⟩ | k5
    ·rw [k5]
     dsimp only
     obtain ⟨i2,hi2,hpi⟩:=hl k k2
     rw [k3] at hi2
     cases hi2
     have hil:i<es.size:=by rw [← hpl];exact (Array.getElem?_eq_some_iff.mp hpi).1
     have hei:es[i]? = some es[i]:=Array.getElem?_eq_getElem hil
     have hmem:es[i]∈es.toList:=by rw [← Array.getElem_toList hil];exact List.getElem_mem _
     obtain ⟨dy,hy,hne⟩:=hes _ hmem
     obtain ⟨bs,ry⟩:=hy.rd
     have go2:wpAny (model prog w) A (do
       let some (_,y):=es[i]? | unsupported "internal:set-entry"
       let equal ← holding [y] (eqBool y x)
       let (es',_,t') ← setState a
       if b && equal then return .there none
       let some same:=t'.sameMemory t.moves t.mask | unsupported "set.changed-during-lookup:is-the-new-block-at-the-old-address"
       let still ← match (if same then t'.slot (path t k (t.probeStart h)).j else .empty) with
        | .live i'=>match es'[i']? with
         | some (_,y')=>do pure (if ← isSame y' y then some i' else none)
         | none=>pure none
        | _=>pure none
       match still with
       | none=>rule "set.search.anew";setSearchFrom a x h b fuel none
       | some i'=>if equal then return .there (some i') else setSearchFrom a x h b fuel (some (path t (k+1) (t.probeStart h)))) Q E s:=by
      rw [hei]
      dsimp only
      refine wpAny_bind (wpAny_holding (SeqAt.eqAt_reads dy dx A s _ _ bs as ry rx (zjd dy hy.oi) (zjd dx hx.oi) (by have:=hy.dp;have:min dy.depth dx.depth≤dy.depth:=Nat.min_le_left _ _;omega) prog w _ _ ?_))
      rw [hne]
      refine wpAny_bind (wpAny_setState_of ho hd hf ?_)
      dsimp only
      simp only [Bool.and_false,Bool.false_eq_true,if_false]
      have hsm:t.sameMemory t.moves t.mask=some true:=by unfold SetTable.sameMemory;rw [if_pos (beq_self_eq_true _)]
      rw [hsm]
      dsimp only
      simp only [if_true]
      rw [k3]
      dsimp only
      rw [hei]
      dsimp only
      obtain ⟨b,hb⟩:=hy.rf
      rw [hb]
      refine wpAny_bind (wpAny_isSame_ref_self (wpAny_bind (wpAny_pure ?_)))
      simp only [if_true]
      exact ih (N - (k+1)) (by omega) (k+1) fuel rfl (by omega) (by omega) (some _) rfl
     cases hled:t.led with
     | true =>
      simp only [Bool.not_true,Bool.false_eq_true,if_false]
      exact go2
     | false =>
      simp only [Bool.not_false,if_true]
      refine wpAny_bind (zns hx _ _ (λ y hy=>?_) ?_)
      ·obtain ⟨e,he1,rfl⟩:=List.mem_map.mp hy
       have he2:e∈es.toList:=by
        have:=Array.mem_toList_iff.mp he1
        exact Array.mem_toList_iff.mpr (Array.mem_filter.mp this).1
       obtain ⟨d',hd',_⟩:=hes e he2
       exact ⟨d',hd'⟩
      ·simp only [Bool.false_eq_true,if_false]
       exact go2
    ·rw [k5]
     dsimp only
     exact wpAny_pure (hQ N he λ k hk=>let ⟨i,_,q⟩:=hl k hk; ⟨i,q⟩)
 unfold setSearch
 exact from_ N 0 100000 rfl (Nat.zero_le _) (by omega) none rfl
end
end L2
namespace L2
open PySem PySem.Spec PyProof.Rows PySem.NumText
theorem zgx {t:ST} {hashAt:Nat→Int} {h:Int} {p:SetTable.Probe} {n0 i0:Nat} (hs:t.slot (path t n0 p).j = .live i0) (hh:(hashAt i0 == h)=true) (hl:∀ k,k<n0→∃ i:Nat,t.slot (path t k p).j = .live i) :
  ∀ (d m fuel:Nat),d=n0 - m→m≤n0→d<fuel→∃ k i,m≤k∧k≤n0∧t.slot (path t k p).j = .live i∧SetTable.probe.go t hashAt h fuel (path t m p)=some (.candidate (path t k p).j i (path t (k+1) p)):=by
 intro d
 induction d with
 | zero =>
  intro m fuel hdm hm hf
  have e:m=n0:=by omega
  subst e
  cases fuel with
  | zero=>omega
  | succ fuel =>
   refine ⟨m,i0,Nat.le_refl _,Nat.le_refl _,hs,?_⟩
   unfold SetTable.probe.go
   rw [hs]
   dsimp only
   rw [if_pos hh,zob]
 | succ d ih =>
  intro m fuel hdm hm hf
  cases fuel with
  | zero=>omega
  | succ fuel =>
   obtain ⟨i,hi⟩:=hl m (by omega)
   by_cases hh:(hashAt i == h)=true
   ·refine ⟨m,i,Nat.le_refl _,by omega,hi,?_⟩
    unfold SetTable.probe.go
    rw [hi]
    dsimp only
    rw [if_pos hh,zob]
   ·obtain ⟨k,i',h1,h2,h3,h4⟩:=ih (m+1) fuel (by omega) (by omega) (by omega)
    refine ⟨k,i',by omega,h2,h3,?_⟩
    unfold SetTable.probe.go
    rw [hi]
    dsimp only
    rw [if_neg hh,← zob]
    exact h4
section
variable {prog:Program} {w:World} {A:Around} {E:Value→Shared→Prop} {s:Shared}
theorem znk {a:Addr} {o:Obj} {es:Array (Int×Value)} {ep:Nat} {t:ST} {x:Value} {dx:PyData} {h:Int} {Q:SetFound→Shared→Prop} (ho:s.heap.get? a=some o) (hd:o.data = .set es ep t) (hf:t.fits es.size=true) (f:Fit t)
  (hx:El s.heap x dx) (dat:Nat→PyData) (hes:∀ (i:Nat) e,es[i]? = some e→El s.heap e.2 (dat i)) {i0 n0:Nat} {y0:Value} (hi0:es[i0]? = some (h,y0)) (hd0:PyData.eqv (dat i0) dx=true) (hs0:t.slot (path t n0 (t.probeStart h)).j = .live i0) (hl0:∀ k,k<n0→∃ i:Nat,t.slot (path t k (t.probeStart h)).j = .live i)
  (hu:A.units+10<cLine) (b:Bool) (hQ:∀ r:Option Nat,(b=false→r.isSome=true)→Q (.there r) s):wpAny (model prog w) A (setSearch a x h b) Q E s:=by
 obtain ⟨s9,sp,sd⟩:=zgo t h
 obtain ⟨N,hN,he,hl⟩:=znf f s9 sp
 have hmask:t.mask≤511:=by rcases f.msk with e | e | e | e <;> omega
 have hN2:N<10 * (511+15):=by
  unfold SetTable.turns at hN
  omega
 have hn0:n0<N:=by
  refine Classical.byContradiction λ hc=>?_
  rcases Nat.lt_or_eq_of_le (Nat.le_of_not_lt hc) with hlt | heq
  ·obtain ⟨i,hi⟩:=hl0 N hlt
   rw [he] at hi
   cases hi
  ·rw [heq,hs0] at he
   cases he
 have hgw:t.gaveWay=false:=by
  unfold SetTable.gaveWay
  rcases f.msk with e | e | e | e <;> rw [e] <;> rfl
 have hpl:t.place.size=es.size:=by
  unfold SetTable.fits at hf
  rw [Bool.and_eq_true] at hf
  exact eq_of_beq hf.1
 obtain ⟨as,rx⟩:=hx.rd
 have from_:∀ (d m fuel:Nat),d=n0 - m→m≤n0→d<fuel→∀ (stand:Option SetTable.Probe),stand.getD (t.probeStart h)=path t m (t.probeStart h)→wpAny (model prog w) A (setSearchFrom a x h b fuel stand) Q E s:=by
  intro d
  induction d using Nat.strongRecOn with
  | ind d ih =>
   intro m fuel hdm hm hfu stand hst
   cases fuel with
   | zero=>omega
   | succ fuel =>
    unfold setSearchFrom
    refine wpAny_bind (wpAny_setState_of ho hd hf ?_)
    dsimp only
    rw [hgw]
    simp only [Bool.false_eq_true,if_false]
    rw [hst]
    unfold SetTable.probe
    obtain ⟨k,i,k1,k2,k3,k5⟩:=zgx (t:=t) (h:=h) (hashAt:=λ i=>(Option.map (λ (x:Int×Value)=>x.1) es[i]?).getD 0) hs0 (by rw [hi0];exact beq_self_eq_true h) hl0 (n0 - m) m (10 * SetTable.turns t.mask) rfl hm (by omega)
    have k5:SetTable.probe.go t _ h (10 * SetTable.turns t.mask) (path t m (t.probeStart h))=_:=k5
    erw [k5]
    dsimp only
    obtain ⟨i2,hi2,hpi⟩:=hl k (by omega)
    rw [k3] at hi2
    cases hi2
    have hil:i<es.size:=by rw [← hpl];exact (Array.getElem?_eq_some_iff.mp hpi).1
    have hei:es[i]? = some es[i]:=Array.getElem?_eq_getElem hil
    have hmem:es[i]∈es.toList:=by rw [← Array.getElem_toList hil];exact List.getElem_mem _
    obtain ⟨dy,hdy⟩:∃ dy,dy=dat i:=⟨_,rfl⟩
    have hy:=hes i _ hei
    rw [← hdy] at hy
    obtain ⟨bs,ry⟩:=hy.rd
    have go2:wpAny (model prog w) A (do
      let some (_,y):=es[i]? | unsupported "internal:set-entry"
      let equal ← holding [y] (eqBool y x)
      let (es',_,t') ← setState a
      if b && equal then return .there none
      let some same:=t'.sameMemory t.moves t.mask | unsupported "set.changed-during-lookup:is-the-new-block-at-the-old-address"
      let still ← match (if same then t'.slot (path t k (t.probeStart h)).j else .empty) with
       | .live i'=>match es'[i']? with
        | some (_,y')=>do pure (if ← isSame y' y then some i' else none)
        | none=>pure none
       | _=>pure none
      match still with
      | none=>rule "set.search.anew";setSearchFrom a x h b fuel none
      | some i'=>if equal then return .there (some i') else setSearchFrom a x h b fuel (some (path t (k+1) (t.probeStart h)))) Q E s:=by
     rw [hei]
     dsimp only
     refine wpAny_bind (wpAny_holding (SeqAt.eqAt_reads dy dx A s _ _ bs as ry rx (zjd dy hy.oi) (zjd dx hx.oi) (by have:=hy.dp;have:min dy.depth dx.depth≤dy.depth:=Nat.min_le_left _ _;omega) prog w _ _ ?_))
     have hsm:t.sameMemory t.moves t.mask=some true:=by unfold SetTable.sameMemory;rw [if_pos (beq_self_eq_true _)]
     obtain ⟨b0,hb0⟩:=hy.rf
     cases hne:PyData.eqv dy dx with
     | true =>
      refine wpAny_bind (wpAny_setState_of ho hd hf ?_)
      dsimp only
      cases b with
      | true =>
       simp only [Bool.and_self,if_true]
       exact wpAny_pure (hQ none λ z=>by cases z)
      | false =>
       simp only [Bool.false_and,Bool.false_eq_true,if_false]
       rw [hsm]
       dsimp only
       simp only [if_true]
       rw [k3]
       dsimp only
       rw [hei]
       dsimp only
       rw [hb0]
       refine wpAny_bind (wpAny_isSame_ref_self (wpAny_bind (wpAny_pure ?_)))
       simp only [if_true]
       exact wpAny_pure (hQ (some i) λ _=>rfl)
     | false =>
      refine wpAny_bind (wpAny_setState_of ho hd hf ?_)
      dsimp only
      simp only [Bool.and_false,Bool.false_eq_true,if_false]
      rw [hsm]
      dsimp only
      simp only [if_true]
      rw [k3]
      dsimp only
      rw [hei]
      dsimp only
      rw [hb0]
      refine wpAny_bind (wpAny_isSame_ref_self (wpAny_bind (wpAny_pure ?_)))
      simp only [if_true]
      have hk0:k≠n0:=λ e=>by
       rw [e,hs0] at k3
       cases k3
       rw [hdy,hd0] at hne
       cases hne
      exact ih (n0 - (k+1)) (by omega) (k+1) fuel rfl (by omega) (by omega) (some _) rfl
    cases hled:t.led with
    | true =>
     simp only [Bool.not_true,Bool.false_eq_true,if_false]
     exact go2
    | false =>
     simp only [Bool.not_false,if_true]
     refine wpAny_bind (zns hx _ _ (λ y hy=>?_) ?_)
     ·obtain ⟨e,he1,rfl⟩:=List.mem_map.mp hy
      have he2:e∈es.toList:=by
       have:=Array.mem_toList_iff.mp he1
       exact Array.mem_toList_iff.mpr (Array.mem_filter.mp this).1
      obtain ⟨j,hj⟩:=List.getElem?_of_mem he2
      rw [Array.getElem?_toList] at hj
      exact ⟨_,hes j e hj⟩
     ·simp only [Bool.false_eq_true,if_false]
      exact go2
 unfold setSearch
 exact from_ n0 0 100000 rfl (Nat.zero_le _) (by omega) none rfl
theorem zfo {a:Addr} {o:Obj} {es:Array (Int×Value)} {ep:Nat} {t:ST} {wanted m':Nat} {Q:Unit→Shared→Prop} (ho:s.heap.get? a=some o) (hd:o.data = .set es ep t) (hf:t.fits es.size=true)
  (hw:SetTable.sizeAbove wanted=m'+1) (hm:m'=7 ∨ m'=31 ∨ m'=127 ∨ m'=511) (hs:es.size≤m')
  (h:∀ es' t',es'.toList.Perm es.toList→t'.place.size=es.size→t'.dummies = #[]→t'.mask=m'→Wp t' es'→t'.led=t.led→t'.plain=t.plain→Q () { s with heap:=s.heap.update a (Obj.putSet es' t') }):wpAny (model prog w) A (setRelay a wanted) Q E s:=by
 unfold setRelay
 refine wpAny_bind (wpAny_setState_of ho hd hf ?_)
 dsimp only
 have hc:zyc (m'+1)=true:=by
  rcases hm with e | e | e | e <;> rw [e]
  ·exact cov8
  ·exact zx2
  ·exact zbz
  ·exact zaz
 obtain ⟨pl,order,e1,e2,e3,e4⟩:=zrv (mask:=m') (finger:=t.finger) (moves:=t.movedTo m') (led:=t.led) (plain:=t.plain) hc es hs
 have hr:t.relaid (es.map (·.1)) wanted=some ({ mask:=m',place:=pl,dummies := #[],finger:=t.finger,led:=t.led,moves:=t.movedTo m',plain:=t.plain },order):=by
  unfold SetTable.relaid
  rw [hw,Nat.add_sub_cancel]
  exact e1
 have hsz:(order.filterMap (es[·]?)).size=es.size:=by rw [← Array.length_toList,e3.length_eq,Array.length_toList]
 rw [hw,hr]
 have hlt:¬ (m'+1 > sizeLine):=by rw [sizeLine_eq];omega
 rw [if_neg hlt]
 refine wpAny_bind (wpAny_of_eq (a:=(order.filterMap (es[·]?),({ mask:=m',place:=pl,dummies := #[],finger:=t.finger,led:=t.led,moves:=t.movedTo m',plain:=t.plain }:SetTable))) ?_ ?_)
 ·show (if ((order.filterMap (es[·]?)).size != es.size)=true then _ else _)=_
  rw [hsz,if_neg (by simp)]
 ·dsimp only
  exact wpAny_storeSet_of ho hd (h _ _ e3 e2 rfl rfl (e4 _ rfl rfl) rfl rfl) (by rw [hsz,sizeLine_eq];omega)
end
end L2
namespace L2
open PySem PySem.Spec PyProof.Rows PySem.NumText
theorem znh {α β:Type} {R:α→β→Prop} {e:α} {d:β} (h:R e d):∀ (p:Nat) {l:List α} {m:List β},Paired R l m→Paired R (l.take p++e::l.drop p) (m.take p++d::m.drop p)
 | 0,_,_,r=>by
  rw [List.take_zero,List.take_zero,List.drop_zero,List.drop_zero]
  exact .cons h r
 | p+1,_,_,.nil=>by
  rw [List.take_nil,List.drop_nil,List.take_nil,List.drop_nil]
  exact .cons h .nil
 | p+1,_,_,.cons a b=>.cons a (znh h p b)
theorem zxf {α β:Type} {R:α→β→Prop} {l' l:List α} (h:l'.Perm l):∀ {m:List β},Paired R l m→∃ m',m'.Perm m∧Paired R l' m':=by
 induction h with
 | nil=>intro m r;exact ⟨m,.refl _,r⟩
 | cons x _ ih =>
  intro m r
  cases r with
  | cons a b =>
   obtain ⟨m',h1,h2⟩:=ih b
   exact ⟨_::m',h1.cons _,.cons a h2⟩
 | swap x y l =>
  intro m r
  cases r with
  | cons a b =>
   cases b with
   | cons c d=>exact ⟨_::_::_,.swap _ _ _,.cons c (.cons a d)⟩
 | trans _ _ ih1 ih2 =>
  intro m r
  obtain ⟨m1,h1,h2⟩:=ih2 r
  obtain ⟨m2,h3,h4⟩:=ih1 h2
  exact ⟨m2,h3.trans h1,h4⟩
theorem zzf {α β:Type} {R:α→β→Prop}:∀ {l:List α} {m:List β},Paired R l m→∀ {i:Nat} {e:α},l[i]? = some e→∃ d,m[i]? = some d∧R e d
 | _,_,.nil,i,e,h=>by simp at h
 | _,_,.cons a b,0,e,h=>by cases (Option.some.inj h);exact ⟨_,rfl,a⟩
 | _,_,.cons a b,i+1,e,h=>by
  obtain ⟨r,h1,h2⟩:=zzf b (i:=i) (by simpa using h)
  exact ⟨r,by simpa using h1,h2⟩
theorem zuh {α β:Type} {R:α→β→Prop}:∀ {l:List α} {m:List β},Paired R l m→∀ {i:Nat} {d:β},m[i]? = some d→∃ e,l[i]? = some e∧R e d
 | _,_,.nil,i,e,h=>by simp at h
 | _,_,.cons a b,0,e,h=>by cases (Option.some.inj h);exact ⟨_,rfl,a⟩
 | _,_,.cons a b,i+1,e,h=>by
  obtain ⟨r,h1,h2⟩:=zuh b (i:=i) (by simpa using h)
  exact ⟨r,by simpa using h1,h2⟩
noncomputable abbrev Mem:=Addr×PyData
noncomputable def MemR (w:World) (e:Int×Value) (q:Mem):Prop:=e.2 = .ref q.1∧e.1=zvo w q.2
noncomputable def SetO (w:World) (o:Obj) (qs:List Mem):Prop:=∃ es ep t qs',o.ExactSet∧o.data = .set es ep t∧t.fits es.size=true∧Fit t∧t.fill * 5<t.mask * 3∧Wp t es∧qs'.Perm qs∧Paired (MemR w) es.toList qs'
noncomputable def Led (b:Bool) (h:Heap) (a:Addr):Prop:=∃ o es ep t,h.get? a=some o∧o.data = .set es ep t∧t.led=b∧t.plain=true
noncomputable def SetX (w:World) (h:Heap) (a:Addr) (qs:List Mem):Prop:=∃ o,h.get? a=some o∧SetO w o qs
section
variable {prog:Program} {w:World} {A:Around} {E:Value→Shared→Prop} {s:Shared}
theorem zbj {a:Addr} {o:Obj} {es:Array (Int×Value)} {ep:Nat} {t:ST} {qs':List Mem} {x:Value} {dx:PyData} {Q:SetFound→Shared→Prop} (ho:s.heap.get? a=some o) (hd:o.data = .set es ep t) (hf:t.fits es.size=true) (f:Fit t) (wp:Wp t es) (hp:Paired (MemR w) es.toList qs')
  (hel:∀ q∈qs',El s.heap (.ref q.1) q.2) (hx:El s.heap x dx) {q:Mem} (hq:q∈qs') (e:q.2=dx) (hu:A.units+10<cLine) (b:Bool) (hQ:∀ r:Option Nat,(b=false→r.isSome=true)→Q (.there r) s):wpAny (model prog w) A (setSearch a x (zvo w dx) b) Q E s:=by
 obtain ⟨i0,hi0⟩:=List.getElem?_of_mem hq
 obtain ⟨e0,he0,hr0⟩:=zuh hp hi0
 rw [Array.getElem?_toList] at he0
 have hpl:t.place.size=es.size:=by
  have:=hf
  unfold SetTable.fits at this
  rw [Bool.and_eq_true] at this
  exact eq_of_beq this.1
 have hil:i0<t.place.size:=by rw [hpl];exact (Array.getElem?_eq_some_iff.mp he0).1
 have hpi:=Array.getElem?_eq_getElem hil
 obtain ⟨n0,hn,hlv⟩:=wp.rch i0 _ e0 hpi he0
 have hh:e0.1=zvo w dx:=by rw [hr0.2,e]
 rw [hh] at hn hlv
 refine znk ho hd hf f hx (λ i=>(qs'.getD i (0,.none)).2) (λ i e1 he1=>?_) (i0:=i0) (n0:=n0) (y0:=e0.2) (by rw [he0,← hh]) ?_ (by rw [hn];exact zrm wp.mono hpi) (λ k hk=>let ⟨i',hi'⟩:=hlv k hk; ⟨i',zrm wp.mono hi'⟩) hu b hQ
 ·obtain ⟨q1,hq1,hr1⟩:=zzf hp (i:=i) (e:=e1) (by rw [Array.getElem?_toList];exact he1)
  rw [hr1.1,List.getD_eq_getElem?_getD,hq1]
  exact hel q1 (List.mem_of_getElem? hq1)
 ·rw [List.getD_eq_getElem?_getD,hi0]
  show PyData.eqv q.2 dx=true
  rw [e]
  exact zhv hx.oi
theorem ztq {qs':List Mem} {es:Array (Int×Value)} {dx:PyData} (hp:Paired (MemR w) es.toList qs') (hel:∀ q∈qs',El s.heap (.ref q.1) q.2) (hx:zvd dx=true) (hn:∀ q∈qs',q.2≠dx):∀ e∈es.toList,∃ d,El s.heap e.2 d∧PyData.eqv d dx=false:=λ e he=>by
 obtain ⟨i,hi⟩:=List.getElem?_of_mem he
 obtain ⟨q1,hq1,hr1⟩:=zzf hp hi
 have hm:=List.mem_of_getElem? hq1
 have hl:=hel q1 hm
 refine ⟨q1.2,by rw [hr1.1];exact hl,?_⟩
 cases h:PyData.eqv q1.2 dx with
 | false=>rfl
 | true=>exact absurd (zsw _ _ hl.oi hx h) (hn q1 hm)
theorem zsr {a:Addr} {qs:List Mem} {ax:Addr} {dx:PyData} {Q:Bool→Shared→Prop} (hS:SetX w s.heap a qs) (hel:∀ q∈qs,El s.heap (.ref q.1) q.2) (hx:El s.heap (.ref ax) dx) (hlen:qs.length<300) (hu:A.units+10<cLine)
  (hold:(∃ q∈qs,q.2=dx)→Q false s) (hq:(∀ q∈qs,q.2≠dx)→∀ h',Heap.SameBut a s.heap h'→SetX w h' a ((ax,dx)::qs)→(∀ b,allI dx=true→Led b s.heap a→Led b h' a)→Q true { s with heap:=h' }):wpAny (model prog w) A (setAddHashed a (.ref ax) (zvo w dx)) Q E s:=by
 obtain ⟨o,ho,es,ep,t,qs',hex,hd,hf,f,hfull,wp,pm,hp⟩:=hS
 have hel':∀ q∈qs',El s.heap (.ref q.1) q.2:=λ q hq=>hel q (pm.mem_iff.mp hq)
 have hsz:es.size=qs.length:=by rw [← Array.length_toList,Paired.length hp,pm.length_eq]
 obtain ⟨h,hhd⟩:∃ h,h=zvo w dx:=⟨_,rfl⟩
 have hhd2:h=zvo w dx:=hhd
 have hpl:t.place.size=es.size:=by
  have:=hf
  unfold SetTable.fits at this
  rw [Bool.and_eq_true] at this
  exact eq_of_beq this.1
 have hfill:t.fill=t.place.size:=by unfold SetTable.fill;rw [f.dum];rfl
 rw [hfill,hpl] at hfull
 unfold setAddHashed setAddHashedIn
 refine wpAny_holding (wpAny_bind (wpAny_setState_of ho hd hf ?_))
 dsimp only
 have hbs:byScan (.ref ax) es=false:=rfl
 rw [hbs]
 simp only [Bool.false_eq_true,if_false]
 by_cases hqq:∃ q∈qs',q.2=dx
 ·obtain ⟨q,hqm,hqe⟩:=hqq
  refine wpAny_bind (zbj ho hd hf f wp hp hel' hx hqm hqe hu true λ r _=>?_)
  exact wpAny_pure (hold ⟨q,pm.mem_iff.mp hqm,hqe⟩)
 have hne:∀ q∈qs',q.2≠dx:=λ q hqm e=>hqq ⟨q,hqm,e⟩
 refine wpAny_bind (zpk ho hd hf f hx (ztq hp hel' hx.oi hne) hu true λ N hemp hlv=>?_)
 obtain ⟨j,hj⟩:∃ j,j=(path t N (t.probeStart (zvo w dx))).j:=⟨_,rfl⟩
 rw [← hj] at hemp ⊢
 have hfree:∀ i:Nat,t.place[i]? ≠ some j:=λ i e=>by
  rw [zrm wp.mono e] at hemp
  cases hemp
 rw [← hhd] at hj hlv ⊢
 dsimp only
 refine wpAny_bind (wpAny_setState_of ho hd hf ?_)
 dsimp only
 have hput:(t.put j).1={ t with place:=SetTable.insertAt t.place (SetTable.below t.place j) j }:=by
  unfold SetTable.put
  dsimp only
  have:SetTable.has t.dummies j=false:=by rw [f.dum];unfold SetTable.has;simp
  rw [this,if_neg Bool.false_ne_true]
 have hput2:(t.put j).2=SetTable.below t.place j:=rfl
 rw [hput,hput2]
 have h1sz:(SetTable.insertAt es (SetTable.below t.place j) (h,.ref ax)).size=es.size+1:=zbm _ _ _
 obtain ⟨qs1,hqs1⟩:∃ qs1,qs1=qs'.take (SetTable.below t.place j)++(ax,dx)::qs'.drop (SetTable.below t.place j):=⟨_,rfl⟩
 have hpq1:qs1.Perm ((ax,dx)::qs):=by
  rw [hqs1]
  refine List.perm_middle.trans (.cons _ ?_)
  rw [List.take_append_drop]
  exact pm
 have hpr1:Paired (MemR w) (SetTable.insertAt es (SetTable.below t.place j) (h,.ref ax)).toList qs1:=by
  rw [zdj,hqs1]
  exact znh (R:=MemR w) ⟨rfl,hhd⟩ _ hp
 have hwp1:∀ t1:ST,t1.mask=t.mask→t1.place=SetTable.insertAt t.place (SetTable.below t.place j) j→Wp t1 (SetTable.insertAt es (SetTable.below t.place j) (h,.ref ax)):=λ t1 e1 e2=>wp.ins hpl (N:=N) (e:=(h,.ref ax)) hj.symm hfree hlv e1 e2
 generalize SetTable.insertAt es (SetTable.below t.place j) (h,.ref ax)=es1 at h1sz hpr1 hwp1 ⊢
 have hmge:7≤t.mask:=by rcases f.msk with e | e | e | e <;> omega
 have tail:∀ pb:Bool,(allI dx=true→t.plain=true→pb=true)→wpAny (model prog w) A (do
   storeSet a es1 { t with place:=SetTable.insertAt t.place (SetTable.below t.place j) j,plain:=pb }
   if (!false && ({ t with place:=SetTable.insertAt t.place (SetTable.below t.place j) j,plain:=pb }:SetTable).tooFull)=true then setRelay a (SetTable.grown (es.size+1))
   return true) Q E s:=by
  intro pb hpb
  refine wpAny_bind (wpAny_storeSet_of ho hd ?_ (by rw [h1sz,sizeLine_eq];omega))
  have p1:(SetTable.insertAt t.place (SetTable.below t.place j) j).size=es.size+1:=by rw [zbm,hpl]
  generalize ht1:({ t with place:=SetTable.insertAt t.place (SetTable.below t.place j) j,plain:=pb }:SetTable)=t1
  have m1:t1.mask=t.mask:=by rw [← ht1]
  have l1:t1.led=t.led:=by rw [← ht1]
  have l2:allI dx=true→t.plain=true→t1.plain=true:=by rw [← ht1];exact hpb
  have ledK:∀ {h':Heap} {es3:Array (Int×Value)} {ep3:Nat} {t3:SetTable},h'.get? a=some { o with data := .set es3 ep3 t3 }→t3.led=t1.led→t3.plain=t1.plain→∀ b,allI dx=true→Led b s.heap a→Led b h' a:=by
   rintro h' es3 ep3 t3 g3 e3 p3 b hA ⟨o0,es0,ep0,t0,g0,d0,b0,q0⟩
   rw [ho] at g0
   cases g0
   rw [hd] at d0
   cases d0
   exact ⟨_,es3,ep3,t3,g3,rfl,by rw [e3,l1,b0],by rw [p3];exact l2 hA q0⟩
  have q1:t1.place.size=es.size+1:=by rw [← ht1];exact p1
  have d1:t1.dummies = #[]:=by rw [← ht1];exact f.dum
  have fl1:t1.fill=es.size+1:=by unfold SetTable.fill;rw [d1,q1];rfl
  have fits1:t1.fits es1.size=true:=by
   unfold SetTable.fits
   rw [q1,h1sz,fl1,m1,beq_self_eq_true,Bool.true_and]
   exact decide_eq_true (by omega)
  have fit1:Fit t1:=⟨d1,by rw [q1,m1];omega,by rw [m1];exact f.msk⟩
  have hg1:(s.heap.update a (Obj.putSet es1 t1)).get? a=some { o with data := .set es1 (ep+1) t1 }:=by
   have:=Heap.get?_update_self (Obj.putSet es1 t1) ho (by rw [putSet_of es1 t1 hd];rfl)
   rw [putSet_of es1 t1 hd] at this;exact this
  have sb1:=Heap.SameBut.update s.heap a (Obj.putSet es1 t1)
  simp only [Bool.not_false,Bool.true_and]
  by_cases hfu:t1.tooFull=true
  ·rw [if_pos hfu]
   have hfu':t1.mask * 3≤t1.fill * 5:=by unfold SetTable.tooFull at hfu;exact of_decide_eq_true hfu
   rw [fl1,m1] at hfu'
   obtain ⟨m',hm',hw,hlt⟩:∃ m',(m'=7 ∨ m'=31 ∨ m'=127 ∨ m'=511)∧SetTable.sizeAbove (SetTable.grown (es.size+1))=m'+1∧(es.size+1) * 5<m' * 3:=by
    rcases f.msk with e | e | e | e
    ·have:es.size=4:=by omega
     exact ⟨31,.inr (.inl rfl),by rw [this];decide,by omega⟩
    ·have:es.size=18:=by omega
     exact ⟨127,.inr (.inr (.inl rfl)),by rw [this];decide,by omega⟩
    ·have:es.size=76:=by omega
     exact ⟨511,.inr (.inr (.inr rfl)),by rw [this];decide,by omega⟩
    ·omega
   refine wpAny_bind (zfo (s:={ s with heap:=s.heap.update a (Obj.putSet es1 t1) }) hg1 rfl fits1 hw hm' (by rw [h1sz];omega) λ es2 t2 hp2 hpl2 hd2 hm2 hwp2 hl2 hpp2=>?_)
   have hg2:((s.heap.update a (Obj.putSet es1 t1)).update a (Obj.putSet es2 t2)).get? a=some { o with data := .set es2 (ep+1+1) t2 }:=by
    have:=Heap.get?_update_self (Obj.putSet es2 t2) hg1 (by rw [putSet_of es2 t2 rfl];rfl)
    rw [putSet_of es2 t2 rfl] at this;exact this
   have hsz2:es2.size=es.size+1:=by rw [← Array.length_toList,hp2.length_eq,Array.length_toList,h1sz]
   have fl2:t2.fill=es.size+1:=by unfold SetTable.fill;rw [hd2,hpl2,h1sz];rfl
   obtain ⟨qs2,hq2,hpr2⟩:=zxf hp2 hpr1
   refine wpAny_pure (hq (λ q hqm=>hne q (pm.mem_iff.mpr hqm)) _ (sb1.trans (Heap.SameBut.update _ a _)) ⟨_,hg2,es2,ep+1+1,t2,qs2,hex,rfl,?_,⟨hd2,by rw [hpl2,h1sz,hm2];omega,by rw [hm2];exact hm'⟩,by rw [fl2,hm2];exact hlt,hwp2,hq2.trans hpq1,hpr2⟩ (ledK hg2 hl2 hpp2))
   unfold SetTable.fits
   rw [hpl2,h1sz,hsz2,fl2,hm2,beq_self_eq_true,Bool.true_and]
   exact decide_eq_true (by omega)
  ·rw [if_neg hfu]
   have hnf:t1.fill * 5<t1.mask * 3:=by
    have:¬ (t1.fill * 5 ≥ t1.mask * 3):=λ z=>hfu (by unfold SetTable.tooFull;exact decide_eq_true z)
    omega
   exact wpAny_pure (hq (λ q hqm=>hne q (pm.mem_iff.mpr hqm)) _ sb1 ⟨_,hg1,es1,ep+1,t1,qs1,hex,rfl,fits1,fit1,hnf,hwp1 t1 m1 (by rw [← ht1]),hpq1,hpr1⟩ (ledK hg1 rfl rfl))
 by_cases hpn:t.plain=true
 ·simp only [hpn,if_true]
  obtain ⟨as,rx⟩:=hx.rd
  refine wpAny_bind (zml 4 dx A _ _ _ as hx.dp rx hx.oi 8 _ (by decide) λ b hb=>?_)
  cases b with
  | true=>simp only [if_true];exact tail true λ _ _=>rfl
  | false=>simp only [Bool.false_eq_true,if_false];exact tail false λ z _=>hb z
 ·simp only [hpn,if_false,Bool.false_eq_true]
  refine wpAny_bind (wpAny_pure ?_)
  simp only [if_true]
  exact tail false λ _ z=>absurd z hpn
end
end L2
namespace L2
open PySem PySem.Spec PyProof.Rows PySem.NumText
noncomputable def SetQ (w:World) (bl:Bool) (h:Heap) (a:Addr) (val:Nat→PyData) (P:Nat→Value→Prop) (n:Nat):Prop:=∃ qs,SetX w h a qs∧((∀ j,j<n→allI (val j)=true)→Led bl h a)∧(∀ q∈qs,∃ j,j<n∧P j (.ref q.1)∧q.2=val j)∧(∀ j,j<n→∃ q∈qs,q.2=val j)∧(qs.map (·.2)).Nodup∧qs.length≤n
theorem SetQ.at {w:World} {bl:Bool} {h h':Heap} {a:Addr} {val:Nat→PyData} {P:Nat→Value→Prop} {n:Nat} (x:SetQ w bl h a val P n) (k:∀ o,h.get? a=some o→h'.get? a=some o):SetQ w bl h' a val P n:=by
 obtain ⟨qs,⟨o,ho,r⟩,l,r'⟩:=x
 exact ⟨qs,⟨o,k o ho,r⟩,λ z=>let ⟨o',es,ep,t,g,l⟩:=l z; ⟨o',es,ep,t,k o' g,l⟩,r'⟩
section
variable {prog:Program} {w:World} {A:Around} {E:Value→Shared→Prop} {s:Shared}
theorem zvg (a:Value) {Q₁:Value→Shared→Prop}
  (h:Q₁ (.ref s.heap.objs.size) { s with heap:=s.heap.push { cls := .type "set",dict:=none,data := .set #[] 0 (.fresh 0 0 (!w.params.followText "set-order")) } }) :
  codeAny (model prog w) A (.call (.builtin "set.__new__") ⟨[.type "set",a],[]⟩) (wants Q₁ E) s:=by
 refine codeAny_of_tree ?_
 show wpAny _ A.in1 (do checkBuiltinCall "set.__new__" ⟨[.type "set",a],[]⟩;again (.builtin "set.__new__" ⟨[.type "set",a],[]⟩)) _ _ s
 refine wpAny_bind (wpAny_of_eq (F.newCall_set_1 a) (wpAny_pure ⟨plainId_quiet F.plain_set_new _,codeAny_builtin F.entry_set_new ?_⟩))
 rw [Around.under_plainId F.plain_set_new _]
 unfold Builtin.«set.__new__» Builtin.Frozenset.newClass
 have hsub:=sub_set_self
 obtain ⟨hp,g,d,tk,os⟩:=s
 dsimp only
 wp_walk
 refine wpAny_askSetting (wpAny_pure ?_)
 dsimp only
 simp only [newObj]
 refine wpAny_bind (wpAny_alloc (wpAny_pure ?_))
 exact wpAny_pure h
theorem zbx {Q:Value→Shared→Prop}
  (h:Q (.ref s.heap.objs.size) { s with heap:=s.heap.push { cls := .type "set",dict:=none,data := .set #[] 0 (.fresh 0 0 (!w.params.followText "set-order")) } }):wpAny (model prog w) A (newSet (.type "set")) Q E s:=by
 unfold newSet setsByText
 refine wpAny_bind (wpAny_bind (wpAny_askSetting (wpAny_pure ?_)))
 dsimp only
 simp only [newObj]
 exact wpAny_bind (wpAny_alloc (wpAny_pure h))
end
section
variable {prog:Program} {w:World} {A:Around} {R:Result→Shared→Prop} {I:Addr} {fp wr:List Addr} {G:Array GenState→Array GenState→Prop} {n:Nat} {P:Nat→Value→Prop} {St:Nat→Shared→Prop}
theorem zvq (bl:Bool) (W:WalksS prog w A.in1 I fp wr G n P St) (S:Addr) (hSf:S∉fp) (h0:Heap) (val:Nat→PyData) (hval:∀ i v,P i v→El h0 v (val i)) (hb:n<300) (hu:A.units+20<cLine)
  (hS0:h0.get? S=none) (hw0:∀ b∈wr,h0.get? b=none) :
  ∀ (k i:Nat) (s:Shared),n - i=k→i≤n→St i s→(∀ b o,h0.get? b=some o→s.heap.get? b=some o)→SetQ w bl s.heap S val P i →
   (∀ s',Moved (S::wr) G s s'→SetQ w bl s'.heap S val P n→R (.ok (.ret .none)) s') →
   codeAny (model prog w) A (.builtin "set.update.loop" ⟨[.ref S,.ref I],[]⟩) R s:=by
 have hSw:S∉wr:=λ h=>hSf (W.sub _ h)
 have hsub:∀ b∈wr,b∈S::wr:=λ b hb=>List.mem_cons_of_mem _ hb
 have h0w:∀ b o,h0.get? b=some o→b∉wr:=λ b o e hb=>by rw [hw0 b hb] at e;cases e
 have h0S:∀ b o,h0.get? b=some o→b≠S:=λ b o e hb=>by rw [hb,hS0] at e;cases e
 intro k
 induction k with
 | zero =>
  intro i s hk hi hst hkept hS hR
  have hin:i=n:=by omega
  subst hin
  refine codeAny_builtin F.entry_set_update_loop ?_
  rw [Around.under_plainId F.plain_set_update_loop _]
  show wpAny _ A.in1 (pyNext (.ref I) >>= _) _ _ s
  refine wpAny_bind (W.done s _ _ hst λ s' hm=>?_)
  show wpAny _ A.in1 (ret Value.none) _ _ s'
  exact wpAny_pure (hR s' (hm.mono hsub) (hS.at λ o e=>hm.heap S _ hSw e))
 | succ k ih =>
  intro i s hk hi hst hkept hS hR
  have hlt:i<n:=by omega
  refine codeAny_builtin F.entry_set_update_loop ?_
  rw [Around.under_plainId F.plain_set_update_loop _]
  show wpAny _ A.in1 (pyNext (.ref I) >>= _) _ _ s
  refine wpAny_bind (W.item i s _ _ hlt hst λ v s' hP hst' hm=>?_)
  have hv:=hval i v hP
  have hS':SetQ w bl s'.heap S val P i:=hS.at λ o e=>hm.heap S _ hSw e
  have hkept':∀ b o,h0.get? b=some o→s'.heap.get? b=some o:=λ b o e=>hm.heap b o (h0w b o e) (hkept b o e)
  show wpAny _ A.in1 (holding [v] (setAdd S v) >>= _) _ _ s'
  refine wpAny_bind (wpAny_holding ?_)
  unfold setAdd
  refine wpAny_holding ?_
  have hv':=hv.kept hkept'
  obtain ⟨as,rx⟩:=hv'.rd
  obtain ⟨ax,rfl⟩:=hv.rf
  refine wpAny_bind (zvm 4 (val i) A.in1 _ s' (.ref ax) as hv.dp rx hv.oi (by show A.units+1+4<cLine;omega) _ λ tk htk=>?_)
  obtain ⟨qs,hX,hld,hel,hmem,hnd,hle⟩:=hS'
  have go:∀ h',Heap.SameBut S s'.heap h'→SetQ w bl h' S val P (i+1)→wpAny (model prog w) A.in1 (again (.builtin "set.update.loop" ⟨[.ref S,.ref I],[]⟩))
    (λ fin s'=>match fin with | .done f=>R (.ok f) s' | .again c'=>c'.quiet=true∧codeAny (model prog w) A c' R s') (λ e s'=>R (.error e) s') { s' with heap:=h',toks:=tk }:=by
   intro h' hsb hSi
   have hk2:∀ b o,h0.get? b=some o→h'.get? b=some o:=λ b o e=>by rw [hsb.2 b (h0S b o e)];exact hkept' b o e
   refine wpAny_pure ⟨plainId_quiet F.plain_set_update_loop _,ih (i+1) _ (by omega) hlt (W.frame _ s' _ _ hst' htk λ b hb o e=>?_) hk2 hSi λ s'' hm'' hS''=>?_⟩
   ·rw [hsb.2 b (λ h:b=S=>hSf (by rw [← h];exact hb))];exact e
   ·refine hR s'' (Moved.trans W.gtrans ((hm.mono hsub).then_heap htk λ b o hb e=>?_) hm'') hS''
    rw [hsb.2 b (λ h:b=S=>hb (by rw [h];exact List.mem_cons_self))];exact e
  have hel':∀ q∈qs,El s'.heap (.ref q.1) q.2:=λ q hq=>by
   obtain ⟨j,_,hPj,e⟩:=hel q hq
   rw [e]
   exact (hval j _ hPj).kept hkept'
  refine zsr (s:={ s' with toks:=tk }) hX hel' hv' (by omega) (by show A.units+1+10<cLine;omega) (λ hold=>?_) (λ hnew h' hsb hS2 hlk=>?_)
  ·refine go s'.heap ⟨rfl,λ _ _=>rfl⟩ ⟨qs,hX,λ z=>hld λ j hj=>z j (by omega),λ q hq=>let ⟨j,h1,h2⟩:=hel q hq; ⟨j,by omega,h2⟩,λ j hj=>?_,hnd,by omega⟩
   rcases Nat.lt_or_ge j i with hl | hg
   ·exact hmem j hl
   ·have:j=i:=by omega
    subst this
    exact hold
  ·refine go h' hsb ⟨(ax,val i)::qs,hS2,λ z=>hlk _ (z i (by omega)) (hld λ j hj=>z j (by omega)),λ q hq=>?_,λ j hj=>?_,?_,by rw [List.length_cons];omega⟩
   ·rcases List.mem_cons.mp hq with rfl | hq
    ·exact ⟨i,by omega,hP,rfl⟩
    ·obtain ⟨j,h1,h2⟩:=hel q hq
     exact ⟨j,by omega,h2⟩
   ·rcases Nat.lt_or_ge j i with hl | hg
    ·obtain ⟨q,hq,e2⟩:=hmem j hl
     exact ⟨q,List.mem_cons_of_mem _ hq,e2⟩
    ·have:j=i:=by omega
     subst this
     exact ⟨_,List.mem_cons_self,rfl⟩
   ·rw [List.map_cons]
    refine List.nodup_cons.mpr ⟨λ hm=>?_,hnd⟩
    obtain ⟨q,hq,e⟩:=List.mem_map.mp hm
    exact hnew q hq e
end
section
variable {prog:Program} {w:World} {A:Around} {E:Value→Shared→Prop} {s:Shared}
set_option maxRecDepth 100000 in
set_option maxHeartbeats 3200000 in
theorem zzi {l:Addr} {items:Array Value} {val:Nat→PyData} {Q:Value→Shared→Prop}
  (hh:A.handled=none) (hl:s.heap.IsList l items) (hi:∀ i v,items[i]? = some v→El s.heap v (val i)) (hb:items.size<300) (hu:A.units+30<cLine)
  (h:∀ (h':Heap) (tk:Nat),SetQ w (!w.params.followText "set-order") h' s.heap.objs.size val (λ i v=>items[i]? = some v) items.size →
   (∀ b o,b<s.heap.objs.size→s.heap.get? b=some o→h'.get? b=some o)→Q (.ref s.heap.objs.size) { s with heap:=h',toks:=tk }) :
  wpAny (model prog w) A (call (.type "set") [.ref l]) Q E s:=by
 obtain ⟨c,tl,hmro⟩:=F.called_set.mro
 have hmade:=F.called_set.made
 have hsub:=F.called_set.sub
 refine wpAny_call (codeAny_of_tree ?_)
 show wpAny _ _ (callAny (.type "set") _) _ _ _
 refine wpAny_pure ⟨Code.quiet_builtin _ (by decide +kernel),codeAny_builtin F.entry_type_call ?_⟩
 rw [Around.under_plain (weight_type_call_type "set" [.ref l] []) rfl]
 have h1:=F.called_set.notType
 have h2:=F.called_set.canCreate
 have hct:=F.typeCall_set_1 (.ref l)
 repeat (any_goals (first | assumption | wp_step))
 refine codeAny_mono (zvg (.ref l) (E:=E) (Q₁:=λ obj s₁=>∃ led:Bool,led=(!w.params.followText "set-order")∧obj = .ref s.heap.objs.size∧s₁={ s with heap:=s.heap.push { cls := .type "set",dict:=none,data := .set #[] 0 (.fresh 0 0 led) } }) ⟨_,rfl,rfl,rfl⟩) λ r s₁ hr=>?_
 cases r with
 | error e=>exact hr
 | ok fl =>
  cases fl with
  | ret obj =>
   obtain ⟨led,hled,rfl,rfl⟩:=hr
   have hS:(s.heap.push { cls := .type "set",dict:=none,data := .set #[] 0 (.fresh 0 0 led) }).get? s.heap.objs.size=some { cls := .type "set",dict:=none,data := .set #[] 0 (.fresh 0 0 led) }:=Heap.get?_push_size _ rfl
   have hT:Shared.TypeIs { s with heap:=s.heap.push { cls := .type "set",dict:=none,data := .set #[] 0 (.fresh 0 0 led) } } (.ref s.heap.objs.size) "set" := ⟨_,hS,rfl⟩
   have hli:=F.called_set.init.lookup
   have hbi:=F.called_set.init.bind (.ref s.heap.objs.size)
   repeat (any_goals (first | assumption | wp_step))
   refine codeAny_mono (codeAny_call_builtin (R:=wants (λ r s₂=>r = .none∧∃ h' tk,s₂={ s with heap:=h',toks:=tk } ∧
     SetQ w (!w.params.followText "set-order") h' s.heap.objs.size val (λ i v=>items[i]? = some v) items.size ∧
     (∀ b o,b<s.heap.objs.size→s.heap.get? b=some o→h'.get? b=some o)) E) F.called_set.init.plain F.entry_set_init (check_set_init_1 hT ?_)) λ r₂ s₂ hr₂=>?_
   ·obtain ⟨ol,hol,hcl,nl,hdl⟩:=hl
    obtain ⟨ocls,odict,odata,oslots⟩:=ol
    simp only at hcl hdl
    subst hcl;subst hdl
    have hol':(s.heap.push { cls := .type "set",dict:=none,data := .set #[] 0 (.fresh 0 0 led) }).get? l=some { cls := .type "list",dict:=odict,data := .seq items nl,slots:=oslots }:=Heap.get?_push_of_some _ hol
    have hsls:=F.sub_list_set
    have hslf:=F.sub_list_frozenset
    have hne:(Value.type "list" == Value.type "dict")=false:=by decide
    have hl1:(s.heap.push { cls := .type "set",dict:=none,data := .set #[] 0 (.fresh 0 0 led) }).IsList l items:=⟨_,hol',rfl,nl,rfl⟩
    unfold Builtin.«set.__init__» noKeywords Builtin.Frozenset.updateFrom
    generalize hPI:pyIter=PI
    wp_walk
    subst hPI
    refine wpAny_pyIter_list hl1 ?_
    refine wpAny_bind (wpAny_runValue ?_)
    have hlS:l<s.heap.objs.size:=Heap.lt_size hol
    have hh3:A.in1.in1.in1.handled=none:=by simp [hh]
    have hneI:l≠(s.heap.push { cls := .type "set",dict:=none,data := .set #[] 0 (.fresh 0 0 led) }).objs.size:=by
     rw [Heap.size_push];exact Nat.ne_of_lt (Nat.lt_succ_of_lt hlS)
    have hSf:s.heap.objs.size∉[(s.heap.push { cls := .type "set",dict:=none,data := .set #[] 0 (.fresh 0 0 led) }).objs.size,l]:=by
     rw [Heap.size_push];simp only [List.mem_cons,List.mem_singleton,List.not_mem_nil,or_false,not_or]
     exact ⟨Nat.ne_of_lt (Nat.lt_succ_self _),Nat.ne_of_gt hlS⟩
    have hfr:s.heap.get? s.heap.objs.size=none:=by
     cases e:s.heap.get? s.heap.objs.size with
     | none=>rfl
     | some o'=>exact absurd (Heap.lt_size e) (Nat.lt_irrefl _)
    have hfr2:s.heap.get? (s.heap.objs.size+1)=none:=by
     cases e:s.heap.get? (s.heap.objs.size+1) with
     | none=>rfl
     | some o'=>exact absurd (Heap.lt_size e) (Nat.not_lt.mpr (Nat.le_succ _))
    refine zvq (!w.params.followText "set-order") ((Walks.list hh3 _ l hneI items).toS) s.heap.objs.size hSf s.heap val (λ i v hv=>hi i v hv) hb (by show A.units+1+1+20<cLine;omega) hfr (λ b hb' => ?hw) (items.size - 0) 0 _ (by omega) (Nat.zero_le _)
     ⟨⟨_,Heap.get?_push_size _ rfl,rfl,rfl⟩,(hl1.push _)⟩ (λ b o e=>Heap.get?_push_of_some _ (Heap.get?_push_of_some _ e)) ?hS0 ?hR
    case hw =>
     rcases List.mem_cons.mp hb' with rfl | hb'
     ·rw [Heap.size_push];exact hfr2
     ·cases hb'
    case hS0 =>
     have hget:((s.heap.push { cls := .type "set",dict:=none,data := .set #[] 0 (.fresh 0 0 led) }).push { cls := .type "list_iterator",data := .fields #[.ref l,.int 0 0] }).get? s.heap.objs.size
       = some { cls := .type "set",dict:=none,data := .set #[] 0 (.fresh 0 0 led) }:=Heap.get?_push_of_some _ hS
     exact ⟨[],⟨_,hget, #[],0,.fresh 0 0 led,[],⟨rfl,rfl,rfl⟩,rfl,rfl,⟨rfl,by show 0≤7;decide,.inl rfl⟩,by show 0 * 5<7 * 3;decide,⟨(λ a b u v _ e _=>by simp [SetTable.fresh] at e),λ i j e h1=>by simp [SetTable.fresh] at h1⟩,.refl _,.nil⟩,λ _=>⟨_,_,_,_,hget,rfl,hled,rfl⟩,(λ q hq=>by cases hq),(λ j hj=>(by omega)),List.nodup_nil,Nat.zero_le _⟩
    case hR =>
     intro s' hm hS'
     obtain ⟨h',g',d',tk',os'⟩:=s'
     have eg:g'=s.gens:=hm.gens
     have ed:d'=s.drawn:=hm.drawn
     have eo:os'=s.os:=hm.os
     subst eg;subst ed;subst eo
     show wpAny _ _ _ _ _ _
     refine wpAny_pure ?_
     show wpAny _ _ (ret Value.none) _ _ _
     refine wpAny_pure ⟨rfl,h',tk',rfl,hS',λ b o hb e=>?_⟩
     have hb1:b≠s.heap.objs.size:=Nat.ne_of_lt hb
     have hb2:b≠(s.heap.push { cls := .type "set",dict:=none,data := .set #[] 0 (.fresh 0 0 led) }).objs.size:=by
      rw [Heap.size_push];exact Nat.ne_of_lt (Nat.lt_succ_of_lt hb)
     exact hm.heap b o (by simp only [List.mem_cons,List.mem_singleton,List.not_mem_nil,or_false,not_or];exact ⟨hb1,hb2⟩) (Heap.get?_push_of_some _ (Heap.get?_push_of_some _ e))
   ·cases r₂ with
    | error e=>exact hr₂
    | ok fl₂ =>
     cases fl₂ with
     | ret r =>
      obtain ⟨rfl,h',tk,rfl,hS',hk'⟩:=hr₂
      repeat (any_goals (first | assumption | wp_step))
      exact h _ _ hS' hk'
     | _=>exact hr₂.elim
  | _=>exact hr.elim
end
end L2
namespace L2
open PySem PySem.Spec PyProof.Rows PySem.NumText
noncomputable def zbt (w:World) (a:Addr) (qs:List Mem):HO := .ext λ h=>SetX w h a qs
noncomputable def ok4S (d:PyData):Prop:=zvd d=true∧d.depth≤4∧∃ xs,d = .tuple xs
noncomputable def ok4 (d:PyData):Prop:=allI d=true∧d.depth≤4∧∃ xs,d = .tuple xs
mutual
theorem zhe:∀ (d:PyData),allI d=true→zvd d=true
 | .int _,_=>rfl
 | .tuple xs,h=>zhh xs h
 | .none,h=>by cases h
 | .bool _,h=>by cases h
 | .str _,h=>by cases h
 | .list _,h=>by cases h
 | .dict _,h=>by cases h
theorem zhh:∀ (ds:List PyData),zyr ds=true→zcb ds=true
 | [],_=>rfl
 | d::ds,h=>by
  rw [zyr,Bool.and_eq_true] at h
  rw [zcb,zhe d h.1,zhh ds h.2]
  rfl
end
theorem ok4.s {d:PyData} (h:ok4 d):ok4S d:=⟨zhe d h.1,h.2⟩
theorem zju (m:Mark):ok4 (markD m):=⟨rfl,by show 1≤4;decide,_,rfl⟩
theorem zsu {P:Program} {w:World} {H:Hp} {h:Heap} {a:Addr} {qs:List Mem} (x:SetX w h a qs):ObjOk P w H h a (zbt w a qs):=by
 obtain ⟨o,ho,r⟩:=x
 exact ⟨⟨o,ho,r⟩,⟨o,ho⟩,λ h1 h2 ⟨o',ho',r'⟩ k=>⟨o',k o' ho',r'⟩⟩
section
variable {X:Cx} {pins:List (Addr×Obj)} {σ:St} {H:Hp} {s:Shared}
theorem Inv.el (I:Inv X pins σ H s) {d:PyData} {x:V} {u:Value} (h:DV X.K H d x) (r:RelV x u) (o:ok4S d):El s.heap u d:=by
 obtain ⟨o1,o2,xs,rfl⟩:=o
 obtain ⟨as,ra⟩:=DV.reads I _ x u h r
 obtain ⟨a,vs,rfl,_⟩:=h
 cases r
 exact ⟨⟨as,ra⟩,o1,o2,a,rfl⟩
theorem Inv.setX (I:Inv X pins σ H s) {a:Addr} {qs:List Mem} (h:H a=some (zbt X.w a qs)):SetX X.w s.heap a qs:=(I.hok a _ h).1
end
structure SAt (w:World) (K:W.Frag) (H:Hp) (a:Addr) (qs:List Mem):Prop where
 ob:H a=some (zbt w a qs)
 dv:∀ q∈qs,DV K H q.2 (.ref q.1)
 ok:∀ q∈qs,ok4S q.2
 nd:(qs.map (·.2)).Nodup
section
variable {X:Cx}
noncomputable def zr4 (w:World) (K:W.Frag):List V→Hp→VK→Prop:=λ xs H Q=>∃ (p:Addr) (ds:List PyData) (ys:List V),xs=[.ref p]∧SqL K H p ys∧DVs K H ds ys∧(∀ d∈ds,ok4S d)∧ds.length<300 ∧
 ∀ (a:Addr) (qs:List Mem),H a=none→SAt w K (upd H a (zbt w a qs)) a qs→(∀ d,(∃ q∈qs,q.2=d)↔d∈ds)→qs.length≤ds.length→Q (.ref a) (upd H a (zbt w a qs))
theorem zjq (hc:X.calm=true) (hu:X.A.units+100<cLine):zrj X (.type "set") (zr4 X.w X.K):=by
 intro pins s σ H xs us Q I r h
 obtain ⟨p,ds,ys,rfl,hq,hds,hok,hlen,q⟩:=h
 obtain ⟨u,rfl,ru⟩:=zno r
 cases ru
 obtain ⟨its,rv,pl,hz⟩:=I.list hq
 have hyl:ys.length=ds.length:=hds.length
 have hil:its.length=ds.length:=by rw [← rv.length];exact hyl
 have hat:∀ (i:Nat) v,its.toArray[i]? = some v→∃ x d,ys[i]? = some x∧ds[i]? = some d∧RelV x v∧DV X.K H d x:=λ i v hv=>by
  have hi:i<ds.length:=by
   have:=(Array.getElem?_eq_some_iff.mp hv).1
   rw [List.size_toArray,hil] at this
   exact this
  obtain ⟨x,hx,hd⟩:=hds.get (i:=i) (d:=ds[i]) (List.getElem?_eq_getElem hi)
  obtain ⟨u,hu',ru⟩:=rv.get hx
  have:v=u:=by
   rw [List.getElem?_toArray,hu'] at hv
   exact (Option.some.inj hv).symm
  subst this
  exact ⟨x,ds[i],hx,List.getElem?_eq_getElem hi,ru,hd⟩
 refine zzi (val:=λ i=>ds.getD i .none) (I.ok.hd hc) pl.isList (λ i v hv=>?_) (by rw [List.size_toArray,hil];exact hlen) (by omega) λ h' tk hS hk=>?_
 ·obtain ⟨x,d,_,hd,rx,dv⟩:=hat i v hv
  have e:ds.getD i .none=d:=by rw [List.getD_eq_getElem?_getD,hd];rfl
  rw [e]
  exact I.el dv rx (hok d (List.mem_of_getElem? hd))
 ·have hz2:its.toArray.size=ds.length:=by simp [hil]
  rw [hz2] at hS
  obtain ⟨qs,hX,_,hin,hall,hnd,hle⟩:=hS
  have hn:=I.hok.fresh (Nat.le_refl s.heap.objs.size)
  have hqd:∀ q∈qs,q.2∈ds∧DV X.K H q.2 (.ref q.1):=λ qq hqq=>by
   obtain ⟨j,hj,hP,e⟩:=hin qq hqq
   obtain ⟨x,d,_,hd,rx,dv⟩:=hat j _ hP
   have e1:ds.getD j .none=d:=by rw [List.getD_eq_getElem?_getD,hd];rfl
   have e:qq.2=d:=by rw [e];exact e1
   obtain ⟨_,_,⟨zs,ez⟩⟩:=hok d (List.mem_of_getElem? hd)
   have ex:x = .ref qq.1:=by
    rw [ez] at dv
    obtain ⟨aa,vs,rfl,_⟩:=dv
    cases (show Value.ref qq.1=Value.ref aa from rx)
    rfl
   rw [e,← ex]
   exact ⟨List.mem_of_getElem? hd,dv⟩
  refine ⟨.ref s.heap.objs.size,_,I.laid (t':=tk) (o:=zbt X.w s.heap.objs.size qs) (λ b ob e=>hk b ob (Heap.lt_size e) e) (Nat.le_refl _) (zsu hX),rfl,q _ qs hn ⟨upd_same,λ qq hqq=>DV.same (zba hn) _ _ (hqd qq hqq).2,λ qq hqq=>hok _ (hqd qq hqq).1,hnd⟩ (λ d=>⟨λ ⟨qq,hqq,e⟩=>e ▸ (hqd qq hqq).1,λ hd=>?_⟩) hle⟩
  obtain ⟨j,hj⟩:=List.getElem?_of_mem hd
  obtain ⟨qq,hqq,e⟩:=hall j (List.getElem?_eq_some_iff.mp hj).1
  exact ⟨qq,hqq,by rw [e];show ds.getD j .none=d;rw [List.getD_eq_getElem?_getD,hj];rfl⟩
end
end L2
namespace L2
open PySem PySem.Spec PyProof.Rows PySem.NumText
section
variable {prog:Program} {w:World} {A:Around} {E:Value→Shared→Prop} {s:Shared}
end
section
variable {X:Cx} {e:Expr} {ta:TA} {x:Str} {id:String} {r:List V→Hp→VK→Prop} {p pos kp kp1:Pos} {j:Nat}
end
end L2
namespace L2
open PySem PySem.Spec PyProof.Rows PySem.NumText
section
variable {X:Cx}
end
end L2
namespace L2
open PySem PySem.Spec PyProof.Rows PySem.NumText
noncomputable def zds (d:Addr) (i n ep:Nat):Obj:={ cls := .type "dict_keyiterator",data := .fields #[.ref d,.int i 0,.int n 0,.int ep 0] }
section
variable {prog:Program} {w:World} {A:Around} {E:Value→Shared→Prop} {s:Shared} {d it:Addr} {ds:Array DictEntry} {ep i:Nat}
theorem zsj:Builtin.Dict_items.ownsTuple "dict_keyiterator" = false:=by decide
theorem zcq {Q:Value→Shared→Prop} (hT:s.TypeIs (.ref d) "dict") (hd:RawD s.heap d ds ep) (hs:(d == sysModules)=false)
  (k:Q (.ref s.heap.objs.size) { s with heap:=s.heap.push (zds d 0 ds.size ep) }):wpAny (model prog w) A (pyIter (.ref d)) Q E s:=by
 obtain ⟨o,d1,d2,d3⟩:=hd
 refine wpAny_pyIter_slot hT F.slot_dict_iter (wpAny_call_entry F.slot_dict_iter hT F.entry_dict_iter ?_ (F.args_dict_iter_1 _))
 unfold Builtin.«dict.__iter__» Builtin.Dict.dictSlotNone
 refine wpAny_bind (wpAny_bind (wpAny_notOrdered_dict hT (wpAny_bind (wpAny_of_eq (a:=(Value.ref d,[])) rfl (wpAny_pure ?_)))))
 refine wpAny_bind (wpAny_pure ?_)
 unfold Builtin.Dict.showsAll
 rw [hs]
 refine wpAny_bind (wpAny_of_eq (a:=()) (if_neg Bool.false_ne_true) ?_)
 refine wpAny_bind (wpAny_dictEntries d1 d3 (wpAny_bind (wpAny_dictEpoch d1 d3 ?_)))
 refine wpAny_bind (wpAny_newObj_type (wpAny_pure ⟨_,rfl, "dict_keyiterator",_,⟨_,Heap.get?_push_size _ rfl,rfl⟩,F.slot_dict_keyiterator_next.lookup,?_⟩) ?_)
 ·simpa [rawInt,zds] using k
 ·simp only [sizeOk,List.size_toArray,List.length_cons,List.length_nil,sizeLine_eq]
  omega
theorem zvv {Q:Option Value→Shared→Prop} {e:DictEntry} (hi:s.heap.get? it=some (zds d i ds.size ep)) (hd:RawD s.heap d ds ep) (he:ds[i]? = some e)
  (k:∀ h',h'.get? it=some (zds d (i+1) ds.size ep)→h'.objs.size=s.heap.objs.size→(∀ b o,b≠it→s.heap.get? b=some o→h'.get? b=some o)→Q (some e.key) { s with heap:=h' }):wpAny (model prog w) A (pyNext (.ref it)) Q E s:=by
 obtain ⟨o,d1,d2,d3⟩:=hd
 have ty:s.TypeIs (.ref it) "dict_keyiterator" := ⟨_,hi,rfl⟩
 unfold pyNext
 refine wpAny_bind (wpAny_attempt (wpAny_callSpecial?_slot ty F.slot_dict_keyiterator_next (wpAny_call_entry F.slot_dict_keyiterator_next ty F.entry_dict_keyiterator_next ?_ (F.args_dict_keyiterator_next_1 _))))
 unfold Builtin.«dict_keyiterator.__next__»
 refine wpAny_bind (wpAny_pure (wpAny_bind (wpAny_bind (wpAny_bind (wpAny_typeNameOfWhole_keyiter ty (wpAny_pure (wpAny_bind (wpAny_fieldsOf hi rfl ?_))))))))
 simp only [zsj,Bool.false_eq_true,if_false]
 have e1:(Value.ref d == Value.none)=false:=rfl
 dsimp only [List.drop,List.take]
 rw [if_neg (by rw [e1];exact Bool.false_ne_true)]
 refine wpAny_bind (wpAny_pure (wpAny_bind (wpAny_dictEntries d1 d3 ?_)))
 rw [if_neg (by simp)]
 refine wpAny_bind (wpAny_pure (wpAny_bind (wpAny_dictEpoch d1 d3 ?_)))
 rw [if_neg (by simp)]
 refine wpAny_pure ?_
 dsimp only
 rw [if_neg (by omega),Int.toNat_natCast,he]
 dsimp only
 refine wpAny_bind (wpAny_bind (wpAny_typeNameOfWhole_keyiter ty (wpAny_pure ?_)))
 refine wpAny_bind (wpAny_isOneOf_keyiter ty ?_)
 simp only [zsj,Bool.false_eq_true,if_false]
 rw [if_neg (by decide)]
 refine wpAny_bind (wpAny_setField_rec (k:=1) hi (by show 1<4;decide) λ h1 g1 sb1=>?_)
 have g1:h1.get? it=some (zds d (i+1) ds.size ep):=g1
 have ty1:({ s with heap:=h1 }:Shared).TypeIs (.ref it) "dict_keyiterator" := ⟨_,g1,rfl⟩
 refine wpAny_bind (wpAny_holding (wpAny_bind (wpAny_isOneOf_keyiter ty1 ?_)))
 first | rw [if_neg (by decide)] | rw [if_pos (by decide)]
 exact wpAny_pure (wpAny_pure ⟨_,rfl,wpAny_pure (k h1 g1 sb1.1 λ b o hb q=>(sb1.2 b hb).trans q)⟩)
theorem zsi {Q:Option Value→Shared→Prop} (hh:A.handled=none) (hi:s.heap.get? it=some (zds d i ds.size ep)) (hd:RawD s.heap d ds ep) (he:ds[i]? = none)
  (k:∀ h',(∀ b o,b≠it→s.heap.get? b=some o→h'.get? b=some o)→Q none { s with heap:=h' }):wpAny (model prog w) A (pyNext (.ref it)) Q E s:=by
 obtain ⟨o,d1,d2,d3⟩:=hd
 have ty:s.TypeIs (.ref it) "dict_keyiterator" := ⟨_,hi,rfl⟩
 unfold pyNext
 refine wpAny_bind (wpAny_attempt (wpAny_callSpecial?_slot ty F.slot_dict_keyiterator_next (wpAny_call_entry F.slot_dict_keyiterator_next ty F.entry_dict_keyiterator_next ?_ (F.args_dict_keyiterator_next_1 _))))
 unfold Builtin.«dict_keyiterator.__next__»
 refine wpAny_bind (wpAny_pure (wpAny_bind (wpAny_bind (wpAny_bind (wpAny_typeNameOfWhole_keyiter ty (wpAny_pure (wpAny_bind (wpAny_fieldsOf hi rfl ?_))))))))
 simp only [zsj,Bool.false_eq_true,if_false]
 have e1:(Value.ref d == Value.none)=false:=rfl
 dsimp only [List.drop,List.take]
 rw [if_neg (by rw [e1];exact Bool.false_ne_true)]
 refine wpAny_bind (wpAny_pure (wpAny_bind (wpAny_dictEntries d1 d3 ?_)))
 rw [if_neg (by simp)]
 refine wpAny_bind (wpAny_pure (wpAny_bind (wpAny_dictEpoch d1 d3 ?_)))
 rw [if_neg (by simp)]
 refine wpAny_pure ?_
 dsimp only
 rw [if_neg (by omega),Int.toNat_natCast,he]
 dsimp only
 refine wpAny_bind (wpAny_bind (wpAny_typeNameOfWhole_keyiter ty (wpAny_pure ?_)))
 simp only [zsj,Bool.false_eq_true,if_false]
 refine wpAny_bind (wpAny_setField_rec (k:=0) hi (by show 0<4;decide) λ h1 g1 sb=>?_)
 unfold newExc raiseNew
 refine wpAny_bind (wpAny_bind (wpAny_newObj_type ?_))
 have fa:firstArgMember (.type "StopIteration") []=pure Value.none:=by
  rw [firstArgMember.eq_1]
  generalize (Manifest.find? "StopIteration").elim false (λ t=>t.mro.contains "StopIteration" || t.mro.contains "SystemExit")=b
  cases b <;> rfl
 refine wpAny_bind (wpAny_of_eq fa (wpAny_newObj_type ?_ (sizeOk_excFields _ _ _ _ _ _ _ _)))
 refine wpAny_bind (wpAny_handled ?_)
 rw [show A.in1.handled=none from hh]
 refine wpAny_throw ?_
 refine wpAny_bind (wpAny_isInstance ⟨_,Heap.get?_push_size _ rfl,rfl⟩ isSubtype_stop ?_)
 rw [if_pos rfl]
 refine wpAny_pure (k _ λ b o hb e=>?_)
 exact Heap.get?_push_of_some _ (Heap.get?_push_of_some _ ((sb.2 b hb).trans e))
end
end L2
namespace L2
open PySem PySem.Spec PyProof.Rows PySem.NumText
noncomputable def Itk (P:Program) (w:World) (a:Addr) (es:List Ent) (o:Obj):It :=
 ⟨λ i H=>H a=some (dO P w a es o)∧i<es.length,λ i H v H'=>H'=H∧∃ e,v = .ref e.2.1∧es[i]? = some e,λ i H=>H a=some (dO P w a es o)∧es.length≤i⟩
theorem zgr {P:Program} {w:World} {K:W.Frag} {tg:Expr} (a it:Addr) (es:List Ent) (o:Obj) (ds:Array DictEntry) (ep:Nat) (hod:o.data = .dict ds ep) :
  Turn P w K tg (Itk P w a es o) [it] it (λ i h=>h.get? it=some (zds a i es.length ep)) where
 mem:=by simp
 obj:=λ i h st b hb=>by
  have:b=it:=by simpa using hb
  subst this
  exact ⟨_,st,λ v z=>nomatch z⟩
 keep:=λ i h h' st k=>k it (by simp) _ st
 item:=by
  intro X hP hw hK hc i pins s σ H E I hf he hg
  subst hP hw hK
  obtain ⟨hob,hi⟩:=hg
  obtain ⟨h1,_,_,ds',ep',rs,R⟩:=I.raw hob
  have e0:=R.dat
  rw [hod] at e0
  cases e0
  obtain ⟨e,hei⟩:∃ e,es[i]? = some e:=⟨_,List.getElem?_eq_getElem hi⟩
  obtain ⟨u,q,hu,hk,hv,rq⟩:=R.at_ hei
  rw [← R.size] at he
  obtain ⟨f0,f1,f2,f3,f4,f5⟩:=hf it (by simp)
  refine zvv he ⟨o,h1,R.cl,R.dat⟩ hu λ h' g1 g2 g3=>?_
  have I1:Inv X pins σ H { s with heap:=h' }:=I.turned (t':=s.toks) g3 f0 f1 f3 f4 f5
  refine ⟨u.key,rfl,zyz (s:={ s with heap:=h' }) g1 rfl rfl (by decide) ⟨.ref e.2.1,H,I1,hk,⟨rfl,e,rfl,hei⟩,by rw [R.size] at g1;exact g1,λ b hb=>(hf b hb).1⟩⟩
 done:=by
  intro X hP hw hK hc i pins s σ H E I hf he hg
  subst hP hw hK
  obtain ⟨hob,hi⟩:=hg
  obtain ⟨h1,_,_,ds',ep',rs,R⟩:=I.raw hob
  have e0:=R.dat
  rw [hod] at e0
  cases e0
  rw [← R.size] at he
  obtain ⟨f0,f1,f2,f3,f4,f5⟩:=hf it (by simp)
  exact zsi (I.ok.hd hc) he ⟨o,h1,R.cl,R.dat⟩ (by rw [Array.getElem?_eq_none];rw [R.size];exact hi) λ h' kp=>⟨rfl,I.turned (t':=s.toks) kp f0 f1 f3 f4 f5⟩
 self:=λ A i s Q E st h=>by
  have hT:s.TypeIs (.ref it) "dict_keyiterator" := ⟨_,st,rfl⟩
  exact wpAny_pyIter_slot hT F.slot_dict_keyiterator_iter (wpAny_call_entry F.slot_dict_keyiterator_iter hT F.entry_dict_keyiterator_iter (wpAny_pure ⟨_,rfl, "dict_keyiterator",_,hT,F.slot_dict_keyiterator_next.lookup,h⟩) (F.args_dict_keyiterator_iter_1 _))
section
variable {X:Cx} {o:Expr} {td:TE}
noncomputable def zx4 (P:Program) (w:World) (td:TE):TI:=λ σ H R=>td σ H λ x H1=>∃ a es o,x = .ref a∧H1 a=some (dO P w a es o)∧R (Itk P w a es o) H1
theorem zij {tg:Expr} (ho:PE X o td):PI X tg o (zx4 X.prog X.w td) := .mk <| by
 intro pins s σ H R I h
 refine thn (ho pins s σ H _ I h) λ v s1 ⟨x,H1,I1,r1,a,es,ob,ex,hob,q⟩=>?_
 subst ex
 cases r1
 obtain ⟨hT,hdn⟩:=I1.isDict hob
 obtain ⟨d1,hb,_,ds,ep,rs,RR⟩:=I1.raw hob
 refine zcq hT ⟨ob,d1,RR.cl,RR.dat⟩ hb ?_
 have hit:=Heap.get?_push_size s1.heap (o:=zds a 0 ds.size ep) rfl
 refine ⟨s1.heap.objs.size,[s1.heap.objs.size],_,_,H1,rfl,I1.kept (t':=s1.toks) λ b o e=>Heap.get?_push_of_some _ e,zgr a s1.heap.objs.size es ob ds ep RR.dat,by rw [← RR.size];exact hit,λ b hb=>?_,q⟩
 have e:b=s1.heap.objs.size:=by simpa using hb
 subst e
 exact I1.fpOk (Nat.le_refl _) (I1.hok.fresh (Nat.le_refl _))
end
theorem zqy {P:Program} {w:World} {a:Addr} {es:List Ent} {o:Obj} {H1:Hp} (h:H1 a=some (dO P w a es o)):∀ i H2,Same H1 H2→(i<es.length→(Itk P w a es o).go i H2)∧((Itk P w a es o).stop es.length H2)∧∀ x H3,i<es.length→(Itk P w a es o).yld i H2 x H3→H3=H2∧x=((es[i]?).map λ e=>V.ref e.2.1).getD .non:=λ i H2 s=>by
 refine ⟨λ hi=>⟨s _ _ h,hi⟩,⟨s _ _ h,Nat.le_refl _⟩,λ x H3 hi ⟨e,en,ex,hei⟩=>⟨e,?_⟩⟩
 rw [hei,ex]
 rfl
section
variable {prog:Program} {w:World} {A:Around} {E:Value→Shared→Prop} {s:Shared} {d it S:Addr} {ds:Array DictEntry} {ep:Nat}
end
theorem zgq {ks:List Mark} (nd:ks.Nodup) (few:ks.length<64):Srt ks (λ m=>[.int m.1,.int m.2]) mLt .int where
 sto:=mLt_sto
 few:=few
 nd:=nd
 lts:=by
  intro a _ b _
  have h:=zli a b
  exact h
 fst:=λ a _=>⟨_,_,rfl,_,rfl⟩
 shp:=λ a _=>rfl
section
variable {X:Cx}
end
end L2
namespace L2
open PySem PySem.Spec PyProof.Rows PySem.NumText
section
variable {X:Cx}
end
section
variable {prog:Program} {w:World} {A:Around} {E:Value→Shared→Prop} {s:Shared} {d q:Addr}
end
end L2
namespace L2
open PySem PySem.Spec PyProof.Rows PySem.NumText
section
variable {prog:Program} {w:World} {A:Around} {E:Value→Shared→Prop} {s:Shared} {d q:Addr}
end
section
variable {X:Cx} {o e:Expr} {td ty:TE} {apos cpos:Pos}
end
end L2
namespace L2
open PySem PySem.Spec PyProof.Rows PySem.NumText
theorem slot_si_next:Slot "set_iterator" (Str.ofString "__next__") "set_iterator.__next__" := by
 refine Slot.of (owner := "set_iterator") (n := "__next__") ?_ ?_ ?_ ?_ ?_ ?_ ?_
 ·rw [typeLookup_type,builtinLookup_eq_fast];rfl
 ·decide +kernel
 ·decide +kernel
 ·decide +kernel
 ·exact Or.inl (by decide +kernel)
 ·rw [isSubtype_type];rfl
 ·decide +kernel
theorem zud:entryFor table "set_iterator.__next__" = some Builtin.«set_iterator.__next__» := entryFor_of_tree (by rfl)
theorem zif:entryFor table "set.__iter__" = some Builtin.«frozenset.__iter__» := entryFor_alias (id' := "frozenset.__iter__") (by rfl) (by rfl) (by decide +kernel) (by rfl)
theorem zps (a:Value):argsOk "set_iterator.__next__" ⟨[a],[]⟩:=by rfl
section
variable {prog:Program} {w:World} {A:Around} {E:Value→Shared→Prop} {s:Shared} {a it:Addr}
theorem zqv {Q:Bool→Shared→Prop} {r:Addr} (hT:s.TypeIs (.ref r) "set") (h:Q false s):wpAny (model prog w) A (Builtin.List.listLengthHint (.ref r)) Q E s:=by
 unfold Builtin.List.listLengthHint
 refine wpAny_bind (wpAny_specialOf hT F.slot_set_len.lookup ?_)
 have sp:splitId "set.__len__" = some ("set", "__len__"):=by decide +kernel
 dsimp only
 rw [sp]
 have sub:isSubtype (.type "set") (.type "set")=pure true:=by rw [isSubtype_type];rfl
 refine wpAny_bind (wpAny_isInstance hT sub ?_)
 rw [if_neg (by decide)]
 rw [if_pos (by decide +kernel)]
 refine wpAny_bind (wpAny_typeOf hT ?_)
 exact wpAny_pure h
end
end L2
namespace L2
open PySem PySem.Spec PyProof.Rows PySem.NumText
section
variable {prog:Program} {w:World} {A:Around} {E:Value→Shared→Prop} {s:Shared} {a it:Addr}
end
section
variable {X:Cx}
end
end L2
namespace L2
open PySem PySem.Spec PyProof.Rows PySem.NumText
theorem zih {α:Type}:∀ (l:List α) (n:Nat) (h:n<l.length),(l[n]::l.eraseIdx n).Perm l
 | [],n,h=>by simp at h
 | x::l,0,_=>.refl _
 | x::l,n+1,h=>by
  have hl:n<l.length:=by simpa using h
  show (l[n]::x::l.eraseIdx n).Perm (x::l)
  exact (List.Perm.swap _ _ _).trans (.cons _ (zih l n hl))
theorem zls {α:Type} (next:Nat→Nat):∀ (fuel k:Nat) (left:List α) (out:Array α),left.length=fuel→(pickOrder.go next fuel k left out).toList.Perm (out.toList++left)
 | 0,k,left,out,h=>by
  rw [List.length_eq_zero_iff.mp h,List.append_nil]
  unfold pickOrder.go
  exact .refl _
 | fuel+1,k,left,out,h=>by
  unfold pickOrder.go
  have hl:next k % left.length<left.length:=Nat.mod_lt _ (by omega)
  rw [List.getElem?_eq_getElem hl]
  dsimp only
  refine (zls next fuel (k+1) _ _ (by rw [List.length_eraseIdx_of_lt hl];omega)).trans ?_
  rw [Array.toList_push,List.append_assoc]
  refine List.Perm.append_left _ ?_
  show (left[next k % left.length]::left.eraseIdx (next k % left.length)).Perm left
  exact zih left _ hl
theorem zpq {α:Type} (next:Nat→Nat) (xs:Array α):(pickOrder next xs).toList.Perm xs.toList:=by
 unfold pickOrder
 have:=zls next xs.size 0 xs.toList #[] (by simp)
 simpa using this
noncomputable def byT (w:World):Bool:=w.params.followText "set-order"
noncomputable def zcd (w:World) (a:Addr) (ep:Nat) (es:Array (Int×Value)):Array (Int×Value):=if byT w=true then pickOrder (w.params.setOrder a ep) es else es
theorem walk_perm {w:World} {a:Addr} {ep:Nat} {es:Array (Int×Value)}:(zcd w a ep es).toList.Perm es.toList:=by
 unfold zcd
 split
 ·exact zpq _ _
 ·exact .refl _
theorem zkg {w:World} {a:Addr} {ep:Nat} {es:Array (Int×Value)}:(zcd w a ep es).size=es.size:=by
 rw [← Array.length_toList,walk_perm.length_eq,Array.length_toList]
noncomputable def zod (b:Bool) (t:ST) (i:Nat):Nat:=if b=true then 0 else match i with | 0=>0 | i+1=>(t.place[i]?).getD 0+1
theorem zzn {t:ST} (hs:Mono t.place):∀ {i:Nat},i≤t.place.size→SetTable.below t.place (zod false t i)=i
 | 0,_=>by
  show SetTable.below t.place 0=0
  obtain ⟨h1,h2,_⟩:=zjc hs 0
  cases h:SetTable.below t.place 0 with
  | zero=>rfl
  | succ n =>
   rw [h] at h1 h2
   have:=h2 0 _ (Nat.succ_pos _) (Array.getElem?_eq_getElem (by omega))
   omega
 | i+1,hi=>by
  show SetTable.below t.place ((t.place[i]?).getD 0+1)=i+1
  have hii:i<t.place.size:=hi
  have ge:t.place[i]? = some t.place[i]:=Array.getElem?_eq_getElem hii
  rw [ge]
  show SetTable.below t.place (t.place[i]+1)=i+1
  obtain ⟨h1,h2,h3⟩:=zjc hs (t.place[i]+1)
  have u1:¬ SetTable.below t.place (t.place[i]+1)≤i:=λ z=>by
   have:=h3 i _ z ge
   omega
  have u2:¬ i+1<SetTable.below t.place (t.place[i]+1):=λ z=>by
   have hj:i+1<t.place.size:=by omega
   have g2:t.place[i+1]? = some t.place[i+1]:=Array.getElem?_eq_getElem hj
   have:=h2 (i+1) _ z g2
   have:=hs i (i+1) _ _ (Nat.lt_succ_self _) ge g2
   omega
  omega
noncomputable def zys (a:Addr) (slot i n ep:Nat):Obj:={ cls := .type "set_iterator",data := .fields #[rawInt slot,rawInt i,.ref a,rawInt n,rawInt ep] }
structure RawS (w:World) (h:Heap) (a:Addr) (es:Array (Int×Value)) (ep:Nat) (t:ST):Prop where
 ob:∃ o,h.get? a=some o∧o.cls = .type "set" ∧ o.data = .set es ep t
 fits:t.fits es.size=true
 mono:Mono t.place
 led:byT w=true ∨ (t.led=true∧t.plain=true)
theorem RawS.kept {w:World} {h h':Heap} {a:Addr} {es:Array (Int×Value)} {ep:Nat} {t:ST} (x:RawS w h a es ep t) (k:∀ o,h.get? a=some o→h'.get? a=some o):RawS w h' a es ep t :=
 let ⟨⟨o,h1,h2⟩,f,m,l⟩:=x; ⟨⟨o,k o h1,h2⟩,f,m,l⟩
theorem RawS.pls {w:World} {h:Heap} {a:Addr} {es:Array (Int×Value)} {ep:Nat} {t:ST} (x:RawS w h a es ep t):t.place.size=es.size:=by
 have:=x.fits
 unfold SetTable.fits at this
 rw [Bool.and_eq_true] at this
 exact eq_of_beq this.1
section
variable {prog:Program} {w:World} {A:Around} {E:Value→Shared→Prop} {s:Shared} {a it:Addr} {es:Array (Int×Value)} {ep i:Nat} {t:ST}
theorem zgv {Q:Value→Shared→Prop} (hs:RawS w s.heap a es ep t)
  (k:Q (.ref s.heap.objs.size) { s with heap:=s.heap.push (zys a 0 0 es.size ep) }) :
  wpAny (model prog w) A (pyIter (.ref a)) Q E s:=by
 obtain ⟨⟨o,ho,hc,hd⟩,fit,hm,hl⟩:=hs
 have ty:s.TypeIs (.ref a) "set" := ⟨_,ho,hc⟩
 refine wpAny_pyIter_slot ty F.slot_set_iter (wpAny_call_entry F.slot_set_iter ty zif ?_ (F.args_set_iter_1 _))
 unfold Builtin.«frozenset.__iter__» Builtin.Frozenset.slot0 Builtin.Frozenset.sizeOf
 refine wpAny_bind (wpAny_bind (wpAny_pure (wpAny_pure ?_)))
 refine wpAny_bind (wpAny_bind (wpAny_setEntries_of ho hd fit (wpAny_pure ?_)))
 unfold setDrawn setsByText
 refine wpAny_bind (wpAny_bind (wpAny_setState_of ho hd fit ?_))
 refine wpAny_bind (wpAny_bind (wpAny_askSetting (wpAny_pure (wpAny_pure ?_))))
 have e:(!byT w && (!t.plain && decide (es.size > 1)))=false:=by
  rcases hl with h | ⟨_,h⟩
  ·rw [h];rfl
  ·rw [h];cases byT w <;> rfl
 rw [if_neg (λ z=>by have:=e.symm.trans z;cases this)]
 refine wpAny_bind (wpAny_pure (wpAny_bind (wpAny_setEpoch_of ho hd fit (wpAny_bind (wpAny_newObj_type ?_ ?_)))))
 ·exact wpAny_pure ⟨_,rfl, "set_iterator",_,⟨_,Heap.get?_push_size _ rfl,rfl⟩,slot_si_next.lookup,k⟩
 ·simp only [sizeOk,List.size_toArray,List.length_cons,List.length_nil,sizeLine_eq]
  omega
theorem ztl {R:Option (Value×Nat)→Shared→Prop} (hs:RawS w s.heap a es ep t) (hi:i≤es.size)
  (k:R (((zcd w a ep es)[i]?).map λ e=>(e.2,zod (byT w) t (i+1))) s):wpAny (model prog w) A (setNext a (zod (byT w) t i) i ep) R E s:=by
 have pz:=hs.pls
 obtain ⟨⟨o,ho,hc,hd⟩,fit,hm,hl⟩:=hs
 unfold setNext
 refine wpAny_bind (wpAny_setState_of ho hd fit ?_)
 unfold setsByText
 refine wpAny_bind (wpAny_bind (wpAny_askSetting (wpAny_pure ?_)))
 unfold zcd at k
 cases hb:byT w with
 | true =>
  rw [hb] at k
  rw [if_pos (show ({ program:=(model prog w).prog,params:=(model prog w).w.params }:Setting).params.followText "set-order" = true from hb)]
  dsimp only
  rw [if_neg (by simp)]
  unfold setWalk setsByText
  refine wpAny_bind (wpAny_bind (wpAny_setState_of ho hd fit ?_))
  refine wpAny_bind (wpAny_bind (wpAny_askSetting (wpAny_pure ?_)))
  rw [if_pos (show ({ program:=(model prog w).prog,params:=(model prog w).w.params }:Setting).params.followText "set-order" = true from hb)]
  refine wpAny_bind (wpAny_askSetting (wpAny_pure (wpAny_pure ?_)))
  exact k
 | false =>
  rw [hb] at k
  rw [if_neg (show ¬ ({ program:=(model prog w).prog,params:=(model prog w).w.params }:Setting).params.followText "set-order" = true from λ z=>by have:=hb.symm.trans z;cases this)]
  obtain ⟨l1,l2⟩:t.led=true∧t.plain=true:=by
   rcases hl with z | z
   ·rw [hb] at z;cases z
   ·exact z
  have e:(!t.plain && decide (es.size > 1))=false:=by rw [l2];rfl
  rw [if_neg (λ z=>by have:=e.symm.trans z;cases this)]
  have e2:(!t.led && !es.isEmpty)=false:=by rw [l1];rfl
  refine wpAny_bind ?_
  refine (show ∀ {m:Sem Unit} {R':Unit→Shared→Prop},m=pure ()→R' () s→wpAny (model prog w) A m R' E s from λ em r'=>by rw [em];exact wpAny_pure r') (if_neg (λ z=>by have:=e2.symm.trans z;cases this)) ?_
  dsimp only
  rw [zzn hm (by rw [pz];exact hi)]
  refine wpAny_pure ?_
  rw [if_neg Bool.false_ne_true] at k
  by_cases hlt:i<es.size
  ·have g1:es[i]? = some es[i]:=Array.getElem?_eq_getElem hlt
   have g2:t.place[i]? = some t.place[i]:=Array.getElem?_eq_getElem (by rw [pz];exact hlt)
   rw [g1] at k ⊢
   rw [g2]
   have e3:zod false t (i+1)=t.place[i]+1:=by
    show (t.place[i]?).getD 0+1=_
    rw [g2];rfl
   rw [e3] at k
   exact k
  ·have g1:es[i]? = none:=Array.getElem?_eq_none (by omega)
   rw [g1] at k ⊢
   exact k
theorem ztu {Q:Option Value→Shared→Prop} {e:Int×Value} (hi:s.heap.get? it=some (zys a (zod (byT w) t i) i es.size ep)) (hs:RawS w s.heap a es ep t) (he:(zcd w a ep es)[i]? = some e)
  (k:∀ h',h'.get? it=some (zys a (zod (byT w) t (i+1)) (i+1) es.size ep)→h'.objs.size=s.heap.objs.size→(∀ b o,b≠it→s.heap.get? b=some o→h'.get? b=some o)→Q (some e.2) { s with heap:=h' }):wpAny (model prog w) A (pyNext (.ref it)) Q E s:=by
 have ty:s.TypeIs (.ref it) "set_iterator" := ⟨_,hi,rfl⟩
 have hlt:i<es.size:=by rw [← zkg (w:=w) (a:=a) (ep:=ep)];exact (Array.getElem?_eq_some_iff.mp he).1
 obtain ⟨o,ho,hc,hd⟩:=hs.ob
 unfold pyNext
 refine wpAny_bind (wpAny_attempt (wpAny_callSpecial?_slot ty slot_si_next (wpAny_call_entry slot_si_next ty zud ?_ (zps _))))
 unfold Builtin.«set_iterator.__next__»
 refine wpAny_bind (wpAny_pure (wpAny_bind (wpAny_fieldsOf hi rfl ?_)))
 show wpAny _ _ (do let x ← setEntries a;_) _ _ _
 refine wpAny_bind (wpAny_setEntries_of ho hd hs.fits ?_)
 rw [if_neg (by simp)]
 show wpAny _ _ (do let x ← setNext a ((zod (byT w) t i:Nat):Int).toNat ((i:Nat):Int).toNat ((ep:Nat):Int).toNat;_) _ _ _
 rw [Int.toNat_natCast,Int.toNat_natCast,Int.toNat_natCast]
 refine wpAny_bind (ztl hs (Nat.le_of_lt hlt) ?_)
 rw [he]
 show wpAny _ _ (do setField (.ref it) 0 (rawInt ((zod (byT w) t (i+1):Nat):Int));setField (.ref it) 1 (rawInt ((i:Nat)+1:Int));ret e.2) _ _ _
 refine wpAny_bind (wpAny_setField_rec (k:=0) hi (by show 0<5;decide) λ h1 g1 sb=>?_)
 refine wpAny_bind (wpAny_setField_rec (s:={ s with heap:=h1 }) (k:=1) g1 (by show 1<5;decide) λ h2 g2 sb2=>?_)
 exact wpAny_pure ⟨_,rfl,wpAny_pure (k h2 g2 (sb2.1.trans sb.1) λ b o hb q=>(sb2.2 b hb).trans ((sb.2 b hb).trans q))⟩
theorem zmi {Q:Option Value→Shared→Prop} (hh:A.handled=none) (hi:s.heap.get? it=some (zys a (zod (byT w) t i) i es.size ep)) (hs:RawS w s.heap a es ep t) (he:i=es.size)
  (k:∀ h',(∀ b o,b≠it→s.heap.get? b=some o→h'.get? b=some o)→Q none { s with heap:=h' }):wpAny (model prog w) A (pyNext (.ref it)) Q E s:=by
 have ty:s.TypeIs (.ref it) "set_iterator" := ⟨_,hi,rfl⟩
 obtain ⟨o,ho,hc,hd⟩:=hs.ob
 unfold pyNext
 refine wpAny_bind (wpAny_attempt (wpAny_callSpecial?_slot ty slot_si_next (wpAny_call_entry slot_si_next ty zud ?_ (zps _))))
 unfold Builtin.«set_iterator.__next__»
 refine wpAny_bind (wpAny_pure (wpAny_bind (wpAny_fieldsOf hi rfl ?_)))
 show wpAny _ _ (do let x ← setEntries a;_) _ _ _
 refine wpAny_bind (wpAny_setEntries_of ho hd hs.fits ?_)
 rw [if_neg (by simp)]
 show wpAny _ _ (do let x ← setNext a ((zod (byT w) t i:Nat):Int).toNat ((i:Nat):Int).toNat ((ep:Nat):Int).toNat;_) _ _ _
 rw [Int.toNat_natCast,Int.toNat_natCast,Int.toNat_natCast]
 refine wpAny_bind (ztl hs (Nat.le_of_eq he) ?_)
 rw [Array.getElem?_eq_none (by rw [zkg];omega)]
 show wpAny _ _ (do setField (.ref it) 2 .none;let x ← newExc (.type "StopIteration") [];raiseNew x) _ _ _
 refine wpAny_bind (wpAny_setField_rec (k:=2) hi (by show 2<5;decide) λ h1 g1 sb=>?_)
 unfold newExc raiseNew
 refine wpAny_bind (wpAny_bind (wpAny_newObj_type ?_))
 have fa:firstArgMember (.type "StopIteration") []=pure Value.none:=by
  rw [firstArgMember.eq_1]
  generalize (Manifest.find? "StopIteration").elim false (λ t=>t.mro.contains "StopIteration" || t.mro.contains "SystemExit")=b
  cases b <;> rfl
 refine wpAny_bind (wpAny_of_eq fa (wpAny_newObj_type ?_ (sizeOk_excFields _ _ _ _ _ _ _ _)))
 refine wpAny_bind (wpAny_handled ?_)
 rw [show A.in1.handled=none from hh]
 refine wpAny_throw ?_
 show wpAny _ _ (do let x ← isInstance _ (.type "StopIteration");_) _ _ _
 refine wpAny_bind (wpAny_isInstance ⟨_,Heap.get?_push_size _ rfl,rfl⟩ isSubtype_stop ?_)
 rw [if_pos rfl]
 refine wpAny_pure (k _ λ b o hb e=>?_)
 exact Heap.get?_push_of_some _ (Heap.get?_push_of_some _ ((sb.2 b hb).trans e))
end
end L2
namespace L2
open PySem PySem.Spec PyProof.Rows PySem.NumText
section
variable {prog:Program} {w:World} {A:Around} {E:Value→Shared→Prop} {s:Shared} {a it S:Addr} {es:Array (Int×Value)} {ep:Nat} {t:ST}
theorem zuv {R:Result→Shared→Prop} (hh:A.handled=none) (hn:es.size≤sizeLine) (nSI:S≠it) (ndS:a≠S) (ndI:a≠it) (res:Value) {h1:Heap}
  (k:∀ h' tk acc c,(∀ b o,b≠S→b≠it→h1.get? b=some o→h'.get? b=some o)→h'.get? S=some { cls := .type "list",data := .seq acc c }→acc.toList=(zcd w a ep es).toList.map (·.2)→R (.ok (.ret res)) { s with heap:=h',toks:=tk }) :
  ∀ (n i:Nat) (h:Heap) (tk c:Nat) (acc:Array Value),es.size - i=n→i≤es.size→h.get? it=some (zys a (zod (byT w) t i) i es.size ep)→RawS w h a es ep t →
   (∀ b o,b≠S→b≠it→h1.get? b=some o→h.get? b=some o)→h.get? S=some { cls := .type "list",data := .seq acc c }→acc.toList=((zcd w a ep es).toList.take i).map (·.2) →
   codeAny (model prog w) A (.builtin "list.extend.loop" ⟨[.ref S,.ref it,res],[]⟩) R { s with heap:=h,toks:=tk }:=by
 have wz:(zcd w a ep es).size=es.size:=zkg
 intro n
 induction n with
 | zero =>
  intro i h tk c acc hni hi hit hd kp hS hacc
  refine codeAny_builtin F.entry_extend_loop ?_
  rw [Around.under_plainId F.plain_extend_loop]
  refine wpAny_bind (zmi (s:={ s with heap:=h,toks:=tk }) hh hit hd (by omega) λ h' kp'=>?_)
  refine wpAny_pure (k h' tk acc c (λ b o h1' h2' e=>kp' b o h2' (kp b o h1' h2' e)) (kp' _ _ nSI hS) ?_)
  rw [hacc,List.take_of_length_le (by rw [Array.length_toList];omega)]
 | succ n ih =>
  intro i h tk c acc hni hi hit hd kp hS hacc
  obtain ⟨e,he⟩:∃ e,(zcd w a ep es)[i]? = some e:=⟨_,Array.getElem?_eq_getElem (by omega)⟩
  refine codeAny_builtin F.entry_extend_loop ?_
  rw [Around.under_plainId F.plain_extend_loop]
  refine wpAny_bind (ztu (s:={ s with heap:=h,toks:=tk }) hit hd he λ h' hit' hz kp'=>?_)
  have hS':=kp' _ _ nSI hS
  have haz:acc.size=i:=by rw [← Array.length_toList,hacc,List.length_map,List.length_take,Array.length_toList];omega
  refine wpAny_bind (wpAny_updateSeq (a:=S) (s:={ s with heap:=h',toks:=tk }) hS' rfl ?_ (by omega) (by rw [Array.size_push];omega))
  refine wpAny_pure ⟨plainId_quiet F.plain_extend_loop _,?_⟩
  have oth:∀ b,b≠S→(h'.update S (Obj.mapSeq λ x=>x.push e.2)).get? b=h'.get? b:=λ b hb=>Heap.get?_update_other _ _ (Ne.symm hb)
  have self:(h'.update S (Obj.mapSeq λ x=>x.push e.2)).get? S=some { cls := .type "list",data := .seq (acc.push e.2) (if (acc.push e.2).size == acc.size then c else c+1) }:=Heap.get?_update_self _ hS' rfl
  refine ih (i+1) _ tk _ _ (by omega) (by omega) (by rw [oth _ nSI.symm];exact hit') (hd.kept λ o o1=>by rw [oth _ ndS];exact kp' _ _ ndI o1) ?_ self ?_
  ·intro b o hb1 hb2 q
   rw [oth _ hb1]
   exact kp' _ _ hb2 (kp b o hb1 hb2 q)
  ·have hil:i<(zcd w a ep es).toList.length:=by rw [Array.length_toList];omega
   rw [Array.toList_push,hacc,List.take_succ_eq_append_getElem hil,List.map_append]
   have:(zcd w a ep es).toList[i]=e:=by
    have:=(Array.getElem?_eq_some_iff.mp he).2
    rw [Array.getElem_toList];exact this
   rw [this]
   rfl
theorem zyk {R:List Value→Shared→Prop} (hh:A.handled=none) (hd:RawS w s.heap a es ep t) (hn:es.size≤sizeLine)
  (k:∀ h' tk,(∀ b o,s.heap.get? b=some o→h'.get? b=some o)→R ((zcd w a ep es).toList.map (·.2)) { s with heap:=h',toks:=tk }):wpAny (model prog w) A (collect (.ref a)) R E s:=by
 unfold collect
 refine wpAny_bind (wpAny_runValue (codeAny_builtin entry_proto_collect' ?_))
 rw [Around.under_plainId F.plain_proto_collect]
 refine wpAny_bind (wpAny_newObj_type (wpAny_pure ⟨plainId_quiet F.plain_list_iadd _,codeAny_builtin entry_list_iadd' ?_⟩))
 rw [Around.under_plainId F.plain_list_iadd]
 obtain ⟨o,d1,d2,d3⟩:=hd.ob
 obtain ⟨h1,hh1⟩:∃ h1,h1=s.heap.push { cls := .type "list",data := .seq (#[]:Array Value) }:=⟨_,rfl⟩
 have hS1:h1.get? s.heap.objs.size=some { cls := .type "list",data := .seq #[] }:=by rw [hh1];exact Heap.get?_push_size _ rfl
 have kp1:∀ b ob,s.heap.get? b=some ob→h1.get? b=some ob:=λ b ob e=>by rw [hh1];exact Heap.get?_push_of_some _ e
 have z1:h1.objs.size=s.heap.objs.size+1:=by rw [hh1,Heap.size_push]
 have hd1:RawS w h1 a es ep t:=hd.kept λ o e=>kp1 _ _ e
 have hT1:({ s with heap:=h1 }:Shared).TypeIs (.ref a) "set" := ⟨o,kp1 _ _ d1,d2⟩
 show wpAny _ _ (Builtin.«list.__iadd__» _) _ _ { s with heap:=s.heap.push { cls := .type "list",data := .seq (#[]:Array Value) } }
 rw [← hh1]
 unfold Builtin.«list.__iadd__»
 refine wpAny_bind (wpAny_pure ?_)
 show wpAny _ _ (Builtin.List.listExtendWith (.ref s.heap.objs.size) (.ref a) (.ref s.heap.objs.size)) _ _ _
 unfold Builtin.List.listExtendWith
 refine wpAny_bind (wpAny_typeOf hT1 ?_)
 have ndS:a≠s.heap.objs.size:=Nat.ne_of_lt (Heap.lt_size d1)
 rw [if_neg (by simp [Builtin.List.listSameRef,ndS.symm])]
 refine wpAny_bind (zgv (s:={ s with heap:=h1 }) hd1 ?_)
 obtain ⟨h2,hh2⟩:∃ h2,h2=h1.push (zys a 0 0 es.size ep):=⟨_,rfl⟩
 have z2:h2.objs.size=h1.objs.size+1:=by rw [hh2,Heap.size_push]
 have kp2:∀ b ob,h1.get? b=some ob→h2.get? b=some ob:=λ b ob e=>by rw [hh2];exact Heap.get?_push_of_some _ e
 have i2:h2.get? h1.objs.size=some (zys a 0 0 es.size ep):=by rw [hh2];exact Heap.get?_push_size _ rfl
 show wpAny _ _ _ _ _ { s with heap:=h1.push (zys a 0 0 es.size ep) }
 rw [← hh2]
 have hT2:({ s with heap:=h2 }:Shared).TypeIs (.ref a) "set" := ⟨o,kp2 _ _ (kp1 _ _ d1),d2⟩
 refine wpAny_bind (wpAny_holding (zqv hT2 ?_))
 have nSI:s.heap.objs.size≠h1.objs.size:=by rw [z1];exact Nat.ne_of_lt (Nat.lt_succ_self _)
 have ndI:a≠h1.objs.size:=Nat.ne_of_lt (Heap.lt_size (kp1 _ _ d1))
 have sl0:zod (byT w) t 0=0:=by
  unfold zod
  cases byT w <;> rfl
 have fin:∀ h3 c,h3.objs.size=h2.objs.size→(∀ b,b≠s.heap.objs.size→h3.get? b=h2.get? b)→h3.get? s.heap.objs.size=some { cls := .type "list",data := .seq #[] c } →
   codeAny (model prog w) A (.builtin "list.extend.loop" ⟨[.ref s.heap.objs.size,.ref h1.objs.size,.ref s.heap.objs.size],[]⟩) (λ r s'=>∃ h' tk acc c',r = .ok (.ret (.ref s.heap.objs.size))∧s'={ s with heap:=h',toks:=tk }∧(∀ b ob,s.heap.get? b=some ob→h'.get? b=some ob)∧h'.get? s.heap.objs.size=some { cls := .type "list",data := .seq acc c' }∧acc.toList=(zcd w a ep es).toList.map (·.2)) { s with heap:=h3,toks:=s.toks }:=by
  intro h3 c z3 oth3 hS3
  refine zuv (ep:=ep) (a:=a) (t:=t) (es:=es) (h1:=h2) hh hn nSI ndS ndI (.ref s.heap.objs.size) ?_ (es.size - 0) 0 h3 s.toks c #[] rfl (Nat.zero_le _) (by rw [oth3 _ nSI.symm,sl0];exact i2) (hd.kept λ o d1=>by rw [oth3 _ ndS];exact kp2 _ _ (kp1 _ _ d1)) (λ b ob hb1 hb2 e=>by rw [oth3 _ hb1];exact e) hS3 rfl
  intro h' tk acc c' kp' hS' hacc
  exact ⟨h',tk,acc,c',rfl,rfl,λ b ob e=>kp' b ob (Nat.ne_of_lt (Heap.lt_size e)) (Nat.ne_of_lt (Heap.lt_size (kp1 _ _ e))) (kp2 _ _ (kp1 _ _ e)),hS',hacc⟩
 refine wpAny_ite_split (λ _=>?_) (λ _=>?_)
 ·refine wpAny_bind (wpAny_rule (wpAny_bind (wpAny_bind (wpAny_updateSeq (a:=s.heap.objs.size) (s:={ s with heap:=h2 }) (kp2 _ _ hS1) rfl ?_ (Nat.zero_le _) (by show 1≤_;rw [sizeLine_eq];omega)))))
  have self:(h2.update s.heap.objs.size (Obj.mapSeq λ x=>x.push .none)).get? s.heap.objs.size=some { cls := .type "list",data := .seq #[.none] 1 }:=Heap.get?_update_self _ (kp2 _ _ hS1) rfl
  refine wpAny_updateSeq (a:=s.heap.objs.size) self rfl ?_ (by show 1≤_;rw [sizeLine_eq];omega) (Nat.zero_le _)
  refine wpAny_pure ⟨plainId_quiet F.plain_extend_loop _,codeAny_mono (fin _ 2 ?_ ?_ ?_) λ r s' ⟨h',tk,acc,c',e1,e2,kp',hS',hacc⟩=>?_⟩
  ·rw [Heap.size_update,Heap.size_update]
  ·intro b hb
   rw [Heap.get?_update_other _ _ (Ne.symm hb),Heap.get?_update_other _ _ (Ne.symm hb)]
  ·exact Heap.get?_update_self _ self rfl
  ·subst e1 e2
   refine wpAny_bind (wpAny_load hS' ?_)
   dsimp only
   rw [hacc]
   exact wpAny_pure (k h' tk kp')
 ·refine wpAny_pure ⟨plainId_quiet F.plain_extend_loop _,codeAny_mono (fin h2 0 rfl (λ _ _=>rfl) (kp2 _ _ hS1)) λ r s' ⟨h',tk,acc,c',e1,e2,kp',hS',hacc⟩=>?_⟩
  subst e1 e2
  refine wpAny_bind (wpAny_load hS' ?_)
  dsimp only
  rw [hacc]
  exact wpAny_pure (k h' tk kp')
end
noncomputable def zgi (w:World) (a:Addr) (qs:List Mem):HO := .ext λ h=>SetX w h a qs∧Led (!byT w) h a
theorem zrl {P:Program} {w:World} {H:Hp} {h:Heap} {a:Addr} {qs:List Mem} (x:SetX w h a qs) (l:Led (!byT w) h a):ObjOk P w H h a (zgi w a qs):=by
 obtain ⟨o,ho,r⟩:=x
 obtain ⟨o',es,ep,t,g,z⟩:=l
 exact ⟨⟨⟨o,ho,r⟩,o',es,ep,t,g,z⟩,⟨o,ho⟩,λ h1 h2 ⟨⟨o',ho',r'⟩,o2,es2,ep2,t2,g2,z2⟩ k=>⟨⟨o',k o' ho',r'⟩,o2,es2,ep2,t2,k o2 g2,z2⟩⟩
structure SWt (w:World) (K:W.Frag) (H:Hp) (a:Addr) (qs:List Mem):Prop where
 ob:H a=some (zgi w a qs)
 dv:∀ q∈qs,DV K H q.2 (.ref q.1)
 ok:∀ q∈qs,ok4 q.2
 nd:(qs.map (·.2)).Nodup
section
variable {X:Cx}
noncomputable def zc1 (w:World) (K:W.Frag):List V→Hp→VK→Prop:=λ xs H Q=>∃ (a:Addr) (qs:List Mem),xs=[.ref a]∧SWt w K H a qs∧(∀ q∈qs,∃ m,q.2=markD m)∧qs.length<64 ∧
 ∀ (l:Addr) (bs:List Mark) (ws:List V),H l=none→bs.Pairwise (λ a b=>mLt a b=true)→(∀ m,m∈bs ↔ ∃ q∈qs,q.2=markD m)→bs.length=qs.length→DVs K H (bs.map markD) ws→Q (.ref l) (upd H l (.lst ws))
theorem zzd:∀ (qs:List Mem),(∀ q∈qs,∃ m,q.2=markD m)→∃ ms,Paired (λ (q:Mem) (m:Mark)=>q.2=markD m) qs ms
 | [],_=>⟨[],.nil⟩
 | q::qs,h=>by
  obtain ⟨m,e⟩:=h q List.mem_cons_self
  obtain ⟨ms,r⟩:=zzd qs λ q' hq'=>h q' (List.mem_cons_of_mem _ hq')
  exact ⟨m::ms,.cons e r⟩
theorem zul:∀ {qs:List Mem} {ms:List Mark},Paired (λ (q:Mem) (m:Mark)=>q.2=markD m) qs ms→qs.map (·.2)=ms.map markD
 | _,_,.nil=>rfl
 | _,_,.cons a b=>by rw [List.map_cons,List.map_cons,a,zul b]
theorem zyj {w:World}:∀ {us:List (Int×Value)} {qs:List Mem},Paired (MemR w) us qs→Vals (qs.map λ q=>V.ref q.1) (us.map (·.2))
 | _,_,.nil=>.nil
 | _,_,.cons a b=>.cons (by show RelV (.ref _) (Prod.snd _);rw [a.1];rfl) (zyj b)
theorem zxm {K:W.Frag} {H:Hp}:∀ {qs:List Mem} {ms:List Mark},Paired (λ (q:Mem) (m:Mark)=>q.2=markD m) qs ms→(∀ q∈qs,DV K H q.2 (.ref q.1))→DVs K H (ms.map λ (m:Mark)=>PyData.tuple [.int m.1,.int m.2]) (qs.map λ q=>V.ref q.1)
 | _,_,.nil,_=>rfl
 | _,_,.cons a b,h=>⟨_,_,rfl,by have:=h _ List.mem_cons_self;rw [a] at this;exact this,zxm b λ q hq=>h q (List.mem_cons_of_mem _ hq)⟩
theorem zui (hc:X.calm=true) (hu:X.A.units+100<cLine):zrj X (.builtin "sorted") (zc1 X.w X.K):=by
 intro pins s σ H xs us Q I r h
 obtain ⟨a,qs,rfl,S,hm,few,q⟩:=h
 obtain ⟨u,rfl,ru⟩:=zno r
 cases ru
 obtain ⟨⟨⟨o,ho,es,ep,t,qs1,hex,hd,hf,f,hfull,wp,pm,hp⟩,o',es',ep',t',g',d',l1,l2⟩,_,_⟩:=I.hok a _ S.ob
 rw [ho] at g'
 cases g'
 rw [hd] at d'
 cases d'
 have hraw:RawS X.w s.heap a es ep t:=⟨⟨o,ho,hex.1,hd⟩,hf,wp.mono,by
  cases hb:byT X.w with
  | true=>exact .inl rfl
  | false=>rw [hb] at l1;exact .inr ⟨l1,l2⟩⟩
 have hz:es.size=qs.length:=by rw [← Array.length_toList,Paired.length hp,pm.length_eq]
 refine zxc (zyk (I.ok.hd hc) hraw (by rw [hz,sizeLine_eq];omega) λ h' tk kp=>?_)
 have I1:Inv X pins σ H { s with heap:=h',toks:=tk }:=I.kept (t':=tk) kp
 obtain ⟨qs2,pm2,hp2⟩:=zxf (walk_perm (w:=X.w) (a:=a) (ep:=ep) (es:=es)) hp
 have pm3:qs2.Perm qs:=pm2.trans pm
 obtain ⟨ms,hms⟩:=zzd qs2 λ q' hq'=>hm q' (pm3.mem_iff.mp hq')
 have emap:=zul hms
 have nd2:(qs2.map (·.2)).Nodup:=(pm3.map (·.2)).nodup_iff.mpr S.nd
 have ndm:ms.Nodup:=by
  rw [emap] at nd2
  exact List.Pairwise.of_map markD (λ a b hab e=>hab (congrArg markD e)) nd2
 have hl:ms.length=qs.length:=by rw [← Paired.length hms,pm3.length_eq]
 refine zrn (s:=s) hu (zgq ndm (by omega)) I1 (zyj hp2) (zxm hms λ q' hq'=>S.dv q' (pm3.mem_iff.mp hq')) ?_
 intro l bs ws hl' hpm hpw hds
 refine q l bs ws hl' hpw (λ m=>?_) (by rw [hpm.length_eq,hl]) hds
 have e1:m∈ms ↔ ∃ q∈qs,q.2=markD m:=by
  constructor
  ·intro hmm
   have:markD m∈qs2.map (·.2):=by rw [emap];exact List.mem_map_of_mem hmm
   obtain ⟨q',hq',e⟩:=List.mem_map.mp this
   exact ⟨q',pm3.mem_iff.mp hq',e⟩
  ·rintro ⟨q',hq',e⟩
   have:markD m∈ms.map markD:=by rw [← emap,← e];exact List.mem_map_of_mem (pm3.mem_iff.mpr hq')
   obtain ⟨m',hm',e'⟩:=List.mem_map.mp this
   have:m'=m:=by
    obtain ⟨x,y⟩:=m'
    obtain ⟨x',y'⟩:=m
    unfold markD at e'
    simp at e'
    rw [e'.1,e'.2]
   rw [← this]
   exact hm'
 rw [← e1]
 exact hpm.mem_iff
end
end L2
namespace L2
open PySem PySem.Spec PyProof.Rows PySem.NumText
section
variable {prog:Program} {w:World} {A:Around} {R:Result→Shared→Prop} {s:Shared}
theorem zri {env:Env} (elt:Expr) (gens:List Comprehension) (scope:Scope) (pos:Pos):eval (elt.SetComp gens scope pos) env =
  comprehension (elt.SetComp gens scope pos) scope env (firstIterPos gens pos) (newSet (.type "set")) (firstAsync gens) (firstIter gens env):=by rw [eval]
theorem zai {elt target iter:Expr} {ifs:List Expr} {rest:List Comprehension} {scope:Scope} {pos:Pos} {it acc:Value} {env:Env}
  (h0:codeAny (model prog w) A (.compLoop (elt.SetComp (⟨target,iter,ifs,0⟩::rest) scope pos) 0 it acc env) R s)
  (h:wpAny (model prog w) A (pyIter it) (λ it' s'=>codeAny (model prog w) A (.compLoop (elt.SetComp (⟨target,iter,ifs,0⟩::rest) scope pos) 0 it' acc env) R s') (notedBy (model prog w) A env λ x s'=>R (.error x) s') s) :
  codeAny (model prog w) A (.compStart (elt.SetComp (⟨target,iter,ifs,0⟩::rest) scope pos) 0 it acc env) R s:=by
 refine codeAny_of_tree (wpAny_notedAt (wpAny_bind (wpAny_askSetting (wpAny_ite ?_))))
 split
 ·exact wpAny_bind (wpAny_pure (wpAny_pure ⟨rfl,h0⟩))
 ·exact wpAny_bind (wpAny_rule (wpAny_bind (wpAny_standAt (wpAny_bind (wpAny_mono h (λ it' s' h'=>wpAny_pure ⟨rfl,h'⟩) λ _ _ z=>z)))))
end
section
variable {X:Cx}
end
end L2
namespace L2
open PySem PySem.Spec PyProof.Rows PySem.NumText
mutual
theorem zzo:∀ d:PyData,zvd d=true→noL d=true
 | .int _,_=>rfl
 | .tuple xs,h=>zqs xs h
 | .none,h=>by cases h
 | .bool _,h=>by cases h
 | .str _,_=>rfl
 | .list _,h=>by cases h
theorem zqs:∀ ds:List PyData,zcb ds=true→noLs ds=true
 | [],_=>rfl
 | d::ds,h=>by
  rw [zcb,Bool.and_eq_true] at h
  rw [noLs,zzo d h.1,zqs ds h.2]
  rfl
end
theorem zkf {w:World} {a:Addr} {qs:List Mem}:zaw (zgi w a qs):=⟨λ xs z=>(by cases z),λ ob u z=>(by cases z)⟩
theorem SWt.add {w:World} {K:W.Frag} {H:Hp} {a ax:Addr} {qs:List Mem} {dx:PyData} (S:SWt w K H a qs) (hd:DV K H dx (.ref ax)) (ok:ok4 dx) (hn:∀ q∈qs,q.2≠dx):SWt w K (upd H a (zgi w a ((ax,dx)::qs))) a ((ax,dx)::qs) where
 ob:=upd_same
 dv:=λ q hq=>by
  rcases List.mem_cons.mp hq with rfl | hq
  ·exact zhc S.ob zkf _ _ (zzo _ (zhe _ ok.1)) hd
  ·exact zhc S.ob zkf _ _ (zzo _ (zhe _ (S.ok q hq).1)) (S.dv q hq)
 ok:=λ q hq=>by
  rcases List.mem_cons.mp hq with rfl | hq
  ·exact ok
  ·exact S.ok q hq
 nd:=by
  rw [List.map_cons]
  refine List.nodup_cons.mpr ⟨λ hm=>?_,S.nd⟩
  obtain ⟨q,hq,e⟩:=List.mem_map.mp hm
  exact hn q hq e
theorem SWt.same {w:World} {K:W.Frag} {H H':Hp} {a:Addr} {qs:List Mem} (S:SWt w K H a qs) (e:Same H H'):SWt w K H' a qs:=⟨e _ _ S.ob,λ q hq=>DV.same e _ _ (S.dv q hq),S.ok,S.nd⟩
section
variable {prog:Program} {w:World} {A:Around} {E:Value→Shared→Prop} {R:Result→Shared→Prop} {s:Shared}
theorem zni (elt target iter:Expr) (ifs:List Expr) (scope:Scope) (pos:Pos) (it acc:Value) (env:Env) :
  compTurn (.SetComp elt [⟨target,iter,ifs,0⟩] scope pos) 0 it acc env=(do
   standAt iter.pos
   match ← pyNext it with
   | none=>pure (.done .next)
   | some v =>
    letOwnedTupleGo target it v
    assign target env v
    let mut ok:=true
    for c in ifs do
     if ok then ok ← isTrue c env (eval c env)
    if ok then
     (do let v ← eval elt env;standAt elt.pos;let _ ← call (.builtin "set.add") [acc,v])
    again (.compLoop (.SetComp elt [⟨target,iter,ifs,0⟩] scope pos) 0 it acc env)):=by rfl
theorem zyi {elt target iter:Expr} {ifs:List Expr} {scope:Scope} {pos:Pos} {it acc:Value} {env:Env} (I:Nat→Shared→Prop)
  (turn:∀ n s,I n s→wpAny (model prog w) A (pyNext it) (λ r s₁=>match r with
   | none=>R (.ok .next) s₁
   | some v=>wpAny (model prog w) A (letOwnedTupleGo target it v) (λ _ s₁'=>wpAny (model prog w) A (assign target env v) (λ _ s₂ =>
     wpAny (model prog w) A (forIn ifs true λ c r=>if r=true then do let ok ← isTrue c env (eval c env);pure (ForInStep.yield ok) else pure (ForInStep.yield r)) (λ ok s₃ =>
      if ok=true then wpAny (model prog w) A (eval elt env) (λ x s₄ =>
       wpAny (model prog w) A (call (.builtin "set.add") [acc,x]) (λ _ s₅=>∃ m,m<n∧I m s₅) (notedBy (model prog w) A env λ e s'=>R (.error e) s') s₄) (notedBy (model prog w) A env λ e s'=>R (.error e) s') s₃
      else ∃ m,m<n∧I m s₃) (notedBy (model prog w) A env λ e s'=>R (.error e) s') s₂) (notedBy (model prog w) A env λ e s'=>R (.error e) s') s₁') (notedBy (model prog w) A env λ e s'=>R (.error e) s') s₁) (notedBy (model prog w) A env λ e s'=>R (.error e) s') s)
  (n:Nat) (h:I n s):codeAny (model prog w) A (.compLoop (.SetComp elt [⟨target,iter,ifs,0⟩] scope pos) 0 it acc env) R s:=by
 refine codeAny_loop rfl I (λ n s hI=>?_) n h
 show wpAny _ A ((compTurn (.SetComp elt [⟨target,iter,ifs,0⟩] scope pos) 0 it acc env).onRaise (λ x=>do noteFrame x env;theTreesLotGoes x)) _ _ s
 refine wpAny_noted ?_
 rw [zni]
 refine wpAny_bind (wpAny_standAt (wpAny_bind (wpAny_mono (turn n s hI) (λ r s₁ h₁=>?_) λ _ _ h'=>h')))
 cases r with
 | none=>exact wpAny_pure h₁
 | some v =>
  refine wpAny_bind (wpAny_mono h₁ (λ _ s₁' h₁'=>?_) λ _ _ h'=>h')
  refine wpAny_bind (wpAny_mono h₁' (λ _ s₂ h₂=>wpAny_bind (wpAny_mono h₂ (λ ok s₃ h₃=>?_) λ _ _ h'=>h')) λ _ _ h'=>h')
  cases ok with
  | false=>exact wpAny_pure ⟨rfl,h₃⟩
  | true =>
   exact wpAny_bind (wpAny_bind (wpAny_mono h₃ (λ x s₄ h₄=>wpAny_bind (wpAny_standAt (wpAny_bind (wpAny_mono h₄ (λ _ s₅ h₅=>wpAny_pure (wpAny_pure ⟨rfl,h₅⟩)) λ _ _ h'=>h')))) λ _ _ h'=>h'))
end
section
variable {X:Cx}
theorem zuy {pins:List (Addr×Obj)} {s:Shared} {σ:St} {H:Hp} {Q:Hp→Prop} {D ax:Addr} {u:Value} {qs:List Mem} {dx:PyData} (hu:X.A.units+100<cLine) (I:Inv X pins σ H s) (S:SWt X.w X.K H D qs) (hl:qs.length<299) (r:RelV (.ref ax) u) (hd:DV X.K H dx (.ref ax)) (ok:ok4 dx)
  (q0:(∃ q∈qs,q.2=dx)→Q H) (q1:(∀ q∈qs,q.2≠dx)→Q (upd H D (zgi X.w D ((ax,dx)::qs)))) :
  wpAny (model X.prog X.w) X.A (call (.builtin "set.add") [.ref D,u]) (λ _ s'=>∃ H',Inv X pins σ H' s'∧Q H') E s:=by
 cases r
 obtain ⟨⟨hX,hL⟩,_,_⟩:=I.hok D _ S.ob
 have hT:s.TypeIs (.ref D) "set" := let ⟨o,ho,_,_,_,_,hex,_⟩:=hX; ⟨o,ho,hex.1⟩
 have hx:=I.el hd rfl ok.s
 refine wpAny_call_entry F.slot_set_add hT F.entry_set_add ?_ (F.args_set_add_2 _ _)
 unfold Builtin.«set.add» Builtin.Frozenset.oneOther
 simp only [List.isEmpty_nil,bind_assoc]
 unfold Builtin.Frozenset.addrOf setAdd
 refine wpAny_bind (wpAny_pure ?_)
 try dsimp only
 refine wpAny_bind (wpAny_pure ?_)
 try dsimp only
 refine wpAny_bind (wpAny_holding ?_)
 obtain ⟨as,rx⟩:=hx.rd
 refine wpAny_bind (zvm 4 dx _ _ s _ as hx.dp rx hx.oi (by show X.A.units+1+4<cLine;omega) _ λ tk htk=>?_)
 refine zsr (s:={ s with toks:=tk }) hX (λ q hq=>I.el (S.dv q hq) rfl (S.ok q hq).s) hx (by omega) (by show X.A.units+1+10<cLine;omega) (λ hold=>?_) (λ hnew h' sb hS2 hlk=>?_)
 ·exact wpAny_pure ⟨_,rfl,H,I.kept (t':=tk) (λ _ _ e=>e),q0 hold⟩
 ·have he:∃ ob,h'.get? D=some ob:=let ⟨ob,hq,_⟩:=hS2; ⟨ob,hq⟩
  exact wpAny_pure ⟨_,rfl,_,I.write (t':=tk) (x:=D) (e:=D) (by rw [S.ob];exact True.intro) (.inl rfl) (λ b ob hb z=>(sb.2 b hb).trans z) he (zrl hS2 (hlk _ ok.1 hL)),q1 hnew⟩
noncomputable def zcw (w:World) (K:W.Frag) (J:It) (D:Addr) (nt:Nat) (cap:List Nat) (g:TG) (ti:TT) (te:TE) (σ:St) (H1:Hp) (Q:VK):Prop:=∃ W:Nat→Nat→List Mem→Hp→Prop,(∃ m,W 0 m [] (upd H1 D (zgi w D []))) ∧
 ∀ i m qs H2,W i m qs H2→SWt w K H2 D qs∧((J.stop i H2∧Q (.ref D) H2) ∨ (J.go i H2∧qs.length<299∧∀ x H3,J.yld i H2 x H3→g x (List.replicate nt none++caps cap σ) H3 λ σ4 H4=>ti σ4 H4 λ b H5 =>
  if b=true then te σ4 H5 λ y H6=>∃ ax dx,y = .ref ax∧DV K H6 dx (.ref ax)∧ok4 dx∧SWt w K H6 D qs∧((∃ q∈qs,q.2=dx)→∃ m',m'<m∧W (i+1) m' qs H6)∧((∀ q∈qs,q.2≠dx)→∃ m',m'<m∧W (i+1) m' ((ax,dx)::qs) (upd H6 D (zgi w D ((ax,dx)::qs))))
  else ∃ m',m'<m∧W (i+1) m' qs H5))
noncomputable def zy0 (w:World) (K:W.Frag) (wi:TI) (nt:Nat) (cap:List Nat) (g:TG) (ti:TT) (te:TE):TE:=λ σ H Q=>wi σ H λ J H1=>∀ D,H1 D=none→zcw w K J D nt cap g ti te σ H1 Q
theorem zhl {elt tg iter:Expr} {ifs:List Expr} {scope:Scope} {pos:Pos} {wi:TI} {g:TG} {ti:TT} {te:TE} (N':List Str) (nt:Nat) (cap:List Nat)
  (hc:X.calm=true) (hu:X.A.units+100<cLine) (hi:PI X tg iter wi) (hgk:zfg nt g)
  (hg:∀ C s₀ H₀ fp E',PG (X.comp scope C s₀ H₀ fp N' E') tg g)
  (hif:∀ C s₀ H₀ fp E',PIf (X.comp scope C s₀ H₀ fp N' E') ifs ti)
  (he:∀ C s₀ H₀ fp E',PE (X.comp scope C s₀ H₀ fp N' E') elt te)
  (hk:scope.kind = .function:=by rfl) (hb:zsd scope X.env=true:=by rfl) (hcap:zhq X scope N' nt cap=true:=by rfl)
  (hs:∀ x,foldedSetIterable iter X.env x=pure x:=by intro _;rfl):PE X (.SetComp elt [⟨tg,iter,ifs,0⟩] scope pos) (zy0 X.w X.K wi nt cap g ti te) := .mk <| by
 intro pins s σ H Q I h
 rw [zri]
 have hclos:closureFor scope X.env=pure (clOf scope X.env):=zcf λ p hp e=>I.ok.has p.1 (zub hb p hp e)
 refine wpAny_comprehension_free (use:=none) rfl hs hclos hk (zvc hb) (thn (hi pins s σ H _ I h) λ v s1 h1=>thn h1 λ itv s2 h2=>?_)
 obtain ⟨it,fp,tn,J,H2,e,I2,T,st2,f2,q2⟩:=h2
 subst e
 refine zbx (wpAny_newFunctionEnv (zpc hb) (by intro y hy;simp at hy) (λ h₁ hns₁ hsb₁=>?_) hk)
 obtain ⟨ob,hob⟩:∃ ob:Obj,ob={ cls := .type "set",data := .set #[] 0 (SetTable.fresh 0 0 (!X.w.params.followText "set-order")) }:=⟨_,rfl⟩
 rw [← hob] at hns₁ hsb₁ ⊢
 have g3:(s2.heap.push ob).get? s2.heap.objs.size=some ob:=by rw [hob];exact Heap.get?_push_size _ rfl
 have I3:Inv X pins σ (upd H2 s2.heap.objs.size (zgi X.w s2.heap.objs.size [])) { s2 with heap:=s2.heap.push ob }:=by
  refine I2.laid (t':=s2.toks) (λ b u e=>Heap.get?_push_of_some _ e) (Nat.le_refl _) (zrl ?_ ?_)
  ·rw [hob]
   rw [hob] at g3
   exact ⟨_,g3, #[],0,_,[],⟨rfl,rfl,rfl⟩,rfl,rfl,⟨rfl,by show 0≤7;decide,.inl rfl⟩,by show 0 * 5<7 * 3;decide,⟨(λ a b u v _ e _=>by simp [SetTable.fresh] at e),λ i j e h1=>by simp [SetTable.fresh] at h1⟩,.refl _,.nil⟩
  ·rw [hob]
   rw [hob] at g3
   exact ⟨_,_,_,_,g3,rfl,rfl,rfl⟩
 have hfl:∀ b∈fp,b<s2.heap.objs.size:=λ b hb'=>let ⟨o,e,_⟩:=T.obj 0 _ st2 b hb';Heap.lt_size e
 obtain ⟨W,⟨m0,w0⟩,turn⟩:=q2 s2.heap.objs.size (I2.hok.fresh (Nat.le_refl _))
 have nD:∀ b∈fp,b≠s2.heap.objs.size:=λ b hb'=>Nat.ne_of_lt (hfl b hb')
 have f3:∀ b∈fp,FpOk X pins (upd H2 s2.heap.objs.size (zgi X.w s2.heap.objs.size [])) b:=λ b hb'=>⟨by rw [zga (nD b hb')];exact (f2 b hb').1,(f2 b hb').2⟩
 obtain ⟨s3,hs3⟩:∃ s3:Shared,s3={ s2 with heap:=s2.heap.push ob }:=⟨_,rfl⟩
 have hs3':s3.heap=s2.heap.push ob:=by rw [hs3]
 rw [← hs3] at I3
 have hsz:s3.heap.objs.size=s2.heap.objs.size+1:=by rw [hs3',Heap.size_push]
 have hfl3:∀ b∈fp,b<s3.heap.objs.size:=λ b hb'=>by rw [hsz];exact Nat.lt_succ_of_lt (hfl b hb')
 have hC:(s2.heap.push ob).objs.size=s3.heap.objs.size:=by rw [hs3']
 dsimp only at hns₁ hsb₁ ⊢
 rw [hC] at hns₁ hsb₁ ⊢
 rw [← hs3'] at hsb₁
 have kp:∀ b o,s3.heap.get? b=some o→h₁.get? b=some o:=λ b o e=>hsb₁.extBut b o (Nat.ne_of_lt (Heap.lt_size e)) (Heap.get?_push_of_some _ e)
 generalize hE':(notedBy (model X.prog X.w) X.A (compEnvC scope (clOf scope X.env) s3.heap.objs.size X.env) λ e s'=>compPost (model X.prog X.w) X.A X.xe none (EP X pins σ Q) (.ref s2.heap.objs.size) s3.heap.objs.size (.error e) s')=E'
 have I4:=zse (t4:=s2.toks+([]:List (Str×Value)).length) (E':=E') I3 hk hb hcap f3 hfl3 hns₁ kp
 have st4:tn 0 h₁:=T.keep 0 _ _ st2 λ b hb' o e=>kp b o (by rw [hs3'];exact Heap.get?_push_of_some _ e)
 obtain ⟨s4,hs4⟩:∃ s4:Shared,s4={ s3 with heap:=h₁,toks:=s2.toks+([]:List (Str×Value)).length }:=⟨_,rfl⟩
 rw [← hs4] at I4
 have st4':tn 0 s4.heap:=by rw [hs4];exact st4
 have cin:∀ x c,(clOf scope X.env).lookup x=some c→X.env.cells.lookup x=some c:=λ x c e=>zmy scope.names [] (λ y d q=>by simp at q) e
 have stat:∀ {H':Hp},(∀ b∈fp,H' b=none)→∀ b∈fp,FpOk (X.comp scope s3.heap.objs.size s3 (upd H2 s2.heap.objs.size (zgi X.w s2.heap.objs.size [])) fp N' E') [] H' b:=λ hn b hb'=>by
  refine ⟨hn b hb',Nat.ne_of_lt (hfl3 b hb'),λ z=>?_,.inl hb',λ x c e=>(f3 b hb').2.2.2.2.1 x c (cin x c e),λ p hp=>absurd hp (by simp [Cx.comp])⟩
  rcases List.mem_cons.mp (I3.stkSub b z) with z | z
  ·exact (f3 b hb').2.1 z
  ·exact (f3 b hb').2.2.1 z
 have loop:codeAny (model X.prog X.w) X.A (.compLoop (.SetComp elt [⟨tg,iter,ifs,0⟩] scope pos) 0 (.ref it) (.ref s2.heap.objs.size) (compEnvC scope (clOf scope X.env) s3.heap.objs.size X.env))
   (compPost (model X.prog X.w) X.A X.xe none (EP X pins σ Q) (.ref s2.heap.objs.size) s3.heap.objs.size) s4:=by
  refine zyi (λ n s'=>∃ i qs H',Inv (X.comp scope s3.heap.objs.size s3 (upd H2 s2.heap.objs.size (zgi X.w s2.heap.objs.size [])) fp N' E') [] (List.replicate nt none++caps cap σ) H' s'∧tn i s'.heap∧(∀ b∈fp,H' b=none)∧W i n qs H') ?_ m0
   ⟨0,[],_,I4,st4',λ b hb'=>(f3 b hb').1,w0⟩
  rintro n s5 ⟨i,qs,H5,I5,st5,fr5,w5⟩
  rw [hE']
  obtain ⟨hD5,alt⟩:=turn i n qs H5 w5
  rcases alt with ⟨stop,qn⟩ | ⟨go,hyl,step⟩
  ·refine thn (T.done (X.comp scope s3.heap.objs.size s3 (upd H2 s2.heap.objs.size (zgi X.w s2.heap.objs.size [])) fp N' E') rfl rfl rfl hc i [] s5 _ H5 E' I5 (stat fr5) st5 stop) λ r s6 ⟨hr,I6⟩=>?_
   subst hr
   obtain ⟨m6,hn6,_⟩:=I6.loc
   refine ⟨m6,hn6,λ h' hsb'=>?_⟩
   have I7:=ztg I3 f3 I6
   refine ⟨.ref s2.heap.objs.size,H5,?_,rfl,qn⟩
   refine I7.turnedL (ch:=[s3.heap.objs.size]) (t':=s6.toks) (λ b hb'=>?_) λ b u hb' e=>(hsb'.2 b λ z=>hb' (by simp [z])).trans e
   have eb:b=s3.heap.objs.size:=by simpa using hb'
   subst eb
   exact I3.fpOk (Nat.le_refl _) I6.free
  ·refine thn (T.item (X.comp scope s3.heap.objs.size s3 (upd H2 s2.heap.objs.size (zgi X.w s2.heap.objs.size [])) fp N' E') rfl rfl rfl hc i [] s5 _ H5 E' I5 (stat fr5) st5 go) λ r s6 ⟨u,hr,h6⟩=>?_
   subst hr
   refine thn h6 λ _ s7 ⟨x,H7,I7,r7,y7,st7,fr7⟩=>?_
   have I7':=I7.pinned (stat fr7) (T.obj _ _ st7)
   have again:∀ {σ8:St} {H8:Hp} {qs':List Mem} {s8:Shared},Inv (X.comp scope s3.heap.objs.size s3 (upd H2 s2.heap.objs.size (zgi X.w s2.heap.objs.size [])) fp N' E') ([]++zqi fp s7.heap) σ8 H8 s8→(∃ m',m'<n∧W (i+1) m' qs' H8)→(∀ (j:Nat) v,(List.replicate nt none++caps cap σ)[j]? = some (some v)→σ8[j]? = some (some v)) →
     ∃ m,m<n∧∃ i qs H',Inv (X.comp scope s3.heap.objs.size s3 (upd H2 s2.heap.objs.size (zgi X.w s2.heap.objs.size [])) fp N' E') [] (List.replicate nt none++caps cap σ) H' s8∧tn i s8.heap∧(∀ b∈fp,H' b=none)∧W i m qs H':=fun {σ8 H8 qs' s8} I8 ⟨m',hm,w8⟩ hσ=>by
    refine ⟨m',hm,i+1,qs',H8,I8.unpinned.weak (by rw [I8.len,I5.len]) hσ,T.keep _ _ _ st7 λ b hb o e=>(I8.pin (b,o) (List.mem_append_right _ (List.mem_append_right _ (zeb hb e)))).1,λ b hb=>?_,w8⟩
    obtain ⟨o,e,d⟩:=T.obj _ _ st7 b hb
    exact (I8.pin (b,o) (List.mem_append_right _ (List.mem_append_right _ (zeb hb e)))).2.1
   refine thn (hg _ _ _ _ _ _ s7 _ H7 x u _ I7' r7 (hgk x _ H7 _ (step x H7 y7))) λ _ s8 ⟨σ8,H8,I8,q8,hσ⟩=>?_
   refine thn (hif _ _ _ _ _ _ s8 σ8 H8 _ I8 q8) λ ok s9 ⟨H9,I9,q9⟩=>?_
   cases ok with
   | false =>
    rw [if_neg Bool.false_ne_true] at q9 ⊢
    exact again I9 q9 hσ
   | true =>
    rw [if_pos rfl] at q9 ⊢
    refine thn (he _ _ _ _ _ _ s9 σ8 H9 _ I9 q9) λ y s10 ⟨vy,H10,I10,r10,ax,dx,ey,hd10,ok10,S10,k0,k1⟩=>?_
    subst ey
    refine thn (zuy (X:=X.comp scope s3.heap.objs.size s3 (upd H2 s2.heap.objs.size (zgi X.w s2.heap.objs.size [])) fp N' E') (Q:=λ H'=>∃ m',m'<n∧∃ qs',W (i+1) m' qs' H') hu I10 S10 hyl r10 hd10 ok10 (λ z=>let ⟨m',a,b⟩:=k0 z; ⟨m',a,_,b⟩) (λ z=>let ⟨m',a,b⟩:=k1 z; ⟨m',a,_,b⟩)) λ _ s11 ⟨H11,I11,m',hm',qs',w11⟩=>?_
    exact again I11 ⟨m',hm',w11⟩ hσ
 have e4:({ s2 with heap:=h₁,toks:=s2.toks+([]:List (Str×Value)).length }:Shared)=s4:=by rw [hs4,hs3]
 show codeAny _ _ _ _ { s2 with heap:=h₁,toks:=s2.toks+([]:List (Str×Value)).length }
 rw [e4]
 exact zai loop (T.self X.A 0 s4 _ _ st4' loop)
end
theorem zxp {w:World} {K:W.Frag} {J:It} {n:Nat} {nt:Nat} {cap:List Nat} {g:TG} {te:TE} {σ:St} {H1:Hp} {Q:VK} {D:Addr} (val:Nat→V) (dat:Nat→PyData) (hD:H1 D=none) (hP:Plain H1) (hx:n<299) (hok:∀ i,i<n→ok4 (dat i))
  (hJ:∀ i H2,Same H1 H2→(i<n→J.go i H2)∧(J.stop n H2)∧∀ x H3,i<n→J.yld i H2 x H3→H3=H2∧x=val i)
  (step:∀ (i:Nat) H2 (Tt:VK),i<n→Plain H2→Same H1 H2→(∀ ax H6,DV K H6 (dat i) (.ref ax)→Same H2 H6→Plain H6→Tt (.ref ax) H6) →
   g (val i) (List.replicate nt none++caps cap σ) H2 λ σ4 H4=>te σ4 H4 Tt)
  (fin:∀ qs H2,SWt w K H2 D qs→(∀ d,(∃ q∈qs,q.2=d) ↔ ∃ i,i<n∧dat i=d)→qs.length≤n→Same H1 H2→Plain H2→Q (.ref D) H2) :
  zcw w K J D nt cap g tYes te σ H1 Q:=by
 refine ⟨λ i m qs H2=>m=n - i∧i≤n∧qs.length≤i∧SWt w K H2 D qs∧Same H1 H2∧Plain H2∧(∀ d,(∃ q∈qs,q.2=d) ↔ ∃ j,j<i∧dat j=d),⟨_,rfl,Nat.zero_le _,Nat.le_refl _,⟨upd_same,(λ q hq=>by cases hq),(λ q hq=>by cases hq),List.nodup_nil⟩,zba hD,hP.upd trivial,λ d=>⟨(λ ⟨q,hq,_⟩=>by cases hq),(λ ⟨j,hj,_⟩=>by omega)⟩⟩,?_⟩
 rintro i m qs H2 ⟨rfl,hi,hl,hS,hs,hp,hr⟩
 refine ⟨hS,?_⟩
 obtain ⟨j1,j2,j3⟩:=hJ i H2 hs
 by_cases hlt:i<n
 ·refine .inr ⟨j1 hlt,by omega,λ v H3 hy=>?_⟩
  obtain ⟨rfl,rfl⟩:=j3 v H3 hlt hy
  simp only [tYes,if_true]
  refine step i _ _ hlt hp hs λ ax H6 hd hs6 hp6=>⟨ax,dat i,rfl,hd,hok i hlt,hS.same hs6,λ hold=>⟨_,by omega,rfl,hlt,by omega,hS.same hs6,hs.trans hs6,hp6,λ d=>?_⟩,λ hnew=>⟨_,by omega,rfl,hlt,by rw [List.length_cons];omega,(hS.same hs6).add hd (hok i hlt) hnew,(hs.trans hs6).upd hD,hp6.upd trivial,λ d=>?_⟩⟩
  ·constructor
   ·intro z
    obtain ⟨j,hj,e⟩:=(hr d).mp z
    exact ⟨j,by omega,e⟩
   ·rintro ⟨j,hj,e⟩
    rcases Nat.lt_or_ge j i with h | h
    ·exact (hr d).mpr ⟨j,h,e⟩
    ·have:j=i:=by omega
     subst this
     rw [← e]
     exact hold
  ·constructor
   ·rintro ⟨q,hq,e⟩
    rcases List.mem_cons.mp hq with rfl | hq
    ·exact ⟨i,by omega,e⟩
    ·obtain ⟨j,hj,e'⟩:=(hr d).mp ⟨q,hq,e⟩
     exact ⟨j,by omega,e'⟩
   ·rintro ⟨j,hj,e⟩
    rcases Nat.lt_or_ge j i with h | h
    ·obtain ⟨q,hq,e'⟩:=(hr d).mpr ⟨j,h,e⟩
     exact ⟨q,List.mem_cons_of_mem _ hq,e'⟩
    ·have:j=i:=by omega
     subst this
     exact ⟨_,List.mem_cons_self,e⟩
 ·have e:i=n:=by omega
  subst e
  exact .inl ⟨j2,fin qs H2 hS hr hl hs hp⟩
end L2
namespace L2
open PySem PySem.Spec PyProof.Rows PySem.NumText
section
variable {X:Cx}
theorem zi3 {P:Program} {w:World} {K:W.Frag} (hP:X.prog=P) (hw:X.w=w) (hK:X.K=K) (hu:X.A.units+1<cLine):IxR X (rIxM P w K):=by
 subst hP hw hK
 exact ix_M hu
end
end L2
namespace L2
open PySem PySem.Spec PyProof.Rows PySem.NumText
theorem zjp {J:It} {n:Nat} {nt:Nat} {cap:List Nat} {g:TG} {ti:TT} {te:TE} {σ:St} {H1:Hp} {Q:VK} {D:Addr} (val:Nat→V) (kb:Nat→Bool) (R:Nat→V→Hp→Prop) (hD:H1 D=none) (hP:Plain H1) (hx:n≤sizeLine)
  (hJ:∀ i H2,Same H1 H2→(i<n→J.go i H2)∧(J.stop n H2)∧∀ x H3,i<n→J.yld i H2 x H3→H3=H2∧x=val i)
  (mono:∀ i y H H',R i y H→(∀ b o,b≠D→H b=some o→H' b=some o)→(∃ zs,H D=some (.lst zs))→R i y H')
  (step:∀ (i:Nat) H2 (Tt:VK) (Tf:Hp→Prop),i<n→Plain H2→Same H1 H2→(kb i=true→∀ y H6,R i y H6→Same H2 H6→Plain H6→Tt y H6)→(kb i=false→∀ H6,Same H2 H6→Plain H6→Tf H6) →
   g (val i) (List.replicate nt none++caps cap σ) H2 λ σ4 H4=>ti σ4 H4 λ b H5=>if b=true then te σ4 H5 Tt else Tf H5)
  (fin:∀ ys H2,Paired (λ i y=>R i y H2) ((List.range n).filter kb) ys→H2 D=some (.lst ys)→Same H1 H2→Plain H2→Q (.ref D) H2) :
  zfz J D nt cap g ti te σ H1 Q:=by
 refine ⟨λ i m ys H2=>m=n - i∧i≤n∧ys.length≤i∧H2 D=some (.lst ys)∧Same H1 H2∧Plain H2∧Paired (λ i y=>R i y H2) ((List.range i).filter kb) ys,⟨_,rfl,Nat.zero_le _,Nat.le_refl _,upd_same,zba hD,hP.lst,.nil⟩,?_⟩
 rintro i m ys H2 ⟨rfl,hi,hl,hd,hs,hp,hr⟩
 refine ⟨hd,?_⟩
 obtain ⟨j1,j2,j3⟩:=hJ i H2 hs
 by_cases hlt:i<n
 ·refine .inr ⟨j1 hlt,by omega,λ v H3 hy=>?_⟩
  obtain ⟨rfl,rfl⟩:=j3 v H3 hlt hy
  refine step i _ _ _ hlt hp hs (λ hk y H6 hR hs6 hp6=>⟨hs6 _ _ hd,_,by omega,rfl,hlt,by simp;omega,upd_same,(hs.trans hs6).upd hD,hp6.lst,?_⟩) (λ hk H6 hs6 hp6=>⟨_,by omega,rfl,hlt,by omega,hs6 _ _ hd,hs.trans hs6,hp6,?_⟩)
  ·have up:∀ b o,b≠D→H6 b=some o→(upd H6 D (.lst (ys++[y]))) b=some o:=λ b o hb e=>by rw [zga hb];exact e
   rw [List.range_succ,List.filter_append,show [i].filter kb=[i] by simp [hk]]
   refine Paired.snoc (Paired.mapP hr λ e' y' hr'=>mono e' y' H6 _ (mono e' y' _ H6 hr' (λ b o _ q=>hs6 b o q) ⟨_,hd⟩) up ⟨_,hs6 _ _ hd⟩) (mono i y H6 _ hR up ⟨_,hs6 _ _ hd⟩)
  ·rw [List.range_succ,List.filter_append,show [i].filter kb=[] by simp [hk],List.append_nil]
   exact Paired.mapP hr λ e' y' hr'=>mono e' y' _ H6 hr' (λ b o _ q=>hs6 b o q) ⟨_,hd⟩
 ·have e:i=n:=by omega
  subst e
  exact .inl ⟨j2,fin ys H2 hr hd hs hp⟩
theorem zoq {α:Type} (as:List α) (d:α):(List.range as.length).map (λ i=>as.getD i d)=as:=by
 refine List.ext_getElem (by simp) λ i h1 h2=>?_
 rw [List.getElem_map,List.getElem_range,List.getD_eq_getElem?_getD,List.getElem?_eq_getElem h2]
 rfl
theorem zpv {α β:Type} (as:List α) (d:α) (kb:α→Bool) (f:α→β):((List.range as.length).filter (λ i=>kb (as.getD i d))).map (λ i=>f (as.getD i d))=(as.filter kb).map f:=by
 have h:=zoq as d
 rw [show (as.filter kb).map f=(((List.range as.length).map (λ i=>as.getD i d)).filter kb).map f by rw [h],List.filter_map,List.map_map]
 rfl
end L2
namespace L2
open PySem PySem.Spec PyProof.Rows PySem.NumText
noncomputable def mks (a:Sh):List Mark:=a.map (·.1)
theorem zta:∀ {a:Sh} {m:Mark} {v:Ver},look a m=some v→(m,v)∈a
 | [],_,_,h=>by cases h
 | x::a,m,v,h=>by
  unfold look at h
  by_cases e:x.1=m
  ·rw [if_pos e] at h
   cases h
   rw [← e]
   exact List.mem_cons_self
  ·rw [if_neg e] at h
   exact List.mem_cons_of_mem _ (zta h)
theorem zlj:∀ {a:Sh} {m:Mark},look a m=none→m∉mks a
 | [],_,_=>List.not_mem_nil
 | x::a,m,h=>by
  unfold look at h
  by_cases e:x.1=m
  ·rw [if_pos e] at h;cases h
  ·rw [if_neg e] at h
   intro z
   rcases List.mem_cons.mp z with z | z
   ·exact e z.symm
   ·exact zlj h z
theorem zkc {a:Sh} {m:Mark} (h:m∉mks a):look a m=none:=by
 cases e:look a m with
 | none=>rfl
 | some v=>exact absurd (List.mem_map_of_mem (f:=(·.1)) (zta e)) h
theorem zdz {a:Sh} {m:Mark} (h:m∈mks a):∃ v,(m,v)∈a:=by
 obtain ⟨x,hx,rfl⟩:=List.mem_map.mp h
 exact ⟨x.2,hx⟩
theorem zpe {α:Type}:∀ {l1 l2:List α},l1.Nodup→l2.Nodup→(∀ x,x∈l1↔x∈l2)→l1.Perm l2:=λ h1 h2 h=>(List.perm_ext_iff_of_nodup h1 h2).mpr h
theorem zrb {α:Type} [DecidableEq α]:∀ {l U:List α},l.Nodup→(∀ x∈l,x∈U)→l.length≤U.length
 | [],U,_,_=>Nat.zero_le _
 | x::l,U,h,hs=>by
  obtain ⟨h1,h2⟩:=List.nodup_cons.mp h
  have hx:=hs x List.mem_cons_self
  have:=zrb (l:=l) (U:=U.erase x) h2 λ y hy=>(List.mem_erase_of_ne (λ (z:y=x)=>h1 (by rw [← z];exact hy))).mpr (hs y (List.mem_cons_of_mem _ hy))
  rw [List.length_erase_of_mem hx] at this
  have hp:=List.length_pos_of_mem hx
  rw [List.length_cons]
  omega
noncomputable def IsMk (a b:Sh) (ks:List Mark):Prop:=ks.Pairwise (λ x y=>mLt x y=true)∧∀ m,m∈ks↔m∈mks a ∨ m∈mks b
theorem toE {X:Cx} {e:Expr} {t t':TE} (h:PE X e t) (z:t=t'):PE X e t':=z ▸ h
theorem toS {X:Cx} {e:Stmt} {t t':TS} (h:PS X e t) (z:t=t'):PS X e t':=z ▸ h
end L2
namespace L2
open PySem PySem.Spec PyProof.Rows PySem.NumText
section
variable {prog:Program} {w:World} {A:Around} {E:Value→Shared→Prop} {s:Shared} {d a:Addr} {ds:Array DictEntry} {ep:Nat} {o:Obj}
end
section
variable {X:Cx}
end
end L2
namespace L2
open PySem PySem.Spec PyProof.Rows PySem.NumText
section
variable {prog:Program} {w:World} {A:Around} {E:Value→Shared→Prop} {s:Shared} {d r:Addr} {ds:Array DictEntry} {ep:Nat}
end
section
variable {X:Cx}
end
end L2
namespace L2
open PySem PySem.Spec PyProof.Rows PySem.NumText
theorem zht {ns:Sh} {m:Mark} {v:Ver} (hn:m∉mks ns):∀ k,look (ns++[(m,v)]) k=if m=k then some v else look ns k:=by
 intro k
 induction ns with
 | nil=>rfl
 | cons n ns ih =>
  have hn':m∉mks ns:=λ z=>hn (List.mem_cons_of_mem _ z)
  have hm:n.1≠m:=λ z=>hn (by rw [← z];exact List.mem_cons_self)
  show (if n.1=k then some n.2 else look (ns++[(m,v)]) k)=if m=k then some v else if n.1=k then some n.2 else look ns k
  rw [ih hn']
  by_cases h1:n.1=k
  ·rw [if_pos h1,if_neg (λ z=>hm (h1.trans z.symm)),if_pos h1]
  ·rw [if_neg h1,if_neg h1]
theorem zel {m:Mark} {v:Ver}:∀ {ns:Sh},m∈mks ns→∀ k,look (ns.map λ n=>if n.1=m then (n.1,v) else n) k=if m=k then some v else look ns k
 | [],h,k=>by cases h
 | n::ns,h,k=>by
  have step:look ((n::ns).map λ n=>if n.1=m then (n.1,v) else n) k=if n.1=k then some (if n.1=m then v else n.2) else look (ns.map λ n=>if n.1=m then (n.1,v) else n) k:=by
   show (if (if n.1=m then (n.1,v) else n).1=k then some (if n.1=m then (n.1,v) else n).2 else _)=_
   by_cases h1:n.1=m
   ·rw [if_pos h1,if_pos h1]
   ·rw [if_neg h1,if_neg h1]
  rw [step]
  show _=if m=k then some v else if n.1=k then some n.2 else look ns k
  by_cases h2:n.1=k
  ·rw [if_pos h2,if_pos h2]
   by_cases h1:n.1=m
   ·rw [if_pos h1,if_pos (h1.symm.trans h2)]
   ·rw [if_neg h1,if_neg (λ z=>h1 (h2.trans z.symm))]
  ·rw [if_neg h2,if_neg h2]
   by_cases h3:m∈mks ns
   ·rw [zel h3]
   ·have hm:m=n.1:=(List.mem_cons.mp h).resolve_right h3
    rw [if_neg (λ z=>h2 (hm ▸ z))]
    congr 1
    have:∀ x∈ns,(if x.1=m then (x.1,v) else x)=x:=λ x hx=>if_neg λ z=>h3 (by rw [← z];exact List.mem_map_of_mem (f:=(·.1)) hx)
    exact (List.map_congr_left this).trans (List.map_id _)
noncomputable def putS (ns:Sh) (m:Mark) (v:Ver):Sh:=if m∈mks ns then ns.map (λ n=>if n.1=m then (n.1,v) else n) else ns++[(m,v)]
theorem zmc (ns:Sh) (m:Mark) (v:Ver) (k:Mark):look (putS ns m v) k=if m=k then some v else look ns k:=by
 unfold putS
 by_cases h:m∈mks ns
 ·rw [if_pos h];exact zel h k
 ·rw [if_neg h];exact zht h k
theorem zyg (ns:Sh) (m:Mark) (v:Ver):mks (putS ns m v)=if m∈mks ns then mks ns else mks ns++[m]:=by
 unfold putS
 by_cases h:m∈mks ns
 ·rw [if_pos h,if_pos h]
  unfold mks
  rw [List.map_map]
  exact List.map_congr_left λ n _=>by
   show (if n.1=m then (n.1,v) else n).1=n.1
   split <;> rfl
 ·rw [if_neg h,if_neg h]
  unfold mks
  rw [List.map_append]
  rfl
theorem zkh {ns:Sh} (nd:(mks ns).Nodup) (m:Mark) (v:Ver):(mks (putS ns m v)).Nodup:=by
 rw [zyg]
 by_cases h:m∈mks ns
 ·rw [if_pos h];exact nd
 ·rw [if_neg h]
  refine List.nodup_append.mpr ⟨nd,List.nodup_cons.mpr ⟨by simp,List.nodup_nil⟩,λ a ha b hb z=>?_⟩
  exact h ((show a=m from z.trans (List.mem_singleton.mp hb)) ▸ ha)
theorem zii (ns:Sh) (m:Mark) (v:Ver):(putS ns m v).length≤ns.length+1:=by
 unfold putS
 split <;> simp
theorem zwg {ns:Sh} (ok:∀ n∈ns,okV n.2) (m:Mark) {v:Ver} (okv:okV v):∀ n∈putS ns m v,okV n.2:=λ n hn=>by
 unfold putS at hn
 split at hn
 ·obtain ⟨y,hy,rfl⟩:=List.mem_map.mp hn
  split
  ·exact okv
  ·exact ok y hy
 ·rcases List.mem_append.mp hn with z | z
  ·exact ok n z
  ·rw [List.mem_singleton.mp z];exact okv
theorem zxe {K:W.Frag} {H:Hp} {es:List Ent} {ns:Sh} (he:EnS K H es ns) {m:Mark} {q:Addr} {v:Ver} {x:V} (hq:SqT K H q (mkV m)) (hx:DV K H (ver v) x):EnS K H (putM es m q x) (putS ns m v):=by
 have em:=zpb he
 unfold putM putS
 by_cases hm:m∈mks ns
 ·have hf:(zab es m).isSome=true:=zbd (by rw [em];exact hm)
  rw [if_pos hf,if_pos hm]
  clear hm hf em
  induction he with
  | nil=>exact .nil
  | cons a b ih =>
   rename_i e n _ _
   refine .cons ?_ ih
   obtain ⟨a1,a2,a3⟩:=a
   dsimp only
   by_cases z:e.1=m
   ·have z2:n.1=m:=a1 ▸ z
    rw [if_pos z,if_pos z2]
    exact ⟨a1,a2,hx⟩
   ·have z2:¬ n.1=m:=a1 ▸ z
    rw [if_neg z,if_neg z2]
    exact ⟨a1,a2,a3⟩
 ·have hf:zab es m=none:=zoc (by rw [em];exact hm)
  rw [hf,if_neg hm]
  rw [if_neg (show ¬ (none:Option V).isSome=true from Bool.false_ne_true)]
  exact Paired.snoc he ⟨rfl,hq,hx⟩
noncomputable abbrev Giv:=Mark×Option Ver
noncomputable def zyl (f:Mark→Option Ver) (gs:List Giv):Mark→Option Ver:=gs.foldl (λ f g k=>if g.1=k then g.2 else f k) f
theorem zue (f:Mark→Option Ver) (gs:List Giv) (g:Giv):zyl f (gs++[g])=λ k=>if g.1=k then g.2 else zyl f gs k:=by
 unfold zyl
 rw [List.foldl_append]
 rfl
end L2
namespace L2
open PySem PySem.Spec PyProof.Rows PySem.NumText
noncomputable def gmk (gs:List Giv):List Mark:=gs.map (·.1)
noncomputable def zg3 (gs:List Giv) (k:Mark):Option Ver:=zyl (λ _=>none) gs k
theorem zdh (gs:List Giv) {k:Mark}:∀ {f:Mark→Option Ver},k∉gmk gs→zyl f gs k=f k:=by
 induction gs with
 | nil=>intro f _;rfl
 | cons g gs ih =>
  intro f h
  have h1:g.1≠k:=λ z=>h (by rw [← z];exact List.mem_cons_self)
  have h2:k∉gmk gs:=λ z=>h (List.mem_cons_of_mem _ z)
  show zyl (λ k=>if g.1=k then g.2 else f k) gs k=f k
  rw [ih h2,if_neg h1]
theorem zzp {gs:List Giv} (nd:(gmk gs).Nodup) {g:Giv}:∀ {f:Mark→Option Ver},g∈gs→zyl f gs g.1=g.2:=by
 induction gs with
 | nil=>intro f h;cases h
 | cons g0 gs ih =>
  intro f h
  obtain ⟨n1,n2⟩:=List.nodup_cons.mp (show (g0.1::gmk gs).Nodup from nd)
  show zyl (λ k=>if g0.1=k then g0.2 else f k) gs g.1=g.2
  rcases List.mem_cons.mp h with rfl | h
  ·rw [zdh gs n1,if_pos rfl]
  ·exact ih n2 h
noncomputable def allG (ms:Sh):List Giv:=ms.map λ m=>(m.1,some m.2)
theorem zeg {ms:Sh} (nd:(mks ms).Nodup) (k:Mark):zg3 (allG ms) k=look ms k:=by
 have e1:gmk (allG ms)=mks ms:=by
  unfold gmk allG mks
  rw [List.map_map]
  rfl
 unfold zg3
 by_cases h:k∈mks ms
 ·obtain ⟨m,hm,rfl⟩:=List.mem_map.mp h
  rw [show look ms m.1=some m.2 from zfc nd hm]
  exact zzp (g:=(m.1,some m.2)) (by rw [e1];exact nd) (List.mem_map_of_mem (f:=λ m:Mark×Ver=>((m.1,some m.2):Giv)) hm)
 ·rw [zdh _ (by rw [e1];exact h),zkc h]
end L2
namespace L2
open PySem PySem.Spec PyProof.Rows PySem.NumText
section
variable {X:Cx} {tg:Expr}
end
end L2
namespace L2
open PySem PySem.Spec PyProof.Rows PySem.NumText
section
variable {prog:Program} {w:World} {A:Around} {E:Value→Shared→Prop} {s:Shared}
end
section
variable {X:Cx}
end
end L2
namespace L2
open PySem PySem.Spec PyProof.Rows PySem.NumText
end L2
namespace L2
open PySem PySem.Spec PyProof.Rows PySem.NumText
section
variable {X:Cx} {tg:Expr}
end
end L2
namespace L2
open PySem PySem.Spec PyProof.Rows PySem.NumText
end L2
namespace L2
open PySem PySem.Spec PyProof.Rows PySem.NumText
theorem zbo {P:Program} {w:World} {a:Addr} {es:List Ent} {o:Obj} {g:TG} {tb:TS} {D:Ends} {σ:L2.St} {H:Hp} (Pv:Nat→L2.St→Hp→Prop) (h0:Pv 0 σ H) (hl:∀ i σ H,i≤es.length→Pv i σ H→H a=some (dO P w a es o))
  (hs:∀ i e σ H,es[i]? = some e→Pv i σ H→g (.ref e.2.1) σ H λ σ2 H2=>tb { D with nx:=Pv (i+1),ct:=Pv (i+1),bk:=D.nx } σ2 H2) (hd:∀ σ H,Pv es.length σ H→D.nx σ H) :
  ∃ W:Nat→Nat→L2.St→Hp→Prop,(∃ m,W 0 m σ H)∧∀ i m σ H,W i m σ H →
   ((Itk P w a es o).stop i H∧D.nx σ H) ∨ ((Itk P w a es o).go i H∧∃ N:L2.St→Hp→Prop,(∀ σ' H',N σ' H'→∃ m',m'<m∧W (i+1) m' σ' H')∧∀ x H',(Itk P w a es o).yld i H x H'→g x σ H' λ σ2 H2=>tb { D with nx:=N,ct:=N,bk:=D.nx } σ2 H2):=by
 refine ⟨λ i m σ H=>m=es.length - i∧i≤es.length∧Pv i σ H,⟨es.length,by simp,Nat.zero_le _,h0⟩,?_⟩
 rintro i m σ H ⟨rfl,hi,p⟩
 have q:=hl i σ H hi p
 by_cases hlt:i<es.length
 ·refine .inr ⟨⟨q,hlt⟩,Pv (i+1),λ σ' H' p'=>⟨es.length - (i+1),by omega,rfl,hlt,p'⟩,λ x H' y=>?_⟩
  obtain ⟨e,en,ex,hei⟩:=y
  subst e ex
  exact hs i en σ _ hei p
 ·have e:i=es.length:=by omega
  subst e
  exact .inl ⟨⟨q,Nat.le_refl _⟩,hd σ H p⟩
end L2
namespace L2
open PySem PySem.Spec PyProof.Rows PySem.NumText PySem.W
section
variable {prog:Program} {w:World} {A:Around} {E:Value→Shared→Prop} {s:Shared} {a:Addr} {vs:List Value}
end
section
variable {X:Cx}
end
end L2
namespace L2
open PySem PySem.Spec PyProof.Rows PySem.NumText PySem.W
section
variable {X:Cx}
variable {CX:CXT} {k:Nat} {E:XK} {x:Str} {p pos:Pos} {e:Expr} {es:List Expr} {t:TA}
end
end L2
namespace L2
open PySem PySem.Spec PyProof.Rows PySem.NumText
section
variable {X:Cx}
end
end L2
namespace L2
open PySem PySem.Spec PyProof.Rows PySem.NumText
end L2
namespace L2
open PySem PySem.Spec PyProof.Rows PySem.NumText
section
variable {X:Cx}
end
end L2
namespace L2
open PySem PySem.Spec PyProof.Rows PySem.NumText
section
variable {X:Cx} {o e z:Expr} {td ty tz:TE}
noncomputable def ze1 (P:Program) (w:World) (K:W.Frag) (td ty tz:TE):TE:=λ σ H Q=>td σ H λ x H1=>∃ a es,x = .ref a∧DM P w K H1 a es∧ty σ H1 λ y H2=>tz σ H2 λ v H3=>∃ q m,y = .ref q∧DM P w K H3 a es∧SqT K H3 q (mkV m)∧Q ((zab es m).getD v) H3
theorem zxu {apos cpos:Pos} (hu:X.A.units+1<cLine) (ho:PE X o td) (he:PE X e ty) (hz:PE X z tz) (hbase:attributeBase o "get" X.env (eval o X.env)=eval o X.env:=by rfl)
  (hfew:((backTo cpos (starEach [e,z] X.env)).all (λ x => !x.1) && (backToKw cpos (keywordEach [] X.env)).all (λ x=>x.1.isSome)
   && decide (([e,z]:List Expr).length+([]:List Keyword).length+(if ([]:List Keyword).isEmpty then 0 else 1)<30))=true:=by rfl)
  (hline:(apos.endLine == cpos.line)=true:=by rfl) (htr:backTo cpos (starEach [e,z] X.env)=[(false,eval e X.env),(false,eval z X.env)]:=by rfl):PE X (.Call (.Attribute o "get" apos) [e,z] [] cpos) (ze1 X.prog X.w X.K td ty tz) := .mk <| by
 intro pins s σ H Q I h
 refine wpAny_Call_method hbase hfew hline PySem.F.plainAttrs_dict PySem.F.slot_dict_get PySem.F.type_dict_get (thn (ho pins s σ H _ I h) λ u s1 ⟨x,H1,I1,rx,a,es,ex,D,q1⟩=>?_)
 subst ex
 cases rx
 obtain ⟨_,_,xs,_,dd⟩:=I1.dict D
 refine ⟨dd.typeIs,λ b q=>?_,?_⟩
 ·cases q
  obtain ⟨ob,_,_,h1,h2,_⟩:=dd
  exact ⟨ob,h1,h2.2.1⟩
 rw [htr]
 refine Calls.callWith_builtin rfl (Calls.evalArgs_plain (Calls.spliced_cons (thn (he pins s1 σ H1 _ I1 q1) λ iv s2 ⟨y,H2,I2,ry,q2⟩=>Calls.spliced_cons (thn (hz pins s2 σ H2 _ I2 q2) λ zv s3 ⟨v,H3,I3,rz,q,m,ey,D3,hm,k⟩=>Calls.spliced_nil ?_))))
 subst ey
 cases ry
 obtain ⟨_,hd,xs,r,dd⟩:=I3.dict D3
 exact call_meetsIn PySem.F.slot_dict_get dd.typeIs PySem.F.entry_dict_get (PySem.F.args_dict_get_3 _ _ _) (meetsH_dict_get_default (dK X.prog X.w) a q hd zv) ⟨tupleKind_room_in1 hu,mkK m,xs,I3.mark hm,dd,⟨_,H3,I3.tok _,zzj (d:=v) (zuc r m) rz,k⟩⟩
end
end L2
namespace L2
open PySem PySem.Spec PyProof.Rows PySem.NumText
section
variable {prog:Program} {w:World} {A:Around} {E:Value→Shared→Prop} {R:Result→Shared→Prop} {s:Shared}
end
section
variable {X:Cx}
end
end L2
namespace L2
open PySem PySem.Spec PyProof.Rows PySem.NumText
section
variable {X:Cx}
theorem zvx {P:Program} {w:World} {K:W.Frag} (hP:X.prog=P) (hw:X.w=w) (hK:X.K=K) (hu:X.A.units+1<cLine):OpR X (compareOp .In) (rInM P w K):=by
 subst hP hw hK
 exact zpz hu
end
end L2
namespace L2
open PySem PySem.Spec PyProof.Rows PySem.NumText
theorem zbq (es:List Ent) (m:Mark) (q:Addr) (v:V) (k:Mark):zab (putM es m q v) k=if m=k then some v else zab es k:=by
 unfold putM
 by_cases hs:(zab es m).isSome=true
 ·rw [if_pos hs]
  induction es with
  | nil=>cases hs
  | cons e es ih =>
   rw [List.map_cons]
   unfold zab
   by_cases he:e.1=m
   ·rw [if_pos he]
    show (if e.1=k then some v else _)=_
    by_cases hk:m=k
    ·rw [if_pos (he.trans hk),if_pos hk]
    ·rw [if_neg (λ z=>hk (he.symm.trans z)),if_neg hk,if_neg (λ z=>hk (he.symm.trans z))]
     have:es.map (λ e=>if e.1=m then (e.1,e.2.1,v) else e)=es.map (λ e=>if e.1=m then (e.1,e.2.1,v) else e):=rfl
     clear ih hs this
     induction es with
     | nil=>rfl
     | cons x es ih =>
      rw [List.map_cons]
      unfold zab
      by_cases hx:x.1=m
      ·rw [if_pos hx]
       show (if x.1=k then some v else _)=_
       rw [if_neg (λ z=>hk (hx.symm.trans z)),if_neg (λ z=>hk (hx.symm.trans z))]
       exact ih
      ·rw [if_neg hx,ih]
   ·rw [if_neg he]
    have hs':(zab es m).isSome=true:=by
     unfold zab at hs
     rw [if_neg he] at hs
     exact hs
    by_cases hk:e.1=k
    ·rw [if_pos hk,if_neg (λ z=>he (hk.trans z.symm)),if_pos hk]
    ·rw [if_neg hk,if_neg hk]
     exact ih hs'
 ·rw [if_neg hs]
  induction es with
  | nil =>
   show (if m=k then some v else none)=_
   rfl
  | cons e es ih =>
   rw [List.cons_append]
   unfold zab
   have he:¬ e.1=m:=λ z=>hs (by unfold zab;rw [if_pos z];rfl)
   have hs':¬ (zab es m).isSome=true:=λ z=>hs (by unfold zab;rw [if_neg he];exact z)
   by_cases hk:e.1=k
   ·rw [if_pos hk,if_neg (λ z=>he (hk.trans z.symm)),if_pos hk]
   ·rw [if_neg hk,if_neg hk]
    exact ih hs'
theorem zoh:∀ {es:List Ent},(es.map (·.1)).Nodup→∀ {e:Ent},e∈es→zab es e.1=some e.2.2
 | x::es,nd,e,h=>by
  rw [List.map_cons] at nd
  have nd:=List.nodup_cons.mp nd
  unfold zab
  rcases List.mem_cons.mp h with rfl | h
  ·rw [if_pos rfl]
  ·rw [if_neg (λ z=>nd.1 (by rw [z];exact List.mem_map_of_mem (f:=λ x:Ent=>x.1) h))]
   exact zoh nd.2 h
section
variable {K:W.Frag} {H H':Hp} {es:List Ent} {f:Mark→Option PyData} {k m:Mark} {d:PyData}
end
section
variable {K:W.Frag} {N:List Addr} {H H':Hp} {v:V} {ds:List PyData}
end
end L2
namespace L2
open PySem PySem.Spec PyProof.Rows PySem.NumText
noncomputable def rngO (r:Addr) (n:Nat):HO := .ext λ h=>∃ t u v,IsRange h r 0 (n:Int) 1 t u v
section
variable {X:Cx}
theorem zdk:zrj X (.type "range") (λ xs H Q=>∃ n:Nat,xs=[.int (n:Int)]∧∀ r,H r=none→Q (.ref r) (upd H r (rngO r n))):=by
 intro pins s σ H xs us Q I r h
 obtain ⟨n,rfl,q⟩:=h
 obtain ⟨u,rfl,ru⟩:=zno r
 obtain ⟨t,rfl⟩:=ru
 have hn:=I.hok.fresh (Nat.le_refl s.heap.objs.size)
 refine call_range_1 ⟨.ref s.heap.objs.size,_,I.laid (t':=s.toks+1+1) (o:=rngO s.heap.objs.size n) (λ b ob e=>Heap.get?_push_of_some _ e) (Nat.le_refl _) ?_,rfl,q _ hn⟩
 refine ⟨⟨_,_,_,Heap.get?_push_size _ rfl⟩,⟨_,Heap.get?_push_size _ rfl⟩,λ h1 h2 ⟨a,b,c,e⟩ k=>⟨a,b,c,k _ e⟩⟩
theorem znu:∀ (n:Nat) (us:List Value),us.length=n→(∀ (i:Nat) v,us[i]? = some v→∃ t,v = .int (0+(i:Int) * 1) t)→Vals ((List.range n).map λ (i:Nat)=>V.int (i:Int)) us:=by
 intro n
 induction n with
 | zero =>
  intro us e _
  cases us with
  | nil=>exact .nil
  | cons a b=>cases e
 | succ n ih =>
  intro us e h
  have hne:us≠[]:=λ z=>by rw [z] at e;cases e
  rw [List.range_succ,List.map_append,← List.dropLast_concat_getLast hne]
  have hl:us.dropLast.length=n:=by rw [List.length_dropLast];omega
  refine (ih us.dropLast hl λ i v hv=>h i v ?_).append (.cons ?_ .nil)
  ·rw [List.getElem?_dropLast] at hv
   split at hv
   ·exact hv
   ·cases hv
  ·obtain ⟨t,ht⟩:=h n (us.getLast hne) (by rw [List.getLast_eq_getElem,List.getElem?_eq_getElem (by omega)];simp only [e,Nat.add_sub_cancel])
   refine ⟨t,ht.trans ?_⟩
   rw [show (0:Int)+(n:Int) * 1=(n:Int) by omega]
theorem zbi (hc:X.calm=true):zrj X (.type "list") (λ xs H Q=>∃ (r:Addr) (n:Nat),xs=[.ref r]∧H r=some (rngO r n)∧n≤1000∧∀ l,H l=none→Q (.ref l) (upd H l (.lst ((List.range n).map λ (i:Nat)=>V.int (i:Int))))):=by
 intro pins s σ H xs us Q I r h
 obtain ⟨p,n,rfl,hr,hn,q⟩:=h
 obtain ⟨u,rfl,ru⟩:=zno r
 cases ru
 obtain ⟨⟨t,u,v,hR⟩,_,_⟩:=I.hok p _ hr
 have e1:Builtin.Range.rangeSize 0 (n:Int) 1=(n:Nat):=by rw [rangeSize_one];split <;> omega
 refine call_list_range (I.ok.hd hc) hR (small_one (by omega) (by omega) (by omega) (by omega)) e1 (by omega) λ h' tk acc c kp hS hI=>?_
 refine ⟨.ref s.heap.objs.size,_,I.laid (t':=tk) (o := .lst ((List.range n).map λ (i:Nat)=>V.int (i:Int))) kp (Nat.le_refl _) ⟨?_,acc.toList,c,znu n _ (by rw [Array.length_toList];exact hI.1) λ j v hj=>hI.2 j v (by rw [← hj,Array.getElem?_toList]),?_⟩,rfl,q _ (I.hok.fresh (Nat.le_refl _))⟩
 ·rw [List.length_map,List.length_range,sizeLine_eq]
  omega
 ·rw [Array.toArray_toList]
  exact hS
noncomputable def zn4 (K:W.Frag):R2:=λ x y H Q=>∃ l b xs zs,x = .ref l∧y = .ref b∧SqL K H l xs∧SqL K H b zs∧xs.length+zs.length≤sizeLine∧∀ p,H p=none→Q (.ref p) (upd H p (.lst (xs++zs)))
theorem ziw:OpR X (binaryOp .Add) (zn4 X.K):=by
 intro pins s σ H x y v u Q I rx ry h
 obtain ⟨l,b,xs,zs,rfl,rfl,hH,hB,hz,q⟩:=h
 cases rx
 cases ry
 obtain ⟨its,r,pl,z⟩:=I.list hH
 obtain ⟨its2,r2,pl2,z2⟩:=I.list hB
 have l1:=r.length
 have l2:=r2.length
 obtain ⟨⟨c1,d1,a1,b1⟩,n1,e1,e2,e3,e4⟩:=id pl
 obtain ⟨⟨c2,d2,a2,b2⟩,n2,f1,f2,f3,f4⟩:=id pl2
 simp only at e2 e3 e4 f2 f3 f4
 subst e2 e3 e4 f2 f3 f4
 refine concat_meets ⟨_,e1,rfl⟩ ⟨_,f1,rfl⟩ noFill_list_add seq_list_add PySem.F.slot_list_add PySem.F.entry_list_add (PySem.F.args_list_add_2 _ _) (list_addW l b its.toArray its2.toArray n1 n2 none none b1 b2 (by rw [List.size_toArray,List.size_toArray];omega)) ⟨e1,f1,?_⟩
 have ea:its.toArray++its2.toArray=(its++its2).toArray:=by simp
 rw [ea]
 exact ⟨.ref _,_,I.lnew (t':=s.toks) (r.append r2) (by rw [List.length_append];omega),rfl,q _ I.fresh⟩
theorem zaq:zrj X (.builtin "len") (λ xs H Q=>∃ a qs,xs=[.ref a]∧SAt X.w X.K H a qs∧qs.length<1000∧Q (.int (qs.length:Nat)) H):=by
 intro pins s σ H xs us Q I r h
 obtain ⟨a,qs,rfl,S,hz,q⟩:=h
 obtain ⟨u,rfl,ru⟩:=zno r
 cases ru
 obtain ⟨o,ho,es,ep,t,qs',hex,hd,hf,f,hfull,wp,pm,hp⟩:=I.setX S.ob
 have hsz:es.size=qs.length:=by rw [← Array.length_toList,Paired.length hp,pm.length_eq]
 refine PySem.call_len_set ho hex hd hf (by omega) ⟨.int (qs.length:Nat),H,I.tok _,?_,q⟩
 rw [hsz]
 exact ⟨_,rfl⟩
end
end L2
local macro_rules | `(tactic| walk_at "rd") => `(tactic| repeat (first
 | refine ⟨_,rfl,?_⟩
 | refine ⟨_,_,rfl,rfl,?_⟩
 | refine ⟨(by show (0:Int)<_;decide),?_⟩
 | refine ⟨⟨by decide,by decide⟩,?_⟩
 | refine ⟨Or.inr ⟨by decide,by decide⟩,?_⟩
 | refine ⟨⟨by decide,by decide,by decide⟩,?_⟩
 | refine ⟨_,_,_,_,rfl,rfl,L2.SqL.of L2.upd_same,rfl,?_⟩
 | refine ⟨_,_,_,_,rfl,rfl,L2.SqL.of (by assumption),rfl,?_⟩))
namespace My
open PySem L2 PySem.Spec PyProof.Rows PySem.NumText
local macro_rules | `(tactic| walk_at "sc") => `(tactic| exact ⟨rfl,rfl,rfl,by decide +kernel,rfl,by decide +kernel,by decide +kernel⟩)
theorem sm1 {n:Nat} (h:n≤1000):n≤sizeLine:=Nat.le_of_lt (zka h)
theorem ip_2:(0:Int)<2:=by decide
theorem ip_3:(0:Int)<3:=by decide
theorem ip_4:(0:Int)<4:=by decide
theorem ip_5:(0:Int)<5:=by decide
theorem ip_7:(0:Int)<7:=by decide
theorem zvz:(0:Int)<100:=by decide
theorem sz_0:0≤sizeLine:=by decide
theorem sz_1:1≤sizeLine:=by decide
theorem sz_2:2≤sizeLine:=by decide
theorem sz_3:3≤sizeLine:=by decide
theorem sz_4:4≤sizeLine:=by decide
noncomputable def top (i:Nat):Stmt:=PySem.Challenge.pw_twotabs_k24_merged_in_any_order.main.body.getD i (.Pass ⟨0,0,0,0⟩)
noncomputable abbrev ztz:Stmt:=top 7
noncomputable abbrev zm2:Stmt:=top 8
noncomputable abbrev s_q0:Stmt:=zol (top 10) 0
noncomputable abbrev s_q2:Stmt:=zol (top 10) 1
noncomputable abbrev s_q1:Stmt:=zol (top 10) 4
noncomputable abbrev zc2:Stmt:=top 11
noncomputable abbrev zs1:Stmt:=top 14
noncomputable abbrev zv2:Stmt:=top 13
noncomputable abbrev s_q5:Stmt:=top 16
noncomputable abbrev s_q9:Stmt:=top 17
noncomputable abbrev s_q8:Stmt:=top 18
noncomputable abbrev s_q3:Stmt:=top 19
noncomputable abbrev s_q7:Stmt:=top 20
noncomputable abbrev zv0:Stmt:=top 21
noncomputable abbrev s_q6:Stmt:=top 22
noncomputable abbrev s_q4:Stmt:=top 23
noncomputable abbrev zrz:Stmt:=top 24
noncomputable abbrev zxv:Stmt:=top 25
structure Adr where
 f_q16:Addr
 d_q16:FuncData
 f_q15:Addr
 d_q15:FuncData
 f_q0:Addr
 d_q0:FuncData
 f_q2:Addr
 d_q2:FuncData
 f_q1:Addr
 d_q1:FuncData
 f_q13:Addr
 d_q13:FuncData
 f_q11:Addr
 d_q11:FuncData
 f_q14:Addr
 d_q14:FuncData
 f_q5:Addr
 d_q5:FuncData
 f_q9:Addr
 d_q9:FuncData
 f_q8:Addr
 d_q8:FuncData
 f_q3:Addr
 d_q3:FuncData
 f_q7:Addr
 d_q7:FuncData
 f_q10:Addr
 d_q10:FuncData
 f_q6:Addr
 d_q6:FuncData
 f_q4:Addr
 d_q4:FuncData
 f_q12:Addr
 d_q12:FuncData
 f_law:Addr
 d_law:FuncData
 NoSheet:Addr
 Sheet:Addr
structure Txt (K:W.Frag) (mg:Str→Option Value) (A:Adr):Prop where
 F_q16:Fun K "alike" "alike" ztz A.f_q16 A.d_q16
 g_q16:mg "alike" = some (.ref A.f_q16)
 k_q16:W.keepIn K (.ref A.f_q16)=true
 b_q16:Binds K A.d_q16 ["one", "other"] []
 F_q15:Fun K "later" "later" zm2 A.f_q15 A.d_q15
 g_q15:mg "later" = some (.ref A.f_q15)
 k_q15:W.keepIn K (.ref A.f_q15)=true
 b_q15:Binds K A.d_q15 ["one", "other"] []
 F_q0:Fun K "__init__" "Sheet.__init__" s_q0 A.f_q0 A.d_q0
 b_q0:Binds K A.d_q0 ["self", "pairs"] []
 mk_Sheet:Mk K A.Sheet A.f_q0
 F_q2:Fun K "pairs" "Sheet.pairs" s_q2 A.f_q2 A.d_q2
 b_q2:Binds K A.d_q2 ["self"] []
 m_q2:Meth K A.Sheet "pairs" A.f_q2
 F_q1:Fun K "version" "Sheet.version" s_q1 A.f_q1 A.d_q1
 b_q1:Binds K A.d_q1 ["self", "mark"] []
 m_q1:Meth K A.Sheet "version" A.f_q1
 F_q13:Fun K "marks_of" "marks_of" zc2 A.f_q13 A.d_q13
 g_q13:mg "marks_of" = some (.ref A.f_q13)
 k_q13:W.keepIn K (.ref A.f_q13)=true
 b_q13:Binds K A.d_q13 ["one", "other"] []
 F_q11:Fun K "clash_due" "clash_due" zs1 A.f_q11 A.d_q11
 g_q11:mg "clash_due" = some (.ref A.f_q11)
 k_q11:W.keepIn K (.ref A.f_q11)=true
 b_q11:Binds K A.d_q11 ["before", "there", "here"] []
 F_q14:Fun K "merged" "merged" zv2 A.f_q14 A.d_q14
 g_q14:mg "merged" = some (.ref A.f_q14)
 k_q14:W.keepIn K (.ref A.f_q14)=true
 b_q14:Binds K A.d_q14 ["base", "last", "mine"] []
 F_q5:Fun K "_law_digits" "_law_digits" s_q5 A.f_q5 A.d_q5
 g_q5:mg "_law_digits" = some (.ref A.f_q5)
 k_q5:W.keepIn K (.ref A.f_q5)=true
 b_q5:Binds K A.d_q5 ["_law_cell", "_law_place"] []
 F_q9:Fun K "_law_signs" "_law_signs" s_q9 A.f_q9 A.d_q9
 g_q9:mg "_law_signs" = some (.ref A.f_q9)
 k_q9:W.keepIn K (.ref A.f_q9)=true
 b_q9:Binds K A.d_q9 [] []
 F_q8:Fun K "_law_words" "_law_words" s_q8 A.f_q8 A.d_q8
 g_q8:mg "_law_words" = some (.ref A.f_q8)
 k_q8:W.keepIn K (.ref A.f_q8)=true
 b_q8:Binds K A.d_q8 ["_law_one", "_law_other"] []
 F_q3:Fun K "_law_version" "_law_version" s_q3 A.f_q3 A.d_q3
 g_q3:mg "_law_version" = some (.ref A.f_q3)
 k_q3:W.keepIn K (.ref A.f_q3)=true
 b_q3:Binds K A.d_q3 ["_law_some"] []
 F_q7:Fun K "_law_pairs" "_law_pairs" s_q7 A.f_q7 A.d_q7
 g_q7:mg "_law_pairs" = some (.ref A.f_q7)
 k_q7:W.keepIn K (.ref A.f_q7)=true
 b_q7:Binds K A.d_q7 ["_law_cells"] []
 F_q10:Fun K "_law_dealt" "_law_dealt" zv0 A.f_q10 A.d_q10
 g_q10:mg "_law_dealt" = some (.ref A.f_q10)
 k_q10:W.keepIn K (.ref A.f_q10)=true
 b_q10:Binds K A.d_q10 ["_law_base", "_law_cells", "_law_many"] []
 F_q6:Fun K "_law_folded" "_law_folded" s_q6 A.f_q6 A.d_q6
 g_q6:mg "_law_folded" = some (.ref A.f_q6)
 k_q6:W.keepIn K (.ref A.f_q6)=true
 b_q6:Binds K A.d_q6 ["_law_base", "_law_tables", "_law_order"] []
 F_q4:Fun K "_law_touched" "_law_touched" s_q4 A.f_q4 A.d_q4
 g_q4:mg "_law_touched" = some (.ref A.f_q4)
 k_q4:W.keepIn K (.ref A.f_q4)=true
 b_q4:Binds K A.d_q4 ["_law_base", "_law_tables"] []
 F_q12:Fun K "_law_due" "_law_due" zrz A.f_q12 A.d_q12
 g_q12:mg "_law_due" = some (.ref A.f_q12)
 k_q12:W.keepIn K (.ref A.f_q12)=true
 b_q12:Binds K A.d_q12 ["_law_base", "_law_tables"] []
 F_law:Fun K "law" "law" zxv A.f_law A.d_law
 g_law:mg "law" = some (.ref A.f_law)
 k_law:W.keepIn K (.ref A.f_law)=true
 b_law:Binds K A.d_law ["_law_script"] []
 g_NoSheet:mg "NoSheet" = some (.ref A.NoSheet)
 x_NoSheet:XCls K A.NoSheet
 g_Sheet:mg "Sheet" = some (.ref A.Sheet)
 cl_Sheet:Cls K A.Sheet
 na_Sheet_versions:NoAttr K A.Sheet "versions"
 n_dict:mg "dict" = none
 n_enumerate:mg "enumerate" = none
 n_len:mg "len" = none
 n_list:mg "list" = none
 n_max:mg "max" = none
 n_range:mg "range" = none
 n_set:mg "set" = none
 n_sorted:mg "sorted" = none
 n_tuple:mg "tuple" = none
noncomputable def sp_law (K:W.Frag):Sp:=λ vs H Q _=>∃ (a:Addr) (ns:List Int),vs=[.ref a]∧SqL K H a (ns.map V.int)∧ns.length≤63∧(∀ H',Q (.bl true) H')∧Plain H
noncomputable def zhk:Sp:=zj3 (λ (a:Int×Int) vs=>vs=[.int a.1,.int a.2]) (λ _ o=>∃ d0 d1 d2 d3 d4 d5 d6 d7:Int,o = .lst [.int d0,.int d1,.int d2,.int d3,.int d4,.int d5,.int d6,.int d7]∧Dig d0∧Dig d1∧Dig d2∧Dig d3∧Dig d4∧Dig d5∧Dig d6∧Dig d7)
theorem zzl {P:Program} {w:World} {K:W.Frag} {mg:Str→Option Value} {B:Heap} {CX:CXT} {k:Nat} {f:Addr} {fd:FuncData} {ps:List Str}
  (F:FnOk P w K mg B CX k f fd ps (zox (λ (a:Int×Int) vs=>vs=[.int a.1,.int a.2]) (λ _ o=>∃ d0 d1 d2 d3 d4 d5 d6 d7:Int,o = .lst [.int d0,.int d1,.int d2,.int d3,.int d4,.int d5,.int d6,.int d7]∧Dig d0∧Dig d1∧Dig d2∧Dig d3∧Dig d4∧Dig d5∧Dig d6∧Dig d7))) :
  FnOk P w K mg B CX k f fd ps zhk:=F.new λ a o ⟨d0,d1,d2,d3,d4,d5,d6,d7,e,_⟩=>.inl ⟨_,e⟩
theorem zn3 {ds:List Int} (h:ds.length=8) (hd:∀ d∈ds,Dig d):∃ d0 d1 d2 d3 d4 d5 d6 d7:Int,HO.lst (ds.map V.int) = .lst [.int d0,.int d1,.int d2,.int d3,.int d4,.int d5,.int d6,.int d7]∧Dig d0∧Dig d1∧Dig d2∧Dig d3∧Dig d4∧Dig d5∧Dig d6∧Dig d7:=by
 match ds,h with
 | [a,b,c,d,e,f,g,i],_=>exact ⟨a,b,c,d,e,f,g,i,rfl,hd a (by simp),hd b (by simp),hd c (by simp),hd d (by simp),hd e (by simp),hd f (by simp),hd g (by simp),hd i (by simp)⟩
noncomputable abbrev zr3:Str := "abcdefghijklmnopqrstuvwxyz"
noncomputable def SIGNS:Str:=((((" !\"#$&'()*+,-./0123456789:;<=>?@" : Str)++Txt.upper zr3)++("[\\]^_`" : Str))++zr3)++("{|}~" : Str)
theorem zkp:SIGNS.length=94:=by decide +kernel
noncomputable def zkt:Sp:=zzt (λ (_:Unit) vs=>vs=[]) (λ _ v=>v = .str SIGNS)
noncomputable def zcu:Sp:=zzt (λ (a:Int×Int) vs=>vs=[.int a.1,.int a.2]) (λ _ v=>∃ z:Str,v = .str z∧z.length≤6∧PyData.strOk z=true)
theorem zau {P:Nat→Bool} {g:Str} (hg:g.cps.all P=true):∀ {ps:List Str},(∀ p∈ps,p.cps.all P=true)→(Txt.join g ps).cps.all P=true:=by
 intro ps h
 show ((ps.drop 1).foldl (λ acc p=>acc++g.cps++p.cps) (ps.headD Str.empty).cps).all P=true
 have go:∀ (qs:List Str) (a:Array Nat),a.all P=true→(∀ p∈qs,p.cps.all P=true)→(qs.foldl (λ acc p=>acc++g.cps++p.cps) a).all P=true:=by
  intro qs
  induction qs with
  | nil=>intro a ha _;exact ha
  | cons q qs ih =>
   intro a ha hq
   refine ih _ ?_ λ p hp=>hq p (List.mem_cons_of_mem _ hp)
   rw [Array.all_append,Array.all_append,ha,hg,hq q List.mem_cons_self]
   rfl
 refine go _ _ ?_ λ p hp=>h p (List.mem_of_mem_drop hp)
 cases ps with
 | nil=>show (#[]:Array Nat).all P=true;simp
 | cons p ps=>exact h p List.mem_cons_self
theorem zkv (i:Nat):SIGNS.cps.toList.getD i 0<0x110000:=by
 have h:SIGNS.cps.toList.all (λ c=>decide (c<0x110000))=true:=by decide +kernel
 rw [List.getD_eq_getElem?_getD]
 cases e:SIGNS.cps.toList[i]? with
 | none=>decide
 | some c=>exact of_decide_eq_true (List.all_eq_true.mp h c (List.mem_of_getElem? e))
noncomputable def digL (l:Addr) (H:Hp):Prop:=∃ d0 d1 d2 d3 d4 d5 d6 d7:Int,H l=some (.lst [.int d0,.int d1,.int d2,.int d3,.int d4,.int d5,.int d6,.int d7])∧Dig d0∧Dig d1∧Dig d2∧Dig d3∧Dig d4∧Dig d5∧Dig d6∧Dig d7
noncomputable def zn0 (K:W.Frag):Sp:=zr1 (λ (a:Addr) vs H=>vs=[.ref a]∧digL a H) (λ _ r H=>∃ v:Ver,DV K H (ver v) r∧okV v∧v.1<(10:Int) ^ 16) (λ _ _=>False)
theorem zow {p:Prop} [Decidable p] {A B:Prop} (h:¬ p) (b:B):if decide p=true then A else B:=by rw [decide_eq_false h];exact iteF b
theorem zjz {p:Prop} [Decidable p] {A B:Prop} (h:p) (a:A):if decide p=true then A else B:=by rw [decide_eq_true h];exact iteT a
theorem zq4 {p:Prop} [Decidable p] {A B:Prop} (h:¬ p) (a:A):if (!decide p)=true then A else B:=by rw [decide_eq_false h];exact iteT a
theorem zot {K:W.Frag} {H:Hp} {t:Addr} (h:H t=some (.tup [])):DV K H (plc []) (.ref t):=⟨t,[],rfl,SqT.of h,rfl⟩
theorem Plain.ins {H:Hp} {l C dx:Addr} {fs:List (Str×V)} (p:Plain H):Plain (upd H l (.ins C dx fs)):=p.upd trivial
theorem Plain.ext {H:Hp} {l:Addr} {φ:Heap→Prop} (p:Plain H):Plain (upd H l (.ext φ)):=p.upd trivial
theorem zrr {K:W.Frag} {H:Hp} {p C dx:Addr} {fs fs':List (Str×V)} {a:Addr} {xs:List V} (hp:H p=some (.ins C dx fs)) (h:SqT K H a xs):SqT K (upd H p (.ins C dx fs')) a xs:=by
 rcases h with (h | ⟨o,h⟩) | h
 ·exact .inl (.inl (by rw [zga (zqf h hp (by intro z;cases z))];exact h))
 ·exact .inl (.inr ⟨o,by rw [zga (zqf h hp (by intro z;cases z))];exact h⟩)
 ·exact .inr h
mutual
theorem zax {K:W.Frag} {H:Hp} {p C dx:Addr} {fs fs':List (Str×V)} (hp:H p=some (.ins C dx fs)):∀ (d:PyData) (v:V),noL d=true→DV K H d v→DV K (upd H p (.ins C dx fs')) d v
 | .none,v,_,h=>h
 | .bool b,v,_,h=>h
 | .int i,v,_,h=>h
 | .str x,v,_,h=>h
 | .list xs,v,n,_=>by cases n
 | .tuple xs,v,n,⟨a,vs,h1,h2,h3⟩=>⟨a,vs,h1,zrr hp h2,zor hp xs vs n h3⟩
 | .dict _,v,_,h=>h.elim
theorem zor {K:W.Frag} {H:Hp} {p C dx:Addr} {fs fs':List (Str×V)} (hp:H p=some (.ins C dx fs)):∀ (ds:List PyData) (vs:List V),noLs ds=true→DVs K H ds vs→DVs K (upd H p (.ins C dx fs')) ds vs
 | [],vs,_,h=>h
 | d::ds,vs,n,⟨v,r,h1,h2,h3⟩=>by
  have n:noL d=true∧noLs ds=true:=by rw [noLs,Bool.and_eq_true] at n;exact n
  exact ⟨v,r,h1,zax hp d v n.1 h2,zor hp ds r n.2 h3⟩
end
structure Good (ms:Sh):Prop where
 nd:(ms.map (·.1)).Nodup
 ok:∀ m∈ms,okV m.2∧m.2.1<(10:Int) ^ 16∧(0≤m.1.1∧m.1.1≤3)∧(1≤m.1.2∧m.1.2≤20)
 few:ms.length≤59
theorem zwk {K:W.Frag} {H:Hp} {m:Mark×Ver} {y:V} (h:DV K H (prD m) y):∃ t q x,y = .ref t∧SqT K H t [.ref q,x]∧SqT K H q (mkV m.1)∧DV K H (ver m.2) x:=by
 obtain ⟨t,vs,rfl,ht,x1,r1,rfl,e1,x2,r2,rfl,e2,e3⟩:=h
 cases (show r2=[] from e3)
 obtain ⟨q,rfl,hq⟩:=zll e1
 exact ⟨t,q,x2,rfl,ht,hq,e2⟩
theorem zav {K:W.Frag} {H:Hp} {es:List Ent} {ms:Sh} (he:EnS K H es ms) (nd:(ms.map (·.1)).Nodup) {m:Mark×Ver} (h:m∈ms):∃ x,zab es m.1=some x∧DV K H (ver m.2) x:=by
 have h1:=zge he m.1
 rw [zfc nd h] at h1
 cases e:zab es m.1 with
 | none =>
  rw [e] at h1
  obtain ⟨t,pv,z,_⟩:=zvi (show DV K H (ver m.2) V.non from h1)
  cases z
 | some x =>
  rw [e] at h1
  exact ⟨x,rfl,h1⟩
theorem uniq {α:Type} {r:α→α→Prop} (as:∀ a b,r a b→r b a→False):∀ {l1 l2:List α},l1.Perm l2→l1.Pairwise r→l2.Pairwise r→l1=l2
 | [],l2,p,_,_=>(List.nil_perm.mp p).symm
 | a::l1,[],p,_,_=>absurd p.symm.nil_eq (by simp)
 | a::l1,b::l2,p,h1,h2=>by
  have h1':=List.pairwise_cons.mp h1
  have h2':=List.pairwise_cons.mp h2
  by_cases e:a=b
  ·subst e
   rw [uniq as ((List.perm_cons a).mp p) h1'.2 h2'.2]
  ·have m1:a∈l2:=by
    rcases List.mem_cons.mp (p.mem_iff.mp List.mem_cons_self) with z | z
    ·exact absurd z e
    ·exact z
   have m2:b∈l1:=by
    rcases List.mem_cons.mp (p.mem_iff.mpr List.mem_cons_self) with z | z
    ·exact absurd z.symm e
    ·exact z
   exact absurd (h2'.1 a m1) (λ z=>as _ _ (h1'.1 b m2) z)
theorem zu2 (a b:Mark) (h1:mLt a b=true) (h2:mLt b a=true):False:=by rw [mLt_sto.asym h1] at h2;cases h2
theorem zon:∀ (ms:Sh),(∀ m∈ms,okV m.2)→PyData.canLayAll0 (ms.map prD)=true∧PyData.depthAll (ms.map prD)≤30
 | [],_=>⟨rfl,Nat.zero_le _⟩
 | m::ms,h=>by
  obtain ⟨h1,h2⟩:=zon ms λ x hx=>h x (List.mem_cons_of_mem _ hx)
  have h3:=zld (m:=m) (h m List.mem_cons_self)
  unfold SeqAt.shaped at h3
  rw [Bool.and_eq_true] at h3
  refine ⟨?_,?_⟩
  ·show (PyData.canLay0 (prD m) && PyData.canLayAll0 (ms.map prD))=true
   rw [h3.1,h1]
   rfl
  ·show max (PyData.depth (prD m)) (PyData.depthAll (ms.map prD))≤30
   have h4:PyData.depth (prD m)=max 1 (max (max 0 (max (PyData.depthAll (m.2.2.1.map stp)+1) (max 0 0))+1) 0)+1:=rfl
   have:=zvb m.2.2.1
   omega
theorem zgc {ms:Sh} (h:∀ m∈ms,okV m.2):SeqAt.shaped (.list (ms.map prD))=true:=by
 obtain ⟨h1,h2⟩:=zon ms h
 unfold SeqAt.shaped
 rw [show PyData.canLay0 (.list (ms.map prD))=true from h1,Bool.true_and]
 refine decide_eq_true ?_
 show PyData.depthAll (ms.map prD)+1≤64
 omega
noncomputable def zc0 (K:W.Frag):Sp:=λ vs H Q _=>Plain H∧∃ (c:Addr) (xs:List V),vs=[.ref c]∧H c=some (.lst xs)∧xs.length≤59∧(∀ x∈xs,∃ n,x = .int n)∧∀ (H':Hp) (l:Addr) (ws:List V) (ms:Sh),Same H H'→Plain H'→H' l=some (.lst ws)→DVs K H' (ms.map prD) ws→Good ms→ms.length≤xs.length→Q (.ref l) H'
theorem zf3 {α β:Type} {ok G:α→β→Prop} {C:Prop} (h1:(∀ y z,ok y z→G y z)→C) (h2:∀ y z,ok y z→G y z):C:=h1 h2
noncomputable def za0 (P:Program) (w:World) (K:W.Frag) (C NS:Addr):Sp:=λ vs H Q E=>Plain H∧∃ (p dx l:Addr) (ws:List V) (ms:Sh),vs=[.ref p,.ref l]∧H p=some (.ins C dx [])∧SqL K H l ws∧DVs K H (ms.map prD) ws∧(∀ m∈ms,okV m.2)∧ms.length<64 ∧
 ((ms.map (·.1)).Nodup→∀ H',(∀ b o,b≠p→H b=some o→H' b=some o)→ShAt P w K C H' p ms→Plain H'→Q .non H')∧(¬ (ms.map (·.1)).Nodup→∀ H',(∀ b o,b≠p→H b=some o→H' b=some o)→Plain H'→E (.ref NS) none H')
noncomputable def zz1 (P:Program) (w:World) (K:W.Frag) (C:Addr):Sp:=λ vs H Q _=>Plain H∧∃ (p:Addr) (ms:Sh),vs=[.ref p]∧ShAt P w K C H p ms∧∀ (H':Hp) (l:Addr) (bs:Sh) (ws:List V),H l=none→Same H H'→Plain H'→H' l=some (.lst ws)→bs.Perm ms→bs.Pairwise (λ a b=>mLt a.1 b.1=true)→DVs K H' (bs.map prD) ws→Q (.ref l) H'
noncomputable def za1 (P:Program) (w:World) (K:W.Frag) (C:Addr):Sp:=λ vs H Q _=>Plain H∧∃ (p q:Addr) (m:Mark) (ms:Sh),vs=[.ref p,.ref q]∧ShAt P w K C H p ms∧SqT K H q (mkV m)∧∀ x,DV K H (vdat (look ms m)) x→Q x H
noncomputable def okSh (a:Sh):Prop:=(∀ m∈a,okV m.2)∧(mks a).Nodup
noncomputable def srtd (a:Sh):Prop:=a.Pairwise λ x y=>mLt x.1 y.1=true
noncomputable def Both (P:Program) (w:World) (K:W.Frag) (C:Addr) (H:Hp) (vs:List V) (a b:Sh):Prop:=∃ (p1 p2:Addr) (U:List Mark),vs=[.ref p1,.ref p2]∧ShAt P w K C H p1 a∧ShAt P w K C H p2 b∧(∀ m,m∈mks a ∨ m∈mks b→m∈U)∧U.length<64
noncomputable def zz0 (P:Program) (w:World) (K:W.Frag) (A:Adr):Sp:=λ vs H Q _=>Plain H∧∃ (a b:Sh),Both P w K A.Sheet H vs a b∧∀ (l:Addr) (ks:List Mark) (ws:List V) (H':Hp),H l=none→Same H H'→Plain H'→H' l=some (.lst ws)→IsMk a b ks→ks.length<64→DVs K H' (ks.map markD) ws→Q (.ref l) H'
theorem zwe {P:Program} {w:World} {K:W.Frag} {H:Hp} {d:Addr} {es0 es:List Ent} {o:Obj} {ns:Sh} {x:HO} (hd:H d=some (dO P w d es0 o)) (he:EnS K H es ns):EnS K (upd H d x) es ns:=he.imp (λ _ _ q=>zsa hd (zgb _) q) λ v _ q=>zhc hd (zgb _) _ _ (zrc v) q
theorem zec {K:W.Frag} {H H':Hp} {es:List Ent} {ns:Sh} (s:Same H H') (he:EnS K H es ns):EnS K H' es ns:=he.imp (λ _ _ q=>s.seqT q) λ _ _ q=>DV.same s _ _ q
theorem zkx {K:W.Frag} {H:Hp} {es:List Ent} {ns:Sh} (he:EnS K H es ns) (nd:(mks ns).Nodup) {m:Mark} {z:V} (h:zab es m=some z):∃ v,(m,v)∈ns∧DV K H (ver v) z:=by
 have hm:m∈mks ns:=by
  unfold mks
  rw [← zpb he]
  exact Classical.byContradiction λ hn=>by rw [zoc hn] at h;cases h
 obtain ⟨v,hv⟩:=zdz hm
 obtain ⟨x,h1,h2⟩:=zav he nd hv
 rw [h] at h1
 cases h1
 exact ⟨v,hv,h2⟩
theorem zup {a b:Mark} (e:markD a=markD b):a=b:=by
 have e:=PyData.tuple.inj e
 injection e with e1 e2
 injection e2 with e2 _
 exact Prod.ext (PyData.int.inj e1) (PyData.int.inj e2)
theorem zly {a b as bs:Sh} (p1:as.Perm a) (p2:bs.Perm b) (d:Mark×Ver) (m:Mark):(∃ i,i<(as++bs).length∧markD ((as++bs).getD i d).1=markD m)↔m∈mks a ∨ m∈mks b:=by
 have h1:m∈mks as↔m∈mks a:=(p1.map (·.1)).mem_iff
 have h2:m∈mks bs↔m∈mks b:=(p2.map (·.1)).mem_iff
 rw [← h1,← h2]
 have h3:m∈mks (as++bs)↔m∈mks as ∨ m∈mks bs:=by unfold mks;rw [List.map_append,List.mem_append]
 rw [← h3]
 constructor
 ·rintro ⟨i,hi,e⟩
  rw [List.getD_eq_getElem?_getD,List.getElem?_eq_getElem hi] at e
  rw [← zup e]
  exact List.mem_map_of_mem (f:=(·.1)) (List.getElem_mem hi)
 ·intro h
  obtain ⟨x,hx,rfl⟩:=List.mem_map.mp h
  obtain ⟨i,hi,e⟩:=List.getElem_of_mem hx
  refine ⟨i,hi,?_⟩
  rw [List.getD_eq_getElem?_getD,List.getElem?_eq_getElem hi,← e]
  rfl
theorem zos {a:Sh} (h:∀ m∈a,okV m.2):PyData.eqv (.list (a.map prD)) (.list (a.map prD))=true:=SeqAt.eqvAll_refl _ (zon a h).1
theorem zqr {ms:Sh} (nd:(mks ms).Nodup) (ok:∀ m∈ms,okV m.2) (few:ms.length<64):Srt (ms.map (·.1)) (λ m=>[L2.markD m,vdat (look ms m)]) mLt .tup:=by
 have:=ztm (es:=ms.map λ m=>(m.1,0,V.non)) (val:=λ m=>vdat (look ms m)) (λ e he=>by
  obtain ⟨m,hm,rfl⟩:=List.mem_map.mp he
  show SeqAt.shaped (.tuple [L2.markD m.1,vdat (look ms m.1)])=true
  rw [zfc nd hm]
  exact zld (ok m hm)) (by rw [List.map_map];exact nd) (by rw [List.length_map];exact few)
 rw [List.map_map] at this
 exact this
theorem zur {K:W.Frag} {H:Hp} {ms:Sh} {ws:List V} (nd:(mks ms).Nodup) (hw:DVs K H (ms.map prD) ws):DVs K H ((ms.map (·.1)).map λ a=>.tuple [L2.markD a,vdat (look ms a)]) ws:=by
 have:=zjg nd (List.Perm.refl (ms.map (·.1)))
 rw [zvj nd] at this
 show DVs K H ((ms.map (·.1)).map (zsp λ m=>vdat (look ms m))) ws
 rw [this]
 exact hw
theorem putS_iff {ns:Sh} {m:Mark} {v:Ver} {k:Mark}:k∈mks (putS ns m v)↔k=m ∨ k∈mks ns:=by
 rw [zyg]
 by_cases h:m∈mks ns
 ·rw [if_pos h]
  exact ⟨.inr,λ z=>z.elim (λ e=>by rw [e];exact h) id⟩
 ·rw [if_neg h,List.mem_append,List.mem_singleton,Or.comm]
noncomputable def zc5 (K:W.Frag):Sp:=zr1 (λ (a:Ver×Ver) vs H=>∃ x y,vs=[x,y]∧DV K H (ver a.1) x∧DV K H (ver a.2) y∧okV a.1∧okV a.2) (λ a r _=>r = .bl (decide (a.1.2=a.2.2))) (λ _ _=>False)
noncomputable def zq1 (K:W.Frag):Sp:=zr1 (λ (a:Option Ver×Option Ver) vs H=>∃ x y,vs=[x,y]∧DV K H (vdat a.1) x∧DV K H (vdat a.2) y∧okO a.1∧okO a.2) (λ a r H=>DV K H (vdat (mx a.1 a.2)) r) (λ _ _=>False)
noncomputable def pwd (p:List Stp×Str):PyData := .tuple [plc p.1,.str p.2]
theorem zze {p:List Stp×Str} (h:PySem.PyData.strOk p.2=true):SeqAt.shaped (pwd p)=true:=by
 unfold SeqAt.shaped
 have h1:PyData.canLay0 (pwd p)=true:=by
  show (PyData.canLay0 (plc p.1) && (PySem.PyData.strOk p.2 && true))=true
  rw [zvn,h]
  rfl
 rw [h1,Bool.true_and]
 have h2:PyData.depth (pwd p)=max (PyData.depthAll (p.1.map stp)+1) (max 0 0)+1:=rfl
 have:=zvb p.1
 exact decide_eq_true (by omega)
theorem zrs (a b:List Stp×Str):PyData.eqv (pwd a) (pwd b)=decide (a=b):=by
 obtain ⟨a2,a3⟩:=a
 obtain ⟨b2,b3⟩:=b
 have e:PyData.eqv (pwd (a2,a3)) (pwd (b2,b3))=(PyData.eqv (plc a2) (plc b2) && (a3 == b3 && true)):=rfl
 rw [e,zbl,Bool.eq_iff_iff]
 simp
theorem zfk (o:Option Ver):o=none ∨ ∃ v,o=some v:=by cases o with | none=>exact .inl rfl | some v=>exact .inr ⟨v,rfl⟩
theorem zgg {K:W.Frag} {H:Hp} {o:Option Ver} {x:V} (h:DV K H (vdat o) x):(x = .non↔o=none):=by
 cases o with
 | none=>exact ⟨λ _=>rfl,λ _=>h⟩
 | some v =>
  obtain ⟨t,pv,rfl,_⟩:=zvi h
  exact ⟨λ e=>absurd e (by intro z;cases z),λ e=>absurd e (by intro z;cases z)⟩
theorem zsk {K:W.Frag} {H:Hp} {o:Option Ver} {v:Ver} {x:V} (h:DV K H (vdat o) x) (e:o=some v):DV K H (ver v) x:=by subst e;exact h
noncomputable def gr (a b:Ver):Ver:=if zce a b=true then b else a
noncomputable def ls (a b:Ver):Ver:=if zce a b=true then a else b
noncomputable abbrev Cl3:=Mark×Ver×Ver
noncomputable def cl3D (c:Cl3):PyData := .tuple [L2.markD c.1,ver c.2.1,ver c.2.2]
noncomputable def mrgV (a b:Option Ver):Ver:=(mx a b).getD (0,[], "")
noncomputable def mrg (L M:Sh) (ks:List Mark):Sh:=ks.map λ m=>(m,mrgV (look L m) (look M m))
noncomputable def dueB (b t h:Option Ver):Bool:=match t,h with
 | some t',some h' => !decide (some t'=b) && (!decide (some h'=b) && !decide (t'.2=h'.2))
 | _,_=>false
noncomputable def cl1 (b t h:Option Ver) (m:Mark):List Cl3:=if dueB b t h=true then [(m,gr (t.getD (0,[], "")) (h.getD (0,[], "")),ls (t.getD (0,[], "")) (h.getD (0,[], "")))] else []
noncomputable def clsh (B L M:Sh) (ks:List Mark):List Cl3:=ks.flatMap λ m=>cl1 (look B m) (look L m) (look M m) m
noncomputable def zj1 (K:W.Frag):Sp:=λ vs H Q _=>Plain H∧∃ (x y z:V) (b t h:Option Ver),vs=[x,y,z]∧DV K H (vdat b) x∧DV K H (vdat t) y∧DV K H (vdat h) z∧okO b∧okO t∧okO h∧∀ H',Same H H'→Plain H'→Q (.bl (dueB b t h)) H'
noncomputable def zi2 (P:Program) (w:World) (K:W.Frag) (A:Adr):Sp:=λ vs H Q _=>Plain H∧∃ (pb pl pm:Addr) (B L M:Sh) (U:List Mark),vs=[.ref pb,.ref pl,.ref pm]∧ShAt P w K A.Sheet H pb B∧ShAt P w K A.Sheet H pl L∧ShAt P w K A.Sheet H pm M∧(∀ m,m∈mks L ∨ m∈mks M→m∈U)∧U.length<64∧∀ (t x l:Addr) (ks:List Mark) (ws:List V) (H':Hp),H l=none→Same H H'→Plain H'→SqT K H' t [.ref x,.ref l]→ShAt P w K A.Sheet H' x (mrg L M ks)→H' l=some (.lst ws)→DVs K H' ((clsh B L M ks).map cl3D) ws→IsMk L M ks→ks.length<64→Q (.ref t) H'
theorem zrw {b t h:Option Ver} (e:dueB b t h=true):∃ t' h',t=some t'∧h=some h'∧t'.2≠h'.2:=by
 cases t with
 | none=>cases e
 | some t' =>
  cases h with
  | none=>cases e
  | some h' =>
   refine ⟨t',h',rfl,rfl,λ z=>?_⟩
   have e:(!decide (some t'=b) && (!decide (some h'=b) && !decide (t'.2=h'.2)))=true:=e
   rw [decide_eq_true z] at e
   simp at e
theorem zig {ks:List Mark} (h:ks.Pairwise λ x y=>mLt x y=true):ks.Nodup:=h.imp fun {a b} e z=>by
 rw [z,mLt_sto.irr] at e
 cases e
theorem zpg (o:Option Ver):noL (vdat o)=true:=by
 cases o with
 | none=>rfl
 | some v=>exact zrc v
theorem zyw (c:Cl3):noL (cl3D c)=true:=by
 show (noL (L2.markD c.1) && (noL (ver c.2.1) && (noL (ver c.2.2) && true)))=true
 rw [zrc,zrc]
 rfl
theorem zcg:∀ cs:List Cl3,noLs (cs.map cl3D)=true
 | []=>rfl
 | c::cs=>by
  show (noL (cl3D c) && noLs (cs.map cl3D))=true
  rw [zyw,zcg cs]
  rfl
theorem zdg:∀ vs:List Ver,noLs (vs.map ver)=true
 | []=>rfl
 | c::cs=>by
  show (noL (ver c) && noLs (cs.map ver))=true
  rw [zrc,zdg cs]
  rfl
theorem ztr:∀ ks:List Mark,noLs (ks.map L2.markD)=true
 | []=>rfl
 | c::cs=>by
  show (noL (L2.markD c) && noLs (cs.map L2.markD))=true
  rw [ztr cs]
  rfl
theorem zdt {L M:Sh} {ks:List Mark} {i:Nat} (h:i<ks.length):mrg L M (ks.take (i+1))=mrg L M (ks.take i)++[(ks[i],mrgV (look L ks[i]) (look M ks[i]))]:=by
 unfold mrg
 rw [List.take_succ_eq_append_getElem h,List.map_append]
 rfl
theorem zcp {B L M:Sh} {ks:List Mark} {i:Nat} (h:i<ks.length):clsh B L M (ks.take (i+1))=clsh B L M (ks.take i)++cl1 (look B ks[i]) (look L ks[i]) (look M ks[i]) ks[i]:=by
 unfold clsh
 rw [List.take_succ_eq_append_getElem h,List.flatMap_append,List.flatMap_singleton]
structure MB (P:Program) (w:World) (K:W.Frag) (C:Addr) (pb pl pm l0:Addr) (B L M:Sh) (ks:List Mark) (w0:List V) (H:Hp):Prop where
 b:ShAt P w K C H pb B
 l:ShAt P w K C H pl L
 m:ShAt P w K C H pm M
 h:H l0=some (.lst w0)
 d:DVs K H (ks.map L2.markD) w0
theorem MB.same {P:Program} {w:World} {K:W.Frag} {C pb pl pm l0:Addr} {B L M:Sh} {ks:List Mark} {w0:List V} {H H':Hp} (x:MB P w K C pb pl pm l0 B L M ks w0 H) (s:Same H H'):MB P w K C pb pl pm l0 B L M ks w0 H':=⟨x.b.same s,x.l.same s,x.m.same s,s _ _ x.h,DVs.same s _ _ x.d⟩
theorem MB.upd {P:Program} {w:World} {K:W.Frag} {C pb pl pm l0 D:Addr} {B L M:Sh} {ks:List Mark} {w0 xs ys:List V} {H:Hp} (x:MB P w K C pb pl pm l0 B L M ks w0 H) (hd:H D=some (.lst xs)) (n:l0≠D):MB P w K C pb pl pm l0 B L M ks w0 (L2.upd H D (.lst ys)):=by
 have k:∀ c o,c≠D→H c=some o→(L2.upd H D (.lst ys)) c=some o:=λ c o n e=>by rw [zga n];exact e
 exact ⟨x.b.mono (D:=D) k ⟨_,hd⟩,x.l.mono (D:=D) k ⟨_,hd⟩,x.m.mono (D:=D) k ⟨_,hd⟩,k _ _ n x.h,zna hd (zlb _) _ _ (ztr _) x.d⟩
theorem zqu (a b:Ver):mx (some a) (some b)=some (gr a b):=by
 show (if zce a b=true then some b else some a)=some (if zce a b=true then b else a)
 split <;> rfl
theorem zh3 {a b:Option Ver} (ha:okO a) (hb:okO b):okO (mx a b):=λ v e=>by
 cases a with
 | none=>exact hb v e
 | some x =>
  cases b with
  | none=>exact ha v e
  | some y =>
   rw [zqu] at e
   have e:=Option.some.inj e
   unfold gr at e
   split at e
   ·exact hb v (by rw [e])
   ·exact ha v (by rw [e])
theorem zwn {a b:Option Ver} (h:a≠none ∨ b≠none):mx a b=some (mrgV a b):=by
 unfold mrgV
 cases a with
 | none =>
  cases b with
  | none=>exact absurd rfl (h.elim id id)
  | some y=>rfl
 | some x =>
  cases b with
  | none=>rfl
  | some y=>rw [zqu];rfl
theorem zjk {a:Sh} {m:Mark} (h:m∈mks a):look a m≠none:=λ z=>zlj z h
theorem zwi {L M:Sh} {ks:List Mark} (h:IsMk L M ks) {m:Mark} (hm:m∈ks):look L m≠none ∨ look M m≠none:=((h.2 m).mp hm).imp zjk zjk
noncomputable def Tb (P:Program) (w:World) (K:W.Frag) (H:Hp) (d:Addr) (X:Sh):Prop:=∃ (es:List Ent) (o:Obj) (ns:Sh),H d=some (dO P w d es o)∧EnS K H es ns∧∀ k,look ns k=look X k
theorem Tb.same {P:Program} {w:World} {K:W.Frag} {H H':Hp} {d:Addr} {X:Sh} (h:Tb P w K H d X) (s:Same H H'):Tb P w K H' d X:=by
 obtain ⟨es,o,ns,h1,h2,h3⟩:=h
 exact ⟨es,o,ns,s _ _ h1,zec s h2,h3⟩
theorem Tb.get {P:Program} {w:World} {K:W.Frag} {H:Hp} {d:Addr} {X:Sh} (h:Tb P w K H d X) (m:Mark):∃ es,DM P w K H d es∧DV K H (vdat (look X m)) ((zab es m).getD .non):=by
 obtain ⟨es,o,ns,h1,h2,h3⟩:=h
 exact ⟨es,⟨⟨o,h1⟩,λ e h=>(zkb h2 e h).1⟩,by rw [← h3];exact zge h2 m⟩
theorem zrt {xs:List V} {v:V} (h:xs[xs.length - 1]? = some v):atI xs (-1)=some v:=by
 have hl:=(List.getElem?_eq_some_iff.mp h).1
 have e:ixN xs.length (-1)=some (xs.length - 1):=by
  unfold ixN
  rw [if_neg (by decide),if_pos (by omega)]
  congr 1
  omega
 unfold atI
 rw [e]
 exact h
theorem zfu (xs:List V):cutV xs none (some (-1))=xs.take (xs.length - 1):=by
 unfold cutV
 have h1:HT.sIx xs.length 0 none=0:=rfl
 have h2:HT.sIx xs.length xs.length (some (-1))=xs.length - 1:=by
  simp only [HT.sIx]
  rw [if_pos (by decide)]
  omega
 rw [h1,h2,List.drop_zero,Nat.sub_zero]
theorem zt1 (xs:List V) (a b:Nat):(cutV xs (some (a:Int)) (some (b:Int))).length≤b - a:=by
 unfold cutV
 rw [List.length_take,List.length_drop,show HT.sIx xs.length 0 (some (a:Int))=min a xs.length from HT.sIx_nat ..,show HT.sIx xs.length xs.length (some (b:Int))=min b xs.length from HT.sIx_nat ..]
 omega
theorem zgs (xs:List V) (b:Nat):(cutV xs none (some (b:Int))).length≤b:=by
 unfold cutV
 rw [List.length_take,show HT.sIx xs.length xs.length (some (b:Int))=min b xs.length from HT.sIx_nat ..]
 omega
structure TOk (B:Sh) (n:Int) (U:List Mark) (k:Nat) (T:Sh):Prop where
 ok:okSh T
 b:∀ m∈mks B,m∈mks T
 u:∀ m∈mks T,m∈U
 v:∀ m v,look T m=some v→look B m=some v ∨ ((10:Int) ^ 16≤v.1∧v.1 % 100 % n=(k:Int))
noncomputable def TbR (P:Program) (w:World) (K:W.Frag) (H:Hp) (d:Addr) (T:Sh):Prop:=∃ es o,H d=some (dO P w d es o)∧EnS K H es T
structure TbsAt (P:Program) (w:World) (K:W.Frag) (H:Hp) (tl:Addr) (ds:List Addr) (Ts:List Sh):Prop where
 h:H tl=some (.lst (ds.map V.ref))
 r:Paired (TbR P w K H) ds Ts
 nd:ds.Nodup
noncomputable def AllT (B:Sh) (n:Int) (U:List Mark) (Ts:List Sh):Prop:=∀ k T,Ts[k]? = some T→TOk B n U k T
structure BOk (B:Sh):Prop where
 ok:okSh B
 few:B.length≤8
 bt:∀ x∈B,x.2.1<(10:Int) ^ 16
noncomputable def t1 (B T:Sh) (m:Mark):List Ver:=match look T m with
 | some v=>if look B m=some v then [] else [v]
 | none=>[]
noncomputable def tv (B:Sh) (Ts:List Sh) (m:Mark):List Ver:=Ts.flatMap λ T=>t1 B T m
noncomputable abbrev Fs:=List (Mark×List Ver)
noncomputable def lkF:Fs→Mark→List Ver
 | [],_=>[]
 | f::fs,m=>if f.1=m then f.2 else lkF fs m
noncomputable def FR (K:W.Frag) (H:Hp) (e:Ent) (f:Mark×List Ver):Prop:=e.1=f.1∧SqT K H e.2.1 (mkV e.1)∧∃ l ws,e.2.2 = .ref l∧H l=some (.lst ws)∧DVs K H (f.2.map ver) ws
noncomputable abbrev vSt (l:List Ver):Prop:=l.Pairwise λ a b=>zce a b=true
structure FOk (F:Fs) (g:Mark→List Ver):Prop where
 nd:(F.map (·.1)).Nodup
 pm:∀ m,(lkF F m).Perm (g m)
 st:∀ m,vSt (lkF F m)
 ne:∀ f∈F,f.2≠[]
noncomputable abbrev ppLt:Mark×Ver→Mark×Ver→Bool:=zfe mLt zce
noncomputable abbrev pSt (l:Sh):Prop:=l.Pairwise λ a b=>ppLt a b=true
noncomputable def Clr (s:Mark→List Ver) (m:Mark):Prop:=s m≠[]∧((s m).map (·.2)).Nodup
structure DueA (B:Sh) (s:Mark→List Ver) (D A:Sh) (es:List Ent):Prop where
 sd:srtd D
 ok:∀ x∈D,okV x.2
 lk:∀ m,look D m=if s m=[] then look B m else (s m).getLast?
 cl:∀ m,(zab es m).isSome=true↔Clr s m
 sa:pSt A
 ka:∀ x∈A,okV x.2
 ma:∀ x,x∈A↔Clr s x.1∧x.2∈(s x.1).dropLast
noncomputable def asd (A:Sh) (m:Mark):List Ver:=(A.filter λ x=>decide (x.1=m)).map (·.2)
noncomputable def Fin (b:Option Ver) (g:List Ver) (t:Option Ver) (as:List Ver):Prop :=
 (g=[]∧t=b∧as=[]) ∨ ∃ u rest,t=some u∧(as++rest++[u]).Perm g∧((g.map (·.2)).Nodup→rest=[])∧(∀ x∈g,x=u ∨ zce x u=true)
noncomputable def pkd (Ts:List Sh) (os:List Nat):List Sh:=os.map λ i=>Ts.getD i []
noncomputable def De (B:Sh) (Ts:List Sh) (m:Mark) (v:Ver):Prop:=∃ T∈Ts,look T m=some v∧look B m≠some v
structure LI (B:Sh) (Ts:List Sh) (j:Int):Prop where
 low:∀ m v,De B Ts m v→v.1 % 100<j
 inj:∀ m v m' v',De B Ts m v→De B Ts m' v'→v.1 % 100=v'.1 % 100→m=m'∧v=v'
noncomputable def zo2 (P:Program) (w:World) (K:W.Frag):Sp:=λ vs H Q _=>Plain H∧∃ (p c:Addr) (n:Int) (ws xs:List V) (B:Sh),vs=[.ref p,.ref c,.int n]∧2≤n∧n≤6∧H p=some (.lst ws)∧DVs K H (B.map prD) ws∧BOk B∧H c=some (.lst xs)∧(∀ x∈xs,∃ i,x = .int i)∧xs.length≤48 ∧
 ∀ (tl:Addr) (ds:List Addr) (Ts:List Sh) (U:List Mark) (H':Hp),H tl=none→Same H H'→Plain H'→TbsAt P w K H' tl ds Ts→(Ts.length:Int)=n→AllT B n U Ts→LI B Ts 48→U.length<64→(∀ m∈mks B,m∈U)→Q (.ref tl) H'
structure TIn (P:Program) (w:World) (K:W.Frag) (H:Hp) (p tl:Addr) (ws:List V) (B:Sh) (ds:List Addr) (Ts:List Sh) (U:List Mark):Prop where
 p:H p=some (.lst ws)
 d:DVs K H (B.map prD) ws
 b:BOk B
 t:TbsAt P w K H tl ds Ts
 n:Ts.length≤6
 a:AllT B Ts.length U Ts
 li:LI B Ts 48
 u:U.length<64
 bu:∀ m∈mks B,m∈U
noncomputable def zqz (P:Program) (w:World) (K:W.Frag):Sp:=λ vs H Q _=>Plain H∧∃ (p tl:Addr) (ws:List V) (B:Sh) (ds:List Addr) (Ts:List Sh) (U:List Mark),vs=[.ref p,.ref tl]∧TIn P w K H p tl ws B ds Ts U ∧
 ∀ (d:Addr) (es:List Ent) (o:Obj) (F:Fs) (H':Hp),H d=none→Same H H'→Plain H'→H' d=some (dO P w d es o)→Paired (FR K H') es F→FOk F (tv B Ts)→Q (.ref d) H'
noncomputable def zp1 (P:Program) (w:World) (K:W.Frag):Sp:=λ vs H Q _=>Plain H∧∃ (p tl:Addr) (ws:List V) (B:Sh) (ds:List Addr) (Ts:List Sh) (U:List Mark),vs=[.ref p,.ref tl]∧TIn P w K H p tl ws B ds Ts U ∧
 ∀ (t l1 cd l2:Addr) (es:List Ent) (w1 w2:List V) (s:Mark→List Ver) (D A:Sh) (H':Hp),Same H H'→Plain H'→SqT K H' t [.ref l1,.ref cd,.ref l2]→H' l1=some (.lst w1)→DVs K H' (D.map prD) w1→DM P w K H' cd es→H' l2=some (.lst w2)→DVs K H' (A.map prD) w2→(∀ m,(s m).Perm (tv B Ts m)∧vSt (s m))→DueA B s D A es→Q (.ref t) H'
noncomputable def zo1 (P:Program) (w:World) (K:W.Frag) (A:Adr):Sp:=λ vs H Q _=>Plain H∧∃ (p tl od:Addr) (ws:List V) (B:Sh) (ds:List Addr) (Ts:List Sh) (U:List Mark) (os:List Nat),vs=[.ref p,.ref tl,.ref od]∧TIn P w K H p tl ws B ds Ts U∧H od=some (.lst (os.map λ (i:Nat)=>V.int (i:Int)))∧os.Perm (List.range Ts.length) ∧
 ∀ (t l1 l2:Addr) (w1 w2:List V) (D A:Sh) (H':Hp),Same H H'→Plain H'→SqT K H' t [.ref l1,.ref l2]→H' l1=some (.lst w1)→DVs K H' (D.map prD) w1→srtd D→(∀ x∈D,okV x.2)→H' l2=some (.lst w2)→DVs K H' (A.map prD) w2→pSt A→(∀ x∈A,okV x.2)→(∀ m,Fin (look B m) (tv B (pkd Ts os) m) (look D m) (asd A m))→Q (.ref t) H'
theorem TbR.same {P:Program} {w:World} {K:W.Frag} {H H':Hp} {d:Addr} {T:Sh} (h:TbR P w K H d T) (s:Same H H'):TbR P w K H' d T:=by
 obtain ⟨es,o,h1,h2⟩:=h
 exact ⟨es,o,s _ _ h1,zec s h2⟩
theorem TbR.lst {P:Program} {w:World} {K:W.Frag} {H:Hp} {d D:Addr} {T:Sh} {xs ys:List V} (h:TbR P w K H d T) (hD:H D=some (.lst xs)):TbR P w K (L2.upd H D (.lst ys)) d T:=by
 obtain ⟨es,o,h1,h2⟩:=h
 exact ⟨es,o,by rw [zga (zqf h1 hD (by intro z;cases z))];exact h1,h2.imp (λ _ _ q=>zsa hD (zlb _) q) λ v _ q=>zhc hD (zlb _) _ _ (zrc v) q⟩
theorem TbR.put {P:Program} {w:World} {K:W.Frag} {H:Hp} {d d':Addr} {T:Sh} {es':List Ent} {o':Obj} {x:HO} (h:TbR P w K H d T) (hd:H d'=some (dO P w d' es' o')) (ne:d≠d'):TbR P w K (L2.upd H d' x) d T:=by
 obtain ⟨es,o,h1,h2⟩:=h
 exact ⟨es,o,by rw [zga ne];exact h1,zwe hd h2⟩
theorem zra {α β:Type} {R R':α→β→Prop}:∀ {xs:List α} {ys:List β},Paired R xs ys→(∀ a∈xs,∀ b,R a b→R' a b)→Paired R' xs ys
 | _,_,.nil,_=>.nil
 | _,_,.cons r rr,h=>.cons (h _ List.mem_cons_self _ r) (zra rr λ a ha=>h a (List.mem_cons_of_mem _ ha))
theorem zth {α β:Type} {R R':α→β→Prop}:∀ {xs:List α} {ys:List β} (k:Nat) {x:α} {y':β},Paired R xs ys→xs.Nodup→xs[k]? = some x→(∀ a b,a≠x→R a b→R' a b)→R' x y'→Paired R' xs (ys.set k y')
 | _,_,k,x,y',.nil,nd,hx,_,_=>by simp at hx
 | _,_,0,x,y',.cons r rr,nd,hx,hk,h=>by
  cases (show some _=some x from hx)
  exact .cons h (zra rr λ a ha b r=>hk a b (λ z=>(List.nodup_cons.mp nd).1 (z ▸ ha)) r)
 | _,_,k+1,x,y',.cons r rr,nd,hx,hk,h=>by
  rw [List.getElem?_cons_succ] at hx
  exact .cons (hk _ _ (λ z=>(List.nodup_cons.mp nd).1 (z ▸ List.mem_of_getElem? hx)) r) (zth k rr (List.nodup_cons.mp nd).2 hx hk h)
theorem zqa {α β:Type} {R:α→β→Prop}:∀ {xs:List α} {ys:List β},Paired R xs ys→∀ {k:Nat},k<ys.length→∃ x y,xs[k]? = some x∧ys[k]? = some y∧R x y
 | _,_,.nil,k,h=>absurd h (Nat.not_lt_zero _)
 | _,_,.cons r rr,0,h=>⟨_,_,rfl,rfl,r⟩
 | _,_,.cons r rr,k+1,h=>by
  obtain ⟨x,y,h1,h2,h3⟩:=zqa rr (k:=k) (by simpa using h)
  exact ⟨x,y,by simpa using h1,by simpa using h2,h3⟩
theorem ztd {α β:Type} {R:α→β→Prop} {x:α} {y:β}:∀ {xs:List α} {ys:List β},Paired R xs ys→R x y→Paired R (xs++[x]) (ys++[y])
 | _,_,.nil,h=>.cons h .nil
 | _,_,.cons r rr,h=>.cons r (ztd rr h)
theorem TbsAt.same {P:Program} {w:World} {K:W.Frag} {H H':Hp} {tl:Addr} {ds:List Addr} {Ts:List Sh} (h:TbsAt P w K H tl ds Ts) (s:Same H H'):TbsAt P w K H' tl ds Ts:=⟨s _ _ h.h,zra h.r λ _ _ _ r=>r.same s,h.nd⟩
theorem TbsAt.put {P:Program} {w:World} {K:W.Frag} {H:Hp} {tl d:Addr} {ds:List Addr} {Ts:List Sh} {k:Nat} {es0 es':List Ent} {o0 o':Obj} {T':Sh} (h:TbsAt P w K H tl ds Ts) (hk:ds[k]? = some d) (hd:H d=some (dO P w d es0 o0)) (he:EnS K H es' T'):TbsAt P w K (L2.upd H d (dO P w d es' o')) tl ds (Ts.set k T') :=
 ⟨by rw [zga (zqf h.h hd (by intro z;cases z))];exact h.h,zth k h.r h.nd hk (λ _ _ ne r=>r.put hd ne) ⟨es',o',upd_same,zwe hd he⟩,h.nd⟩
theorem TOk.mono {B:Sh} {n:Int} {U U':List Mark} {k:Nat} {T:Sh} (h:TOk B n U k T) (s:∀ m∈U,m∈U'):TOk B n U' k T:=⟨h.ok,h.b,λ m hm=>s m (h.u m hm),h.v⟩
theorem TOk.put {B:Sh} {n:Int} {U:List Mark} {k:Nat} {T:Sh} (h:TOk B n U k T) (m:Mark) {v:Ver} (ok:okV v) (h1:(10:Int) ^ 16≤v.1) (h2:v.1 % 100 % n=(k:Int)):TOk B n (U++[m]) k (putS T m v) where
 ok:=⟨zwg h.ok.1 _ ok,zkh h.ok.2 _ _⟩
 b:=λ x hx=>putS_iff.mpr (.inr (h.b x hx))
 u:=λ x hx=>(putS_iff.mp hx).elim (λ e=>List.mem_append_right _ (List.mem_singleton.mpr e)) λ e=>List.mem_append_left _ (h.u x e)
 v:=λ x u hx=>by
  rw [zmc] at hx
  split at hx
  ·cases hx;exact .inr ⟨h1,h2⟩
  ·exact h.v x u hx
theorem AllT.put {B:Sh} {n:Int} {U:List Mark} {Ts:List Sh} {k:Nat} {T:Sh} (h:AllT B n U Ts) (hT:Ts[k]? = some T) (m:Mark) {v:Ver} (ok:okV v) (h1:(10:Int) ^ 16≤v.1) (h2:v.1 % 100 % n=(k:Int)):AllT B n (U++[m]) (Ts.set k (putS T m v)):=λ j T' hj=>by
 rw [List.getElem?_set] at hj
 split at hj
 ·rename_i e
  subst e
  split at hj
  ·cases hj;exact (h k T hT).put m ok h1 h2
  ·cases hj
 ·exact (h j T' hj).mono λ x hx=>List.mem_append_left _ hx
theorem LI.put {B:Sh} {Ts:List Sh} {j:Int} {k:Nat} {T:Sh} (h:LI B Ts j) (hT:Ts[k]? = some T) (m:Mark) {v:Ver} (hv:v.1 % 100=j):LI B (Ts.set k (putS T m v)) (j+1):=by
 have key:∀ m' v',De B (Ts.set k (putS T m v)) m' v'→(m'=m∧v'=v) ∨ De B Ts m' v':=λ m' v' ⟨T',h1,h2,h3⟩=>by
  rcases List.mem_or_eq_of_mem_set h1 with h1 | rfl
  ·exact .inr ⟨T',h1,h2,h3⟩
  ·rw [zmc] at h2
   split at h2
   ·rename_i e
    exact .inl ⟨e.symm,(Option.some.inj h2).symm⟩
   ·exact .inr ⟨T,List.mem_of_getElem? hT,h2,h3⟩
 refine ⟨λ m' v' hd=>?_,λ m1 v1 m2 v2 h1 h2 e=>?_⟩
 ·rcases key m' v' hd with ⟨_,e⟩ | hd
  ·rw [e];omega
  ·have:=h.low m' v' hd;omega
 ·rcases key m1 v1 h1 with ⟨e1,e2⟩ | h1
  ·rcases key m2 v2 h2 with ⟨e3,e4⟩ | h2
   ·exact ⟨e1.trans e3.symm,e2.trans e4.symm⟩
   ·have:=h.low m2 v2 h2;rw [← e,e2,hv] at this;omega
  ·rcases key m2 v2 h2 with ⟨e3,e4⟩ | h2
   ·have:=h.low m1 v1 h1;rw [e,e4,hv] at this;omega
   ·exact h.inj m1 v1 m2 v2 h1 h2 e
theorem zhu {a b:Sh} (h:∀ m,look a m=look b m) {m:Mark} (hm:m∈mks a):m∈mks b:=Classical.byContradiction λ z=>zlj ((h m).trans (zkc z)) hm
theorem TOk.base {B T:Sh} {n:Int} {k:Nat} (ok:okSh T) (h:∀ m,look T m=look B m):TOk B n (mks B) k T:=⟨ok,λ _ hm=>zhu (λ m=>(h m).symm) hm,λ _ hm=>zhu h hm,λ m v e=>.inl ((h m).symm.trans e)⟩
noncomputable def putV (F:Fs) (m:Mark) (vs:List Ver):Fs:=if m∈F.map (·.1) then F.map (λ f=>if f.1=m then (f.1,vs) else f) else F++[(m,vs)]
theorem zxs (m:Mark) (vs:List Ver):∀ (F:Fs) (k:Mark),lkF (F.map λ f=>if f.1=m then (f.1,vs) else f) k=if m=k∧k∈F.map (·.1) then vs else lkF F k
 | [],k=>by rw [if_neg (λ z=>by cases z.2)];rfl
 | f::F,k=>by
  have ih:=zxs m vs F k
  rw [List.map_cons]
  by_cases e:f.1=m
  ·rw [if_pos e]
   by_cases e2:f.1=k
   ·rw [show lkF ((f.1,vs)::F.map λ f=>if f.1=m then (f.1,vs) else f) k=vs by rw [lkF,if_pos e2],if_pos ⟨e.symm.trans e2,by rw [List.map_cons,← e2];exact List.mem_cons_self⟩]
   ·rw [show lkF ((f.1,vs)::F.map λ f=>if f.1=m then (f.1,vs) else f) k=lkF (F.map λ f=>if f.1=m then (f.1,vs) else f) k by rw [lkF,if_neg e2],ih,if_neg (λ z=>e2 (e.trans z.1)),if_neg (λ z=>e2 (e.trans z.1)),lkF,if_neg e2]
  ·rw [if_neg e]
   by_cases e2:f.1=k
   ·rw [lkF,if_pos e2,if_neg (λ z=>e (e2.trans z.1.symm)),lkF,if_pos e2]
   ·rw [lkF,if_neg e2,ih,lkF,if_neg e2]
    have:(k∈List.map (·.1) (f::F))↔k∈F.map (·.1):=by
     rw [List.map_cons,List.mem_cons]
     exact ⟨λ z=>z.resolve_left (λ z=>e2 z.symm),.inr⟩
    simp only [this]
theorem zhs (m:Mark) (vs:List Ver):∀ (F:Fs) (k:Mark),m∉F.map (·.1)→lkF (F++[(m,vs)]) k=if m=k then vs else lkF F k
 | [],k,_=>rfl
 | f::F,k,h=>by
  rw [List.map_cons,List.mem_cons] at h
  rw [List.cons_append,lkF,zhs m vs F k (λ z=>h (.inr z)),lkF]
  by_cases e2:f.1=k
  ·rw [if_pos e2,if_pos e2,if_neg (λ z=>h (.inl (z.trans e2.symm)))]
  ·rw [if_neg e2,if_neg e2]
theorem zks (F:Fs) (m:Mark) (vs:List Ver) (k:Mark):lkF (putV F m vs) k=if m=k then vs else lkF F k:=by
 unfold putV
 by_cases h:m∈F.map (·.1)
 ·rw [if_pos h,zxs]
  by_cases e:m=k
  ·rw [if_pos ⟨e,e ▸ h⟩,if_pos e]
  ·rw [if_neg (λ z=>e z.1),if_neg e]
 ·rw [if_neg h,zhs m vs F k h]
theorem zkl (F:Fs) (m:Mark) (vs:List Ver):(putV F m vs).map (·.1)=if m∈F.map (·.1) then F.map (·.1) else F.map (·.1)++[m]:=by
 unfold putV
 by_cases h:m∈F.map (·.1)
 ·rw [if_pos h,if_pos h,List.map_map]
  refine List.map_congr_left λ f _=>?_
  show (if f.1=m then (f.1,vs) else f).1=f.1
  split <;> rfl
 ·rw [if_neg h,if_neg h,List.map_append]
  rfl
theorem zag {K:W.Frag} {H:Hp}:∀ {es:List Ent} {F:Fs},Paired (FR K H) es F→es.map (·.1)=F.map (·.1)
 | _,_,.nil=>rfl
 | _,_,.cons r rr=>by rw [List.map_cons,List.map_cons,r.1,zag rr]
theorem zzs {K:W.Frag} {H:Hp}:∀ {es:List Ent} {F:Fs},Paired (FR K H) es F→∀ m,(zab es m=none∧lkF F m=[]) ∨ ∃ l ws,zab es m=some (.ref l)∧H l=some (.lst ws)∧DVs K H ((lkF F m).map ver) ws
 | _,_,.nil,m=>.inl ⟨rfl,rfl⟩
 | _,_,.cons (a:=e) (b:=f) r rr,m=>by
  by_cases h:e.1=m
  ·obtain ⟨h1,h2,l,ws,h3,h4,h5⟩:=r
   rw [zab,lkF,if_pos h,if_pos (h1 ▸ h),h3]
   exact .inr ⟨l,ws,rfl,h4,h5⟩
  ·rw [zab,lkF,if_neg h,if_neg (λ z=>h (r.1.trans z))]
   exact zzs rr m
theorem zmh {α β:Type} {R R':α→β→Prop} {f:α→α} {g:β→β}:∀ {xs:List α} {ys:List β},Paired R xs ys→(∀ a b,R a b→R' (f a) (g b))→Paired R' (xs.map f) (ys.map g)
 | _,_,.nil,_=>.nil
 | _,_,.cons r rr,h=>.cons (h _ _ r) (zmh rr h)
theorem zl0 {K:W.Frag} {H:Hp} {es:List Ent} {F:Fs} (h:Paired (FR K H) es F) {m:Mark} {q l:Addr} {ws:List V} {vs:List Ver} (hq:SqT K H q (mkV m)) (hl:H l=some (.lst ws)) (hw:DVs K H (vs.map ver) ws):Paired (FR K H) (putM es m q (.ref l)) (putV F m vs):=by
 unfold putM putV
 by_cases hm:m∈F.map (·.1)
 ·rw [if_pos hm,if_pos (zbd (by rw [zag h];exact hm))]
  refine zmh h λ e f r=>?_
  obtain ⟨h1,h2,r3⟩:=id r
  by_cases e1:e.1=m
  ·rw [if_pos e1,if_pos (h1 ▸ e1)]
   exact ⟨h1,h2,l,ws,rfl,hl,hw⟩
  ·rw [if_neg e1,if_neg (λ z=>e1 (h1.trans z))]
   exact r
 ·rw [if_neg hm,if_neg (by rw [zoc (by rw [zag h];exact hm)];exact Bool.false_ne_true)]
  exact ztd h ⟨rfl,hq,l,ws,rfl,hl,hw⟩
theorem FR.same {K:W.Frag} {H H':Hp} {e:Ent} {f:Mark×List Ver} (h:FR K H e f) (s:Same H H'):FR K H' e f:=by
 obtain ⟨h1,h2,l,ws,h3,h4,h5⟩:=h
 exact ⟨h1,s.seqT h2,l,ws,h3,s _ _ h4,DVs.same s _ _ h5⟩
theorem FR.upd {P:Program} {w:World} {K:W.Frag} {H:Hp} {d:Addr} {es0:List Ent} {o0:Obj} {x:HO} {e:Ent} {f:Mark×List Ver} (h:FR K H e f) (hd:H d=some (dO P w d es0 o0)):FR K (L2.upd H d x) e f:=by
 obtain ⟨h1,h2,l,ws,h3,h4,h5⟩:=h
 exact ⟨h1,zsa hd (zgb _) h2,l,ws,h3,by rw [zga (zqf h4 hd (by intro z;cases z))];exact h4,zna hd (zgb _) _ _ (zdg _) h5⟩
theorem FOk.put {F:Fs} {g g':Mark→List Ver} (h:FOk F g) {m:Mark} {vs:List Ver} (ne:vs≠[]) (st:vSt vs) (pm:vs.Perm (g' m)) (hg:∀ k,m≠k→g' k=g k):FOk (putV F m vs) g' where
 nd:=by
  rw [zkl]
  split
  ·exact h.nd
  ·rename_i hm
   exact List.nodup_append.mpr ⟨h.nd,by simp,λ a ha b hb z=>hm (by rw [← List.mem_singleton.mp hb,← z];exact ha)⟩
 pm:=λ k=>by
  rw [zks]
  split
  ·rename_i e;rw [← e];exact pm
  ·rename_i e;rw [hg k e];exact h.pm k
 st:=λ k=>by
  rw [zks]
  split
  ·exact st
  ·exact h.st k
 ne:=λ f hf=>by
  unfold putV at hf
  split at hf
  ·obtain ⟨f0,hf0,e⟩:=List.mem_map.mp hf
   split at e
   ·rw [← e];exact ne
   ·rw [← e];exact h.ne f0 hf0
  ·rcases List.mem_append.mp hf with hf | hf
   ·exact h.ne f hf
   ·rw [List.mem_singleton.mp hf];exact ne
theorem FOk.eq {F:Fs} {g g':Mark→List Ver} (h:FOk F g) (hg:∀ k,g' k=g k):FOk F g':=⟨h.nd,λ m=>by rw [hg];exact h.pm m,h.st,h.ne⟩
noncomputable def tI (B T:Sh) (i:Nat) (m:Mark):List Ver:=if m∈(mks T).take i then t1 B T m else []
noncomputable def tvI (B:Sh) (Ts:List Sh) (k:Nat) (T:Sh) (i:Nat) (m:Mark):List Ver:=tv B (Ts.take k) m++tI B T i m
theorem zb1 {B T:Sh} {m:Mark} (h:m∉mks T):t1 B T m=[]:=by unfold t1;rw [zkc h]
theorem zfn {B:Sh} {Ts:List Sh} {k:Nat} {T:Sh} (hT:Ts[k]? = some T) {i:Nat} (hi:(mks T).length≤i) (m:Mark):tvI B Ts k T i m=tv B (Ts.take (k+1)) m:=by
 obtain ⟨hk,rfl⟩:=List.getElem?_eq_some_iff.mp hT
 unfold tvI tI tv
 rw [List.take_of_length_le hi,List.take_succ_eq_append_getElem hk,List.flatMap_append,List.flatMap_singleton]
 by_cases h:m∈mks Ts[k]
 ·rw [if_pos h]
 ·rw [if_neg h,zb1 h]
theorem zuu (B:Sh) (Ts:List Sh) (k:Nat) (T:Sh) (m:Mark):tvI B Ts k T 0 m=tv B (Ts.take k) m:=by
 unfold tvI tI
 rw [List.take_zero,if_neg (λ z=>by cases z),List.append_nil]
theorem zkm {B:Sh} {Ts:List Sh} {k:Nat} {T:Sh} (nd:(mks T).Nodup) {i:Nat} (hi:i<(mks T).length) (m:Mark):tvI B Ts k T (i+1) m=if (mks T)[i]=m then tvI B Ts k T i m++t1 B T m else tvI B Ts k T i m:=by
 unfold tvI tI
 rw [List.take_succ_eq_append_getElem hi]
 by_cases e:(mks T)[i]=m
 ·have hn:m∉(mks T).take i:=λ z=>by
   obtain ⟨j,hj⟩:=List.getElem?_of_mem z
   rw [List.getElem?_take] at hj
   split at hj
   ·rename_i hji
    obtain ⟨hj2,e2⟩:=List.getElem?_eq_some_iff.mp hj
    exact absurd (e2.trans e.symm) (List.pairwise_iff_getElem.mp nd j i hj2 hi hji)
   ·cases hj
  rw [if_pos e,if_pos (List.mem_append_right _ (by rw [e];exact List.mem_singleton.mpr rfl)),if_neg hn,List.append_nil]
 ·rw [if_neg e]
  have:(m∈(mks T).take i++[(mks T)[i]])↔m∈(mks T).take i:=by
   rw [List.mem_append,List.mem_singleton]
   exact ⟨λ z=>z.resolve_right (λ z=>e z.symm),.inl⟩
  by_cases h:m∈(mks T).take i
  ·rw [if_pos h,if_pos (this.mpr h)]
  ·rw [if_neg h,if_neg (λ z=>h (this.mp z))]
theorem zwf {B:Sh} {n:Int} {U:List Mark} {k:Nat} {T:Sh} (h:TOk B n U k T) {m:Mark} {v:Ver} (hv:v∈t1 B T m):look T m=some v∧look B m≠some v∧(10:Int) ^ 16≤v.1∧v.1 % 100 % n=(k:Int)∧okV v:=by
 unfold t1 at hv
 cases e:look T m with
 | none=>rw [e] at hv;cases hv
 | some u =>
  rw [e] at hv
  dsimp only at hv
  split at hv
  ·cases hv
  ·rename_i hn
   cases List.mem_singleton.mp hv
   have:=(h.v m v e).resolve_left hn
   exact ⟨rfl,hn,this.1,this.2,h.ok.1 _ (zta e)⟩
theorem zs2 (B T:Sh) (m:Mark):(t1 B T m).length≤1:=by
 unfold t1
 split
 ·split
  ·exact Nat.zero_le _
  ·exact Nat.le_refl _
 ·exact Nat.zero_le _
theorem ziv {B:Sh} {n:Int} {U:List Mark} {Ts:List Sh} (hA:AllT B n U Ts) {m:Mark} {v:Ver} {k:Nat} (hv:v∈tv B (Ts.take k) m):∃ j T,j<k∧Ts[j]? = some T∧v∈t1 B T m:=by
 obtain ⟨T,hT,h⟩:=List.mem_flatMap.mp hv
 obtain ⟨j,hj⟩:=List.getElem?_of_mem hT
 rw [List.getElem?_take] at hj
 split at hj
 ·rename_i hjk;exact ⟨j,T,hjk,hj,h⟩
 ·cases hj
theorem zkz {B:Sh} {n:Int} {U:List Mark} {Ts:List Sh} (hA:AllT B n U Ts) (m:Mark):∀ k,(tv B (Ts.take k) m).Nodup∧(tv B (Ts.take k) m).length≤k
 | 0=>⟨List.nodup_nil,Nat.le_refl _⟩
 | k+1=>by
  obtain ⟨h1,h2⟩:=zkz hA m k
  cases e:Ts[k]? with
  | none =>
   have:Ts.take (k+1)=Ts.take k:=by rw [List.take_of_length_le (by have:=List.getElem?_eq_none_iff.mp e;omega),List.take_of_length_le (List.getElem?_eq_none_iff.mp e)]
   rw [this]
   exact ⟨h1,by omega⟩
  | some T =>
   rw [← zfn e (Nat.le_refl _) m]
   unfold tvI tI
   rw [List.take_length]
   by_cases hm:m∈mks T
   ·rw [if_pos hm]
    have hl:=zs2 B T m
    refine ⟨List.nodup_append.mpr ⟨h1,?_,λ a ha b hb z=>?_⟩,by rw [List.length_append];omega⟩
    ·cases ht:t1 B T m with
     | nil=>exact List.nodup_nil
     | cons x r =>
      cases r with
      | nil=>simp
      | cons y r=>rw [ht] at hl;simp at hl
    ·obtain ⟨j,T',hj,hT',ha⟩:=ziv hA ha
     have e1:=(zwf (hA j T' hT') ha).2.2.2.1
     have e2:=(zwf (hA k T e) hb).2.2.2.1
     rw [z,e2] at e1
     omega
   ·rw [if_neg hm,List.append_nil]
    exact ⟨h1,by omega⟩
theorem zky {vs:List Ver} (nd:vs.Nodup) (few:vs.length<64) (ok:∀ v∈vs,okV v):Srt vs (λ v=>[.int v.1,plc v.2.1,.str v.2.2]) zce .int:=⟨verLt_sto,few,nd,λ a _ b _=>zcm a b,λ a _=>⟨_,_,rfl,_,rfl⟩,λ a h=>zzc (ok a h)⟩
theorem zqk:∀ {F:Fs},(F.map (·.1)).Nodup→∀ f∈F,lkF F f.1=f.2
 | f0::F,nd,f,hf=>by
  rw [List.map_cons] at nd
  obtain ⟨n1,n2⟩:=List.nodup_cons.mp nd
  rcases List.mem_cons.mp hf with rfl | hf
  ·rw [lkF,if_pos rfl]
  ·rw [lkF,if_neg (λ z=>n1 (by rw [z];exact List.mem_map_of_mem (f:=λ x:Mark×List Ver=>x.1) hf))]
   exact zqk n2 f hf
theorem zry:∀ {F:Fs} {m:Mark},m∉F.map (·.1)→lkF F m=[]
 | [],m,_=>rfl
 | f::F,m,h=>by
  rw [List.map_cons,List.mem_cons] at h
  rw [lkF,if_neg (λ z=>h (.inl z.symm)),zry λ z=>h (.inr z)]
theorem FOk.few {F:Fs} {g:Mark→List Ver} (h:FOk F g) {U:List Mark} (hU:∀ m,g m≠[]→m∈U):F.length≤U.length:=by
 have:=zrb h.nd (U:=U) λ m hm=>by
  obtain ⟨f,hf,rfl⟩:=List.mem_map.mp hm
  refine hU _ λ z=>h.ne f hf ?_
  have:=h.pm f.1
  rw [zqk h.nd f hf,z] at this
  exact List.perm_nil.mp this
 rw [List.length_map] at this
 exact this
theorem zx1 {B:Sh} {n:Int} {U:List Mark} {Ts:List Sh} (hA:AllT B n U Ts) {m:Mark} {k:Nat} (h:tv B (Ts.take k) m≠[]):m∈U:=by
 obtain ⟨v,hv⟩:=List.exists_mem_of_ne_nil _ h
 obtain ⟨j,T,_,hT,ht⟩:=ziv hA hv
 exact (hA j T hT).u m (List.mem_map_of_mem (f:=λ x:Mark×Ver=>x.1) (zta (zwf (hA j T hT) ht).1))
theorem zj2 {B:Sh} {n:Int} {U:List Mark} {Ts:List Sh} (hA:AllT B n U Ts) {k:Nat} {T:Sh} (hT:Ts[k]? = some T) {i:Nat} {m:Mark} (h:tvI B Ts k T i m≠[]):m∈U:=by
 unfold tvI at h
 by_cases h1:tv B (Ts.take k) m=[]
 ·rw [h1,List.nil_append] at h
  unfold tI at h
  split at h
  ·rename_i hm
   exact (hA k T hT).u m (List.mem_of_mem_take hm)
  ·exact absurd rfl h
 ·exact zx1 hA h1
theorem zlx {B:Sh} {Ts:List Sh} {k:Nat} {T:Sh} (nd:(mks T).Nodup) {i:Nat} (hi:i<(mks T).length):tvI B Ts k T i (mks T)[i]=tv B (Ts.take k) (mks T)[i]:=by
 have e1:=zkm (B:=B) (Ts:=Ts) (k:=k) nd hi (mks T)[i]
 unfold tvI tI at e1 ⊢
 have hn:(mks T)[i]∉(mks T).take i:=λ z=>by
  obtain ⟨j,hj⟩:=List.getElem?_of_mem z
  rw [List.getElem?_take] at hj
  split at hj
  ·rename_i hji
   obtain ⟨hj2,e2⟩:=List.getElem?_eq_some_iff.mp hj
   exact absurd e2 (List.pairwise_iff_getElem.mp nd j i hj2 hi hji)
  ·cases hj
 rw [if_neg hn,List.append_nil]
theorem zlz {B:Sh} {n:Int} {U:List Mark} {Ts:List Sh} (hA:AllT B n U Ts) {m:Mark} {k:Nat}:∀ v∈tv B (Ts.take k) m,okV v:=λ v hv=>by
 obtain ⟨j,T,_,hT,ht⟩:=ziv hA hv
 exact (zwf (hA j T hT) ht).2.2.2.2
theorem zap {B T:Sh} {m:Mark} {v:Ver} (h:look T m=some v) (hb:some v≠look B m):t1 B T m=[v]:=by
 unfold t1
 rw [h]
 dsimp only
 rw [if_neg λ z=>hb z.symm]
theorem zpy {B T:Sh} {m:Mark} {v:Ver} (h:look T m=some v) (hb:some v=look B m):t1 B T m=[]:=by
 unfold t1
 rw [h]
 dsimp only
 rw [if_pos hb.symm]
theorem zxz {B:Sh} {Ts:List Sh} {m:Mark} {v:Ver} (h:v∈tv B Ts m):De B Ts m v:=by
 obtain ⟨T,hT,ht⟩:=List.mem_flatMap.mp h
 unfold t1 at ht
 cases e:look T m with
 | none=>rw [e] at ht;cases ht
 | some u =>
  rw [e] at ht
  dsimp only at ht
  split at ht
  ·cases ht
  ·rename_i hn
   cases List.mem_singleton.mp ht
   exact ⟨T,hT,e,hn⟩
theorem zfd {B:Sh} {Ts:List Sh} (h:LI B Ts 48) {A:Sh} (nd:A.Nodup) (hA:∀ x∈A,x.2∈tv B Ts x.1):A.length≤48:=by
 have h1:(A.map λ x:Mark×Ver=>(x.2.1 % 100).toNat).Nodup:=List.pairwise_map.mpr (nd.imp_of_mem fun {a b} ha hb ne e=>by
  have ea:=Int.emod_nonneg a.2.1 (show (100:Int)≠0 by decide)
  have eb:=Int.emod_nonneg b.2.1 (show (100:Int)≠0 by decide)
  obtain ⟨e1,e2⟩:=h.inj _ _ _ _ (zxz (hA a ha)) (zxz (hA b hb)) (by omega)
  exact ne (Prod.ext e1 e2))
 have h2:=zrb h1 (U:=List.range 48) λ x hx=>by
  obtain ⟨a,ha,rfl⟩:=List.mem_map.mp hx
  have ea:=Int.emod_nonneg a.2.1 (show (100:Int)≠0 by decide)
  have:=h.low _ _ (zxz (hA a ha))
  exact List.mem_range.mpr (by omega)
 rw [List.length_map,List.length_range] at h2
 exact h2
theorem zpw {A:Sh} (nd:A.Nodup) (few:A.length<64) (ok:∀ x∈A,okV x.2):Srt A (λ x=>[L2.markD x.1,ver x.2]) ppLt .tup:=by
 refine ⟨zlg mLt_sto verLt_sto,few,nd,λ a _ b _=>?_,λ a _=>⟨_,_,rfl,_,rfl⟩,λ a h=>zld (ok a h)⟩
 have hv:PyData.eqv (ver a.2) (ver b.2)=decide (some a.2=some b.2):=zme (some a.2) (some b.2)
 rw [ltDs,ltDs,ltDs,zek,zli,hv,zcm]
 unfold ppLt zfe
 by_cases e1:a.1=b.1
 ·rw [if_pos (decide_eq_true e1),if_pos e1]
  by_cases e2:a.2=b.2
  ·rw [if_pos (decide_eq_true (by rw [e2])),e2]
   exact congrArg some (verLt_sto.irr b.2).symm
  ·rw [if_neg (by rw [decide_eq_false (λ z=>e2 (Option.some.inj z))];exact Bool.false_ne_true)]
 ·rw [if_neg (by rw [decide_eq_false e1];exact Bool.false_ne_true),if_neg e1]
theorem zln {α:Type}:∀ {l:List α},¬ l.Nodup→∃ l':List α,l'.length+1=l.length∧∀ x∈l,x∈l'
 | [],h=>absurd List.nodup_nil h
 | a::r,h=>by
  by_cases ha:a∈r
  ·exact ⟨r,rfl,λ x hx=>(List.mem_cons.mp hx).elim (λ e=>e ▸ ha) id⟩
  ·obtain ⟨l',h1,h2⟩:=zln (l:=r) λ z=>h (List.nodup_cons.mpr ⟨ha,z⟩)
   exact ⟨a::l',by rw [List.length_cons,List.length_cons,h1],λ x hx=>(List.mem_cons.mp hx).elim (λ e=>e ▸ List.mem_cons_self) λ e=>List.mem_cons_of_mem _ (h2 x e)⟩
theorem zsv {α:Type} {qs ds:List α} (nd:qs.Nodup) (h:∀ x,x∈qs↔x∈ds) (le:qs.length≤ds.length):qs.length=ds.length↔ds.Nodup:=by
 classical
 constructor
 ·intro e
  refine Classical.byContradiction λ z=>?_
  obtain ⟨l',h1,h2⟩:=zln z
  have:=zrb nd (U:=l') λ x hx=>h2 x ((h x).mp hx)
  omega
 ·intro z
  have:=zrb z (U:=qs) λ x hx=>(h x).mpr hx
  omega
theorem zfw {a b:List Stp×Str} (h:pwd a=pwd b) (ok:PySem.PyData.strOk a.2=true):a=b:=by
 have:=zrs a b
 rw [← h] at this
 refine of_decide_eq_true (this.symm.trans ?_)
 exact SeqAt.eqvAll_refl _ (by
  have h:=zze ok
  unfold SeqAt.shaped at h
  rw [Bool.and_eq_true] at h
  exact h.1)
theorem zh0 {vs:List Ver} (ok:∀ v∈vs,okV v):(vs.map λ v=>pwd v.2).Nodup↔(vs.map (·.2)).Nodup:=by
 unfold List.Nodup
 rw [List.pairwise_map,List.pairwise_map]
 constructor
 ·intro h
  exact h.imp fun {a b} ne e=>ne (congrArg pwd e)
 ·intro h
  exact List.Pairwise.imp_of_mem (fun {a b} ha _ ne e=>ne (zfw e (ok a ha))) h
theorem zqx {v:Ver} (h:okV v):ok4S (pwd v.2):=by
 refine ⟨?_,?_,_,rfl⟩
 ·show (zvd (plc v.2.1) && (PyData.strOk v.2.2 && true))=true
  rw [zgp,h]
  rfl
 ·have h1:PyData.depth (plc v.2.1)=PyData.depthAll (v.2.1.map stp)+1:=rfl
  have:=zvb v.2.1
  have h2:PyData.depth (pwd v.2)=max (PyData.depth (plc v.2.1)) (max 0 0)+1:=rfl
  omega
noncomputable abbrev kt (F:Fs) (i:Nat):List Mark:=(F.map (·.1)).take i
structure DI (B:Sh) (U:List Mark) (F:Fs) (i:Nat) (fns:Sh) (ces:List Ent) (A:Sh):Prop where
 ok:okSh fns
 u:∀ m∈mks fns,m∈U
 lk:∀ m,look fns m=if m∈kt F i then (lkF F m).getLast? else look B m
 cl:∀ m,(zab ces m).isSome=true↔m∈kt F i∧Clr (lkF F) m
 nd:A.Nodup
 ma:∀ x,x∈A↔x.1∈kt F i∧Clr (lkF F) x.1∧x.2∈(lkF F x.1).dropLast
theorem zfy {F:Fs} (nd:(F.map (·.1)).Nodup) {i:Nat} {f:Mark×List Ver} (h:F[i]? = some f):(∀ m,m∈kt F (i+1)↔m∈kt F i ∨ m=f.1)∧f.1∉kt F i:=by
 have hi:(F.map (·.1))[i]? = some f.1:=by rw [List.getElem?_map,h];rfl
 obtain ⟨h1,h2⟩:=List.getElem?_eq_some_iff.mp hi
 refine ⟨λ m=>?_,λ z=>?_⟩
 ·show m∈(F.map (·.1)).take (i+1)↔_
  rw [List.take_succ_eq_append_getElem h1,List.mem_append,List.mem_singleton,h2]
 ·obtain ⟨j,hj⟩:=List.getElem?_of_mem z
  rw [List.getElem?_take] at hj
  split at hj
  ·rename_i hji
   obtain ⟨hj2,e2⟩:=List.getElem?_eq_some_iff.mp hj
   exact absurd (e2.trans h2.symm) (List.pairwise_iff_getElem.mp nd j i hj2 h1 hji)
  ·cases hj
theorem zt0 {vs:List Ver} (h:vSt vs):vs.Nodup:=h.imp fun {a b} e z=>by
 rw [z,verLt_sto.irr] at e
 cases e
theorem DI.step {B:Sh} {U:List Mark} {F:Fs} {i:Nat} {fns:Sh} {ces:List Ent} {A:Sh} (h:DI B U F i fns ces A) {g:Mark→List Ver} (FO:FOk F g) {f:Mark×List Ver} (hf:F[i]? = some f) (hU:f.1∈U) {u:Ver} (hu:f.2.getLast? = some u) (oku:okV u) (q:Addr) :
  ((f.2.map (·.2)).Nodup→DI B U F (i+1) (putS fns f.1 u) (putM ces f.1 q (.bl true)) (A++f.2.dropLast.map λ v=>(f.1,v)))∧(¬ (f.2.map (·.2)).Nodup→DI B U F (i+1) (putS fns f.1 u) ces A):=by
 have hm:=List.mem_of_getElem? hf
 obtain ⟨k1,k2⟩:=zfy FO.nd hf
 have e2:=zqk FO.nd f hm
 have ne:=FO.ne f hm
 have hlk:∀ m,look (putS fns f.1 u) m=if m∈kt F (i+1) then (lkF F m).getLast? else look B m:=λ m=>by
  rw [zmc]
  by_cases e:f.1=m
  ·rw [if_pos e,if_pos ((k1 m).mpr (.inr e.symm)),← e,e2,hu]
  ·rw [if_neg e,h.lk m]
   by_cases h1:m∈kt F i
   ·rw [if_pos h1,if_pos ((k1 m).mpr (.inl h1))]
   ·rw [if_neg h1,if_neg λ z=>((k1 m).mp z).elim h1 λ z=>e z.symm]
 have ok':okSh (putS fns f.1 u):=⟨zwg h.ok.1 _ oku,zkh h.ok.2 _ _⟩
 have hu':∀ m∈mks (putS fns f.1 u),m∈U:=λ m hm=>(putS_iff.mp hm).elim (λ e=>e ▸ hU) (h.u m)
 refine ⟨λ hc=>?_,λ hc=>?_⟩
 ·have hC:Clr (lkF F) f.1:=⟨by rw [e2];exact ne,by rw [e2];exact hc⟩
  refine ⟨ok',hu',hlk,λ m=>?_,?_,λ x=>?_⟩
  ·rw [zbq]
   by_cases e:f.1=m
   ·rw [if_pos e]
    exact ⟨λ _=>⟨(k1 m).mpr (.inr e.symm),e ▸ hC⟩,λ _=>rfl⟩
   ·rw [if_neg e,h.cl m,k1 m]
    exact ⟨λ z=>⟨.inl z.1,z.2⟩,λ z=>⟨z.1.resolve_right λ z=>e z.symm,z.2⟩⟩
  ·refine List.nodup_append.mpr ⟨h.nd,?_,λ a ha b hb z=>?_⟩
   ·refine List.pairwise_map.mpr ?_
    have n1:f.2.Nodup:=by rw [← e2];exact zt0 (FO.st f.1)
    exact (List.Pairwise.sublist (List.dropLast_sublist _) n1).imp fun {a b} ne e=>ne (Prod.mk.inj e).2
   ·obtain ⟨v,_,rfl⟩:=List.mem_map.mp hb
    have:=((h.ma a).mp ha).1
    rw [z] at this
    exact k2 this
  ·rw [List.mem_append,h.ma x,k1]
   constructor
   ·rintro (z | z)
    ·exact ⟨.inl z.1,z.2⟩
    ·obtain ⟨v,hv,rfl⟩:=List.mem_map.mp z
     exact ⟨.inr rfl,hC,by rw [e2];exact hv⟩
   ·rintro ⟨z | z,z2,z3⟩
    ·exact .inl ⟨z,z2,z3⟩
    ·refine .inr (List.mem_map.mpr ⟨x.2,?_,Prod.ext z.symm rfl⟩)
     rw [z,e2] at z3
     exact z3
 ·have hC:¬ Clr (lkF F) f.1:=λ z=>hc (by have:=z.2;rw [e2] at this;exact this)
  refine ⟨ok',hu',hlk,λ m=>?_,h.nd,λ x=>?_⟩
  ·rw [h.cl m,k1 m]
   exact ⟨λ z=>⟨.inl z.1,z.2⟩,λ z=>⟨z.1.resolve_right λ e=>hC (e ▸ z.2),z.2⟩⟩
  ·rw [h.ma x,k1]
   exact ⟨λ z=>⟨.inl z.1,z.2⟩,λ z=>⟨z.1.resolve_right λ e=>hC (e ▸ z.2.1),z.2⟩⟩
structure HI (P:Program) (w:World) (K:W.Frag) (H:Hp) (d:Addr) (es:List Ent) (o:Obj) (F:Fs) (nd:Addr) (fes:List Ent) (fo:Obj) (fns:Sh) (cd:Addr) (ces:List Ent) (co:Obj) (al:Addr) (aws:List V) (A:Sh):Prop where
 d:H d=some (dO P w d es o)
 f:Paired (FR K H) es F
 n:H nd=some (dO P w nd fes fo)
 e:EnS K H fes fns
 c:H cd=some (dO P w cd ces co)
 k:∀ e∈ces,SqT K H e.2.1 (mkV e.1)
 a:H al=some (.lst aws)
 v:DVs K H (A.map prD) aws
section
variable {w:World} {P:Program} {K:W.Frag} {H H':Hp} {d:Addr} {es:List Ent} {o:Obj} {F:Fs} {nd:Addr} {fes fes':List Ent} {fo fo':Obj} {fns fns':Sh} {cd:Addr} {ces ces':List Ent} {co co':Obj} {al al':Addr} {aws aws':List V} {A A':Sh}
theorem HI.same (h:HI P w K H d es o F nd fes fo fns cd ces co al aws A) (s:Same H H'):HI P w K H' d es o F nd fes fo fns cd ces co al aws A :=
 ⟨s _ _ h.d,zra h.f λ _ _ _ r=>r.same s,s _ _ h.n,zec s h.e,s _ _ h.c,λ e he=>s.seqT (h.k e he),s _ _ h.a,DVs.same s _ _ h.v⟩
theorem HI.putN (h:HI P w K H d es o F nd fes fo fns cd ces co al aws A) (n1:d≠nd) (n2:cd≠nd) (he:EnS K H fes' fns'):HI P w K (L2.upd H nd (dO P w nd fes' fo')) d es o F nd fes' fo' fns' cd ces co al aws A :=
 ⟨by rw [zga n1];exact h.d,zra h.f λ _ _ _ r=>r.upd h.n,upd_same,zwe h.n he,by rw [zga n2];exact h.c,λ e he=>zsa h.n (zgb _) (h.k e he),by rw [zga (zqf h.a h.n (by intro z;cases z))];exact h.a,zna h.n (zgb _) _ _ (zxb A) h.v⟩
theorem HI.putC (h:HI P w K H d es o F nd fes fo fns cd ces co al aws A) (n1:d≠cd) (n2:nd≠cd) (hk:∀ e∈ces',SqT K H e.2.1 (mkV e.1)):HI P w K (L2.upd H cd (dO P w cd ces' co')) d es o F nd fes fo fns cd ces' co' al aws A :=
 ⟨by rw [zga n1];exact h.d,zra h.f λ _ _ _ r=>r.upd h.c,by rw [zga n2];exact h.n,zwe h.c h.e,upd_same,λ e he=>zsa h.c (zgb _) (hk e he),by rw [zga (zqf h.a h.c (by intro z;cases z))];exact h.a,zna h.c (zgb _) _ _ (zxb A) h.v⟩
end
theorem TIn.same {P:Program} {w:World} {K:W.Frag} {H H':Hp} {p tl:Addr} {ws:List V} {B:Sh} {ds:List Addr} {Ts:List Sh} {U:List Mark} (h:TIn P w K H p tl ws B ds Ts U) (s:Same H H'):TIn P w K H' p tl ws B ds Ts U:=⟨s _ _ h.p,DVs.same s _ _ h.d,h.b,h.t.same s,h.n,h.a,h.li,h.u,h.bu⟩
theorem FOk.sub {F:Fs} {B:Sh} {Ts:List Sh} (h:FOk F (tv B Ts)) {f:Mark×List Ver} (hf:f∈F) {v:Ver} (hv:v∈f.2):v∈tv B Ts f.1:=(h.pm f.1).mem_iff.mp (by rw [zqk h.nd f hf];exact hv)
theorem DI.fin {B:Sh} {U:List Mark} {F:Fs} {fns:Sh} {ces:List Ent} {A:Sh} {g:Mark→List Ver} (h:DI B U F F.length fns ces A) (FO:FOk F g):(∀ m,look fns m=if lkF F m=[] then look B m else (lkF F m).getLast?)∧(∀ m,(zab ces m).isSome=true↔Clr (lkF F) m)∧∀ x,x∈A↔Clr (lkF F) x.1∧x.2∈(lkF F x.1).dropLast:=by
 have ek:∀ m,m∈kt F F.length↔lkF F m≠[]:=λ m=>by
  show m∈(F.map (·.1)).take F.length↔_
  rw [List.take_of_length_le (by rw [List.length_map];exact Nat.le_refl _)]
  constructor
  ·intro hm
   obtain ⟨f,hf,rfl⟩:=List.mem_map.mp hm
   rw [zqk FO.nd f hf]
   exact FO.ne f hf
  ·intro hm
   exact Classical.byContradiction λ z=>hm (zry z)
 refine ⟨λ m=>?_,λ m=>?_,λ x=>?_⟩
 ·rw [h.lk m]
  by_cases e:lkF F m=[]
  ·rw [if_neg (λ z=>(ek m).mp z e),if_pos e]
  ·rw [if_pos ((ek m).mpr e),if_neg e]
 ·rw [h.cl m,ek m]
  exact ⟨λ z=>z.2,λ z=>⟨z.1,z⟩⟩
 ·rw [h.ma x,ek]
  exact ⟨λ z=>z.2,λ z=>⟨z.1.1,z⟩⟩
theorem zdv {α:Type} {l:List α} {u:α} (h:l.getLast? = some u):l[l.length - 1]? = some u:=by rw [← h,List.getLast?_eq_getElem?]
theorem zk3 {B D:Sh} (h:D.Perm B) (nd:(mks B).Nodup) (m:Mark):look D m=look B m:=by
 cases e:look B m with
 | none=>exact zkc λ z=>zlj e ((h.map (λ x:Mark×Ver=>x.1)).mem_iff.mp z)
 | some v =>
  have:(m,v)∈D:=h.mem_iff.mpr (zta e)
  exact zfc ((h.map (λ x:Mark×Ver=>x.1)).nodup_iff.mpr nd) this
theorem zlt {L M:Sh} {ks:List Mark} (h:IsMk L M ks) (m:Mark):look (mrg L M ks) m=mx (look L m) (look M m):=by
 by_cases hm:m∈ks
 ·rw [zwn (zwi h hm)]
  have hn:(List.map (·.1) (mrg L M ks)).Nodup:=by
   unfold mrg
   rw [List.map_map]
   show (ks.map id).Nodup
   rw [List.map_id]
   exact zig h.1
  exact zfc hn (m:=(m,mrgV (look L m) (look M m))) (List.mem_map_of_mem (f:=λ m=>(m,mrgV (look L m) (look M m))) hm)
 ·have h1:look L m=none:=zkc λ z=>hm ((h.2 m).mpr (.inl z))
  have h2:look M m=none:=zkc λ z=>hm ((h.2 m).mpr (.inr z))
  rw [h1,h2]
  refine zkc λ z=>?_
  obtain ⟨x,hx,rfl⟩:=List.mem_map.mp z
  obtain ⟨m',hm',rfl⟩:=List.mem_map.mp hx
  exact hm hm'
theorem zdo (A A':Sh) (m:Mark):asd (A++A') m=asd A m++asd A' m:=by
 unfold asd
 rw [List.filter_append,List.map_append]
theorem zus (m k:Mark) (v:Ver):asd [(m,v)] k=if m=k then [v] else []:=by
 unfold asd
 by_cases e:m=k <;> simp [e]
theorem zrx (b t h:Option Ver) (m k:Mark):asd ((cl1 b t h m).map λ c=>(c.1,c.2.2)) k=if m=k then (cl1 b t h m).map (·.2.2) else []:=by
 unfold cl1
 split
 ·exact zus m k _
 ·split <;> rfl
theorem zkn (B L M:Sh) (k:Mark):∀ {ks:List Mark},ks.Nodup→asd ((clsh B L M ks).map λ c=>(c.1,c.2.2)) k=if k∈ks then (cl1 (look B k) (look L k) (look M k) k).map (·.2.2) else []
 | [],_=>by rw [if_neg (λ z=>by cases z)];rfl
 | m::ks,nd=>by
  obtain ⟨n1,n2⟩:=List.nodup_cons.mp nd
  have ih:=zkn B L M k n2
  unfold clsh at ih ⊢
  rw [List.flatMap_cons,List.map_append,zdo,ih,zrx]
  by_cases e:m=k
  ·subst e
   rw [if_pos rfl,if_neg n1,if_pos List.mem_cons_self,List.append_nil]
  ·rw [if_neg e,List.nil_append]
   by_cases h:k∈ks
   ·rw [if_pos h,if_pos (List.mem_cons_of_mem _ h)]
   ·rw [if_neg h,if_neg λ z=>(List.mem_cons.mp z).elim (λ z=>e z.symm) h]
theorem zuw {B L M:Sh} {ks:List Mark} (h:IsMk L M ks) {m:Mark} (hm:m∉ks):cl1 (look B m) (look L m) (look M m) m=[]:=by
 rw [zkc (a:=L) λ z=>hm ((h.2 m).mpr (.inl z))]
 rfl
theorem zct {B L M A:Sh} {ks:List Mark} (h:IsMk L M ks) (m:Mark):asd (A++(clsh B L M ks).map λ c=>(c.1,c.2.2)) m=asd A m++(cl1 (look B m) (look L m) (look M m) m).map (·.2.2):=by
 rw [zdo,zkn B L M m (zig h.1)]
 by_cases hm:m∈ks
 ·rw [if_pos hm]
 ·rw [if_neg hm,zuw h hm]
  rfl
theorem zan {a b:Ver} (h:a.1<b.1):zce a b=true:=by
 unfold zce zfe
 rw [if_neg (by omega)]
 exact decide_eq_true h
theorem zdq {a b:Ver} (h:zce a b=true):gr a b=b∧ls a b=a:=by
 unfold gr ls
 exact ⟨if_pos h,if_pos h⟩
theorem znq {a b:Ver} (h:zce a b=false):gr a b=a∧ls a b=b:=by
 unfold gr ls
 rw [h]
 exact ⟨rfl,rfl⟩
theorem zmv {b:Option Ver} {g:List Ver} {t:Option Ver} {as:List Ver} {m:Mark} (h:Fin b g t as) (hb:∀ v,b=some v→v.1<(10:Int) ^ 16) (hg:∀ x∈g,(10:Int) ^ 16≤x.1∧b≠some x) {tt:Option Ver} {g1:List Ver}
  (ht:(g1=[]∧(tt=none ∨ tt=b)) ∨ ∃ v,tt=some v∧b≠some v∧(10:Int) ^ 16≤v.1∧g1=[v]):Fin b (g++g1) (mx t tt) (as++(cl1 b t tt m).map (·.2.2)):=by
 rcases ht with ⟨rfl,hn⟩ | ⟨v,rfl,hv,hv2,rfl⟩
 ·rw [List.append_nil]
  have key:mx t tt=t∧cl1 b t tt m=[]:=by
   rcases hn with rfl | rfl
   ·refine ⟨zpo t,?_⟩
    cases t <;> rfl
   ·cases tt with
    | none=>exact ⟨zpo t,by cases t <;> rfl⟩
    | some vb =>
     rcases h with ⟨_,rfl,_⟩ | ⟨u,rest,rfl,pm,_,_⟩
     ·refine ⟨zmx _,?_⟩
      unfold cl1
      rw [if_neg]
      show ¬ (!decide (some vb=some vb) && _)=true
      rw [decide_eq_true rfl]
      exact Bool.false_ne_true
     ·have hu:=hg u (pm.mem_iff.mp (List.mem_append_right _ (List.mem_singleton.mpr rfl)))
      have h1:=hb vb rfl
      have hl:zce u vb=false:=verLt_sto.asym (zan (by have:=hu.1;omega))
      refine ⟨by rw [zqu,(znq hl).1],?_⟩
      unfold cl1
      rw [if_neg]
      show ¬ (!decide (some u=some vb) && (!decide (some vb=some vb) && _))=true
      rw [decide_eq_true (rfl:some vb=some vb)]
      simp
  rw [key.1,key.2,List.map_nil,List.append_nil]
  exact h
 ·rcases h with ⟨rfl,rfl,rfl⟩ | ⟨u,rest,rfl,pm,hr,hmx⟩
  ·refine .inr ⟨v,[],?_,?_,λ _=>rfl,λ x hx=>.inl (List.mem_singleton.mp hx)⟩
   ·cases t with
    | none=>rfl
    | some vb =>
     have h1:=hb vb rfl
     rw [zqu,(zdq (zan (by omega))).1]
   ·have:cl1 t t (some v) m=[]:=by
     cases t with
     | none=>rfl
     | some vb =>
      unfold cl1
      rw [if_neg]
      show ¬ (!decide (some vb=some vb) && _)=true
      rw [decide_eq_true rfl]
      exact Bool.false_ne_true
    rw [this]
    exact .refl _
  ·have hu:u∈g:=pm.mem_iff.mp (List.mem_append_right _ (List.mem_singleton.mpr rfl))
   have hub:=(hg u hu).2
   have sw:∀ a c:Ver,(as++[a]++rest++[c]).Perm ((as++rest)++[a,c]):=λ a c=>by
    rw [List.append_assoc as,List.append_assoc as,List.append_assoc as]
    refine List.Perm.append_left as ?_
    show (([a]++rest)++[c]).Perm (rest++([a]++[c]))
    rw [← List.append_assoc rest]
    exact List.Perm.append_right _ List.perm_append_comm
   have sw2:((as++rest)++[ls u v,gr u v]).Perm (g++[v]):=by
    refine List.Perm.trans (l₂:=(as++rest)++[u,v]) ?_ ?_
    ·cases e:zce u v with
     | true=>rw [(zdq e).1,(zdq e).2]
     | false =>
      rw [(znq e).1,(znq e).2]
      exact List.Perm.append_left _ (List.Perm.swap _ _ _)
    ·rw [show (as++rest)++[u,v]=(as++rest++[u])++[v] by rw [List.append_assoc _ [u]];rfl]
     exact pm.append_right _
   have mxx:∀ x∈g++[v],x=gr u v ∨ zce x (gr u v)=true:=λ x hx=>by
    have hxx:x=v ∨ x=u ∨ zce x u=true:=(List.mem_append.mp hx).elim (λ z=>.inr (hmx x z)) λ z=>.inl (List.mem_singleton.mp z)
    cases e:zce u v with
    | true =>
     rw [(zdq e).1]
     rcases hxx with rfl | rfl | z
     ·exact .inl rfl
     ·exact .inr e
     ·exact .inr (verLt_sto.tr _ _ _ z e)
    | false =>
     rw [(znq e).1]
     rcases hxx with rfl | rfl | z
     ·by_cases ev:x=u
      ·exact .inl ev
      ·exact .inr (verLt_sto.tri _ _ (λ z=>ev z.symm) e)
     ·exact .inl rfl
     ·exact .inr z
   have dd:dueB b (some u) (some v) = !decide (u.2=v.2):=by
    show (!decide (some u=b) && (!decide (some v=b) && !decide (u.2=v.2)))=_
    rw [decide_eq_false (λ z=>hub z.symm),decide_eq_false (λ z=>hv z.symm)]
    rfl
   rw [zqu]
   by_cases e2:u.2=v.2
   ·have:cl1 b (some u) (some v) m=[]:=by
     unfold cl1
     rw [dd,decide_eq_true e2]
     rfl
    rw [this,List.map_nil,List.append_nil]
    refine .inr ⟨gr u v,rest++[ls u v],rfl,?_,λ z=>?_,mxx⟩
    ·rw [show as++(rest++[ls u v])++[gr u v]=(as++rest)++[ls u v,gr u v] by rw [← List.append_assoc as,List.append_assoc (as++rest)];rfl]
     exact sw2
    ·exfalso
     rw [List.map_append] at z
     exact (List.nodup_append.mp z).2.2 _ (List.mem_map_of_mem (f:=λ x:Ver=>x.2) hu) _ (List.mem_map_of_mem (f:=λ x:Ver=>x.2) (List.mem_singleton.mpr rfl)) e2
   ·have:cl1 b (some u) (some v) m=[(m,gr u v,ls u v)]:=by
     unfold cl1
     rw [dd,decide_eq_false e2]
     rfl
    rw [this]
    refine .inr ⟨gr u v,rest,rfl,(sw _ _).trans sw2,λ z=>hr ?_,mxx⟩
    rw [List.map_append] at z
    exact (List.nodup_append.mp z).1
theorem asd_mem {A:Sh} {x:Mark×Ver}:x.2∈asd A x.1↔x∈A:=by
 unfold asd
 constructor
 ·intro h
  obtain ⟨y,hy,e⟩:=List.mem_map.mp h
  obtain ⟨h1,h2⟩:=List.mem_filter.mp hy
  have:=of_decide_eq_true h2
  rw [show x=y from Prod.ext this.symm e.symm]
  exact h1
 ·intro h
  exact List.mem_map.mpr ⟨x,List.mem_filter.mpr ⟨h,decide_eq_true rfl⟩,rfl⟩
theorem zjx:∀ {A:Sh},(∀ m,(asd A m).Nodup)→A.Nodup
 | [],_=>List.nodup_nil
 | x::A,h=>by
  have e:∀ m,asd (x::A) m=asd [x] m++asd A m:=λ m=>zdo [x] A m
  refine List.nodup_cons.mpr ⟨λ hx=>?_,zjx λ m=>?_⟩
  ·have:=h x.1
   rw [e,show asd [x] x.1=[x.2] by rw [show [x]=[(x.1,x.2)] from rfl,zus,if_pos rfl]] at this
   exact (List.nodup_cons.mp this).1 (asd_mem.mpr hx)
  ·have:=h m
   rw [e] at this
   exact (List.nodup_append.mp this).2.1
theorem zti {Ts:List Sh} {os:List Nat} (h:os.Perm (List.range Ts.length)):(pkd Ts os).Perm Ts:=by
 have e:(List.range Ts.length).map (λ i=>Ts.getD i [])=Ts:=by
  refine List.ext_getElem? λ i=>?_
  rw [List.getElem?_map]
  by_cases hi:i<Ts.length
  ·rw [List.getElem?_range hi,List.getElem?_eq_getElem hi]
   show some (Ts.getD i [])=_
   rw [List.getD_eq_getElem?_getD,List.getElem?_eq_getElem hi]
   rfl
  ·rw [List.getElem?_eq_none (by rw [List.length_range];omega),List.getElem?_eq_none (by omega)]
   rfl
 have:=h.map λ i=>Ts.getD i []
 rw [e] at this
 exact this
theorem zpl {B:Sh} {Ts Ts':List Sh} (h:Ts'.Perm Ts) (m:Mark):(tv B Ts' m).Perm (tv B Ts m):=h.flatMap_right _
theorem zyn {B:Sh} {Ts:List Sh} {os:List Nat} (i:Nat) (m:Mark):tv B (pkd Ts os) m=tv B (pkd Ts (os.take i)) m++tv B (pkd Ts (os.drop i)) m:=by
 unfold tv pkd
 rw [← List.flatMap_append,← List.map_append,List.take_append_drop]
theorem zut {B:Sh} {Ts:List Sh} {os:List Nat} {i k:Nat} {T:Sh} (h:os[i]? = some k) (hT:Ts[k]? = some T) (m:Mark):tv B (pkd Ts (os.take (i+1))) m=tv B (pkd Ts (os.take i)) m++t1 B T m:=by
 obtain ⟨hi,e⟩:=List.getElem?_eq_some_iff.mp h
 unfold tv pkd
 rw [List.take_succ_eq_append_getElem hi,List.map_append,List.flatMap_append,List.map_singleton,List.flatMap_singleton,e,List.getD_eq_getElem?_getD,hT]
 rfl
structure FI (B:Sh) (Ts:List Sh) (U:List Mark) (os:List Nat) (L A:Sh):Prop where
 u:∀ m∈mks L,m∈U
 f:∀ m,Fin (look B m) (tv B (pkd Ts os) m) (look L m) (asd A m)
theorem zin {b:Option Ver} {g:List Ver} {t:Option Ver} {as:List Ver} (h:Fin b g t as):(g.Nodup→as.Nodup)∧∀ v∈as,v∈g:=by
 rcases h with ⟨_,_,rfl⟩ | ⟨u,rest,_,pm,_,_⟩
 ·exact ⟨λ _=>List.nodup_nil,λ v hv=>by cases hv⟩
 ·rw [List.append_assoc] at pm
  exact ⟨λ hn=>(List.nodup_append.mp (pm.nodup_iff.mpr hn)).1,λ v hv=>pm.mem_iff.mp (List.mem_append_left _ hv)⟩
theorem zj0 {b:Option Ver} {g:List Ver} {t:Option Ver} {as as':List Ver} (h:Fin b g t as) (p:as'.Perm as):Fin b g t as':=by
 rcases h with ⟨h1,h2,rfl⟩ | ⟨u,rest,h1,pm,h2,h3⟩
 ·exact .inl ⟨h1,h2,List.perm_nil.mp p⟩
 ·exact .inr ⟨u,rest,h1,((p.append_right rest).append_right [u]).trans pm,h2,h3⟩
theorem FI.nd {B:Sh} {Ts:List Sh} {U V:List Mark} {os:List Nat} {n:Int} {i:Nat} {L A:Sh} (h:FI B Ts U (os.take i) L A) (hA:AllT B n V Ts) (ho:os.Perm (List.range Ts.length)):A.Nodup∧∀ x∈A,x.2∈tv B Ts x.1:=by
 have hp:∀ m,(tv B (pkd Ts os) m).Perm (tv B Ts m):=λ m=>zpl (zti ho) m
 refine ⟨zjx λ m=>(zin (h.f m)).1 ?_,λ x hx=>(hp x.1).mem_iff.mp ?_⟩
 ·have h1:=(zkz hA m Ts.length).1
  rw [List.take_length] at h1
  have h2:=(hp m).nodup_iff.mpr h1
  rw [zyn i m] at h2
  exact (List.nodup_append.mp h2).1
 ·rw [zyn i x.1]
  exact List.mem_append_left _ ((zin (h.f x.1)).2 _ (asd_mem.mpr hx))
theorem FI.step {B:Sh} {Ts:List Sh} {U:List Mark} {os:List Nat} {n:Int} {i k:Nat} {L A T:Sh} {ks:List Mark} (h:FI B Ts U (os.take i) L A) (hA:AllT B n U Ts) (hB:BOk B) (ho:os[i]? = some k) (hT:Ts[k]? = some T) (isk:IsMk L T ks) (hin:∀ j∈os,j<Ts.length):FI B Ts U (os.take (i+1)) (mrg L T ks) (A++(clsh B L T ks).map λ c=>(c.1,c.2.2)) where
 u:=λ m hm=>by
  obtain ⟨x,hx,rfl⟩:=List.mem_map.mp hm
  obtain ⟨m',hm',rfl⟩:=List.mem_map.mp hx
  exact ((isk.2 m').mp hm').elim (h.u m') ((hA k T hT).u m')
 f:=λ m=>by
  rw [zut ho hT m,zlt isk m,zct isk m]
  refine zmv (h.f m) (λ v hv=>hB.bt _ (zta hv)) (λ x hx=>?_) ?_
  ·obtain ⟨T',hT',ht⟩:=List.mem_flatMap.mp hx
   obtain ⟨j,hj,rfl⟩:=List.mem_map.mp hT'
   have hjl:=hin j (List.mem_of_mem_take hj)
   have e:Ts.getD j []=Ts[j]:=by rw [List.getD_eq_getElem?_getD,List.getElem?_eq_getElem hjl];rfl
   rw [e] at ht
   have:=zwf (hA j _ (List.getElem?_eq_getElem hjl)) ht
   exact ⟨this.2.2.1,this.2.1⟩
  ·cases e:look T m with
   | none=>exact .inl ⟨by unfold t1;rw [e],.inl rfl⟩
   | some v =>
    by_cases hb:some v=look B m
    ·exact .inl ⟨zpy e hb,.inr hb⟩
    ·have h1:v∈t1 B T m:=by rw [zap e hb];exact List.mem_singleton.mpr rfl
     have:=zwf (hA k T hT) h1
     exact .inr ⟨v,rfl,λ z=>hb z.symm,this.2.2.1,zap e hb⟩
theorem zqn (B L M:Sh):∀ ks:List Mark,(clsh B L M ks).length≤ks.length
 | []=>Nat.le_refl _
 | m::ks=>by
  have ih:=zqn B L M ks
  have h1:(cl1 (look B m) (look L m) (look M m) m).length≤1:=by
   unfold cl1
   split
   ·exact Nat.le_refl _
   ·exact Nat.zero_le _
  unfold clsh at ih ⊢
  rw [List.flatMap_cons,List.length_append,List.length_cons]
  omega
theorem zam {l:List Ver} (h:vSt l) {z:Ver} (hz:l.getLast? = some z):(∀ x∈l,x=z ∨ zce x z=true)∧l=l.dropLast++[z]:=by
 have hne:l≠[]:=λ e=>by rw [e] at hz;cases hz
 have e:l=l.dropLast++[z]:=by
  have h1:=List.dropLast_concat_getLast hne
  rw [List.getLast?_eq_some_getLast hne] at hz
  rw [Option.some.inj hz] at h1
  exact h1.symm
 refine ⟨λ x hx=>?_,e⟩
 rw [e] at h hx
 rcases List.mem_append.mp hx with hx | hx
 ·exact .inr ((List.pairwise_append.mp h).2.2 x hx z (List.mem_singleton.mpr rfl))
 ·exact .inl (List.mem_singleton.mp hx)
theorem zcz {a:Sh} (h:srtd a):(mks a).Nodup:=List.pairwise_map.mpr (h.imp fun {x y} e z=>by
 rw [z,mLt_sto.irr] at e
 cases e)
theorem pp_sto:STO ppLt:=zlg mLt_sto verLt_sto
theorem zpu {a:Sh} (h:pSt a):a.Nodup:=h.imp fun {x y} e z=>by
 rw [z,pp_sto.irr] at e
 cases e
theorem zzx {B:Sh} {Ts Ts':List Sh} {s:Mark→List Ver} {D A D' A':Sh} {es:List Ent} (hs:∀ m,(s m).Perm (tv B Ts m)∧vSt (s m)) (du:DueA B s D A es) (sd':srtd D') (sa':pSt A') (hf:∀ m,Fin (look B m) (tv B Ts' m) (look D' m) (asd A' m)) (hp:∀ m,(tv B Ts' m).Perm (tv B Ts m)):D'=D∧A'.filter (λ x=>(zab es x.1).isSome)=A:=by
 have pm:∀ m,(s m).Perm (tv B Ts' m):=λ m=>(hs m).1.trans (hp m).symm
 have top:∀ m u rest,(asd A' m++rest++[u]).Perm (tv B Ts' m)→(∀ x∈tv B Ts' m,x=u ∨ zce x u=true)→(s m).getLast? = some u:=λ m u rest h1 h2=>by
  have hu:u∈s m:=(pm m).mem_iff.mpr (h1.mem_iff.mp (List.mem_append_right _ (List.mem_singleton.mpr rfl)))
  cases e:(s m).getLast? with
  | none=>rw [List.getLast?_eq_none_iff.mp e] at hu;cases hu
  | some z =>
   obtain ⟨h3,_⟩:=zam (hs m).2 e
   rcases h2 z ((pm m).mem_iff.mp (List.mem_of_getLast? e)) with z1 | z1
   ·rw [z1]
   ·rcases h3 u hu with z2 | z2
    ·rw [z2]
    ·rw [verLt_sto.asym z1] at z2
     cases z2
 have lk:∀ m,look D' m=look D m:=λ m=>by
  rw [du.lk m]
  rcases hf m with ⟨h1,h2,_⟩ | ⟨u,rest,h1,h2,_,h4⟩
  ·have:s m=[]:=List.perm_nil.mp (h1 ▸ pm m)
   rw [if_pos this,h2]
  ·have ht:=top m u rest h2 h4
   rw [if_neg (λ z=>by rw [z] at ht;cases ht),ht,h1]
 refine ⟨?_,?_⟩
 ·have mem:∀ {X Y:Sh},srtd X→(∀ m,look X m=look Y m)→∀ x∈X,x∈Y:=λ hX hl x hx=>zta ((hl x.1).symm.trans (zfc (zcz hX) hx))
  have nd:∀ {X:Sh},srtd X→X.Nodup:=λ hX=>hX.imp fun {x y} e z=>by
   rw [z,mLt_sto.irr] at e
   cases e
  exact uniq (r:=λ (a b:Mark×Ver)=>mLt a.1 b.1=true) (λ a b h1 h2=>zu2 a.1 b.1 h1 h2) (zpe (nd sd') (nd du.sd) λ x=>⟨mem sd' lk x,mem du.sd (λ m=>(lk m).symm) x⟩) sd' du.sd
 ·have hfil:pSt (A'.filter λ x=>(zab es x.1).isSome):=List.Pairwise.sublist List.filter_sublist sa'
  refine uniq (r:=λ (a b:Mark×Ver)=>ppLt a b=true) (λ a b h1 h2=>by rw [pp_sto.asym h1] at h2;cases h2) (zpe (zpu hfil) (zpu du.sa) λ x=>?_) hfil du.sa
  rw [List.mem_filter,du.ma x,du.cl x.1]
  have key:Clr s x.1→(x∈A'↔x.2∈(s x.1).dropLast):=λ hc=>by
   rw [← asd_mem]
   rcases hf x.1 with ⟨h1,_,_⟩ | ⟨u,rest,_,h2,h3,h4⟩
   ·exact absurd (List.perm_nil.mp (h1 ▸ pm x.1)) hc.1
   ·have hr:rest=[]:=h3 (((pm x.1).map (λ v:Ver=>v.2)).nodup_iff.mp hc.2)
    have e:=(zam (hs x.1).2 (top x.1 u rest h2 h4)).2
    rw [hr,List.append_nil] at h2
    have h5:(asd A' x.1++[u]).Perm ((s x.1).dropLast++[u]):=by
     rw [← e]
     exact h2.trans (pm x.1).symm
    exact ((List.perm_append_right_iff _).mp h5).mem_iff
  exact ⟨λ z=>⟨z.2,(key z.2).mp z.1⟩,λ z=>⟨(key z.1).mpr z.2,z.1⟩⟩
theorem zvr {N r a:Nat} (hr:r<N) (ha:a<N):(a+r) % N=if a+r<N then a+r else a+r - N:=by
 split
 ·rename_i h;exact Nat.mod_eq_of_lt h
 ·rename_i h
  rw [Nat.mod_eq_sub_mod (by omega),Nat.mod_eq_of_lt (by omega)]
theorem zgt {N r:Nat} (hr:r<N):((List.range N).map λ k=>(k+r) % N).Perm (List.range N):=by
 refine zpe (List.pairwise_map.mpr (List.Pairwise.imp_of_mem (fun {a b} ha hb ne e=>ne ?_) List.nodup_range)) List.nodup_range λ x=>?_
 ·constructor
  ·intro h
   obtain ⟨k,hk,rfl⟩:=List.mem_map.mp h
   exact List.mem_range.mpr (Nat.mod_lt _ (by omega))
  ·intro h
   have hx:=List.mem_range.mp h
   by_cases hle:r≤x
   ·refine List.mem_map.mpr ⟨x - r,List.mem_range.mpr (by omega),?_⟩
    rw [show x - r+r=x by omega,Nat.mod_eq_of_lt hx]
   ·refine List.mem_map.mpr ⟨x+N - r,List.mem_range.mpr (by omega),?_⟩
    rw [show x+N - r+r=x+N by omega,Nat.add_mod_right,Nat.mod_eq_of_lt hx]
 ·have ha:=List.mem_range.mp ha
  have hb:=List.mem_range.mp hb
  rw [zvr hr ha,zvr hr hb] at e
  split at e <;> split at e <;> omega
section
variable (P:Program) (w:World) (K:W.Frag) (mg:Str→Option Value) (B:Heap) (A:Adr)
noncomputable abbrev zgy:Prop:=FnOk P w K mg B (CX1 P w B) 1 A.f_q16 A.d_q16 ["one", "other"] (zc5 K)
noncomputable abbrev zwy:Prop:=FnOk P w K mg B (CX1 P w B) 1 A.f_q15 A.d_q15 ["one", "other"] (zq1 K)
noncomputable abbrev zwz:Prop:=FnOk P w K mg B (CX1 P w B) 1 A.f_q0 A.d_q0 ["self", "pairs"] (za0 P w K A.Sheet A.NoSheet)
noncomputable abbrev ze2:Prop:=FnOk P w K mg B (CX1 P w B) 1 A.f_q2 A.d_q2 ["self"] (zz1 P w K A.Sheet)
noncomputable abbrev za3:Prop:=FnOk P w K mg B (CX1 P w B) 1 A.f_q1 A.d_q1 ["self", "mark"] (za1 P w K A.Sheet)
noncomputable abbrev zpx:Prop:=FnOk P w K mg B (CX1 P w B) 2 A.f_q13 A.d_q13 ["one", "other"] (zz0 P w K A)
noncomputable abbrev znx:Prop:=FnOk P w K mg B (CX1 P w B) 2 A.f_q11 A.d_q11 ["before", "there", "here"] (zj1 K)
noncomputable abbrev ztw:Prop:=FnOk P w K mg B (CX1 P w B) 3 A.f_q14 A.d_q14 ["base", "last", "mine"] (zi2 P w K A)
noncomputable abbrev ziz:Prop:=FnOk P w K mg B (CX1 P w B) 1 A.f_q5 A.d_q5 ["_law_cell", "_law_place"] zhk
noncomputable abbrev zz2:Prop:=FnOk P w K mg B (CX1 P w B) 1 A.f_q9 A.d_q9 [] zkt
noncomputable abbrev ze3:Prop:=FnOk P w K mg B (CX1 P w B) 2 A.f_q8 A.d_q8 ["_law_one", "_law_other"] zcu
noncomputable abbrev zo0:Prop:=FnOk P w K mg B (CX1 P w B) 3 A.f_q3 A.d_q3 ["_law_some"] (zn0 K)
noncomputable abbrev zc3:Prop:=FnOk P w K mg B (CX1 P w B) 4 A.f_q7 A.d_q7 ["_law_cells"] (zc0 K)
noncomputable abbrev zfx:Prop:=FnOk P w K mg B (CX1 P w B) 4 A.f_q10 A.d_q10 ["_law_base", "_law_cells", "_law_many"] (zo2 P w K)
noncomputable abbrev zp3:Prop:=FnOk P w K mg B (CX1 P w B) 4 A.f_q6 A.d_q6 ["_law_base", "_law_tables", "_law_order"] (zo1 P w K A)
noncomputable abbrev zy2:Prop:=FnOk P w K mg B (CX1 P w B) 1 A.f_q4 A.d_q4 ["_law_base", "_law_tables"] (zqz P w K)
noncomputable abbrev zyx:Prop:=FnOk P w K mg B (CX1 P w B) 2 A.f_q12 A.d_q12 ["_law_base", "_law_tables"] (zp1 P w K)
noncomputable abbrev zd2:Prop:=FnOk P w K mg B (CX1 P w B) 5 A.f_law A.d_law ["_law_script"] (sp_law K)
end
set_option maxHeartbeats 4000000
section
variable {P:Program} {w:World} {K:W.Frag} {mg:Str→Option Value} {B:Heap} {A:Adr}
theorem zuz:FnScope ["one", "other"] ["one", "other"] (zja ztz):=by walk_at "sc"
theorem za2 (T:Txt K mg A)  : zgy P w K mg B A:=by
 refine T.F_q16.okN zuz (λ vs H Q E h=>?_) (λ _ _ _ _ H vs Q E hr h=>?_)
 ·obtain ⟨_,a,⟨x,y,rfl,_⟩,_⟩:=h
  rfl
 ·obtain ⟨hp,⟨a,b⟩,⟨x,y,hv,hx,hy,oa,ob⟩,q,_⟩:=h
  obtain rfl:vs=[x,y]:=hv
  obtain ⟨t,pa,rfl,hq,hd⟩:=zvi hx
  obtain ⟨t2,pa2,rfl,hq2,hd2⟩:=zvi hy
  dsimp only at *
  refine ⟨_,(zha (zmb (zsm (zbw hr.units) (zlc zjn (pv 0) (zqc zea) zmf) (zlc zjn (pv 1) (zqc zea) zmf) (zcc _)))),?_⟩
  refine ⟨_,rfl,_,rfl,t,_,rfl,hq,λ p1 H1 g1 s1 pg1=>?_⟩
  refine ⟨_,rfl,_,rfl,t2,_,rfl,s1.seqT hq2,λ p2 H2 g2 s2 pg2=>?_⟩
  have e1:DV K H2 (pwd a.2) (.ref p1):=⟨p1,_,rfl,s2.seqT g1,_,_,rfl,DV.same (s1.trans s2) _ _ hd,_,_,rfl,rfl,rfl⟩
  have e2:DV K H2 (pwd b.2) (.ref p2):=⟨p2,_,rfl,g2,_,_,rfl,DV.same (s1.trans s2) _ _ hd2,_,_,rfl,rfl,rfl⟩
  refine ⟨pwd a.2,pwd b.2,e1,e2,zze oa,zze ob,q _ _ ?_ (s1.trans s2) (pg2 (pg1 hp))⟩
  rw [zrs]
theorem zg1:FnScope ["one", "other"] ["one", "other"] (zja zm2):=by walk_at "sc"
theorem zb2 (T:Txt K mg A)  : zwy P w K mg B A:=by
 refine T.F_q15.okN zg1 (λ vs H Q E h=>?_) (λ _ _ _ _ H vs Q E hr h=>?_)
 ·obtain ⟨_,a,⟨x,y,rfl,_⟩,_⟩:=h
  rfl
 ·obtain ⟨hp,⟨a,b⟩,⟨x,y,hv,hx,hy,ha,hb⟩,q,_⟩:=h
  obtain rfl:vs=[x,y]:=hv
  dsimp only at *
  refine ⟨_,(zca (zuk (zfb zfp (pv 0) zhn (zcc _)) (zha (zmb (pv 1))) zwb)
   (zca (zuk (zfb zfp (pv 1) zhn (zcc _)) (zha (zmb (pv 0))) zwb)
   (zha (zmb (zya (ztn rfl hr.u100) rfl T.n_max (by decide +kernel) (zaa (pv 0) (zaa (pv 1) zfa))))))),?_⟩
  rcases zfk a with ea | ⟨va,ea⟩
  ·refine ⟨_,rfl,rfl,_,rfl,zjz ((zgg hx).mpr ea) ⟨_,rfl,q _ _ ?_ (Same.refl _) hp⟩⟩
   rw [ea];exact hy
  ·refine ⟨_,rfl,rfl,_,rfl,zow (λ z=>by rw [(zgg hx).mp z] at ea;cases ea) ?_⟩
   rcases zfk b with eb | ⟨vb,eb⟩
   ·refine ⟨_,rfl,rfl,_,rfl,zjz ((zgg hy).mpr eb) ⟨_,rfl,q _ _ ?_ (Same.refl _) hp⟩⟩
    rw [eb,zpo];exact hx
   ·refine ⟨_,rfl,rfl,_,rfl,zow (λ z=>by rw [(zgg hy).mp z] at eb;cases eb) ?_⟩
    refine ⟨_,rfl,_,rfl,x,y,ver va,ver vb,_,rfl,zsk hx ea,zsk hy eb,zzc (ha va ea),zzc (hb vb eb),zcm va vb,q _ _ ?_ (Same.refl _) hp⟩
    have em:mx a b=if zce va vb=true then some vb else some va:=by rw [ea,eb];rfl
    rw [em]
    cases zce va vb with
    | true=>rw [if_pos rfl,if_pos rfl,← eb];exact hy
    | false=>rw [if_neg Bool.false_ne_true,if_neg Bool.false_ne_true,← ea];exact hx
theorem zu3:FnScope ["self", "pairs"] ["self", "pairs"] (zja s_q0):=by walk_at "sc"
theorem zt3 (T:Txt K mg A)  : zwz P w K mg B A:=by
 refine T.F_q0.okX zu3 (λ vs H Q E h=>?_) (λ _ _ _ _ H vs Q E hr h=>?_)
 ·obtain ⟨_,p,dx,l,ws,ms,rfl,_⟩:=h
  rfl
 ·obtain ⟨hP,p,dx,l,ws,ms,rfl,hp,hl,hd,hok,few,q,qe⟩:=h
  refine ⟨_,(zca (zx0 (pv 0) (zzb (zlo rfl hr.u100) rfl T.n_dict (by decide +kernel) (zaa (pv 1) zfa)) rfl)
   (zha (zuk (zfb zx3 (zya ziq rfl T.n_len (by decide +kernel) (zaa (zyu (pv 0) rfl) zfa)) (zya zac rfl T.n_len (by decide +kernel) (zaa (pv 1) zfa)) (zcc _)) (zha (zlu T.x_NoSheet zco rfl rfl T.g_NoSheet (zaa zfj zfa))) zwb))),?_⟩
  obtain ⟨ps,h1,h2⟩:=zdl hd
  have hpl:ps.length=ws.length:=Paired.length h1
  have hpm:ps.length=ms.length:=Paired.length h2
  have emk:=zpb h2
  refine ⟨_,rfl,l,ws,ps,rfl,hl,h1,by omega,λ d o hd0=>?_⟩
  have npd:p≠d:=zda hp hd0
  refine ⟨_,rfl,p,A.Sheet,dx,[],rfl,(by rw [zga npd];exact hp),T.cl_Sheet,T.na_Sheet_versions,(by show 0<1000;decide),?_⟩
  have keep:∀ b o',b≠p→H b=some o'→(upd (upd H d (dO P w d (zqb [] ps) o)) p (.ins A.Sheet dx (putF "versions" (.ref d) []))) b=some o':=λ b o' hb e=>by
   rw [zga hb,zga (zda e hd0)];exact e
  have P2:Plain (upd (upd H d (dO P w d (zqb [] ps) o)) p (.ins A.Sheet dx (putF "versions" (.ref d) []))):=Plain.ins (Plain.ext hP)
  have hp2:(upd (upd H d (dO P w d (zqb [] ps) o)) p (.ins A.Sheet dx (putF "versions" (.ref d) []))) p=some (.ins A.Sheet dx [("versions",.ref d)]):=upd_same
  have hd2:(upd (upd H d (dO P w d (zqb [] ps) o)) p (.ins A.Sheet dx (putF "versions" (.ref d) []))) d=some (dO P w d (zqb [] ps) o):=by rw [zga npd.symm];exact upd_same
  have hl2:SqL K (upd (upd H d (dO P w d (zqb [] ps) o)) p (.ins A.Sheet dx (putF "versions" (.ref d) []))) l ws:=by
   rcases hl with (z | ⟨o',z⟩) | z
   ·exact .inl (.inl (keep _ _ (zqf z hp (by intro z;cases z)) z))
   ·exact .inl (.inr ⟨o',keep _ _ (zqf z hp (by intro z;cases z)) z⟩)
   ·exact .inr z
  have he2:EnS K (upd (upd H d (dO P w d (zqb [] ps) o)) p (.ins A.Sheet dx (putF "versions" (.ref d) []))) ps ms:=by
   have sd:Same H (upd H d (dO P w d (zqb [] ps) o)):=zba hd0
   have hpd:(upd H d (dO P w d (zqb [] ps) o)) p=some (.ins A.Sheet dx []):=sd _ _ hp
   refine (h2.imp (H':=upd H d (dO P w d (zqb [] ps) o)) (λ _ _ q=>sd.seqT q) λ _ _ q=>DV.same sd _ _ q).imp (λ a m q=>zrr hpd q) λ v x q=>zax hpd _ _ (zrc v) q
  refine ⟨_,rfl,p,A.Sheet,dx,_,_,rfl,hp2,T.cl_Sheet,T.na_Sheet_versions,rfl,d,_,o,rfl,hd2,_,rfl,l,ws,rfl,.inl hl2,rfl,_,rfl,?_⟩
  by_cases nd:(ms.map (·.1)).Nodup
  ·have e:zqb [] ps=ps:=zxg ps [] (by rw [List.nil_append,emk];exact nd)
   refine zy3 (by rw [e,hpl]) ?_
   exact q nd _ keep ⟨⟨dx,d,ps,o,hp2,hd2.trans (by rw [e]),he2⟩,nd,hok,few⟩ P2
  ·have e:=zvf ps [] List.nodup_nil (by rw [List.nil_append,emk];exact nd)
   rw [List.length_nil] at e
   refine zq4 (λ z=>by have:=V.int.inj z;omega) ?_
   exact ⟨sz_1,qe nd _ keep P2⟩
theorem zf4:FnScope ["self"] ["self"] (zja s_q2):=by walk_at "sc"
theorem zy4 (T:Txt K mg A)  : ze2 P w K mg B A:=by
 refine T.F_q2.okN zf4 (λ vs H Q E h=>?_) (λ _ _ _ _ H vs Q E hr h=>?_)
 ·obtain ⟨_,p,ms,rfl,_⟩:=h
  rfl
 ·obtain ⟨hP,p,ms,rfl,S,q⟩:=h
  refine ⟨_,(zha (zmb (zya (zki rfl hr.u100) rfl T.n_sorted (by decide +kernel) (zaa (zxt (zyu (pv 0) rfl)) zfa)))),?_⟩
  obtain ⟨dx,d,es,o,hp,hd,he⟩:=S.ex
  refine ⟨_,rfl,p,A.Sheet,dx,_,_,rfl,hp,T.cl_Sheet,T.na_Sheet_versions,rfl,d,es,o,rfl,hd,λ v hv=>?_⟩
  have sv:Same H (upd H v (zgz v d)):=zba hv
  have emk:=zpb he
  have hpm:es.length=ms.length:=Paired.length he
  refine ⟨v,d,es,o,λ m=>vdat (look ms m),rfl,upd_same,sv _ _ hd,λ e h=>sv.seqT (zkb he e h).1,λ e h=>?_,λ e h=>?_,by rw [emk];exact S.nd,by have:=S.few;omega,λ H' l bs ws s' p' hl pm pw hw=>?_⟩
  ·obtain ⟨_,x,h1,h2⟩:=zkb he e h
   dsimp only
   rw [zfc S.nd h1]
   exact DV.same sv _ _ h2
  ·obtain ⟨_,x,h1,h2⟩:=zkb he e h
   show SeqAt.shaped (.tuple [markD e.1,vdat (look ms e.1)])=true
   rw [zfc S.nd h1]
   exact zld (m:=(e.1,x)) (S.ok _ h1)
  ·rw [emk] at pm
   rw [zjg S.nd pm] at hw
   exact q _ l _ ws ((sv.trans s').free hl) ((sv.trans s').trans (zba hl)) (p' (Plain.ext hP)).lst upd_same (zbg S.nd pm) (zis pw) (DVs.same (zba hl) _ _ hw)
theorem zm4:FnScope ["self", "mark"] ["self", "mark"] (zja s_q1):=by walk_at "sc"
theorem za5 (T:Txt K mg A)  : za3 P w K mg B A:=by
 refine T.F_q1.okN zm4 (λ vs H Q E h=>?_) (λ _ _ _ _ H vs Q E hr h=>?_)
 ·obtain ⟨_,p,q0,m,ms,rfl,_⟩:=h
  rfl
 ·obtain ⟨hP,p,q0,m,ms,rfl,S,hm,q⟩:=h
  refine ⟨_,(zha (zmb (zun (zef hr) (zyu (pv 0) rfl) (pv 1)))),?_⟩
  obtain ⟨dx,d,es,o,hp,hd,he⟩:=S.ex
  have D:DM P w K H d es:=⟨⟨o,hd⟩,λ e h=>(zkb he e h).1⟩
  exact ⟨_,rfl,p,A.Sheet,dx,_,_,rfl,hp,T.cl_Sheet,T.na_Sheet_versions,rfl,d,es,rfl,D,_,rfl,q0,m,rfl,D,hm,q _ (zge he m)⟩
theorem zu0:FnScope ["one", "other"] ["one", "other"] (zja zc2):=by walk_at "sc"
theorem zt2 (T:Txt K mg A) (G_q2:ze2 P w K mg B A):zpx P w K mg B A:=by
 have B_q2:=T.b_q2
 refine T.F_q13.okN zu0 (λ vs H Q E h=>?_) (λ _ _ _ _ H vs Q E hr h=>?_)
 ·obtain ⟨_,a,b,⟨p1,p2,U,rfl,_⟩,_⟩:=h
  rfl
 ·obtain ⟨hP,a,b,⟨p1,p2,U,rfl,Sa,Sb,hU,few⟩,q⟩:=h
  refine ⟨_,(zha (zmb (zya (zui rfl hr.u100) rfl T.n_sorted (by decide +kernel) (zaa (zhl ["mark", "version"] 2 [] rfl hr.u100 (zbc (zoa zsl (zej (pv 0) T.cl_Sheet T.m_q2 G_q2 (hr.mono (by decide)) B_q2 .nil zde) (zej (pv 1) T.cl_Sheet T.m_q2 G_q2 (hr.mono (by decide)) B_q2 .nil zde))) gk2 (λ _ _ _ _ _=>zgf rfl (zla (zia (i:=0) (show List.Nodup (["mark", "version"]:List Str) by decide +kernel) rfl (Or.inl rfl)) (zla (zia (i:=1) (show List.Nodup (["mark", "version"]:List Str) by decide +kernel) rfl (Or.inl rfl)) zsc))) (λ _ _ _ _ _=>zxd) (λ _ _ _ _ _=>(pv 0))) zfa)))),?_⟩
  obtain ⟨dx1,_,_,_,hx1,_⟩:=id Sa.ex
  refine ⟨_,rfl,p1,dx1,_,rfl,hx1,rfl,hP,p1,a,rfl,Sa,λ H1 l1 as ws1 n1 s1 P1 hl1 pm1 pw1 hw1=>?_⟩
  obtain ⟨dx2,_,_,_,hx2,_⟩:=id (Sb.same s1).ex
  refine ⟨_,rfl,p2,dx2,_,rfl,hx2,rfl,P1,p2,b,rfl,Sb.same s1,λ H2 l2 bs ws2 n2 s2 P2 hl2 pm2 pw2 hw2=>?_⟩
  have fa:=Sa.few
  have fb:=Sb.few
  have hz1:ws1.length=as.length:=by rw [hw1.length,List.length_map]
  have hz2:ws2.length=bs.length:=by rw [hw2.length,List.length_map]
  have hy1:=pm1.length_eq
  have hy2:=pm2.length_eq
  refine ⟨l1,l2,ws1,ws2,rfl,rfl,s2 _ _ hl1,hl2,sm1 ((by omega)),λ pc hp3=>?_⟩
  have s3:Same H2 (upd H2 pc (.lst (ws1++ws2))):=zba hp3
  have P3:Plain (upd H2 pc (.lst (ws1++ws2))):=P2.lst
  have h3:(upd H2 pc (.lst (ws1++ws2))) pc=some (.lst (ws1++ws2)):=upd_same
  generalize upd H2 pc (.lst (ws1++ws2))=H3 at s3 P3 h3 ⊢
  have S3:=(s1.trans s2).trans s3
  have hw12:DVs K H3 ((as++bs).map prD) (ws1++ws2):=by
   rw [List.map_append]
   exact (DVs.same (s2.trans s3) _ _ hw1).append (DVs.same s3 _ _ hw2)
  have hzl:(ws1++ws2).length=(as++bs).length:=by rw [List.length_append,List.length_append,hz1,hz2]
  refine ⟨pc,rfl,⟨_,SqL.of h3⟩,λ D hD=>zxp (λ i=>(ws1++ws2).getD i .non) (λ i=>L2.markD ((as++bs).getD i ((0,0),(0,[], ""))).1) hD P3 (n:=(ws1++ws2).length) (by rw [List.length_append];omega) (λ i _=>zju _) (zil (SqL.of h3)) ?_ ?_⟩
  ·intro i H4 Tt hi P4 S4 ht
   have hic:i<(as++bs).length:=by omega
   obtain ⟨y,hy,hyd⟩:=hw12.get (i:=i) (d:=prD (as++bs)[i]) (by rw [List.getElem?_map,List.getElem?_eq_getElem hic];rfl)
   have ec:(as++bs).getD i ((0,0),(0,[], ""))=(as++bs)[i]:=by rw [List.getD_eq_getElem?_getD,List.getElem?_eq_getElem hic];rfl
   rw [ec] at ht
   obtain ⟨t,q0,vx,ey,hq,hm,_⟩:=zwk hyd
   have eg:(ws1++ws2).getD i .non = .ref t:=by rw [List.getD_eq_getElem?_getD,hy,ey];rfl
   rw [eg]
   exact ⟨t,_,rfl,S4.seqT hq,rfl,_,_,rfl,_,_,rfl,rfl,_,rfl,ht q0 H4 (zsg (S4.seqT hm)) (Same.refl _) P4⟩
  ·intro qs H4 SW hin hle S4 P4
   have hmk:∀ q∈qs,∃ m,q.2=L2.markD m:=λ q hq=>by
    obtain ⟨i,_,e⟩:=(hin q.2).mp ⟨q,hq,rfl⟩
    exact ⟨_,e.symm⟩
   have hiff:∀ m,(∃ q∈qs,q.2=L2.markD m)↔m∈mks a ∨ m∈mks b:=λ m=>by
    rw [hin (L2.markD m),hzl]
    exact zly pm1 pm2 _ m
   have hql:qs.length<64:=by
    have:(qs.map (·.2)).length≤(U.map L2.markD).length:=by
     classical
     refine zrb SW.nd λ d hd=>?_
     obtain ⟨q,hq,rfl⟩:=List.mem_map.mp hd
     obtain ⟨m,e⟩:=hmk q hq
     rw [e]
     exact List.mem_map_of_mem (hU m ((hiff m).mp ⟨q,hq,e⟩))
    rw [List.length_map,List.length_map] at this
    omega
   refine ⟨D,qs,rfl,SW,hmk,hql,λ l ks ws hl pw hk hkl hds=>?_⟩
   exact q l ks ws _ ((S3.trans S4).free hl) ((S3.trans S4).trans (zba hl)) P4.lst upd_same ⟨pw,λ m=>(hk m).trans (hiff m)⟩ (by omega) (DVs.same (zba hl) _ _ hds)
theorem zu1:FnScope ["before", "there", "here"] ["before", "there", "here"] (zja zs1):=by walk_at "sc"
theorem zb0 (T:Txt K mg A) (G_q16:zgy P w K mg B A):znx P w K mg B A:=by
 have B_q16:=T.b_q16
 refine T.F_q11.okN zu1 (λ vs H Q E h=>?_) (λ _ _ _ _ H vs Q E hr h=>?_)
 ·obtain ⟨_,x,y,z,b,t,h0,rfl,_⟩:=h
  rfl
 ·obtain ⟨hP,x,y,z,b,t,h0,rfl,hx,hy,hz,okb,okt,okh,q⟩:=h
  refine ⟨_,(zca (zuk (PW.pt (zq3 (zfb zfp (pv 1) zhn (zcc _)) (zsx (zfb zfp (pv 2) zhn (zcc _))))) (zha (zmb zxx)) zwb)
   (zha (zmb (zww (zsm (zrk hr.units) (pv 1) (pv 0) (zcc _)) (zww (zsm (zrk hr.units) (pv 2) (pv 0) (zcc _)) (zq2 (zf0 (zhb G_q16 (hr.mono (by decide)) rfl T.g_q16 T.k_q16 B_q16 .nil zde (zaa (pv 1) (zaa (pv 2) zfa)))))))))),?_⟩
  rcases zfk t with et | ⟨vt,et⟩
  ·refine ⟨_,rfl,rfl,_,rfl,zjz ((zgg hy).mpr et) (iteT ?_)⟩
   rw [et] at q
   exact q _ (Same.refl _) hP
  rcases zfk h0 with eh | ⟨vh,eh⟩
  ·refine ⟨_,rfl,rfl,_,rfl,zow (λ z=>by rw [(zgg hy).mp z] at et;cases et) ?_⟩
   refine ⟨_,rfl,rfl,_,rfl,zjz ((zgg hz).mpr eh) ?_⟩
   rw [et,eh] at q
   exact q _ (Same.refl _) hP
  refine ⟨_,rfl,rfl,_,rfl,zow (λ z=>by rw [(zgg hy).mp z] at et;cases et) ?_⟩
  refine ⟨_,rfl,rfl,_,rfl,zow (λ z=>by rw [(zgg hz).mp z] at eh;cases eh) ?_⟩
  refine ⟨_,rfl,_,rfl,vdat t,vdat b,hy,hx,zxa okt,zxa okb,_,rfl,?_⟩
  rw [zme]
  have eD:dueB b t h0=(!decide (t=b) && (!decide (h0=b) && !decide (vt.2=vh.2))):=by rw [et,eh];rfl
  rw [eD] at q
  by_cases e1:t=b
  ·rw [decide_eq_true e1] at q ⊢
   exact iteF (q _ (Same.refl _) hP)
  rw [decide_eq_false e1] at q ⊢
  refine iteT ?_
  refine ⟨_,rfl,_,rfl,vdat h0,vdat b,hz,hx,zxa okh,zxa okb,_,rfl,?_⟩
  rw [zme]
  by_cases e2:h0=b
  ·rw [decide_eq_true e2] at q ⊢
   exact iteF (q _ (Same.refl _) hP)
  rw [decide_eq_false e2] at q ⊢
  refine iteT ?_
  refine ⟨_,rfl,_,rfl,hP,(vt,vh),⟨_,_,rfl,zsk hy et,zsk hz eh,okt vt et,okh vh eh⟩,λ r H5 hr s5 P5=>⟨_,hr,?_⟩,λ _ _ h=>h.elim⟩
  exact q _ s5 P5
theorem sc_q14:FnScope ["base", "last", "mine", "pairs", "clashes", "mark", "there", "here", "stands"] ["base", "last", "mine"] (zja zv2):=by walk_at "sc"
theorem zw0 (T:Txt K mg A) (G_q15:zwy P w K mg B A) (G_q0:zwz P w K mg B A) (G_q1:za3 P w K mg B A) (G_q13:zpx P w K mg B A) (G_q11:znx P w K mg B A):ztw P w K mg B A:=by
 have B_q15:=T.b_q15
 have B_q0:=T.b_q0
 have B_q1:=T.b_q1
 have B_q13:=T.b_q13
 have B_q11:=T.b_q11
 refine T.F_q14.okX sc_q14 (λ vs H Q E h=>?_) (λ _ _ _ _ H vs Q E hr h=>?_)
 ·obtain ⟨_,pb,pl,pm,B,L,M,U,rfl,_⟩:=h
  rfl
 ·obtain ⟨hP,pb,pl,pm,B,L,M,U,rfl,SB,SL,SM,hU,few,q⟩:=h
  refine ⟨_,(zca (zpa (i:=3) sc_q14.nd rfl (Or.inl rfl) (zrd zfa))
   (zca (zpa (i:=4) sc_q14.nd rfl (Or.inl rfl) (zrd zfa))
   (zca (ztc PassesOwn.leaving rfl (zbc (zhb G_q13 (hr.mono (by decide)) rfl T.g_q13 T.k_q13 B_q13 .nil zde (zaa (pv 1) (zaa (pv 2) zfa)))) (zia (i:=5) sc_q14.nd rfl (Or.inl rfl)) (zca (zq0 (i:=6) (j:=7) rfl sc_q14.nd rfl rfl (by decide) rfl rfl (zaa (zoo (pv 1) T.cl_Sheet T.m_q1 G_q1 (hr.mono (by decide)) B_q1 .nil zde (zaa (pv 5) zfa)) (zaa (zoo (pv 2) T.cl_Sheet T.m_q1 G_q1 (hr.mono (by decide)) B_q1 .nil zde (zaa (pv 5) zfa)) zfa)) (by rfl))
   (zca (zpa (i:=8) sc_q14.nd rfl (Or.inl rfl) (zhb G_q15 (hr.mono (by decide)) rfl T.g_q15 T.k_q15 B_q15 .nil zde (zaa (pv 6) (zaa (pv 7) zfa))))
   (zca (zte (zkr PySem.F.plainAttrs_list PySem.F.slot_list_append PySem.F.type_list_append zjb (pv 3) (zaa (zdc (zaa (pv 5) (zaa (pv 8) zfa))) zfa)))
   (zha (zuk (zw1 (zhb G_q11 (hr.mono (by decide)) rfl T.g_q11 T.k_q11 B_q11 .nil zde (zaa (zoo (pv 0) T.cl_Sheet T.m_q1 G_q1 (hr.mono (by decide)) B_q1 .nil zde (zaa (pv 5) zfa)) (zaa (pv 6) (zaa (pv 7) zfa))))) (zha (zte (zkr PySem.F.plainAttrs_list PySem.F.slot_list_append PySem.F.type_list_append zjb (pv 4) (zaa (zdc (zaa (pv 5) (zaa (pv 8) (zaa (zeu (zfb (zbw hr.units) (pv 8) (pv 6) (zcc _)) (pv 7) (pv 6)) zfa)))) zfa)))) zwb))))))
   (zha (zmb (zdc (zaa (zxj T.mk_Sheet G_q0 (hr.mono (by decide)) rfl T.g_Sheet B_q0 .nil (Wants.passes zco) (zaa (pv 3) zfa)) (zaa (pv 4) zfa)))))))),?_⟩
  refine ⟨Nat.zero_le _,λ fl hfl=>?_⟩
  generalize hH1:upd H fl (HO.lst _)=H1
  have s1:Same H H1:=hH1 ▸ zba hfl
  have P1:Plain H1:=hH1 ▸ hP.lst
  have h1:=(congrFun hH1 fl).symm.trans upd_same
  refine ⟨Nat.zero_le _,λ cl hcl=>?_⟩
  generalize hH2:upd H1 cl (HO.lst _)=H2
  have s2:Same H1 H2:=hH2 ▸ zba hcl
  have P2:Plain H2:=hH2 ▸ P1.lst
  have h2:=(congrFun hH2 cl).symm.trans upd_same
  have S2:=s1.trans s2
  have nfc:fl≠cl:=zda h1 hcl
  refine ⟨_,rfl,_,rfl,P2,L,M,⟨pl,pm,U,rfl,SL.same S2,SM.same S2,hU,few⟩,λ l0 ks w0 H3 n3 s3 P3 h3 isk hkl hw3=>?_⟩
  have S3:=S2.trans s3
  have nlf:l0≠fl:=(zda (s2 _ _ h1) n3).symm
  have nlc:l0≠cl:=(zda h2 n3).symm
  have hwl:w0.length=ks.length:=by rw [hw3.length,List.length_map]
  have M3:MB P w K A.Sheet pb pl pm l0 B L M ks w0 H3:=⟨SB.same S3,SL.same S3,SM.same S3,h3,hw3⟩
  have hfl0:H fl=none:=hfl
  have hcl0:H cl=none:=s1.free hcl
  refine ⟨l0,rfl,⟨_,SqL.of h3⟩,zwc (K:=K) (a:=l0) (xs:=w0) (λ i σ H4=>∃ (o5 o6 o7 o8:Option V) (ys zs:List V),σ=[some (.ref pb),some (.ref pl),some (.ref pm),some (.ref fl),some (.ref cl),o5,o6,o7,o8]∧Plain H4∧Same H H4∧MB P w K A.Sheet pb pl pm l0 B L M ks w0 H4∧H4 fl=some (.lst ys)∧H4 cl=some (.lst zs)∧DVs K H4 ((mrg L M (ks.take i)).map prD) ys∧DVs K H4 ((clsh B L M (ks.take i)).map cl3D) zs∧ys.length≤i∧zs.length≤i)
   ⟨_,_,_,_,[],[],rfl,P3,S3,M3,(s2.trans s3) _ _ h1,s3 _ _ h2,rfl,rfl,Nat.le_refl _,Nat.le_refl _⟩ (λ i σ H4 _ ⟨_,_,_,_,_,_,_,_,_,m,_⟩=>SqL.of m.h) ?_ ?_⟩
  ·rintro i y σ H4 hy ⟨o5,o6,o7,o8,ys,zs,rfl,P4,S4,M4,f4,c4,hys,hzs,lys,lzs⟩
   have hi:i<ks.length:=by have:=(List.getElem?_eq_some_iff.mp hy).1;omega
   obtain ⟨y',hy',hyd⟩:=M4.d.get (i:=i) (d:=L2.markD ks[i]) (by rw [List.getElem?_map,List.getElem?_eq_getElem hi];rfl)
   rw [hy] at hy'
   cases hy'
   obtain ⟨q1,rfl,hq1⟩:=zll hyd
   have hne:=zwi isk (List.getElem_mem hi)
   obtain ⟨m,hm⟩:∃ m,m=ks[i]:=⟨_,rfl⟩
   rw [← hm] at hq1 hne
   have okL:okO (look L m):=λ v e=>SL.ok _ (zta e)
   have okM:okO (look M m):=λ v e=>SM.ok _ (zta e)
   have okB:okO (look B m):=λ v e=>SB.ok _ (zta e)
   obtain ⟨dx1,_,_,_,hx1,_⟩:=id M4.l.ex
   obtain ⟨dx2,_,_,_,hx2,_⟩:=id M4.m.ex
   refine ⟨_,rfl,pl,dx1,_,rfl,hx1,rfl,_,rfl,P4,pl,q1,m,L,rfl,M4.l,hq1,λ x hx=>?_⟩
   refine ⟨_,rfl,pm,dx2,_,rfl,hx2,rfl,_,rfl,P4,pm,q1,m,M,rfl,M4.m,hq1,λ y hy=>?_⟩
   refine ⟨x,y,rfl,?_⟩
   refine ⟨_,rfl,_,rfl,P4,(look L m,look M m),⟨x,y,rfl,hx,hy,okL,okM⟩,λ r H5 hr s5 P5=>?_,λ _ _ h=>h.elim⟩
   have hr:DV K H5 (vdat (mx (look L m) (look M m))) r:=hr
   have hx5:=DV.same s5 _ _ hx
   have hy5:=DV.same s5 _ _ hy
   have f5:=s5 _ _ f4
   rw [zwn hne] at hr
   obtain ⟨tr,pr,rfl,htr,hpr⟩:=zvi (show DV K H5 (ver (mrgV (look L m) (look M m))) r from hr)
   refine ⟨_,rfl,.inl ⟨rfl,_,SqL.of f5⟩,_,rfl,_,rfl,sz_2,λ t6 hp6=>?_⟩
   have s6:Same H5 (upd H5 t6 (.tup [.ref q1,.ref tr])):=zba hp6
   have P6:Plain (upd H5 t6 (.tup [.ref q1,.ref tr])):=P5.tup
   have h6:(upd H5 t6 (.tup [.ref q1,.ref tr])) t6=some (.tup [.ref q1,.ref tr]):=upd_same
   generalize upd H5 t6 (.tup [.ref q1,.ref tr])=H6 at s6 P6 h6 ⊢
   have S46:=s5.trans s6
   have f6:=s6 _ _ f5
   have c6:=S46 _ _ c4
   have M6:=M4.same S46
   refine ⟨fl,ys,_,rfl,rfl,f6,zka (by omega),?_⟩
   have kf:∀ c o,c≠fl→H6 c=some o→(upd H6 fl (.lst (ys++[.ref t6]))) c=some o:=λ c o n e=>by rw [zga n];exact e
   have M7:=M6.upd (ys:=ys++[.ref t6]) f6 nlf
   have f7:(upd H6 fl (.lst (ys++[.ref t6]))) fl=some (.lst (ys++[.ref t6])):=upd_same
   have c7:=kf _ _ nfc.symm c6
   have P7:Plain (upd H6 fl (.lst (ys++[.ref t6]))):=P6.lst
   have S7:Same H (upd H6 fl (.lst (ys++[.ref t6]))):=λ c o e=>kf _ _ (zda e hfl0) (S46 _ _ (S4 _ _ e))
   have hq7:=zsa (o' := .lst (ys++[.ref t6])) f6 (zlb _) (S46.seqT hq1)
   have hr7:DV K (upd H6 fl (.lst (ys++[.ref t6]))) (ver (mrgV (look L m) (look M m))) (.ref tr):=zhc f6 (zlb _) _ _ (zrc _) (DV.same s6 _ _ hr)
   have hx7:DV K (upd H6 fl (.lst (ys++[.ref t6]))) (vdat (look L m)) x:=zhc f6 (zlb _) _ _ (zpg _) (DV.same s6 _ _ hx5)
   have hy7:DV K (upd H6 fl (.lst (ys++[.ref t6]))) (vdat (look M m)) y:=zhc f6 (zlb _) _ _ (zpg _) (DV.same s6 _ _ hy5)
   have hys7:DVs K (upd H6 fl (.lst (ys++[.ref t6]))) ((mrg L M (ks.take (i+1))).map prD) (ys++[.ref t6]):=by
    refine zna f6 (zlb _) _ _ (zxb _) ?_
    rw [zdt hi,← hm,List.map_append]
    exact (DVs.same S46 _ _ hys).append ⟨_,_,rfl,⟨t6,_,rfl,SqT.of h6,_,_,rfl,zsg (S46.seqT hq1),_,_,rfl,DV.same s6 _ _ hr,rfl⟩,rfl⟩
   have hzs7:DVs K (upd H6 fl (.lst (ys++[.ref t6]))) ((clsh B L M (ks.take i)).map cl3D) zs:=zna f6 (zlb _) _ _ (zcg _) (DVs.same S46 _ _ hzs)
   have ly7:(ys++[V.ref t6]).length≤i+1:=by rw [List.length_append,List.length_singleton];omega
   generalize upd H6 fl (.lst (ys++[.ref t6]))=H7 at M7 f7 c7 P7 S7 hq7 hr7 hx7 hy7 hys7 hzs7 ⊢
   generalize ys++[V.ref t6]=ys7 at f7 hys7 ly7
   obtain ⟨dx3,_,_,_,hx3,_⟩:=id M7.b.ex
   refine ⟨_,rfl,pb,dx3,_,rfl,hx3,rfl,_,rfl,P7,pb,q1,m,B,rfl,M7.b,hq7,λ z hz=>?_⟩
   refine ⟨_,rfl,_,rfl,P7,z,x,y,look B m,look L m,look M m,rfl,hz,hx7,hy7,okB,okL,okM,λ H8 s8 P8=>⟨_,rfl,?_⟩⟩
   have ecl:=zcp (B:=B) (L:=L) (M:=M) hi
   rw [← hm] at ecl
   cases ed:dueB (look B m) (look L m) (look M m) with
   | false =>
    refine iteF ?_
    refine ⟨_,_,_,_,ys7,zs,rfl,P8,S7.trans s8,M7.same s8,s8 _ _ f7,s8 _ _ c7,DVs.same s8 _ _ hys7,?_,ly7,by omega⟩
    rw [ecl,show cl1 (look B m) (look L m) (look M m) m=[] by unfold cl1;rw [ed];rfl,List.append_nil]
    exact DVs.same s8 _ _ hzs7
   | true =>
    refine iteT ?_
    obtain ⟨vt,vh,et,eh,ne2⟩:=zrw ed
    have em:mrgV (look L m) (look M m)=gr vt vh:=by unfold mrgV;rw [et,eh,zqu];rfl
    have c8:=s8 _ _ c7
    have hr8:=DV.same s8 _ _ hr7
    have hx8:=DV.same s8 _ _ hx7
    have hy8:=DV.same s8 _ _ hy7
    rw [em] at hr8
    have okg:okV (gr vt vh):=zh3 okL okM _ (by rw [et,eh];exact zqu vt vh)
    refine ⟨_,rfl,.inl ⟨rfl,_,SqL.of c8⟩,_,rfl,_,rfl,?_⟩
    have ecl1:cl1 (look B m) (look L m) (look M m) m=[(m,gr vt vh,ls vt vh)]:=by
     unfold cl1
     rw [if_pos ed,et,eh]
     rfl
    refine ⟨_,rfl,_,rfl,vdat (some (gr vt vh)),vdat (look L m),hr8,hx8,zxa (λ v e=>by cases e;exact okg),zxa okL,_,rfl,?_⟩
    rw [zme,et]
    by_cases el:zce vt vh=true
    ·have eg:gr vt vh=vh:=by unfold gr;rw [if_pos el]
     rw [decide_eq_false (λ z=>ne2 (by rw [eg] at z;rw [← Option.some.inj z]))]
     refine iteF ?_
     refine ⟨_,rfl,sz_3,λ t9 hp9=>?_⟩
     have hv9:DV K H8 (ver (ls vt vh)) x:=by
      rw [show ls vt vh=vt by unfold ls;rw [if_pos el]]
      exact zsk hx8 et
     have s9:Same H8 (upd H8 t9 (.tup [.ref q1,.ref tr,x])):=zba hp9
     have P9:Plain (upd H8 t9 (.tup [.ref q1,.ref tr,x])):=P8.tup
     have h9:(upd H8 t9 (.tup [.ref q1,.ref tr,x])) t9=some (.tup [.ref q1,.ref tr,x]):=upd_same
     generalize upd H8 t9 (.tup [.ref q1,.ref tr,x])=H9 at s9 P9 h9 ⊢
     have c9:=s9 _ _ c8
     refine ⟨cl,zs,_,rfl,rfl,c9,zka (by omega),?_⟩
     have kc:∀ c o,c≠cl→H9 c=some o→(upd H9 cl (.lst (zs++[.ref t9]))) c=some o:=λ c o n e=>by rw [zga n];exact e
     have S79:=s8.trans s9
     refine ⟨_,_,_,_,ys7,zs++[.ref t9],rfl,P9.lst,λ c o e=>kc _ _ (zda e hcl0) (S79 _ _ (S7 _ _ e)),(M7.same S79).upd c9 nlc,kc _ _ nfc (S79 _ _ f7),upd_same,zna c9 (zlb _) _ _ (zxb _) (DVs.same S79 _ _ hys7),?_,ly7,by rw [List.length_append,List.length_singleton];omega⟩
     refine zna c9 (zlb _) _ _ (zcg _) ?_
     rw [ecl,ecl1,List.map_append]
     exact (DVs.same S79 _ _ hzs7).append ⟨_,_,rfl,⟨t9,_,rfl,SqT.of h9,_,_,rfl,zsg (S79.seqT hq7),_,_,rfl,DV.same s9 _ _ hr8,_,_,rfl,DV.same s9 _ _ hv9,rfl⟩,rfl⟩
    ·have eg:gr vt vh=vt:=by unfold gr;rw [if_neg el]
     rw [decide_eq_true (by rw [eg])]
     refine iteT ?_
     refine ⟨_,rfl,sz_3,λ t9 hp9=>?_⟩
     have hv9:DV K H8 (ver (ls vt vh)) y:=by
      rw [show ls vt vh=vh by unfold ls;rw [if_neg el]]
      exact zsk hy8 eh
     have s9:Same H8 (upd H8 t9 (.tup [.ref q1,.ref tr,y])):=zba hp9
     have P9:Plain (upd H8 t9 (.tup [.ref q1,.ref tr,y])):=P8.tup
     have h9:(upd H8 t9 (.tup [.ref q1,.ref tr,y])) t9=some (.tup [.ref q1,.ref tr,y]):=upd_same
     generalize upd H8 t9 (.tup [.ref q1,.ref tr,y])=H9 at s9 P9 h9 ⊢
     have c9:=s9 _ _ c8
     refine ⟨cl,zs,_,rfl,rfl,c9,zka (by omega),?_⟩
     have kc:∀ c o,c≠cl→H9 c=some o→(upd H9 cl (.lst (zs++[.ref t9]))) c=some o:=λ c o n e=>by rw [zga n];exact e
     have S79:=s8.trans s9
     refine ⟨_,_,_,_,ys7,zs++[.ref t9],rfl,P9.lst,λ c o e=>kc _ _ (zda e hcl0) (S79 _ _ (S7 _ _ e)),(M7.same S79).upd c9 nlc,kc _ _ nfc (S79 _ _ f7),upd_same,zna c9 (zlb _) _ _ (zxb _) (DVs.same S79 _ _ hys7),?_,ly7,by rw [List.length_append,List.length_singleton];omega⟩
     refine zna c9 (zlb _) _ _ (zcg _) ?_
     rw [ecl,ecl1,List.map_append]
     exact (DVs.same S79 _ _ hzs7).append ⟨_,_,rfl,⟨t9,_,rfl,SqT.of h9,_,_,rfl,zsg (S79.seqT hq7),_,_,rfl,DV.same s9 _ _ hr8,_,_,rfl,DV.same s9 _ _ hv9,rfl⟩,rfl⟩
  rintro σ H4 ⟨o5,o6,o7,o8,ys,zs,rfl,P4,S4,M4,f4,c4,hys,hzs,lys,lzs⟩
  rw [hwl,List.take_length] at hys hzs
  refine ⟨_,rfl,λ x dx nx ndx nex=>?_⟩
  have sx:Same H4 (upd (upd H4 dx (.own x)) x (.ins A.Sheet dx [])):=λ b o e=>by
   rw [zga (zda e nx),zga (zda e ndx)]
   exact e
  have ndm:(mks (mrg L M ks)).Nodup:=by
   have:mks (mrg L M ks)=ks:=by unfold mks mrg;rw [List.map_map];exact List.map_id _
   rw [this]
   exact zig isk.1
  have okm:∀ e∈mrg L M ks,okV e.2:=λ e he=>by
   obtain ⟨m,hm,rfl⟩:=List.mem_map.mp he
   refine zh3 (a:=look L m) (b:=look M m) (λ v e=>SL.ok _ (zta e)) (λ v e=>SM.ok _ (zta e)) _ ?_
   exact zwn (zwi isk hm)
  have lmk:(mrg L M ks).length=ks.length:=List.length_map _
  refine ⟨Plain.ins (P4.upd trivial),x,dx,fl,ys,mrg L M ks,rfl,upd_same,SqL.of (sx _ _ f4),DVs.same sx _ _ hys,okm,by omega,λ _ H5 k5 Sh5 P5=>⟨rfl,?_⟩,λ h=>absurd ndm h⟩
  have s5:Same H4 H5:=λ b o e=>k5 b o (zda e nx) (sx b o e)
  refine ⟨_,rfl,sz_2,λ t hp6=>?_⟩
  generalize hH6:upd H5 t (HO.tup _)=H6
  have s6:Same H5 H6:=hH6 ▸ zba hp6
  have P6:Plain H6:=hH6 ▸ P5.tup
  have h6:=(congrFun hH6 t).symm.trans upd_same
  exact q t x cl ks zs H6 hcl0 ((S4.trans s5).trans s6) P6 (SqT.of h6) (Sh5.same s6) ((s5.trans s6) _ _ c4) (DVs.same (s5.trans s6) _ _ hzs) isk hkl
theorem sc_q5:FnScope ["_law_cell", "_law_place", "_law_found", "_law_seed", "_law_k"] ["_law_cell", "_law_place"] (zja s_q5):=by walk_at "sc"
theorem zd4 (T:Txt K mg A)  : ziz P w K mg B A:=by
 refine zzl (T.F_q5.okN sc_q5 (λ vs H Q E h=>?_) (λ _ _ _ _ H vs Q E hr h=>?_))
 ·obtain ⟨_,a,rfl,_⟩:=h
  rfl
 ·obtain ⟨hp,⟨c,p⟩,rfl,q⟩:=h
  refine ⟨_,(zca (zpa (i:=2) sc_q5.nd rfl (Or.inl rfl) (zrd zfa))
   (zca (zuk (zlv zb3 zb3 (zoa ziu zea zea) (pv 0) zea) (zca (zpa (i:=3) sc_q5.nd rfl (Or.inl rfl) (zoa ztb (zoa zzk (zoa ztb (zoa zwa (pv 0) zea) zea) zea) (zoa zzk (zoa ztb (zoa zwa (pv 1) zea) zea) zea)))
   (zca (ztc PassesOwn.never rfl (znc rfl T.n_range (zaa zea zfa)) (zia (i:=4) sc_q5.nd rfl (Or.inl rfl)) (zca (zpa (i:=3) sc_q5.nd rfl (Or.inl rfl) (zoa zwa (zoa zzk (pv 3) zea) zea))
   (zha (zte (zkr PySem.F.plainAttrs_list PySem.F.slot_list_append PySem.F.type_list_append zjb (pv 2) (zaa (zoa zwa (zoa zmd (pv 3) zea) zea) zfa))))))
   (zha (zmb (pv 2))))) zwb)
   (zca (zpa (i:=3) sc_q5.nd rfl (Or.inl rfl) (zoa zwa (pv 0) (zoa zru zea zea)))
   (zca (ztc PassesOwn.never rfl (znc rfl T.n_range (zaa zea zfa)) (zia (i:=4) sc_q5.nd rfl (Or.inl rfl)) (zca (zte (zkr PySem.F.plainAttrs_list PySem.F.slot_list_append PySem.F.type_list_append zjb (pv 2) (zaa (zoa zwa (pv 3) zea) zfa)))
   (zha (zpa (i:=3) sc_q5.nd rfl (Or.inl rfl) (zoa zmd (pv 3) zea)))))
   (zha (zmb (pv 2))))))),?_⟩
  refine ⟨Nat.zero_le _,λ l hl=>?_⟩
  refine ⟨_,_,rfl,rfl,_,rfl,_,_,rfl,rfl,_,rfl,?_⟩
  refine zzv (λ h1=>⟨_,_,rfl,rfl,_,rfl,zzv (λ h2 => ?a) (λ h2 => ?b1)⟩) (λ h1=>⟨_,rfl,iteF ?b2⟩)
  case a =>
   walk_at "rd"
   refine ⟨by decide,by decide,zje (n:=8) (λ i σ H2=>∃ (seed:Int) (ds:List Int) (k:Option V),σ=[some (.int c),some (.int p),some (.ref l),some (.int seed),k]∧H2=upd H l (.lst (ds.map V.int))∧ds.length=i∧∀ d∈ds,Dig d)
    ⟨_,[],_,rfl,rfl,rfl,λ _ z=>nomatch z⟩ ?_ ?_⟩
   ·rintro i σ H2 hi ⟨seed,ds,k,rfl,rfl,hlen,hd⟩
    walk_at "rd"
    refine ⟨.inl ⟨rfl,_,SqL.of upd_same⟩,?_⟩
    walk_at "rd"
    refine ⟨l,_,_,rfl,rfl,upd_same,zka (by rw [List.length_map];omega),?_⟩
    refine ⟨_,ds++[_],_,rfl,by rw [zql,List.map_append];rfl,by simp [hlen],λ d hd'=>?_⟩
    rcases List.mem_append.mp hd' with z | z
    ·exact hd d z
    ·rw [List.mem_singleton.mp z];exact zmr _
   ·rintro σ H2 ⟨seed,ds,k,rfl,rfl,hlen,hd⟩
    refine ⟨_,rfl,?_⟩
    exact q l _ _ hl upd_same (zn3 hlen hd) (zba hl)
  case b1 | b2 =>
   walk_at "rd"
   refine ⟨by decide,by decide,zje (n:=8) (λ i σ H2=>∃ (seed:Int) (ds:List Int) (k:Option V),σ=[some (.int c),some (.int p),some (.ref l),some (.int seed),k]∧H2=upd H l (.lst (ds.map V.int))∧ds.length=i∧∀ d∈ds,Dig d)
    ⟨_,[],_,rfl,rfl,rfl,λ _ z=>nomatch z⟩ ?_ ?_⟩
   ·rintro i σ H2 hi ⟨seed,ds,k,rfl,rfl,hlen,hd⟩
    walk_at "rd"
    refine ⟨.inl ⟨rfl,_,SqL.of upd_same⟩,?_⟩
    walk_at "rd"
    refine ⟨l,_,_,rfl,rfl,upd_same,zka (by rw [List.length_map];omega),?_⟩
    walk_at "rd"
    refine ⟨_,ds++[_],_,rfl,by rw [zql,List.map_append];rfl,by simp [hlen],λ d hd'=>?_⟩
    rcases List.mem_append.mp hd' with z | z
    ·exact hd d z
    ·rw [List.mem_singleton.mp z];exact zmr _
   ·rintro σ H2 ⟨seed,ds,k,rfl,rfl,hlen,hd⟩
    refine ⟨_,rfl,?_⟩
    exact q l _ _ hl upd_same (zn3 hlen hd) (zba hl)
theorem sc_q9:FnScope ["_law_small"] [] (zja s_q9):=by walk_at "sc"
theorem zv3 (T:Txt K mg A)  : zz2 P w K mg B A:=by
 refine FnOk.pure (T.F_q9.okN sc_q9 (λ vs H Q E h=>?_) (λ _ _ _ _ H vs Q E hr h=>?_))
 ·obtain ⟨_,a,rfl,_⟩:=h
  rfl
 ·obtain ⟨hp,_,rfl,q⟩:=h
  refine ⟨_,(zca (zpa (i:=0) sc_q9.nd rfl (Or.inl rfl) zfj)
   (zha (zmb (zoa zid (zoa zid (zoa zid (zoa zid zfj (ze0 PySem.F.plainAttrs_str PySem.F.slot_str_upper PySem.F.type_str_upper zbv (pv 0))) zfj) (pv 0)) zfj)))),?_⟩
  refine ⟨_,rfl,rfl,⟨_,rfl,rfl,by decide +kernel,?_⟩⟩
  refine ⟨_,_,rfl,rfl,by decide +kernel,_,_,rfl,rfl,by decide +kernel,?_⟩
  refine ⟨_,rfl,_,_,rfl,rfl,by decide +kernel,_,_,rfl,rfl,by decide +kernel,?_⟩
  exact q _ _ rfl (Same.refl _)
theorem sc_q8:FnScope ["_law_one", "_law_other", "_law_signs_here"] ["_law_one", "_law_other"] (zja s_q8):=by walk_at "sc"
theorem zg4 (T:Txt K mg A) (G_q9:zz2 P w K mg B A):ze3 P w K mg B A:=by
 have B_q9:=T.b_q9
 refine FnOk.pure (T.F_q8.okN sc_q8 (λ vs H Q E h=>?_) (λ _ _ _ _ H vs Q E hr h=>?_))
 ·obtain ⟨_,a,rfl,_⟩:=h
  rfl
 ·obtain ⟨hp,⟨one,other⟩,rfl,q⟩:=h
  refine ⟨_,(zca (zpa (i:=2) sc_q8.nd rfl (Or.inr rfl) (zmt G_q9 (hr.mono (by decide)) rfl T.g_q9 T.k_q9 B_q9 .nil zde))
   (zha (zmb (zkr PySem.F.plainAttrs_str PySem.F.slot_str_join PySem.F.type_str_join zny zfj (zaa (zle ["_law_k", "_law_one", "_law_other", "_law_signs_here"] 1 [0,1,2] rfl (znc rfl T.n_range (zaa (zoa zwa (pv 1) zea) zfa)) gk1 (λ _ _ _ _ _=>zia (i:=0) (show List.Nodup (["_law_k", "_law_one", "_law_other", "_law_signs_here"]:List Str) by decide +kernel) rfl (Or.inl rfl)) (λ _ _ _ _ _=>zxd) (λ _ _ _ _ _=>(zsb zf2 (pv 3) (zoa zwa (zoa ztb (pv 1) (zoa zzk (pv 0) (zoa ztb (zoa zmd (pv 2) zea) zea))) zea) (λ _ _=>rfl)))) zfa))))),?_⟩
  refine ⟨hp,(),rfl,λ v hv=>?_⟩
  subst hv
  refine ⟨rfl,?_⟩
  walk_at "rd"
  have h7:=Int.emod_nonneg other (show (7:Int)≠0 by decide)
  have h8:=Int.emod_lt_of_pos other (show (0:Int)<7 by decide)
  have hk:(other % 7).toNat≤1000:=by omega
  refine ⟨by omega,by omega,λ D hD=>zpm (λ k=>.str ⟨#[SIGNS.cps.toList.getD ((one+(0+(k:Int)) * (other / 7+1)) % 94).toNat 0]⟩) (sm1 (hk)) ?_ ?_⟩
  ·intro i H2 R hi hR
   walk_at "rd"
   refine ⟨Or.inl ⟨by omega,by omega⟩,?_⟩
   walk_at "rd"
   refine ⟨_,_,_,rfl,rfl,by decide +kernel,zi1 (Int.emod_nonneg _ (by decide)) ?_,hR _ rfl⟩
   have e:SIGNS.cps.toList.length=94:=by have:=zkp;simpa [Str.length] using this
   rw [e]
   exact Int.emod_lt_of_pos _ (by decide)
  ·refine ⟨_,D,(List.range (other % 7).toNat).map λ (k:Nat)=>⟨#[SIGNS.cps.toList.getD ((one+(0+(k:Int)) * (other / 7+1)) % 94).toNat 0]⟩,rfl,rfl,SqL.of (by rw [upd_same,List.map_map];rfl),?_,?_⟩
   ·rw [zpn λ _=>rfl]
    show (other % 7).toNat+_ * 0≤16777216
    omega
   ·refine q _ _ ⟨_,rfl,?_,?_⟩ (zba hD)
    ·have:=zfr ((List.range (other % 7).toNat).map λ (k:Nat)=>(⟨#[SIGNS.cps.toList.getD ((one+(0+(k:Int)) * (other / 7+1)) % 94).toNat 0]⟩:Str))
     rw [zpn λ _=>rfl] at this
     have e:(⟨#[]⟩:Str) = "" := rfl
     rw [e] at this
     omega
    ·refine zau (by decide +kernel) λ p hp=>?_
     obtain ⟨k,_,rfl⟩:=List.mem_map.mp hp
     have:=zkv ((one+(0+(k:Int)) * (other / 7+1)) % 94).toNat
     simpa using this
theorem sc_q3:FnScope ["_law_some", "_law_beat", "_law_steps", "_law_k"] ["_law_some"] (zja s_q3):=by walk_at "sc"
theorem zw4 (T:Txt K mg A) (G_q8:ze3 P w K mg B A):zo0 P w K mg B A:=by
 have B_q8:=T.b_q8
 refine T.F_q3.okN sc_q3 (λ vs H Q E h=>?_) (λ _ _ _ _ H vs Q E hr h=>?_)
 ·obtain ⟨_,a,⟨rfl,_⟩,_⟩:=h
  rfl
 ·obtain ⟨hp,l,⟨rfl,hd⟩,q,_⟩:=h
  obtain ⟨d0,d1,d2,d3,d4,d5,d6,d7,hl,e0,e1,e2,e3,e4,e5,e6,e7⟩:=hd
  refine ⟨_,(zca (zpa (i:=1) sc_q3.nd rfl (Or.inl rfl) (zoa ztb (zoa ztb zea (zoa zwa (zsb zma (pv 0) zea (λ _ _=>rfl)) zea)) (zoa zzk (zoa zwa (zoa zmd (zsb zma (pv 0) zea (λ _ _=>rfl)) zea) zea) (zoa zru zea zea))))
   (zca (zuk (zfb zd1 (zoa zwa (zsb zma (pv 0) zea (λ _ _=>rfl)) zea) zea (zcc _)) (zha (zmb (zdc (zaa (pv 1) (zaa (zdc zfa) (zaa zfj zfa)))))) zwb)
   (zca (zpa (i:=2) sc_q3.nd rfl (Or.inl rfl) (zrd (zaa (zdc (zaa (zoa ziu (zoa zwa (zsb zma (pv 0) zea (λ _ _=>rfl)) zea) zea) (zaa (zoa zwa (zsb zma (pv 0) zea (λ _ _=>rfl)) zea) (zaa (zoa ztb zea (zoa zwa (zoa zmd (zsb zma (pv 0) zea (λ _ _=>rfl)) zea) zea)) zfa)))) zfa)))
   (zca (ztc PassesOwn.never rfl (znc rfl T.n_range (zaa (zoa zwa (zoa zmd (zsb zma (pv 0) zea (λ _ _=>rfl)) zea) zea) zfa)) (zia (i:=3) sc_q3.nd rfl (Or.inl rfl)) (zha (zte (zkr PySem.F.plainAttrs_list PySem.F.slot_list_append PySem.F.type_list_append zjb (pv 2) (zaa (zdc (zaa (zoa ziu (zoa zwa (zoa zmd (zsb zma (pv 0) zea (λ _ _=>rfl)) (zoa ztb (pv 3) zea)) zea) zea) (zaa (zoa ztb zea (zoa zwa (zoa zmd (zsb zma (pv 0) zea (λ _ _=>rfl)) (zoa ztb (pv 3) zea)) zea)) (zaa (zoa ztb zea (zoa zwa (zoa zmd (zsb zma (pv 0) zea (λ _ _=>rfl)) (zoa ztb (pv 3) zea)) zea)) zfa)))) zfa)))))
   (zha (zmb (zdc (zaa (pv 1) (zaa (zzb zxh rfl T.n_tuple (by decide +kernel) (zaa (pv 2) zfa)) (zaa (zhb G_q8 (hr.mono (by decide)) rfl T.g_q8 T.k_q8 B_q8 .nil zde (zaa (zsb zma (pv 0) zea (λ _ _=>rfl)) (zaa (zsb zma (pv 0) zea (λ _ _=>rfl)) zfa))) zfa)))))))))),?_⟩
  unfold Dig at *
  walk_at "rd"
  refine ⟨rfl,_,rfl,zzv (λ _ => ?a) (λ _ => ?b)⟩
  case a =>
   dsimp only
   have hb:1+d2 % 50+d2 / 50 % 2 * (10:Int) ^ Int.toNat 15<(10:Int) ^ 16:=by
    rw [show (10:Int) ^ Int.toNat 15=1000000000000000 from rfl]
    omega
   generalize 1+d2 % 50+d2 / 50 % 2 * 10 ^ Int.toNat 15=b at hb ⊢
   refine ⟨_,rfl,sz_0,λ te hp2=>?_⟩
   generalize hH2:upd H te (HO.tup _)=H2
   have s2:Same H H2:=hH2 ▸ zba hp2
   have P2:Plain H2:=hH2 ▸ hp.tup
   have h2:=(congrFun hH2 te).symm.trans upd_same
   refine ⟨sz_3,λ t hp3=>?_⟩
   generalize hH3:upd H2 t (HO.tup _)=H3
   have s3:Same H2 H3:=hH3 ▸ zba hp3
   have P3:Plain H3:=hH3 ▸ P2.tup
   have h3:=(congrFun hH3 t).symm.trans upd_same
   exact q _ _ ⟨(b,[], ""),zou (v:=(b,[], "")) (SqT.of h3) (DV.same s3 _ _ (zot h2)),znz "",hb⟩ (s2.trans s3) P3
  case b =>
   dsimp only
   have hb:1+d2 % 50+d2 / 50 % 2 * (10:Int) ^ Int.toNat 15<(10:Int) ^ 16:=by
    rw [show (10:Int) ^ Int.toNat 15=1000000000000000 from rfl]
    omega
   generalize 1+d2 % 50+d2 / 50 % 2 * 10 ^ Int.toNat 15=b at hb ⊢
   walk_at "rd"
   refine ⟨sz_3,λ t1 hp1=>?_⟩
   dsimp only
   generalize d4 % 3 - 1=r1
   generalize d5 % 3=r2
   generalize 1+d5 / 3 % 3=r3
   generalize hH1:upd H t1 (HO.tup _)=H1
   have s1:Same H H1:=hH1 ▸ zba hp1
   have P1:Plain H1:=hH1 ▸ hp.tup
   have h1:=(congrFun hH1 t1).symm.trans upd_same
   refine ⟨sz_1,λ st hp4=>?_⟩
   have S4:Same H1 (upd H1 st (.lst [.ref t1])):=zba hp4
   have hl1:=s1 _ _ hl
   have hl4:=S4 _ _ hl1
   have z1:=Int.emod_nonneg (d4 / 3) (show (3:Int)≠0 by decide)
   have z2:=Int.emod_lt_of_pos (d4 / 3) (show (0:Int)<3 by decide)
   refine ⟨_,rfl,_,_,_,_,rfl,rfl,SqL.of hl4,rfl,_,_,rfl,rfl,⟨by decide,by decide⟩,_,_,rfl,rfl,ip_3,_,rfl,by omega,by omega,zje (lo:=0) (n:=(d4 / 3 % 3).toNat) (λ i σ H2=>∃ (k:Option V) (xs:List V) (ss:List Stp),σ=[some (.ref l),some (.int b),some (.ref st),k]∧Plain H2∧Same H1 H2∧H2 st=some (.lst xs)∧DVs K H2 (ss.map stp) xs∧ss.length=i+1)
    ⟨_,[.ref t1],[(r1,r2,r3)],rfl,P1.lst,S4,upd_same,⟨_,_,rfl,zlw (SqT.of (S4 _ _ h1)),rfl⟩,rfl⟩ ?_ ?_⟩
   ·rintro i σ H2 hi ⟨k,xs,ss,rfl,hP2,hs2,hst,hds,hi2⟩
    have hl2:=hs2 _ _ hl1
    have hxl:xs.length=i+1:=by rw [hds.length,List.length_map];exact hi2
    have hi3:i≤2:=by omega
    refine ⟨_,rfl,.inl ⟨rfl,_,SqL.of hst⟩,?_⟩
    refine ⟨_,rfl,_,_,_,_,rfl,rfl,SqL.of hl2,rfl,_,rfl,_,_,rfl,rfl,_,_,rfl,rfl,⟨by show (0:Int)<0+(i:Int)+2;omega,by show 0+(i:Int)+2<1073741824;omega⟩,_,_,rfl,rfl,ip_3,_,_,rfl,rfl,?_⟩
    refine ⟨_,rfl,_,_,_,_,rfl,rfl,SqL.of hl2,rfl,_,rfl,_,_,rfl,rfl,_,_,rfl,rfl,⟨by show (0:Int)<0+(i:Int)+3;omega,by show 0+(i:Int)+3<1073741824;omega⟩,_,_,rfl,rfl,ip_2,_,_,rfl,rfl,?_⟩
    refine ⟨_,rfl,_,_,_,_,rfl,rfl,SqL.of hl2,rfl,_,rfl,_,_,rfl,rfl,_,_,rfl,rfl,⟨by show (0:Int)<0+(i:Int)+5;omega,by show 0+(i:Int)+5<1073741824;omega⟩,_,_,rfl,rfl,ip_3,_,_,rfl,rfl,sz_3,λ t hp5=>?_⟩
    dsimp only
    generalize d6 / (0+(i:Int)+2) % 3 - 1=q1
    generalize 1+d6 / (0+(i:Int)+3) % 2=q2
    generalize 1+d6 / (0+(i:Int)+5) % 3=q3
    generalize hH5:upd H2 t (HO.tup _)=H5
    have s5:Same H2 H5:=hH5 ▸ zba hp5
    have P5:Plain H5:=hH5 ▸ hP2.tup
    have h5:=(congrFun hH5 t).symm.trans upd_same
    have hst5:=s5 _ _ hst
    refine ⟨st,_,_,rfl,rfl,hst5,zka (by omega),?_⟩
    refine ⟨_,xs++[.ref t],ss++[(q1,q2,q3)],rfl,P5.lst,?_,upd_same,?_,by simp [hi2]⟩
    ·exact λ b' o' e=>by rw [zga (zda e hp4)];exact s5 _ _ (hs2 b' o' e)
    ·rw [List.map_append]
     refine DVs.mono (D:=st) (λ b' o' hb' e=>by rw [zga hb'];exact e) ⟨_,hst5⟩ _ _ (by rw [← List.map_singleton,← List.map_append];exact zoi _) ?_
     exact (DVs.same s5 _ _ hds).append ⟨_,_,rfl,zlw (SqT.of h5),rfl⟩
   ·rintro σ H2 ⟨k,xs,ss,rfl,hP2,hs2,hst,hds,hi2⟩
    have hl2:=hs2 _ _ hl1
    refine ⟨_,rfl,_,rfl,st,xs,rfl,.inl ⟨SqL.of hst,λ pt hp6=>?_⟩⟩
    generalize hH6:upd H2 pt (HO.tup _)=H6
    have s6:Same H2 H6:=hH6 ▸ zba hp6
    have P6:Plain H6:=hH6 ▸ hP2.tup
    have h6:=(congrFun hH6 pt).symm.trans upd_same
    have hl6:=s6 _ _ hl2
    refine ⟨_,rfl,_,_,_,_,rfl,rfl,SqL.of hl6,rfl,_,rfl,_,_,_,_,rfl,rfl,SqL.of hl6,rfl,P6,(d6,d7),rfl,λ v hv=>?_⟩
    obtain ⟨z,rfl,hz,hok⟩:=hv
    refine ⟨sz_3,λ t hp7=>?_⟩
    generalize hH7:upd H6 t (HO.tup _)=H7
    have s7:Same H6 H7:=hH7 ▸ zba hp7
    have P7:Plain H7:=hH7 ▸ P6.tup
    have h7:=(congrFun hH7 t).symm.trans upd_same
    refine q _ _ ⟨(b,ss,z),zou (v:=(b,ss,z)) (SqT.of h7) ⟨pt,xs,rfl,SqT.of (s7 _ _ h6),DVs.same (s6.trans s7) _ _ hds⟩,hok,hb⟩ (((s1.trans hs2).trans s6).trans s7) P7
theorem sc_q7:FnScope ["_law_cells", "_law_found", "_law_marks", "_law_j", "_law_cell", "_law_some", "_law_mark"] ["_law_cells"] (zja s_q7):=by walk_at "sc"
theorem zp4 (T:Txt K mg A) (G_q5:ziz P w K mg B A) (G_q3:zo0 P w K mg B A):zc3 P w K mg B A:=by
 have B_q5:=T.b_q5
 have B_q3:=T.b_q3
 refine T.F_q7.okN sc_q7 (λ vs H Q E h=>?_) (λ _ _ _ _ H vs Q E hr h=>?_)
 ·obtain ⟨_,c,xs,rfl,_⟩:=h
  rfl
 ·obtain ⟨hP,c,xs,rfl,hc,hxl,hxi,q⟩:=h
  refine ⟨_,(zca (zpa (i:=1) sc_q7.nd rfl (Or.inl rfl) (zrd zfa))
   (zca (zpa (i:=2) sc_q7.nd rfl (Or.inl rfl) (toE zyf (show _=zjv P w from rfl)))
   (zca (ztc PassesOwn.never rfl (zpr rfl T.n_enumerate (by decide +kernel) (zaa (pv 0) zfa)) (zgf rfl (zla (zia (i:=3) sc_q7.nd rfl (Or.inl rfl)) (zla (zia (i:=4) sc_q7.nd rfl (Or.inl rfl)) zsc))) (zca (zpa (i:=5) sc_q7.nd rfl (Or.inl rfl) (zhb G_q5 (hr.mono (by decide)) rfl T.g_q5 T.k_q5 B_q5 .nil zde (zaa (pv 4) (zaa (pv 3) zfa))))
   (zca (zpa (i:=6) sc_q7.nd rfl (Or.inl rfl) (zdc (zaa (zoa zwa (zsb zma (pv 5) zea (λ _ _=>rfl)) zea) (zaa (zoa ztb zea (zoa zwa (zsb zma (pv 5) zea (λ _ _=>rfl)) zea)) zfa))))
   (zha (zuk (zfb (zwq (zef hr)) (pv 6) (pv 2) (by rfl)) (zca (toS (zae (zef hr) (pv 2) (pv 6) zxx rfl) (show _=zyq P w K _ _ _ from rfl))
   (zha (zte (zkr PySem.F.plainAttrs_list PySem.F.slot_list_append PySem.F.type_list_append zjb (pv 1) (zaa (zdc (zaa (pv 6) (zaa (zhb G_q3 (hr.mono (by decide)) rfl T.g_q3 T.k_q3 B_q3 .nil zde (zaa (pv 5) zfa)) zfa))) zfa))))) zwb)))))
   (zha (zmb (pv 1)))))),?_⟩
  refine ⟨Nat.zero_le _,λ fl hfl=>?_⟩
  intro mk o hmk
  have s1:Same H (upd (upd H fl (.lst [])) mk (dO P w mk [] o)):=(zba hfl).trans (zba hmk)
  have hmk0:H mk=none:=(zba hfl).free hmk
  have nfm:fl≠mk:=zda upd_same hmk
  refine ⟨_,rfl,c,rfl,⟨_,SqL.of (s1 _ _ hc)⟩,?_⟩
  refine zko (K:=K) (a:=c) (xs:=xs) (λ i σ H2=>∃ o1 o2 o3 o4 es ob ws ms,σ=[some (.ref c),some (.ref fl),some (.ref mk),o1,o2,o3,o4]∧Plain H2∧Same H H2∧H2 fl=some (.lst ws)∧H2 mk=some (dO P w mk es ob)∧(∀ e∈es,SqT K H2 e.2.1 (mkV e.1))∧es.map (·.1)=List.map (·.1) ms∧DVs K H2 (ms.map prD) ws∧(List.map (·.1) ms).Nodup∧(∀ m∈ms,okV m.2∧m.2.1<(10:Int) ^ 16∧(0≤m.1.1∧m.1.1≤3)∧(1≤m.1.2∧m.1.2≤20))∧ms.length≤i)
   ⟨_,_,_,_,[],o,[],[],rfl,Plain.ext hP.lst,s1,by rw [zga nfm];exact upd_same,upd_same,(λ e h=>by cases h),rfl,rfl,List.nodup_nil,(λ m h=>by cases h),Nat.le_refl _⟩ (λ i σ H2 _ ⟨_,_,_,_,_,_,_,_,_,_,s,_⟩=>SqL.of (s _ _ hc)) ?_ ?_
  ·rintro i x T' σ H2 hx ⟨o1,o2,o3,o4,es,ob,ws,ms,rfl,hP2,hs2,hf2,hm2,hk2,hem,hw2,nd,ok,hi⟩ hT
   obtain ⟨cell,rfl⟩:=hxi x (List.mem_of_getElem? hx)
   have hix:i<xs.length:=(List.getElem?_eq_some_iff.mp hx).1
   have hesl:es.length=ms.length:=by rw [← List.length_map (·.1),hem,List.length_map]
   refine ⟨T',_,rfl,SqT.of upd_same,rfl,_,_,rfl,_,_,rfl,rfl,?_⟩
   refine ⟨_,rfl,_,rfl,hP2.tup,(cell,i),rfl,λ l o hl ho=>?_⟩
   obtain ⟨d0,d1,d2,d3,d4,d5,d6,d7,rfl,e0,e1,e2,e3,e4,e5,e6,e7⟩:=ho
   have hP3:Plain (upd (upd H2 T' (.tup [.int i,.int cell])) l (.lst [.int d0,.int d1,.int d2,.int d3,.int d4,.int d5,.int d6,.int d7])):=hP2.tup.lst
   have hs3:Same H2 (upd (upd H2 T' (.tup [.int i,.int cell])) l (.lst [.int d0,.int d1,.int d2,.int d3,.int d4,.int d5,.int d6,.int d7])):=(zba hT).trans (zba hl)
   have hl3:(upd (upd H2 T' (.tup [.int i,.int cell])) l (.lst [.int d0,.int d1,.int d2,.int d3,.int d4,.int d5,.int d6,.int d7])) l=some (.lst [.int d0,.int d1,.int d2,.int d3,.int d4,.int d5,.int d6,.int d7]):=upd_same
   generalize upd (upd H2 T' (.tup [.int i,.int cell])) l (.lst [.int d0,.int d1,.int d2,.int d3,.int d4,.int d5,.int d6,.int d7])=H3 at hP3 hs3 hl3 ⊢
   have dig:∀ H',H' l=some (.lst [.int d0,.int d1,.int d2,.int d3,.int d4,.int d5,.int d6,.int d7])→digL l H':=λ H' s=>⟨d0,d1,d2,d3,d4,d5,d6,d7,s,e0,e1,e2,e3,e4,e5,e6,e7⟩
   have a0:=Int.emod_nonneg d0 (show (4:Int)≠0 by decide)
   have a1:=Int.emod_lt_of_pos d0 (show (0:Int)<4 by decide)
   have b0:=Int.emod_nonneg d1 (show (20:Int)≠0 by decide)
   have b1:=Int.emod_lt_of_pos d1 (show (0:Int)<20 by decide)
   walk_at "rd"
   refine ⟨sz_2,λ t hp4=>?_⟩
   dsimp only
   obtain ⟨m,hm⟩:∃ m:Mark,m=(d0 % 4,1+d1 % 20):=⟨_,rfl⟩
   have mb:(0≤m.1∧m.1≤3)∧(1≤m.2∧m.2≤20):=by rw [hm];exact ⟨⟨by omega,by omega⟩,⟨by omega,by omega⟩⟩
   have hmv:[V.int (d0 % 4),V.int (1+d1 % 20)]=mkV m:=by rw [hm];rfl
   rw [hmv]
   generalize hH4:upd H3 t (HO.tup _)=H4
   have s4:Same H3 H4:=hH4 ▸ zba hp4
   have P4:Plain H4:=hH4 ▸ hP3.tup
   have h4:=(congrFun hH4 t).symm.trans upd_same
   have hf4:=s4 _ _ (hs3 _ _ hf2)
   have hm4:=s4 _ _ (hs3 _ _ hm2)
   have hk4:∀ e∈es,SqT K H4 e.2.1 (mkV e.1):=λ e h=>(hs3.trans s4).seqT (hk2 e h)
   have hw4:=DVs.same (hs3.trans s4) _ _ hw2
   have hl4:=s4 _ _ hl3
   have nlm:l≠mk:=zqf hl4 hm4 (by intro z;cases z)
   refine ⟨_,rfl,_,rfl,t,m,mk,es,rfl,SqT.of h4,rfl,⟨⟨ob,hm4⟩,hk4⟩,_,rfl,?_⟩
   cases hfm:zab es m with
   | some v =>
    refine iteF ?_
    exact ⟨_,_,_,_,es,ob,ws,ms,rfl,P4,(hs2.trans hs3).trans s4,hf4,hm4,hk4,hem,hw4,nd,ok,by omega⟩
   | none =>
    refine iteT ?_
    refine ⟨_,rfl,_,rfl,mk,es,t,m,rfl,⟨⟨ob,hm4⟩,hk4⟩,rfl,SqT.of h4,zka (by omega),λ o5=>?_⟩
    have epm:putM es m t (.bl true)=es++[(m,t,.bl true)]:=by unfold putM;rw [hfm];rfl
    rw [epm]
    have P5:Plain (upd H4 mk (dO P w mk (es++[(m,t,.bl true)]) o5)):=Plain.ext P4
    have hf5:(upd H4 mk (dO P w mk (es++[(m,t,.bl true)]) o5)) fl=some (.lst ws):=by rw [zga nfm];exact hf4
    have hm5:(upd H4 mk (dO P w mk (es++[(m,t,.bl true)]) o5)) mk=some (dO P w mk (es++[(m,t,.bl true)]) o5):=upd_same
    have hk5:∀ e∈es++[(m,t,V.bl true)],SqT K (upd H4 mk (dO P w mk (es++[(m,t,.bl true)]) o5)) e.2.1 (mkV e.1):=λ e h=>by
     rcases List.mem_append.mp h with h | h
     ·exact zsa hm4 (zgb _) (hk4 e h)
     ·rw [List.mem_singleton.mp h];exact zsa hm4 (zgb _) (SqT.of h4)
    have hw5:DVs K (upd H4 mk (dO P w mk (es++[(m,t,.bl true)]) o5)) (ms.map prD) ws:=zna hm4 (zgb _) _ _ (zxb ms) hw4
    have hl5:(upd H4 mk (dO P w mk (es++[(m,t,.bl true)]) o5)) l=some (.lst [.int d0,.int d1,.int d2,.int d3,.int d4,.int d5,.int d6,.int d7]):=by rw [zga nlm];exact hl4
    have s5:Same H (upd H4 mk (dO P w mk (es++[(m,t,.bl true)]) o5)):=λ b z e=>by rw [zga (zda e hmk0)];exact s4 _ _ (hs3 _ _ (hs2 _ _ e))
    have ht5:SqT K (upd H4 mk (dO P w mk (es++[(m,t,.bl true)]) o5)) t (mkV m):=zsa hm4 (zgb _) (SqT.of h4)
    refine ⟨_,rfl,.inl ⟨rfl,_,SqL.of hf5⟩,_,rfl,_,rfl,P5,l,⟨rfl,dig _ hl5⟩,λ x H6 hx6 s6 P6=>?_,λ _ _ h=>h.elim⟩
    obtain ⟨v,hv6,okv,hvl⟩:=hx6
    refine ⟨sz_2,λ t2 hp7=>?_⟩
    generalize hH7:upd H6 t2 (HO.tup _)=H7
    have s7:Same H6 H7:=hH7 ▸ zba hp7
    have P7:Plain H7:=hH7 ▸ P6.tup
    have h7:=(congrFun hH7 t2).symm.trans upd_same
    have hf7:=s7 _ _ (s6 _ _ hf5)
    have hm7:=s7 _ _ (s6 _ _ hm5)
    have hwl:ws.length=ms.length:=by rw [hw4.length,List.length_map]
    refine ⟨fl,ws,_,rfl,rfl,hf7,zka (by omega),?_⟩
    have hnm:m∉es.map (·.1):=λ z=>by have:=zbd z;rw [hfm] at this;cases this
    refine ⟨_,_,_,_,es++[(m,t,.bl true)],o5,ws++[.ref t2],ms++[(m,v)],rfl,P7.lst,λ b z e=>?_,upd_same,by rw [zga nfm.symm];exact hm7,λ e h=>?_,?_,?_,?_,?_,by simp;omega⟩
    ·rw [zga (zda e hfl)];exact s7 _ _ (s6 _ _ (s5 _ _ e))
    ·exact zsa hf7 (zlb _) ((s6.trans s7).seqT (hk5 e h))
    ·rw [List.map_append,List.map_append,hem];rfl
    ·refine zna hf7 (zlb _) _ _ (zxb _) ?_
     rw [List.map_append]
     refine (DVs.same (s6.trans s7) _ _ hw5).append ⟨_,_,rfl,⟨t2,_,rfl,SqT.of h7,_,_,rfl,zsg ((s6.trans s7).seqT ht5),_,_,rfl,DV.same s7 _ _ hv6,rfl⟩,rfl⟩
    ·rw [List.map_append]
     refine List.nodup_append.mpr ⟨nd,List.nodup_cons.mpr ⟨by simp,List.nodup_nil⟩,λ x hx y hy z=>?_⟩
     rw [← hem] at hx
     exact hnm ((show x=m from z.trans (List.mem_singleton.mp hy)) ▸ hx)
    ·intro y hy
     rcases List.mem_append.mp hy with hy | hy
     ·exact ok y hy
     ·rw [List.mem_singleton.mp hy];exact ⟨okv,hvl,mb⟩
  ·rintro σ H2 ⟨o1,o2,o3,o4,es,ob,ws,ms,rfl,hP2,hs2,hf2,hm2,hk2,hem,hw2,nd,ok,hi⟩
   exact ⟨_,rfl,q H2 fl ws ms hs2 hP2 hf2 hw2 ⟨nd,ok,by omega⟩ hi⟩
theorem sc_q10:FnScope ["_law_base", "_law_cells", "_law_many", "_law_tables", "_law_k", "_law_table", "_law_mark", "_law_version_here", "_law_j", "_law_cell", "_law_some", "_law_other"] ["_law_base", "_law_cells", "_law_many"] (zja zv0):=by walk_at "sc"
theorem zh1 (T:Txt K mg A) (G_q5:ziz P w K mg B A) (G_q3:zo0 P w K mg B A):zfx P w K mg B A:=by
 have B_q5:=T.b_q5
 have B_q3:=T.b_q3
 refine T.F_q10.okN sc_q10 (λ vs H Q E h=>?_) (λ _ _ _ _ H vs Q E hr h=>?_)
 ·obtain ⟨_,p,c,n,ws,xs,B,rfl,_⟩:=h
  rfl
 ·obtain ⟨hP,p,c,n,ws,xs,B,rfl,n2,n6,hp,hw,hB,hc,hxi,hxl,q⟩:=h
  refine ⟨_,(zca (zpa (i:=3) sc_q10.nd rfl (Or.inl rfl) (zrd zfa))
   (zca (ztc PassesOwn.never rfl (znc rfl T.n_range (zaa (pv 2) zfa)) (zia (i:=4) sc_q10.nd rfl (Or.inl rfl)) (zca (zpa (i:=5) sc_q10.nd rfl (Or.inl rfl) (toE zyf (show _=zjv P w from rfl)))
   (zca (ztc PassesOwn.never rfl (zbc (pv 0)) (zgf rfl (zla (zia (i:=6) sc_q10.nd rfl (Or.inl rfl)) (zla (zia (i:=7) sc_q10.nd rfl (Or.inl rfl)) zsc))) (zha (toS (zae (zef hr) (pv 5) (pv 6) (pv 7) rfl) (show _=zyq P w K _ _ _ from rfl))))
   (zha (zte (zkr PySem.F.plainAttrs_list PySem.F.slot_list_append PySem.F.type_list_append zjb (pv 3) (zaa (pv 5) zfa)))))))
   (zca (ztc PassesOwn.never rfl (zpr rfl T.n_enumerate (by decide +kernel) (zaa (pv 1) zfa)) (zgf rfl (zla (zia (i:=8) sc_q10.nd rfl (Or.inl rfl)) (zla (zia (i:=9) sc_q10.nd rfl (Or.inl rfl)) zsc))) (zca (zpa (i:=10) sc_q10.nd rfl (Or.inl rfl) (zhb G_q5 (hr.mono (by decide)) rfl T.g_q5 T.k_q5 B_q5 .nil zde (zaa (pv 9) (zaa (zoa ztb (pv 8) zea) zfa))))
   (zca (zpa (i:=6) sc_q10.nd rfl (Or.inl rfl) (zdc (zaa (zoa zwa (zsb zma (pv 10) zea (λ _ _=>rfl)) zea) (zaa (zoa ztb zea (zoa zwa (zsb zma (pv 10) zea (λ _ _=>rfl)) zea)) zfa))))
   (zca (zuk (PW.pt (zby (zfb (zrk hr.units) (pv 0) (zrd zfa) (zcc _)) (zbs (zfb zs4 (zoa zwa (zsb zma (pv 10) zea (λ _ _=>rfl)) zea) zea (zcc _))))) (zha (zpa (i:=6) sc_q10.nd rfl (Or.inl rfl) (zsb zmq (zsb zma (pv 0) (zoa zwa (zsb zma (pv 10) zea (λ _ _=>rfl)) (zya zac rfl T.n_len (by decide +kernel) (zaa (pv 0) zfa))) (λ _ _=>rfl)) zea (λ _ _=>rfl)))) zwb)
   (zca (zpa (i:=7) sc_q10.nd rfl (Or.inl rfl) (zhb G_q3 (hr.mono (by decide)) rfl T.g_q3 T.k_q3 B_q3 .nil zde (zaa (pv 10) zfa)))
   (zca (zpa (i:=11) sc_q10.nd rfl (Or.inl rfl) (zun (zef hr) (zsb zma (pv 3) (zoa zwa (zsb zma (pv 10) zea (λ _ _=>rfl)) (pv 2)) (λ _ _=>rfl)) (pv 6)))
   (zca (zuk (PW.pt (zby (zfb zd1 (zoa zwa (zsb zma (pv 10) zea (λ _ _=>rfl)) zea) zea (zcc _)) (zbs (zfb zqw (pv 11) zhn (zcc _))))) (zha (zpa (i:=7) sc_q10.nd rfl (Or.inl rfl) (pv 11))) zwb)
   (zha (toS (zae (zef hr) (zsb zma (pv 3) (zoa zwa (pv 8) (pv 2)) (λ _ _=>rfl)) (pv 6) (zdc (zaa (zoa ztb (zoa ztb (zoa zru zea zea) (zoa zzk (zoa zwa (zsb zma (pv 10) zea (λ _ _=>rfl)) zea) zea)) (pv 8)) (zaa (zsb zmq (pv 7) zea (λ _ _=>rfl)) (zaa (zsb zmq (pv 7) zea (λ _ _=>rfl)) zfa)))) rfl) (show _=zyq P w K _ _ _ from rfl))))))))))
   (zha (zmb (pv 3)))))),?_⟩
  refine ⟨Nat.zero_le _,λ tl hp1=>?_⟩
  generalize hH1:upd H tl (HO.lst _)=H1
  have s1:Same H H1:=hH1 ▸ zba hp1
  have P1:Plain H1:=hH1 ▸ hP.lst
  have h1:=(congrFun hH1 tl).symm.trans upd_same
  have hwl:ws.length=B.length:=by rw [hw.length,List.length_map]
  refine ⟨_,rfl,n,rfl,by omega,by omega,zje (lo:=0) (n:=n.toNat) (λ i σ H2=>∃ (o4 o5 o6 o7 o8 o9 oa ob:Option V) (ds:List Addr) (Ts:List Sh),σ=[some (.ref p),some (.ref c),some (.int n),some (.ref tl),o4,o5,o6,o7,o8,o9,oa,ob]∧Plain H2∧Same H H2∧TbsAt P w K H2 tl ds Ts∧Ts.length=i∧(∀ d∈ds,H d=none)∧∀ T∈Ts,okSh T∧∀ m,look T m=look B m)
   ⟨_,_,_,_,_,_,_,_,[],[],rfl,P1,s1,⟨h1,.nil,List.nodup_nil⟩,rfl,(λ d h=>by cases h),λ T h=>by cases h⟩ ?_ ?_⟩
  ·rintro i σ H2 hi ⟨o4,o5,o6,o7,o8,o9,oa,ob,ds,Ts,rfl,P2,S2,TB,hTl,hdn,hTs⟩
   refine λ d o hd0=>?_
   have s3:Same H2 (upd H2 d (dO P w d [] o)):=zba hd0
   have P3:Plain (upd H2 d (dO P w d [] o)):=Plain.ext P2
   have h3:(upd H2 d (dO P w d [] o)) d=some (dO P w d [] o):=upd_same
   generalize upd H2 d (dO P w d [] o)=H3 at s3 P3 h3 ⊢
   have S23:=S2.trans s3
   refine ⟨_,rfl,p,rfl,⟨_,SqL.of (S23 _ _ hp)⟩,zwc (K:=K) (a:=p) (xs:=ws) (λ j σ H4=>∃ (o6 o7:Option V) (es:List Ent) (oo:Obj) (ns:Sh),σ=[some (.ref p),some (.ref c),some (.int n),some (.ref tl),some (.int (0+(i:Int))),some (.ref d),o6,o7,o8,o9,oa,ob]∧Plain H4∧Same H2 H4∧H4 d=some (dO P w d es oo)∧EnS K H4 es ns∧okSh ns∧ns.length≤j∧∀ k,look ns k=zyl (λ _=>none) (allG (B.take j)) k)
    ⟨_,_,[],o,[],rfl,P3,s3,h3,.nil,⟨(λ m h=>by cases h),List.nodup_nil⟩,Nat.le_refl _,λ k=>rfl⟩ (λ j σ H4 _ ⟨_,_,_,_,_,_,_,s,_⟩=>SqL.of ((S2.trans s) _ _ hp)) ?_ ?_⟩
   ·rintro j y σ H4 hy ⟨o6,o7,es,oo,ns,rfl,P4,S4,hd4,he4,okn,hnl,hlk⟩
    have hj:j<B.length:=by have:=(List.getElem?_eq_some_iff.mp hy).1;omega
    obtain ⟨y',hy',hyd⟩:=(DVs.same (S2.trans S4) _ _ hw).get (i:=j) (d:=prD B[j]) (by rw [List.getElem?_map,List.getElem?_eq_getElem hj];rfl)
    rw [hy] at hy'
    cases hy'
    obtain ⟨t,q1,vx,rfl,ht,hq1,hvx⟩:=zwk hyd
    refine ⟨t,_,rfl,ht,rfl,_,_,rfl,_,_,rfl,rfl,?_⟩
    have ky:∀ e∈es,SqT K H4 e.2.1 (mkV e.1):=λ e h=>(zkb he4 e h).1
    have hel:es.length=ns.length:=Paired.length he4
    have hB8:=hB.few
    refine ⟨_,rfl,_,rfl,_,rfl,d,es,q1,B[j].1,rfl,⟨⟨oo,hd4⟩,ky⟩,rfl,hq1,zka (by omega),λ o'=>?_⟩
    have hl':=zii ns B[j].1 B[j].2
    exact ⟨_,_,putM es B[j].1 q1 vx,o',putS ns B[j].1 B[j].2,rfl,Plain.ext P4,λ b z e=>by rw [zga (zda e hd0)];exact S4 _ _ e,upd_same,zwe hd4 (zxe he4 hq1 hvx),⟨zwg okn.1 _ (hB.ok.1 _ (List.getElem_mem hj)),zkh okn.2 _ _⟩,by omega,λ k=>by
     rw [zmc,hlk,List.take_succ_eq_append_getElem hj]
     unfold allG
     rw [List.map_append,List.map_singleton,zue]⟩
   rintro σ H4 ⟨o6,o7,es,oo,ns,rfl,P4,S4,hd4,he4,okn,hnl,hlk⟩
   rw [hwl,List.take_length] at hlk
   have TB4:=TB.same S4
   have hdl:ds.length=i:=by rw [Paired.length TB.r,hTl]
   refine ⟨_,rfl,.inl ⟨rfl,_,SqL.of TB4.h⟩,_,rfl,tl,_,_,rfl,rfl,TB4.h,zka (by rw [List.length_map];omega),?_⟩
   have ndt:d∉ds:=λ z=>by
    obtain ⟨k,hk⟩:=List.getElem?_of_mem z
    obtain ⟨d',T',e1,_,es',o',e2,_⟩:=zqa TB.r (k:=k) (by have:=(List.getElem?_eq_some_iff.mp hk).1;omega)
    rw [hk] at e1
    cases e1
    rw [hd0] at e2
    cases e2
   refine ⟨_,_,_,_,_,_,_,_,ds++[d],Ts++[ns],rfl,P4.lst,λ b z e=>by rw [zga (zda e hp1)];exact (S2.trans S4) _ _ e,⟨by rw [List.map_append];exact upd_same,ztd (zra TB4.r λ _ _ _ r=>r.lst TB4.h) (TbR.lst ⟨es,oo,hd4,he4⟩ TB4.h),?_⟩,by rw [List.length_append,hTl];rfl,λ d' hd'=>?_,λ T hT=>?_⟩
   ·refine List.nodup_append.mpr ⟨TB.nd,by simp,λ a ha b hb z=>?_⟩
    rw [List.mem_singleton.mp hb] at z
    exact ndt (z ▸ ha)
   ·rcases List.mem_append.mp hd' with hd' | hd'
    ·exact hdn d' hd'
    ·rw [List.mem_singleton.mp hd'];exact S2.free hd0
   ·rcases List.mem_append.mp hT with hT | hT
    ·exact hTs T hT
    ·rw [List.mem_singleton.mp hT];exact ⟨okn,λ k=>(hlk k).trans (zeg hB.ok.2 k)⟩
  rintro σ H2 ⟨o4,o5,o6,o7,o8,o9,oa,ob,ds,Ts,rfl,P2,S2,TB,hTl,hdn,hTs⟩
  have hTn:(Ts.length:Int)=n:=by omega
  have hL:LI B Ts ((0:Nat):Int):=⟨λ m v ⟨T,h1,h2,h3⟩=>absurd (((hTs T h1).2 m).symm.trans h2) h3,λ m v _ _ ⟨T,h1,h2,h3⟩=>absurd (((hTs T h1).2 m).symm.trans h2) h3⟩
  have hA:AllT B n (mks B++[]) Ts:=λ k T hT=>by
   rw [List.append_nil]
   exact TOk.base (hTs T (List.mem_of_getElem? hT)).1 (hTs T (List.mem_of_getElem? hT)).2
  refine ⟨_,rfl,c,rfl,⟨_,SqL.of (S2 _ _ hc)⟩,zko (K:=K) (a:=c) (xs:=xs) (λ i σ H3=>∃ (o4 o5 o6 o7 o8 o9 oa ob:Option V) (Ts:List Sh) (Ex:List Mark),σ=[some (.ref p),some (.ref c),some (.int n),some (.ref tl),o4,o5,o6,o7,o8,o9,oa,ob]∧Plain H3∧Same H H3∧TbsAt P w K H3 tl ds Ts∧(Ts.length:Int)=n∧AllT B n (mks B++Ex) Ts∧LI B Ts i∧Ex.length≤i)
   ⟨_,_,_,_,_,_,_,_,Ts,[],rfl,P2,S2,TB,hTn,hA,hL,Nat.le_refl _⟩ (λ i σ H3 _ ⟨_,_,_,_,_,_,_,_,_,_,_,_,s,_⟩=>SqL.of (s _ _ hc)) ?_ ?_⟩
  case refine_2 =>
   rintro σ H3 ⟨o4,o5,o6,o7,o8,o9,oa,ob,Ts,Ex,rfl,P3,S3,TB3,hTn,hA,hL,hEx⟩
   refine ⟨_,rfl,q tl ds Ts (mks B++Ex) H3 hp1 S3 P3 TB3 hTn hA ⟨λ m v h=>by have:=hL.low m v h;omega,hL.inj⟩ ?_ λ m hm=>List.mem_append_left _ hm⟩
   have h8:=hB.few
   rw [List.length_append,show (mks B).length=B.length from List.length_map _]
   omega
  rintro i x T' σ H3 hx ⟨o4,o5,o6,o7,o8,o9,oa,ob,Ts,Ex,rfl,P3,S3,TB3,hTn,hA,hL,hEx⟩ hT
  obtain ⟨cell,rfl⟩:=hxi x (List.mem_of_getElem? hx)
  have hix:i<xs.length:=(List.getElem?_eq_some_iff.mp hx).1
  refine ⟨T',_,rfl,SqT.of upd_same,rfl,_,_,rfl,_,_,rfl,rfl,?_⟩
  refine ⟨_,rfl,_,rfl,_,_,rfl,rfl,P3.tup,(cell,(i:Int)+40),rfl,λ l ol hl ho=>?_⟩
  obtain ⟨d0,d1,d2,d3,d4,d5,d6,d7,rfl,e0,e1,e2,e3,e4,e5,e6,e7⟩:=ho
  have P4:Plain (upd (upd H3 T' (.tup [.int i,.int cell])) l (.lst [.int d0,.int d1,.int d2,.int d3,.int d4,.int d5,.int d6,.int d7])):=P3.tup.lst
  have s4:Same H3 (upd (upd H3 T' (.tup [.int i,.int cell])) l (.lst [.int d0,.int d1,.int d2,.int d3,.int d4,.int d5,.int d6,.int d7])):=(zba hT).trans (zba hl)
  have hl4:(upd (upd H3 T' (.tup [.int i,.int cell])) l (.lst [.int d0,.int d1,.int d2,.int d3,.int d4,.int d5,.int d6,.int d7])) l=some (.lst [.int d0,.int d1,.int d2,.int d3,.int d4,.int d5,.int d6,.int d7]):=upd_same
  generalize upd (upd H3 T' (.tup [.int i,.int cell])) l (.lst [.int d0,.int d1,.int d2,.int d3,.int d4,.int d5,.int d6,.int d7])=H4 at P4 s4 hl4 ⊢
  have dig:∀ H',H' l=some (.lst [.int d0,.int d1,.int d2,.int d3,.int d4,.int d5,.int d6,.int d7])→digL l H':=λ H' s=>⟨d0,d1,d2,d3,d4,d5,d6,d7,s,e0,e1,e2,e3,e4,e5,e6,e7⟩
  walk_at "rd"
  refine ⟨sz_2,λ t hp5=>?_⟩
  dsimp only
  obtain ⟨m,hm⟩:∃ m:Mark,m=(d0 % 4,1+d1 % 20):=⟨_,rfl⟩
  have hmv:[V.int (d0 % 4),V.int (1+d1 % 20)]=mkV m:=by rw [hm];rfl
  rw [hmv]
  generalize hH5:upd H4 t (HO.tup _)=H5
  have s5:Same H4 H5:=hH5 ▸ zba hp5
  have P5:Plain H5:=hH5 ▸ P4.tup
  have h5:=(congrFun hH5 t).symm.trans upd_same
  have S35:Same H3 H5:=s4.trans s5
  apply zf3 (α:=Addr) (β:=Hp) (ok:=λ q' H'=>Plain H'∧Same H5 H'∧∃ m',SqT K H' q' (mkV m'))
  ·intro go
   refine ⟨_,rfl,Nat.zero_le _,λ el hp6=>?_⟩
   generalize hH6:upd H5 el (HO.lst _)=H6
   have s6:Same H5 H6:=hH6 ▸ zba hp6
   have P6:Plain H6:=hH6 ▸ P5.lst
   have h6:=(congrFun hH6 el).symm.trans upd_same
   have S6:=S3.trans (S35.trans s6)
   have hl6:=s6 _ _ (s5 _ _ hl4)
   refine ⟨.list (B.map prD),.list [],⟨p,ws,rfl,SqL.of (S6 _ _ hp),DVs.same S6 _ _ hw⟩,⟨el,[],rfl,SqL.of h6,rfl⟩,zgc hB.ok.1,rfl,_,rfl,?_⟩
   by_cases h0:B=[]
   ·rw [show PyData.eqv (.list (B.map prD)) (.list [])=true by rw [h0];rfl]
    refine iteF (iteF ?_)
    obtain ⟨z,hz⟩:∃ z,z=t:=⟨_,rfl⟩
    rw [← hz]
    exact go z H6 ⟨P6,s6,m,by rw [hz];exact SqT.of (s6 _ _ h5)⟩
   have e0:PyData.eqv (.list (B.map prD)) (.list [])=false:=by
    cases B with
    | nil=>exact absurd rfl h0
    | cons a r=>rfl
   rw [e0]
   refine iteT ?_
   refine ⟨_,rfl,_,_,_,_,rfl,rfl,SqL.of hl6,rfl,_,_,rfl,rfl,ip_4,_,_,rfl,rfl,_,rfl,zzv (λ _=>?_) (λ _=>?_)⟩
   ·have pos:0<B.length:=List.length_pos_iff.mpr h0
    have y1:=Int.emod_nonneg d1 (show (ws.length:Int)≠0 by omega)
    have y2:=Int.emod_lt_of_pos d1 (show (0:Int)<(ws.length:Int) by omega)
    obtain ⟨jn,hjn⟩:∃ jn:Nat,d1 % (ws.length:Int)=jn:=⟨(d1 % (ws.length:Int)).toNat,by omega⟩
    have hjm:jn<B.length:=by omega
    obtain ⟨z,hz1,hzd⟩:=(DVs.same S6 _ _ hw).get (i:=jn) (d:=prD B[jn]) (by rw [List.getElem?_map,List.getElem?_eq_getElem hjm];rfl)
    obtain ⟨t2,q1,vx,rfl,ht2,hq1,hvx⟩:=zwk hzd
    refine ⟨_,rfl,_,rfl,_,_,_,_,rfl,rfl,SqL.of hl6,rfl,_,rfl,p,ws,rfl,.inl (SqL.of (S6 _ _ hp)),_,_,rfl,rfl,(by show (0:Int)<(ws.length:Int);omega),p,ws,_,_,rfl,rfl,SqL.of (S6 _ _ hp),(by show atI ws (d1 % (ws.length:Int))=_;rw [hjn];exact zlf hz1),t2,_,_,_,rfl,rfl,ht2,rfl,?_⟩
    exact go q1 H6 ⟨P6,s6,B[jn].1,hq1⟩
   ·exact go t H6 ⟨P6,s6,m,SqT.of (s6 _ _ h5)⟩
  rintro q1 H6 ⟨P6,s6,m1,hm1⟩
  have S36:=S35.trans s6
  have hl6:=s6 _ _ (s5 _ _ hl4)
  refine ⟨_,rfl,P6,l,⟨rfl,dig _ hl6⟩,λ x H7 hx7 s7 P7=>?_,λ _ _ h=>h.elim⟩
  obtain ⟨v,hv7,okv,_⟩:=hx7
  have S37:=S36.trans s7
  have hl7:=s7 _ _ hl6
  have TB7:=TB3.same S37
  have hm7:=s7.seqT hm1
  have hdl:ds.length=Ts.length:=Paired.length TB3.r
  obtain ⟨jn,hjn⟩:∃ jn:Nat,d5 % n=jn:=⟨(d5 % n).toNat,by have:=Int.emod_nonneg d5 (show n≠0 by omega);omega⟩
  have hjl:jn<Ts.length:=by have:=Int.emod_lt_of_pos d5 (show 0<n by omega);omega
  obtain ⟨dd,TT,hdd,hTT,es,oo,hd7,he7⟩:=zqa TB7.r (k:=jn) hjl
  have okT:okSh TT:=(hA jn TT hTT).ok
  have ky:∀ e∈es,SqT K H7 e.2.1 (mkV e.1):=λ e h=>(zkb he7 e h).1
  refine ⟨_,rfl,_,rfl,_,_,_,_,rfl,rfl,SqL.of hl7,rfl,_,rfl,_,_,rfl,rfl,(by show (0:Int)<n;omega),tl,_,_,.ref dd,rfl,rfl,SqL.of TB7.h,(by show atI (ds.map V.ref) (d5 % n)=_;rw [hjn];exact zlf (by rw [List.getElem?_map,hdd];rfl)),dd,es,rfl,⟨⟨oo,hd7⟩,ky⟩,_,rfl,q1,m1,rfl,⟨⟨oo,hd7⟩,ky⟩,hm7,?_⟩
  obtain ⟨ot,hot⟩:∃ ot,ot=(zab es m1).getD V.non:=⟨_,rfl⟩
  rw [← hot]
  apply zf3 (α:=V) (β:=Hp) (ok:=λ y H'=>Plain H'∧Same H7 H'∧∃ v',DV K H' (ver v') y∧okV v')
  ·intro go
   refine ⟨_,rfl,_,_,_,_,rfl,rfl,SqL.of hl7,rfl,_,_,rfl,rfl,ip_7,rfl,_,rfl,zzv (λ _ => ?a) (λ _ => ?b)⟩
   case b =>
    refine iteF ?_
    obtain ⟨z,hz⟩:∃ z,z=x:=⟨_,rfl⟩
    obtain ⟨Hz,hHz⟩:∃ Hz,Hz=H7:=⟨_,rfl⟩
    rw [← hz,← hHz]
    exact go z Hz ⟨by rw [hHz];exact P7,by rw [hHz];exact Same.refl _,v,by rw [hHz,hz];exact hv7,okv⟩
   refine ⟨_,rfl,rfl,_,rfl,za4 (λ hn=>?_) (λ _=>go x H7 ⟨P7,Same.refl _,v,hv7,okv⟩)⟩
   cases hfm:zab es m1 with
   | none=>rw [hfm] at hot;exact absurd hot hn
   | some z =>
    rw [hfm] at hot
    have hot:ot=z:=hot
    obtain ⟨v0,hv0,hz0⟩:=zkx he7 okT.2 hfm
    exact ⟨_,rfl,go ot H7 ⟨P7,Same.refl _,v0,by rw [hot];exact hz0,okT.1 _ hv0⟩⟩
  rintro x8 H8 ⟨P8,s8,v8,hv8,okv8⟩
  obtain ⟨t8,p8,rfl,hq8,hpl8⟩:=zvi hv8
  have S38:=S37.trans s8
  have hl8:=s8 _ _ hl7
  obtain ⟨kn,hkn⟩:∃ kn:Nat,(i:Int) % n=kn:=⟨((i:Int) % n).toNat,by have:=Int.emod_nonneg (i:Int) (show n≠0 by omega);omega⟩
  have hkl:kn<Ts.length:=by have:=Int.emod_lt_of_pos (i:Int) (show 0<n by omega);omega
  refine ⟨_,_,rfl,rfl,⟨by decide,by decide,by decide⟩,_,rfl,_,_,_,_,rfl,rfl,SqL.of hl8,rfl,_,_,rfl,rfl,zvz,_,_,rfl,rfl,Or.inr ⟨by decide,by decide⟩,_,_,rfl,rfl,_,rfl,_,_,rfl,rfl,_,rfl,t8,_,_,_,rfl,rfl,hq8,rfl,_,rfl,t8,_,_,_,rfl,rfl,hq8,rfl,sz_3,λ t9 hp9=>?_⟩
  dsimp only
  have hb1:(10:Int) ^ 16≤10 ^ Int.toNat 16+d4 % 100 * 100+(i:Int):=by
   rw [show (10:Int) ^ Int.toNat 16=10000000000000000 from rfl]
   omega
  have hb2:(10 ^ Int.toNat 16+d4 % 100 * 100+(i:Int)) % 100=(i:Int):=by
   rw [show (10:Int) ^ Int.toNat 16=10000000000000000 from rfl]
   omega
  generalize (10:Int) ^ Int.toNat 16+d4 % 100 * 100+(i:Int)=bt at hb1 hb2 ⊢
  generalize hH9:upd H8 t9 (HO.tup _)=H9
  have s9:Same H8 H9:=hH9 ▸ zba hp9
  have P9:Plain H9:=hH9 ▸ P8.tup
  have h9:=(congrFun hH9 t9).symm.trans upd_same
  have S39:=S38.trans s9
  have TB9:=TB3.same S39
  obtain ⟨de,TE,hde,hTE,ee,oe,hd9,he9⟩:=zqa TB9.r (k:=kn) hkl
  have ke:∀ e∈ee,SqT K H9 e.2.1 (mkV e.1):=λ e h=>(zkb he9 e h).1
  have hm9:=(s8.trans s9).seqT hm7
  have hTk:=hA kn TE hTE
  have hel:ee.length≤60:=by
   have h1:ee.length=TE.length:=Paired.length he9
   have h2:(mks TE).length≤(mks B++Ex).length:=zrb hTk.ok.2 hTk.u
   have h3:(mks TE).length=TE.length:=List.length_map _
   have h8:=hB.few
   rw [List.length_append,show (mks B).length=B.length from List.length_map _] at h2
   omega
  refine ⟨_,rfl,_,rfl,_,rfl,_,_,rfl,rfl,(by show (0:Int)<n;omega),tl,_,_,.ref de,rfl,rfl,SqL.of TB9.h,(by show atI (ds.map V.ref) ((i:Int) % n)=_;rw [hkn];exact zlf (by rw [List.getElem?_map,hde];rfl)),_,rfl,de,ee,q1,m1,rfl,⟨⟨oe,hd9⟩,ke⟩,rfl,hm9,zka (by omega),λ o'=>?_⟩
  refine ⟨_,_,_,_,_,_,_,_,Ts.set kn (putS TE m1 (bt,v8.2)),Ex++[m1],rfl,Plain.ext P9,λ b z e=>by rw [zga (zda e (hdn _ (List.mem_of_getElem? hde)))];exact S39 _ _ (S3 _ _ e),TB9.put hde hd9 (zxe he9 hm9 (zou (v:=(bt,v8.2)) (SqT.of h9) (DV.same s9 _ _ hpl8))),by rw [List.length_set];exact hTn,?_,hL.put hTE m1 hb2,by rw [List.length_append,List.length_singleton];omega⟩
  rw [← List.append_assoc]
  exact hA.put hTE m1 okv8 hb1 (by show bt % 100 % n=_;rw [hb2,hkn])
theorem sc_q6:FnScope ["_law_base", "_law_tables", "_law_order", "_law_sheet", "_law_aside", "_law_k", "_law_mine", "_law_clashes"] ["_law_base", "_law_tables", "_law_order"] (zja s_q6):=by walk_at "sc"
theorem ze4 (T:Txt K mg A) (G_q0:zwz P w K mg B A) (G_q2:ze2 P w K mg B A) (G_q14:ztw P w K mg B A):zp3 P w K mg B A:=by
 have B_q0:=T.b_q0
 have B_q2:=T.b_q2
 have B_q14:=T.b_q14
 refine T.F_q6.okN sc_q6 (λ vs H Q E h=>?_) (λ _ _ _ _ H vs Q E hr h=>?_)
 ·obtain ⟨_,p,tl,od,ws,B,ds,Ts,U,os,rfl,_⟩:=h
  rfl
 ·obtain ⟨hP,p,tl,od,ws,B,ds,Ts,U,os,rfl,TI,hod,hos,q⟩:=h
  refine ⟨_,(zca (zpa (i:=3) sc_q6.nd rfl (Or.inl rfl) (zxj T.mk_Sheet G_q0 (hr.mono (by decide)) rfl T.g_Sheet B_q0 .nil zde (zaa (pv 0) zfa)))
   (zca (zpa (i:=4) sc_q6.nd rfl (Or.inl rfl) (zrd zfa))
   (zca (ztc PassesOwn.never rfl (zbc (pv 2)) (zia (i:=5) sc_q6.nd rfl (Or.inr rfl)) (zca (zpa (i:=6) sc_q6.nd rfl (Or.inl rfl) (zxj T.mk_Sheet G_q0 (hr.mono (by decide)) rfl T.g_Sheet B_q0 .nil zde (zaa (zle ["_law_mark", "_law_tables", "_law_k"] 1 [1,5] rfl (zij (zsb zma (pv 1) (pv 5) (λ _ _=>rfl))) gk1 (λ _ _ _ _ _=>zia (i:=0) (show List.Nodup (["_law_mark", "_law_tables", "_law_k"]:List Str) by decide +kernel) rfl (Or.inl rfl)) (λ _ _ _ _ _=>zxd) (λ _ _ _ _ _=>(zdc (zaa (pv 0) (zaa (zsb (zi3 (P:=P) (w:=w) (K:=K) rfl rfl rfl (zef hr)) (zsb (zst (K:=K) rfl) (pv 1) (pv 2) (λ _ _=>rfl)) (pv 0) (λ _ _=>rfl)) zfa))))) zfa)))
   (zca (zet (zhb G_q14 (hr.mono (by decide)) rfl T.g_q14 T.k_q14 B_q14 .nil zde (zaa (zxj T.mk_Sheet G_q0 (hr.mono (by decide)) rfl T.g_Sheet B_q0 .nil zde (zaa (pv 0) zfa)) (zaa (pv 3) (zaa (pv 6) zfa)))) (zgf rfl (zla (zia (i:=3) sc_q6.nd rfl (Or.inl rfl)) (zla (zia (i:=7) sc_q6.nd rfl (Or.inl rfl)) zsc))))
   (zha (zpa (i:=4) sc_q6.nd rfl (Or.inl rfl) (zoa zsl (pv 4) (zle ["_law_mark", "_law_stands", "_law_version_here"] 3 [] rfl (zbc (pv 7)) gk3 (λ _ _ _ _ _=>zgf rfl (zla (zia (i:=0) (show List.Nodup (["_law_mark", "_law_stands", "_law_version_here"]:List Str) by decide +kernel) rfl (Or.inl rfl)) (zla (zia (i:=1) (show List.Nodup (["_law_mark", "_law_stands", "_law_version_here"]:List Str) by decide +kernel) rfl (Or.inl rfl)) (zla (zia (i:=2) (show List.Nodup (["_law_mark", "_law_stands", "_law_version_here"]:List Str) by decide +kernel) rfl (Or.inl rfl)) zsc)))) (λ _ _ _ _ _=>zxd) (λ _ _ _ _ _=>(zdc (zaa (pv 0) (zaa (pv 2) zfa)))))))))))
   (zha (zmb (zdc (zaa (zej (pv 3) T.cl_Sheet T.m_q2 G_q2 (hr.mono (by decide)) B_q2 .nil zde) (zaa (zya (znb hr.u100) rfl T.n_sorted (by decide +kernel) (zaa (pv 4) zfa)) zfa)))))))),?_⟩
  have hB8:=TI.b.few
  have hU:=TI.u
  have hin:∀ j∈os,j<Ts.length:=λ j hj=>List.mem_range.mp (hos.mem_iff.mp hj)
  have hosl:os.length=Ts.length:=by rw [hos.length_eq,List.length_range]
  have k6:=TI.n
  have hdl:ds.length=Ts.length:=Paired.length TI.t.r
  refine ⟨_,rfl,λ x1 dx1 nx1 ndx1 nex1=>?_⟩
  have sx1:Same H (upd (upd H dx1 (.own x1)) x1 (.ins A.Sheet dx1 [])):=λ b o e=>by
   rw [zga (zda e nx1),zga (zda e ndx1)]
   exact e
  refine ⟨Plain.ins (hP.upd trivial),x1,dx1,p,ws,B,rfl,upd_same,SqL.of (sx1 _ _ TI.p),DVs.same sx1 _ _ TI.d,TI.b.ok.1,by omega,λ _ H1 k1 Sh1 P1=>⟨rfl,?_⟩,λ h=>absurd TI.b.ok.2 h⟩
  have s1:Same H H1:=λ b o e=>k1 b o (zda e nx1) (sx1 b o e)
  refine ⟨Nat.zero_le _,λ al0 hp2=>?_⟩
  generalize hH2:upd H1 al0 (HO.lst _)=H2
  have s2:Same H1 H2:=hH2 ▸ zba hp2
  have P2:Plain H2:=hH2 ▸ P1.lst
  have h2:=(congrFun hH2 al0).symm.trans upd_same
  have S2:=s1.trans s2
  have TI2:=TI.same S2
  have I2:FI B Ts U (os.take 0) B []:=⟨TI.bu,λ m=>.inl ⟨rfl,rfl,rfl⟩⟩
  refine ⟨_,rfl,od,rfl,⟨_,SqL.of (S2 _ _ hod)⟩,zwc (K:=K) (a:=od) (xs:=os.map λ (i:Nat)=>V.int (i:Int)) (λ i σ H3=>∃ (o5 o6 o7:Option V) (x al:Addr) (L Aa:Sh) (aws:List V),σ=[some (.ref p),some (.ref tl),some (.ref od),some (.ref x),some (.ref al),o5,o6,o7]∧Plain H3∧Same H H3∧ShAt P w K A.Sheet H3 x L∧H3 al=some (.lst aws)∧DVs K H3 (Aa.map prD) aws∧FI B Ts U (os.take i) L Aa)
   ⟨_,_,_,x1,al0,B,[],[],rfl,P2,S2,Sh1.same s2,h2,rfl,I2⟩ (λ i σ H3 _ ⟨_,_,_,_,_,_,_,_,_,_,s,_⟩=>SqL.of (s _ _ hod)) ?_ ?_⟩
  case refine_2 =>
   rintro σ H3 ⟨o5,o6,o7,x,al,L,Aa,aws,rfl,P3,S3,Sh3,ha3,hv3,I3⟩
   rw [List.length_map] at I3
   obtain ⟨nda,sub⟩:=I3.nd TI.a hos
   have fewA:=zfd TI.li nda sub
   have okA:∀ x∈Aa,okV x.2:=λ x hx=>zlz TI.a (k:=Ts.length) x.2 (by rw [List.take_length];exact sub x hx)
   rw [List.take_length] at I3
   obtain ⟨dx3,_,_,_,hx3,_⟩:=id Sh3.ex
   refine ⟨_,rfl,x,dx3,_,rfl,hx3,rfl,P3,x,L,rfl,Sh3,λ H4 l4 bs4 w4 n4 s4 P4 h4 pm4 pw4 hw4=>?_⟩
   refine ⟨_,rfl,Mark×Ver,Aa,(λ x=>[L2.markD x.1,ver x.2]),ppLt,.tup,al,aws,rfl,SqL.of (s4 _ _ ha3),DVs.same s4 _ _ hv3,zpw nda (by omega) okA,λ l9 bs9 ws9 hl9 pm9 pw9 hw9=>?_⟩
   have s9:Same H4 (upd H4 l9 (.lst ws9)):=zba hl9
   have P9:Plain (upd H4 l9 (.lst ws9)):=P4.lst
   have h9:(upd H4 l9 (.lst ws9)) l9=some (.lst ws9):=upd_same
   have hw9:=DVs.same s9 _ _ hw9
   generalize upd H4 l9 (.lst ws9)=H9 at s9 P9 h9 hw9 ⊢
   refine ⟨sz_2,λ t hp10=>?_⟩
   have s10:Same H9 (upd H9 t (.tup [.ref l4,.ref l9])):=zba hp10
   have S910:=s9.trans s10
   exact q t l4 l9 w4 ws9 bs4 bs9 _ (((S3.trans s4).trans s9).trans s10) P9.tup (SqT.of upd_same) (S910 _ _ h4) (DVs.same S910 _ _ hw4) pw4 (λ x hx=>Sh3.ok x (pm4.mem_iff.mp hx)) (s10 _ _ h9) (DVs.same s10 _ _ hw9) pw9 (λ x hx=>okA x (pm9.mem_iff.mp hx)) λ m=>by
    rw [zk3 pm4 Sh3.nd m]
    exact zj0 (I3.f m) ((pm9.filter _).map _)
  rintro i y σ H3 hy ⟨o5,o6,o7,x,al,L,Aa,aws,rfl,P3,S3,Sh3,ha3,hv3,I3⟩
  have hi:i<os.length:=by have:=(List.getElem?_eq_some_iff.mp hy).1;rw [List.length_map] at this;exact this
  obtain ⟨k,hk⟩:∃ k,os[i]? = some k:=⟨_,List.getElem?_eq_getElem hi⟩
  obtain rfl:y = .int (k:Int):=by
   rw [List.getElem?_map,hk] at hy
   exact (Option.some.inj hy).symm
  have hkl:=hin k (List.mem_of_getElem? hk)
  have TI3:=TI.same S3
  obtain ⟨d,T,hdk,hTk,ee,oe,hde,hee⟩:=zqa TI3.t.r hkl
  have hT:=TI.a k T hTk
  have hel:ee.length=T.length:=Paired.length hee
  have hTl:T.length<64:=by
   have h2:=zrb hT.ok.2 hT.u
   have h3:(mks T).length=T.length:=List.length_map _
   omega
  have hix:atI (ds.map V.ref) (k:Int)=some (.ref d):=zlf (by rw [List.getElem?_map,hdk];rfl)
  refine ⟨_,rfl,_,rfl,tl,_,_,.ref d,rfl,rfl,SqL.of TI3.t.h,hix,d,ee,oe,rfl,hde,λ D hD=>zqd (λ j=>((ee[j]?).map λ (e:Ent)=>V.ref e.2.1).getD .non) (λ j y H=>∀ x,T[j]? = some x→DV K H (prD x) y) hD P3 (n:=ee.length) (sm1 ((by omega))) (zqy hde) ?_ ?_ ?_⟩
  ·exact λ j y Ha Hb h k hz x ex=>DV.mono k hz _ _ (by have:=zxb [x];rw [List.map_cons,noLs,Bool.and_eq_true] at this;exact this.1) (h x ex)
  ·intro j H7 R hj P7 S7 hR
   have E7:=zec S7 hee
   obtain ⟨e,x,he,hx,hex,hqx,hdx⟩:=zqa E7 (k:=j) (by omega)
   have eg:((ee[j]?).map λ (e:Ent)=>V.ref e.2.1).getD .non = .ref e.2.1:=by rw [he];rfl
   rw [eg]
   have hfe:zab ee x.1=some e.2.2:=by
    rw [← hex]
    exact zoh (by rw [zpb hee];exact hT.ok.2) (List.mem_of_getElem? he)
   refine ⟨_,rfl,_,rfl,_,rfl,tl,_,_,.ref d,rfl,rfl,SqL.of (S7 _ _ TI3.t.h),hix,_,rfl,d,ee,e.2.1,x.1,e.2.2,rfl,⟨⟨oe,S7 _ _ hde⟩,λ a h=>(zkb E7 a h).1⟩,rfl,hqx,hfe,sz_2,λ t hp8=>?_⟩
   have s8:Same H7 (upd H7 t (.tup [.ref e.2.1,e.2.2])):=zba hp8
   refine hR _ _ (λ x' ex'=>?_) s8 P7.tup
   rw [hx] at ex'
   cases ex'
   exact ⟨t,_,rfl,SqT.of upd_same,_,_,rfl,zsg (s8.seqT hqx),_,_,rfl,DV.same s8 _ _ hdx,rfl⟩
  intro zs H4 hzl hzs hD4 S34 P4
  have d4:DVs K H4 (T.map prD) zs:=DVs.of (by omega) λ j y v hy hv=>hzs j y hy v hv
  refine λ x5 dx5 nx5 ndx5 nex5=>?_
  have sx5:Same H4 (upd (upd H4 dx5 (.own x5)) x5 (.ins A.Sheet dx5 [])):=λ b o e=>by
   rw [zga (zda e nx5),zga (zda e ndx5)]
   exact e
  refine ⟨Plain.ins (P4.upd trivial),x5,dx5,D,zs,T,rfl,upd_same,SqL.of (sx5 _ _ hD4),DVs.same sx5 _ _ d4,hT.ok.1,hTl,λ _ H5 k5 Sh5 P5=>⟨rfl,?_⟩,λ h=>absurd hT.ok.2 h⟩
  have s5:Same H4 H5:=λ b o e=>k5 b o (zda e nx5) (sx5 b o e)
  have S35:=S34.trans s5
  have TI5:=TI3.same S35
  refine ⟨_,rfl,λ x6 dx6 nx6 ndx6 nex6=>?_⟩
  have sx6:Same H5 (upd (upd H5 dx6 (.own x6)) x6 (.ins A.Sheet dx6 [])):=λ b o e=>by
   rw [zga (zda e nx6),zga (zda e ndx6)]
   exact e
  refine ⟨Plain.ins (P5.upd trivial),x6,dx6,p,ws,B,rfl,upd_same,SqL.of (sx6 _ _ TI5.p),DVs.same sx6 _ _ TI5.d,TI.b.ok.1,by omega,λ _ H6 k6 Sh6 P6=>⟨rfl,?_⟩,λ h=>absurd TI.b.ok.2 h⟩
  have s6:Same H5 H6:=λ b o e=>k6 b o (zda e nx6) (sx6 b o e)
  have S36:=S35.trans s6
  have hUU:∀ m,m∈mks L ∨ m∈mks T→m∈U:=λ m hm=>hm.elim (I3.u m) (hT.u m)
  refine ⟨_,rfl,_,rfl,P6,x6,x,x5,B,L,T,U,rfl,Sh6,Sh3.same S36,Sh5.same s6,hUU,hU,λ t7 x7 l7 ks ws7 H7 hl7 s7 P7 ht7 Sh7 h7 hw7 isk hks=>?_⟩
  refine ⟨t7,_,rfl,ht7,rfl,_,_,rfl,_,_,rfl,rfl,?_⟩
  have I7:=I3.step TI.a TI.b hk hTk isk hin
  have S37:=S36.trans s7
  have hwl:ws7.length=(clsh B L T ks).length:=by rw [hw7.length,List.length_map]
  have hcl:=zqn B L T ks
  refine ⟨_,rfl,_,rfl,l7,rfl,⟨_,SqL.of h7⟩,λ D2 hD2=>zqd (λ j=>ws7.getD j .non) (λ j y H=>∀ c,(clsh B L T ks)[j]? = some c→DV K H (prD (c.1,c.2.2)) y) hD2 P7 (n:=ws7.length) (sm1 ((by omega))) (zil (SqL.of h7)) ?_ ?_ ?_⟩
  ·exact λ j y Ha Hb h k hz c ec=>DV.mono k hz _ _ (by have:=zxb [(c.1,c.2.2)];rw [List.map_cons,noLs,Bool.and_eq_true] at this;exact this.1) (h c ec)
  ·intro j H8 R hj P8 S8 hR
   have hjc:j<(clsh B L T ks).length:=by omega
   obtain ⟨y,hy,hyd⟩:=hw7.get (i:=j) (d:=cl3D (clsh B L T ks)[j]) (by rw [List.getElem?_map,List.getElem?_eq_getElem hjc];rfl)
   obtain ⟨ty,ys,rfl,hty,y0,yr,rfl,hy0,y1,yr1,rfl,hy1,y2,yr2,rfl,hy2,hy3⟩:=hyd
   cases (show yr2=[] from hy3)
   have eg:ws7.getD j .non = .ref ty:=by rw [List.getD_eq_getElem?_getD,hy];rfl
   rw [eg]
   refine ⟨ty,_,rfl,S8.seqT hty,rfl,_,_,rfl,_,_,rfl,_,_,rfl,rfl,_,rfl,_,rfl,sz_2,λ t hp9=>?_⟩
   have s9:Same H8 (upd H8 t (.tup [y0,y2])):=zba hp9
   refine hR _ _ (λ c ec=>?_) s9 P8.tup
   rw [List.getElem?_eq_getElem hjc] at ec
   cases ec
   exact ⟨t,_,rfl,SqT.of upd_same,_,_,rfl,DV.same (S8.trans s9) _ _ hy0,_,_,rfl,DV.same (S8.trans s9) _ _ hy2,rfl⟩
  intro zq H8 hzql hzqs hD8 S78 P8
  have d8:DVs K H8 (((clsh B L T ks).map λ c=>(c.1,c.2.2)).map prD) zq:=by
   rw [List.map_map]
   exact DVs.of (f:=prD ∘ λ c:Cl3=>(c.1,c.2.2)) (by omega) λ j y v hy hv=>hzqs j y hy v hv
  have S38:=S37.trans S78
  obtain ⟨nda,sub⟩:=I3.nd TI.a hos
  have fewA:=zfd TI.li nda sub
  have hawl:aws.length=Aa.length:=by rw [hv3.length,List.length_map]
  refine ⟨al,D2,aws,zq,rfl,rfl,S38 _ _ ha3,hD8,sm1 ((by omega)),λ al' hp9=>?_⟩
  have s9:Same H8 (upd H8 al' (.lst (aws++zq))):=zba hp9
  refine ⟨_,_,_,x7,al',_,_,aws++zq,rfl,P8.lst,(S3.trans S38).trans s9,Sh7.same (S78.trans s9),upd_same,?_,I7⟩
  rw [List.map_append]
  exact (DVs.same (S38.trans s9) _ _ hv3).append (DVs.same s9 _ _ d8)
theorem sc_q4:FnScope ["_law_base", "_law_tables", "_law_was", "_law_mark", "_law_version_here", "_law_found", "_law_table"] ["_law_base", "_law_tables"] (zja s_q4):=by walk_at "sc"
theorem zb4 (T:Txt K mg A)  : zy2 P w K mg B A:=by
 refine T.F_q4.okN sc_q4 (λ vs H Q E h=>?_) (λ _ _ _ _ H vs Q E hr h=>?_)
 ·obtain ⟨_,p,tl,ws,B,ds,Ts,U,rfl,_⟩:=h
  rfl
 ·obtain ⟨hP,p,tl,ws,B,ds,Ts,U,rfl,TI,q⟩:=h
  refine ⟨_,(zca (zpa (i:=2) sc_q4.nd rfl (Or.inl rfl) (toE zyf (show _=zjv P w from rfl)))
   (zca (ztc PassesOwn.never rfl (zbc (pv 0)) (zgf rfl (zla (zia (i:=3) sc_q4.nd rfl (Or.inl rfl)) (zla (zia (i:=4) sc_q4.nd rfl (Or.inl rfl)) zsc))) (zha (toS (zae (zef hr) (pv 2) (pv 3) (pv 4) rfl) (show _=zyq P w K _ _ _ from rfl))))
   (zca (zpa (i:=5) sc_q4.nd rfl (Or.inl rfl) (toE zyf (show _=zjv P w from rfl)))
   (zca (ztc PassesOwn.never rfl (zbc (pv 1)) (zia (i:=6) sc_q4.nd rfl (Or.inl rfl)) (zha (ztc PassesOwn.never rfl (zij (pv 6)) (zia (i:=3) sc_q4.nd rfl (Or.inl rfl)) (zha (zuk (zfb (zrk hr.units) (zsb (ix_M (zef hr)) (pv 6) (pv 3) (λ _ _=>rfl)) (zun (zef hr) (pv 2) (pv 3)) (zcc _)) (zha (toS (zae (zef hr) (pv 5) (pv 3) (zya (znb hr.u100) rfl T.n_sorted (by decide +kernel) (zaa (zoa zsl (zxu (zef hr) (pv 5) (pv 3) (zrd zfa)) (zrd (zaa (zsb (ix_M (zef hr)) (pv 6) (pv 3) (λ _ _=>rfl)) zfa))) zfa)) rfl) (show _=zyq P w K _ _ _ from rfl))) zwb)))))
   (zha (zmb (pv 5))))))),?_⟩
  refine λ wd wo hwd0=>?_
  have s1:Same H (upd H wd (dO P w wd [] wo)):=zba hwd0
  have P1:Plain (upd H wd (dO P w wd [] wo)):=Plain.ext hP
  have h1:(upd H wd (dO P w wd [] wo)) wd=some (dO P w wd [] wo):=upd_same
  generalize upd H wd (dO P w wd [] wo)=H1 at s1 P1 h1 ⊢
  have hwl:ws.length=B.length:=by rw [TI.d.length,List.length_map]
  have hB8:=TI.b.few
  refine ⟨_,rfl,p,rfl,⟨_,SqL.of (s1 _ _ TI.p)⟩,zwc (K:=K) (a:=p) (xs:=ws) (λ i σ H2=>∃ (o3 o4 o5 o6:Option V) (es:List Ent) (ob:Obj) (ns:Sh),σ=[some (.ref p),some (.ref tl),some (.ref wd),o3,o4,o5,o6]∧Plain H2∧Same H H2∧H2 wd=some (dO P w wd es ob)∧EnS K H2 es ns∧okSh ns∧ns.length≤i∧∀ k,look ns k=zyl (λ _=>none) (allG (B.take i)) k)
   ⟨_,_,_,_,[],wo,[],rfl,P1,s1,h1,.nil,⟨(λ m h=>by cases h),List.nodup_nil⟩,Nat.le_refl _,λ k=>rfl⟩ (λ i σ H2 _ ⟨_,_,_,_,_,_,_,_,_,s,_⟩=>SqL.of (s _ _ TI.p)) ?_ ?_⟩
  ·rintro j y σ H4 hy ⟨o3,o4,o5,o6,es,oo,ns,rfl,P4,S4,hd4,he4,okn,hnl,hlk⟩
   have hj:j<B.length:=by have:=(List.getElem?_eq_some_iff.mp hy).1;omega
   obtain ⟨y',hy',hyd⟩:=(DVs.same S4 _ _ TI.d).get (i:=j) (d:=prD B[j]) (by rw [List.getElem?_map,List.getElem?_eq_getElem hj];rfl)
   rw [hy] at hy'
   cases hy'
   obtain ⟨t,q1,vx,rfl,ht,hq1,hvx⟩:=zwk hyd
   refine ⟨t,_,rfl,ht,rfl,_,_,rfl,_,_,rfl,rfl,?_⟩
   have ky:∀ e∈es,SqT K H4 e.2.1 (mkV e.1):=λ e h=>(zkb he4 e h).1
   have hel:es.length=ns.length:=Paired.length he4
   refine ⟨_,rfl,_,rfl,_,rfl,wd,es,q1,B[j].1,rfl,⟨⟨oo,hd4⟩,ky⟩,rfl,hq1,zka (by omega),λ o'=>?_⟩
   have hl':=zii ns B[j].1 B[j].2
   exact ⟨_,_,_,_,putM es B[j].1 q1 vx,o',putS ns B[j].1 B[j].2,rfl,Plain.ext P4,λ b z e=>by rw [zga (zda e hwd0)];exact S4 _ _ e,upd_same,zwe hd4 (zxe he4 hq1 hvx),⟨zwg okn.1 _ (TI.b.ok.1 _ (List.getElem_mem hj)),zkh okn.2 _ _⟩,by omega,λ k=>by
    rw [zmc,hlk,List.take_succ_eq_append_getElem hj]
    unfold allG
    rw [List.map_append,List.map_singleton,zue]⟩
  rintro σ H2 ⟨o3,o4,o5,o6,wes,wob,wns,rfl,P2,S2,hd2,he2,okn,hnl,hlk⟩
  rw [hwl,List.take_length] at hlk
  have TBw:Tb P w K H2 wd B:=⟨wes,wob,wns,hd2,he2,λ k=>(hlk k).trans (zeg TI.b.ok.2 k)⟩
  have TB2:=TI.t.same S2
  clear hlk he2 okn hnl hd2
  refine λ fd fo hfd0=>?_
  have s3:Same H2 (upd H2 fd (dO P w fd [] fo)):=zba hfd0
  have P3:Plain (upd H2 fd (dO P w fd [] fo)):=Plain.ext P2
  have h3:(upd H2 fd (dO P w fd [] fo)) fd=some (dO P w fd [] fo):=upd_same
  generalize upd H2 fd (dO P w fd [] fo)=H3 at s3 P3 h3 ⊢
  have hdl:ds.length=Ts.length:=Paired.length TI.t.r
  refine ⟨_,rfl,tl,rfl,⟨_,SqL.of (s3 _ _ TB2.h)⟩,zwc (K:=K) (a:=tl) (xs:=ds.map V.ref) (λ k σ H4=>∃ (o3 o4 o6:Option V) (es:List Ent) (o:Obj) (F:Fs),σ=[some (.ref p),some (.ref tl),some (.ref wd),o3,o4,some (.ref fd),o6]∧Plain H4∧Same H2 H4∧H4 fd=some (dO P w fd es o)∧Paired (FR K H4) es F∧FOk F (tv B (Ts.take k)))
   ⟨_,_,_,[],fo,[],rfl,P3,s3,h3,.nil,⟨List.nodup_nil,λ m=>.refl _,λ m=>.nil,λ f h=>by cases h⟩⟩ (λ k σ H4 _ ⟨_,_,_,_,_,_,_,_,s,_⟩=>SqL.of (s _ _ TB2.h)) ?_ ?_⟩
  case refine_2 =>
   rintro σ H4 ⟨o3,o4,o6,es,o,F,rfl,P4,S4,hf4,hF4,FO⟩
   rw [List.length_map,hdl,List.take_length] at FO
   exact ⟨_,rfl,q fd es o F H4 (S2.free hfd0) (S2.trans S4) P4 hf4 hF4 FO⟩
  rintro k y σ H4 hy ⟨o3,o4,o6,es0,ob0,F0,rfl,P4,S4,hf4,hF4,FO4⟩
  have hk:k<Ts.length:=by have:=(List.getElem?_eq_some_iff.mp hy).1;rw [List.length_map] at this;omega
  obtain ⟨d,T,hdk,hTk,ee,oe,hde,hee⟩:=zqa TB2.r hk
  obtain rfl:y = .ref d:=by
   rw [List.getElem?_map,hdk] at hy
   exact (Option.some.inj hy).symm
  have hT:=TI.a k T hTk
  have hel:ee.length=T.length:=Paired.length hee
  have hml:(mks T).length=T.length:=List.length_map _
  have k6:=TI.n
  refine ⟨_,rfl,d,ee,oe,rfl,S4 _ _ hde,zbo (P:=P) (w:=w) (a:=d) (es:=ee) (o:=oe) (λ i σ H5=>∃ (o3:Option V) (es:List Ent) (o:Obj) (F:Fs),σ=[some (.ref p),some (.ref tl),some (.ref wd),o3,o4,some (.ref fd),some (.ref d)]∧Plain H5∧Same H2 H5∧H5 fd=some (dO P w fd es o)∧Paired (FR K H5) es F∧FOk F (tvI B Ts k T i))
   ⟨_,es0,ob0,F0,rfl,P4,S4,hf4,hF4,FO4.eq λ m=>zuu B Ts k T m⟩ (λ i σ H5 _ ⟨_,_,_,_,_,_,s,_⟩=>s _ _ hde) ?_ ?_⟩
  case refine_2 =>
   rintro σ H5 ⟨o3,es,o,F,rfl,P5,S5,hf5,hF5,FO⟩
   exact ⟨_,_,_,es,o,F,rfl,P5,S5,hf5,hF5,FO.eq λ m=>(zfn hTk (by omega) m).symm⟩
  rintro i e σ H5 he ⟨o3,es,o,F,rfl,P5,S5,hf5,hF5,FO⟩
  have hi:i<T.length:=by have:=(List.getElem?_eq_some_iff.mp he).1;omega
  obtain ⟨e',x,he',hx,hex,hqx,hdx⟩:=zqa (zec S5 hee) hi
  rw [he] at he'
  cases he'
  have hxm:x∈T:=List.mem_of_getElem? hx
  have him:(mks T)[i]'(by omega)=x.1:=by
   have:(mks T)[i]? = some x.1:=by unfold mks;rw [List.getElem?_map,hx];rfl
   exact (List.getElem?_eq_some_iff.mp this).2
  obtain ⟨m,v⟩:=x
  dsimp only at hex hqx hdx him
  have hlk:look T m=some v:=zfc hT.ok.2 hxm
  have kye:∀ a∈ee,SqT K H5 a.2.1 (mkV a.1):=λ a h=>(zkb (zec S5 hee) a h).1
  have hfe:zab ee m=some e.2.2:=by
   rw [← hex]
   exact zoh (by rw [zpb hee];exact hT.ok.2) (List.mem_of_getElem? he)
  have okv:okV v:=hT.ok.1 _ hxm
  obtain ⟨wes2,hwD,hwv⟩:=(TBw.same S5).get m
  have okB:okO (look B m):=λ u hu=>TI.b.ok.1 _ (zta hu)
  refine ⟨_,rfl,_,rfl,d,ee,e.2.1,m,e.2.2,rfl,⟨⟨oe,S5 _ _ hde⟩,kye⟩,rfl,hqx,hfe,_,rfl,wd,wes2,rfl,hwD,_,rfl,e.2.1,m,rfl,hwD,hqx,vdat (some v),vdat (look B m),hdx,hwv,zxa (λ u hu=>by cases hu;exact okv),zxa okB,_,rfl,?_⟩
  rw [zme]
  have hsu:=zkm (B:=B) (Ts:=Ts) (k:=k) hT.ok.2 (i:=i) (by omega)
  by_cases hb:some v=look B m
  ·rw [decide_eq_true hb]
   refine iteF ?_
   refine ⟨_,es,o,F,rfl,P5,S5,hf5,hF5,FO.eq λ z=>?_⟩
   rw [hsu z,him]
   split
   ·rename_i ez
    rw [← ez,zpy hlk hb,List.append_nil]
   ·rfl
  rw [decide_eq_false hb]
  refine iteT ?_
  have kyF:∀ H',Paired (FR K H') es F→∀ a∈es,SqT K H' a.2.1 (mkV a.1):=λ H' hF a ha=>by
   obtain ⟨j,hj⟩:=List.getElem?_of_mem ha
   obtain ⟨a',f,ha',_,hr⟩:=zqa hF (k:=j) (by have:=(List.getElem?_eq_some_iff.mp hj).1;rw [Paired.length hF] at this;exact this)
   rw [hj] at ha'
   cases ha'
   exact hr.2.1
  refine ⟨_,rfl,fd,es,rfl,⟨⟨o,hf5⟩,kyF _ hF5⟩,_,rfl,Nat.zero_le _,λ el hp6=>?_⟩
  generalize hH6:upd H5 el (HO.lst _)=H6
  have s6:Same H5 H6:=hH6 ▸ zba hp6
  have P6:Plain H6:=hH6 ▸ P5.lst
  have h6:=(congrFun hH6 el).symm.trans upd_same
  have hF6:=zra hF5 λ _ _ _ r=>r.same s6
  refine ⟨e.2.1,m,rfl,⟨⟨o,s6 _ _ hf5⟩,kyF _ hF6⟩,s6.seqT hqx,?_⟩
  obtain ⟨l0,ws0,hval,hl0,hw0⟩:∃ l0 ws0,(zab es m).getD (.ref el) = .ref l0∧H6 l0=some (.lst ws0)∧DVs K H6 ((lkF F m).map ver) ws0:=by
   rcases zzs hF6 m with ⟨f1,f2⟩ | ⟨l,w',f1,f2,f3⟩
   ·rw [f1,f2]
    exact ⟨el,[],rfl,h6,rfl⟩
   ·rw [f1]
    exact ⟨l,w',rfl,f2,f3⟩
  rw [hval]
  refine ⟨_,rfl,_,rfl,d,ee,e.2.1,m,e.2.2,rfl,⟨⟨oe,(S5.trans s6) _ _ hde⟩,λ a h=>s6.seqT (kye a h)⟩,rfl,s6.seqT hqx,hfe,sz_1,λ l7 hp7=>?_⟩
  generalize hH7:upd H6 l7 (HO.lst _)=H7
  have s7:Same H6 H7:=hH7 ▸ zba hp7
  have P7:Plain H7:=hH7 ▸ P6.lst
  have h7:=(congrFun hH7 l7).symm.trans upd_same
  have hnew:tvI B Ts k T i m=tv B (Ts.take k) m:=by
   have:=zlx (B:=B) (Ts:=Ts) (k:=k) hT.ok.2 (i:=i) (by omega)
   rw [him] at this
   exact this
  have hpm:(lkF F m).Perm (tv B (Ts.take k) m):=hnew ▸ FO.pm m
  have htk:=zkz TI.a m (k+1)
  have etk:tv B (Ts.take (k+1)) m=tv B (Ts.take k) m++[v]:=by
   rw [← zfn hTk (Nat.le_refl _) m]
   unfold tvI tI
   rw [List.take_length,if_pos (show m∈mks T from List.mem_map_of_mem (f:=λ x:Mark×Ver=>x.1) hxm),zap hlk hb]
  rw [etk] at htk
  have pm7:(lkF F m++[v]).Perm (tv B (Ts.take k) m++[v]):=hpm.append_right _
  have ll:(lkF F m).length=(tv B (Ts.take k) m).length:=hpm.length_eq
  have l8:((tv B (Ts.take k) m++[v]).length)≤k+1:=htk.2
  rw [List.length_append,List.length_singleton] at l8
  have hwl0:ws0.length=(lkF F m).length:=by rw [hw0.length,List.length_map]
  refine ⟨l0,l7,ws0,_,rfl,rfl,s7 _ _ hl0,h7,sm1 ((by show ws0.length+1≤1000;omega)),λ l8 hp8=>?_⟩
  generalize hH8:upd H7 l8 (HO.lst _)=H8
  have s8:Same H7 H8:=hH8 ▸ zba hp8
  have P8:Plain H8:=hH8 ▸ P7.lst
  have h8:=(congrFun hH8 l8).symm.trans upd_same
  have S58:=(s6.trans s7).trans s8
  have hdv8:DVs K H8 ((lkF F m++[v]).map ver) (ws0++[e.2.2]):=by
   rw [List.map_append]
   exact (DVs.same (s7.trans s8) _ _ hw0).append ⟨_,[],rfl,DV.same S58 _ _ hdx,rfl⟩
  refine ⟨Ver,lkF F m++[v],(λ v=>[.int v.1,plc v.2.1,.str v.2.2]),zce,.int,l8,_,rfl,SqL.of h8,hdv8,zky (pm7.nodup_iff.mpr htk.1) (by rw [List.length_append,List.length_singleton];omega) (λ u hu=>?_),λ l9 bs ws9 hp9 pm9 pw9 hw9=>?_⟩
  ·rcases List.mem_append.mp hu with hu | hu
   ·exact zlz TI.a u (hpm.mem_iff.mp hu)
   ·rw [List.mem_singleton.mp hu];exact okv
  have s9:Same H8 (upd H8 l9 (.lst ws9)):=zba hp9
  have P9:Plain (upd H8 l9 (.lst ws9)):=P8.lst
  have h9:(upd H8 l9 (.lst ws9)) l9=some (.lst ws9):=upd_same
  generalize upd H8 l9 (.lst ws9)=H9 at s9 P9 h9 ⊢
  have S59:=S58.trans s9
  have hF9:=zra hF5 λ _ _ _ r=>r.same S59
  have hf9:=S59 _ _ hf5
  have hfew:=FO.few (U:=U) λ z hz=>zj2 TI.a hTk hz
  have hU:=TI.u
  have hesl:es.length=F.length:=Paired.length hF5
  refine ⟨_,rfl,_,rfl,fd,es,e.2.1,m,rfl,⟨⟨o,hf9⟩,kyF _ hF9⟩,rfl,S59.seqT hqx,zka (by omega),λ o'=>?_⟩
  have hFp:=zra (zl0 hF9 (S59.seqT hqx) h9 (DVs.same s9 _ _ hw9)) λ _ _ _ r=>r.upd (x:=dO P w fd (putM es m e.2.1 (.ref l9)) o') hf9
  refine ⟨_,_,o',putV F m bs,rfl,Plain.ext P9,λ b z hz=>by rw [zga (zda hz hfd0)];exact S59 _ _ (S5 _ _ hz),upd_same,hFp,FO.put (λ z=>?_) pw9 ?_ λ z hz=>?_⟩
  ·rw [z] at pm9
   have:=pm9.length_eq
   rw [List.length_append] at this
   simp at this
  ·rw [hsu m,him,if_pos rfl,hnew,zap hlk hb]
   exact pm9.trans pm7
  ·rw [hsu z,him,if_neg hz]
theorem sc_q12:FnScope ["_law_base", "_law_tables", "_law_found", "_law_mark", "_law_version_here", "_law_touched_here", "_law_clear", "_law_aside"] ["_law_base", "_law_tables"] (zja zrz):=by walk_at "sc"
theorem zy1 (T:Txt K mg A) (G_q4:zy2 P w K mg B A):zyx P w K mg B A:=by
 have B_q4:=T.b_q4
 refine T.F_q12.okN sc_q12 (λ vs H Q E h=>?_) (λ _ _ _ _ H vs Q E hr h=>?_)
 ·obtain ⟨_,p,tl,ws,B,ds,Ts,U,rfl,_⟩:=h
  rfl
 ·obtain ⟨hP,p,tl,ws,B,ds,Ts,U,rfl,TI,q⟩:=h
  refine ⟨_,(zca (zpa (i:=2) sc_q12.nd rfl (Or.inr rfl) (toE zyf (show _=zjv P w from rfl)))
   (zca (ztc PassesOwn.never rfl (zbc (pv 0)) (zgf rfl (zla (zia (i:=3) sc_q12.nd rfl (Or.inr rfl)) (zla (zia (i:=4) sc_q12.nd rfl (Or.inl rfl)) zsc))) (zha (toS (zae (zef hr) (pv 2) (pv 3) (pv 4) rfl) (show _=zyq P w K _ _ _ from rfl))))
   (zca (zpa (i:=5) sc_q12.nd rfl (Or.inl rfl) (zhb G_q4 (hr.mono (by decide)) rfl T.g_q4 T.k_q4 B_q4 .nil zde (zaa (pv 0) (zaa (pv 1) zfa))))
   (zca (zpa (i:=6) sc_q12.nd rfl (Or.inl rfl) (toE zyf (show _=zjv P w from rfl)))
   (zca (zpa (i:=7) sc_q12.nd rfl (Or.inl rfl) (zrd zfa))
   (zca (ztc PassesOwn.never rfl (zij (pv 5)) (zia (i:=3) sc_q12.nd rfl (Or.inr rfl)) (zca (toS (zae (zef hr) (pv 2) (pv 3) (zsb zma (zsb (ix_M (zef hr)) (pv 5) (pv 3) (λ _ _=>rfl)) (zhz zep zea) (λ _ _=>rfl)) rfl) (show _=zyq P w K _ _ _ from rfl))
   (zha (zuk (zfb zd1 (zya zaq rfl T.n_len (by decide +kernel) (zaa (zzb (zjq rfl hr.u100) rfl T.n_set (by decide +kernel) (zaa (zle ["_law_version_here"] 1 [] rfl (zbc (zsb (ix_M (zef hr)) (pv 5) (pv 3) (λ _ _=>rfl))) gk1 (λ _ _ _ _ _=>zia (i:=0) (show List.Nodup (["_law_version_here"]:List Str) by decide +kernel) rfl (Or.inl rfl)) (λ _ _ _ _ _=>zxd) (λ _ _ _ _ _=>(zlc (zey (K:=K) rfl) (pv 0) (zqc zea) zmf))) zfa)) zfa)) (zya zac rfl T.n_len (by decide +kernel) (zaa (zsb (ix_M (zef hr)) (pv 5) (pv 3) (λ _ _=>rfl)) zfa)) (zcc _)) (zca (toS (zae (zef hr) (pv 6) (pv 3) zxx rfl) (show _=zyq P w K _ _ _ from rfl))
   (zha (zpa (i:=7) sc_q12.nd rfl (Or.inl rfl) (zoa zsl (pv 7) (zle ["_law_version_here", "_law_mark"] 1 [3] rfl (zbc (zlc zph (zsb (ix_M (zef hr)) (pv 5) (pv 3) (λ _ _=>rfl)) zmf (zqc (zhz zep zea)))) gk1 (λ _ _ _ _ _=>zia (i:=0) (show List.Nodup (["_law_version_here", "_law_mark"]:List Str) by decide +kernel) rfl (Or.inl rfl)) (λ _ _ _ _ _=>zxd) (λ _ _ _ _ _=>(zdc (zaa (pv 1) (zaa (pv 0) zfa))))))))) zwb))))
   (zha (zmb (zdc (zaa (zya (znb hr.u100) rfl T.n_sorted (by decide +kernel) (zaa (zle ["_law_mark", "_law_found"] 1 [2] rfl (zij (pv 2)) gk1 (λ _ _ _ _ _=>zia (i:=0) (show List.Nodup (["_law_mark", "_law_found"]:List Str) by decide +kernel) rfl (Or.inl rfl)) (λ _ _ _ _ _=>zxd) (λ _ _ _ _ _=>(zdc (zaa (pv 0) (zaa (zsb (zi3 (P:=P) (w:=w) (K:=K) rfl rfl rfl (zef hr)) (pv 1) (pv 0) (λ _ _=>rfl)) zfa))))) zfa)) (zaa (pv 6) (zaa (zya (znb hr.u100) rfl T.n_sorted (by decide +kernel) (zaa (pv 7) zfa)) zfa)))))))))))),?_⟩
  refine λ nd wo hnd0=>?_
  have s1:Same H (upd H nd (dO P w nd [] wo)):=zba hnd0
  have P1:Plain (upd H nd (dO P w nd [] wo)):=Plain.ext hP
  have h1:(upd H nd (dO P w nd [] wo)) nd=some (dO P w nd [] wo):=upd_same
  generalize upd H nd (dO P w nd [] wo)=H1 at s1 P1 h1 ⊢
  have hwl:ws.length=B.length:=by rw [TI.d.length,List.length_map]
  have hB8:=TI.b.few
  refine ⟨_,rfl,p,rfl,⟨_,SqL.of (s1 _ _ TI.p)⟩,zwc (K:=K) (a:=p) (xs:=ws) (λ i σ H2=>∃ (o3 o4 o5 o6 o7:Option V) (es:List Ent) (ob:Obj) (ns:Sh),σ=[some (.ref p),some (.ref tl),some (.ref nd),o3,o4,o5,o6,o7]∧Plain H2∧Same H H2∧H2 nd=some (dO P w nd es ob)∧EnS K H2 es ns∧okSh ns∧ns.length≤i∧∀ k,look ns k=zyl (λ _=>none) (allG (B.take i)) k)
   ⟨_,_,_,_,_,[],wo,[],rfl,P1,s1,h1,.nil,⟨(λ m h=>by cases h),List.nodup_nil⟩,Nat.le_refl _,λ k=>rfl⟩ (λ i σ H2 _ ⟨_,_,_,_,_,_,_,_,_,_,s,_⟩=>SqL.of (s _ _ TI.p)) ?_ ?_⟩
  ·rintro j y σ H4 hy ⟨o3,o4,o5,o6,o7,es,oo,ns,rfl,P4,S4,hd4,he4,okn,hnl,hlk⟩
   have hj:j<B.length:=by have:=(List.getElem?_eq_some_iff.mp hy).1;omega
   obtain ⟨y',hy',hyd⟩:=(DVs.same S4 _ _ TI.d).get (i:=j) (d:=prD B[j]) (by rw [List.getElem?_map,List.getElem?_eq_getElem hj];rfl)
   rw [hy] at hy'
   cases hy'
   obtain ⟨t,q1,vx,rfl,ht,hq1,hvx⟩:=zwk hyd
   refine ⟨t,_,rfl,ht,rfl,_,_,rfl,_,_,rfl,rfl,?_⟩
   have ky:∀ e∈es,SqT K H4 e.2.1 (mkV e.1):=λ e h=>(zkb he4 e h).1
   have hel:es.length=ns.length:=Paired.length he4
   refine ⟨_,rfl,_,rfl,_,rfl,nd,es,q1,B[j].1,rfl,⟨⟨oo,hd4⟩,ky⟩,rfl,hq1,zka (by omega),λ o'=>?_⟩
   have hl':=zii ns B[j].1 B[j].2
   exact ⟨_,_,_,_,_,putM es B[j].1 q1 vx,o',putS ns B[j].1 B[j].2,rfl,Plain.ext P4,λ b z e=>by rw [zga (zda e hnd0)];exact S4 _ _ e,upd_same,zwe hd4 (zxe he4 hq1 hvx),⟨zwg okn.1 _ (TI.b.ok.1 _ (List.getElem_mem hj)),zkh okn.2 _ _⟩,by omega,λ k=>by
    rw [zmc,hlk,List.take_succ_eq_append_getElem hj]
    unfold allG
    rw [List.map_append,List.map_singleton,zue]⟩
  rintro σ H2 ⟨o3,o4,o5,o6,o7,fes0,fo0,fns0,rfl,P2,S2,hd2,he2,okn,hnl,hlk⟩
  rw [hwl,List.take_length] at hlk
  have S2':=S2
  refine ⟨_,rfl,_,rfl,P2,p,tl,ws,B,ds,Ts,U,rfl,TI.same S2,λ d es o F H3 hd0 s3 P3 hd3 hF3 FO=>?_⟩
  refine λ cd co0 hcd0=>?_
  have s4:Same H3 (upd H3 cd (dO P w cd [] co0)):=zba hcd0
  have P4:Plain (upd H3 cd (dO P w cd [] co0)):=Plain.ext P3
  have h4:(upd H3 cd (dO P w cd [] co0)) cd=some (dO P w cd [] co0):=upd_same
  generalize upd H3 cd (dO P w cd [] co0)=H4 at s4 P4 h4 ⊢
  refine ⟨Nat.zero_le _,λ al0 hp5=>?_⟩
  generalize hH5:upd H4 al0 (HO.lst _)=H5
  have s5:Same H4 H5:=hH5 ▸ zba hp5
  have P5:Plain H5:=hH5 ▸ P4.lst
  have h5:=(congrFun hH5 al0).symm.trans upd_same
  have S35:=s4.trans s5
  have S25:=s3.trans S35
  have S5:=S2.trans S25
  have n1:d≠nd:=λ z=>by rw [z,hd2] at hd0;cases hd0
  have n2:cd≠nd:=λ z=>by rw [z,s3 _ _ hd2] at hcd0;cases hcd0
  have n3:d≠cd:=λ z=>by rw [z,hcd0] at hd3;cases hd3
  have hcdH:H cd=none:=(S2.trans s3).free hcd0
  have hlk0:∀ m,look fns0 m=look B m:=λ k=>(hlk k).trans (zeg TI.b.ok.2 k)
  have HI5:HI P w K H5 d es o F nd fes0 fo0 fns0 cd [] co0 al0 [] []:=⟨S35 _ _ hd3,zra hF3 λ _ _ _ r=>r.same S35,S25 _ _ hd2,zec S25 he2,s5 _ _ h4,(λ e he=>by cases he),h5,rfl⟩
  have DI5:DI B U F 0 fns0 [] []:=⟨okn,λ m hm=>TI.bu m (zhu hlk0 hm),λ m=>by rw [hlk0];rfl,λ m=>⟨(λ z=>by cases z),λ z=>by cases z.1⟩,List.nodup_nil,λ x=>⟨(λ z=>by cases z),λ z=>by cases z.1⟩⟩
  clear hH5 h5 h4 hlk hlk0 he2 okn hnl hF3
  have hesl:es.length=F.length:=Paired.length HI5.f
  have kyF:∀ H',Paired (FR K H') es F→∀ a∈es,SqT K H' a.2.1 (mkV a.1):=λ H' hF a ha=>by
   obtain ⟨j,hj⟩:=List.getElem?_of_mem ha
   obtain ⟨a',f,ha',_,hr⟩:=zqa hF (k:=j) (by have:=(List.getElem?_eq_some_iff.mp hj).1;rw [Paired.length hF] at this;exact this)
   rw [hj] at ha'
   cases ha'
   exact hr.2.1
  have hFU:=FO.few (U:=U) λ z hz=>zx1 TI.a (k:=Ts.length) (by rw [List.take_length];exact hz)
  have hU:=TI.u
  have k6:=TI.n
  refine ⟨_,rfl,d,es,o,rfl,HI5.d,zbo (P:=P) (w:=w) (a:=d) (es:=es) (o:=o) (λ i σ H5=>∃ (o3 o4:Option V) (fes:List Ent) (fo:Obj) (fns:Sh) (ces:List Ent) (co:Obj) (al:Addr) (aws:List V) (A:Sh),σ=[some (.ref p),some (.ref tl),some (.ref nd),o3,o4,some (.ref d),some (.ref cd),some (.ref al)]∧Plain H5∧Same H H5∧HI P w K H5 d es o F nd fes fo fns cd ces co al aws A∧DI B U F i fns ces A∧ces.length≤i)
   ⟨_,_,fes0,fo0,fns0,[],co0,al0,[],[],rfl,P5,S5,HI5,DI5,Nat.le_refl _⟩ (λ i σ H5 _ ⟨_,_,_,_,_,_,_,_,_,_,_,_,_,h,_⟩=>h.d) ?_ ?_⟩
  case refine_2 =>
   rintro σ H6 ⟨o3,o4,fes,fo,fns,ces,co,al,aws,A,rfl,P6,S6,I6,D6,_⟩
   rw [hesl] at D6
   obtain ⟨dlk,dcl,dma⟩:=D6.fin FO
   have hsub:∀ x∈A,x.2∈tv B Ts x.1:=λ x hx=>(FO.pm x.1).mem_iff.mp ((List.dropLast_sublist _).subset ((dma x).mp hx).2)
   have okA:∀ x∈A,okV x.2:=λ x hx=>zlz TI.a (k:=Ts.length) x.2 (by rw [List.take_length];exact hsub x hx)
   have fewA:=zfd TI.li D6.nd hsub
   have hnl:fes.length=fns.length:=Paired.length I6.e
   have hfl:fns.length<64:=by
    have h2:=zrb D6.ok.2 D6.u
    have h3:(mks fns).length=fns.length:=List.length_map _
    omega
   refine ⟨_,rfl,nd,fes,fo,rfl,I6.n,λ D hD=>zqd (λ j=>((fes[j]?).map λ (e:Ent)=>V.ref e.2.1).getD .non) (λ j y H=>∀ x,fns[j]? = some x→DV K H (prD x) y) hD P6 (n:=fes.length) (sm1 ((by omega))) (zqy I6.n) ?_ ?_ ?_⟩
   ·exact λ j y Ha Hb h k hz x ex=>DV.mono k hz _ _ (by have:=zxb [x];rw [List.map_cons,noLs,Bool.and_eq_true] at this;exact this.1) (h x ex)
   ·intro j H7 R hj P7 S7 hR
    have E7:=zec S7 I6.e
    obtain ⟨e,x,he,hx,hex,hqx,hdx⟩:=zqa E7 (k:=j) (by omega)
    have eg:((fes[j]?).map λ (e:Ent)=>V.ref e.2.1).getD .non = .ref e.2.1:=by rw [he];rfl
    rw [eg]
    have hfe:zab fes x.1=some e.2.2:=by
     rw [← hex]
     exact zoh (by rw [zpb I6.e];exact D6.ok.2) (List.mem_of_getElem? he)
    refine ⟨_,rfl,_,rfl,_,rfl,nd,fes,e.2.1,x.1,e.2.2,rfl,⟨⟨fo,S7 _ _ I6.n⟩,λ a h=>(zkb E7 a h).1⟩,rfl,hqx,hfe,sz_2,λ t hp8=>?_⟩
    have s8:Same H7 (upd H7 t (.tup [.ref e.2.1,e.2.2])):=zba hp8
    refine hR _ _ (λ x' ex'=>?_) s8 P7.tup
    rw [hx] at ex'
    cases ex'
    exact ⟨t,_,rfl,SqT.of upd_same,_,_,rfl,zsg (s8.seqT hqx),_,_,rfl,DV.same s8 _ _ hdx,rfl⟩
   intro zs H7 hzl hzs hD7 S67 P7
   have d7:DVs K H7 (fns.map prD) zs:=DVs.of (by omega) λ j y v hy hv=>hzs j y hy v hv
   refine ⟨Mark,List.map (λ x:Mark×Ver=>x.1) fns,(λ m=>[L2.markD m,vdat (look fns m)]),mLt,.tup,D,zs,rfl,SqL.of hD7,zur D6.ok.2 d7,zqr D6.ok.2 D6.ok.1 hfl,λ l8 bs8 ws8 hl8 pm8 pw8 hw8=>?_⟩
   have s8:Same H7 (upd H7 l8 (.lst ws8)):=zba hl8
   have P8:Plain (upd H7 l8 (.lst ws8)):=P7.lst
   have h8:(upd H7 l8 (.lst ws8)) l8=some (.lst ws8):=upd_same
   have hw8':DVs K (upd H7 l8 (.lst ws8)) ((toSh fns bs8).map prD) ws8:=by
    rw [← zjg D6.ok.2 pm8]
    exact DVs.same s8 _ _ hw8
   generalize upd H7 l8 (.lst ws8)=H8 at s8 P8 h8 hw8' ⊢
   have pmo:=zbg D6.ok.2 pm8
   have S68:=S67.trans s8
   have I8:=I6.same S68
   refine ⟨_,rfl,_,rfl,Mark×Ver,A,(λ x=>[L2.markD x.1,ver x.2]),ppLt,.tup,al,aws,rfl,SqL.of I8.a,I8.v,zpw D6.nd (by omega) okA,λ l9 bs9 ws9 hl9 pm9 pw9 hw9=>?_⟩
   have s9:Same H8 (upd H8 l9 (.lst ws9)):=zba hl9
   have P9:Plain (upd H8 l9 (.lst ws9)):=P8.lst
   have h9:(upd H8 l9 (.lst ws9)) l9=some (.lst ws9):=upd_same
   have hw9:=DVs.same s9 _ _ hw9
   generalize upd H8 l9 (.lst ws9)=H9 at s9 P9 h9 hw9 ⊢
   refine ⟨sz_3,λ t hp10=>?_⟩
   have s10:Same H9 (upd H9 t (.tup [.ref l8,.ref cd,.ref l9])):=zba hp10
   have I10:=I8.same (s9.trans s10)
   exact q t l8 cd l9 ces ws8 ws9 (lkF F) (toSh fns bs8) bs9 _ (((S6.trans S68).trans s9).trans s10) P9.tup (SqT.of upd_same) ((s9.trans s10) _ _ h8) (DVs.same (s9.trans s10) _ _ hw8') ⟨⟨co,I10.c⟩,I10.k⟩ (s10 _ _ h9) (DVs.same s10 _ _ hw9) (λ m=>⟨FO.pm m,FO.st m⟩) ⟨zis pw8,λ x hx=>D6.ok.1 x (pmo.mem_iff.mp hx),λ m=>(zk3 pmo D6.ok.2 m).trans (dlk m),dcl,pw9,λ x hx=>okA x (pm9.mem_iff.mp hx),λ x=>pm9.mem_iff.trans (dma x)⟩
  rintro i e σ H6 he ⟨o3,o4,fes,fo,fns,ces,co,al,aws,A,rfl,P6,S6,I6,D6,hcl⟩
  have hi:i<F.length:=by have:=(List.getElem?_eq_some_iff.mp he).1;omega
  obtain ⟨e',f,he',hf,hef,hqe,l,lw,hel,hl6,hlw⟩:=zqa I6.f hi
  rw [he] at he'
  cases he'
  have hfm:=List.mem_of_getElem? hf
  have hne:=FO.ne f hfm
  obtain ⟨u,hu⟩:∃ u,f.2.getLast? = some u:=by
   cases hx:f.2.getLast? with
   | none=>exact absurd (List.getLast?_eq_none_iff.mp hx) hne
   | some u=>exact ⟨u,rfl⟩
  have hum:u∈f.2:=List.mem_of_getLast? hu
  have okf:∀ v∈f.2,okV v:=λ v hv=>by
   have:=FO.sub hfm hv
   exact zlz TI.a (k:=Ts.length) v (by rw [List.take_length];exact this)
  have fU:f.1∈U:=zx1 TI.a (k:=Ts.length) (by rw [List.take_length];exact λ z=>by have:=FO.sub hfm hum;rw [z] at this;cases this)
  have hfe:zab es f.1=some (.ref l):=by
   rw [← hel,← hef]
   exact zoh (by rw [zag I6.f];exact FO.nd) (List.mem_of_getElem? he)
  rw [hef] at hqe
  have hll:lw.length=f.2.length:=by rw [hlw.length,List.length_map]
  have hfl:f.2.length≤6:=by
   have h1:=(zkz TI.a f.1 Ts.length).2
   rw [List.take_length] at h1
   have h2:=(FO.pm f.1).length_eq
   rw [zqk FO.nd f hfm] at h2
   omega
  obtain ⟨z,hz,hzd⟩:=hlw.get (i:=f.2.length - 1) (d:=ver u) (by rw [List.getElem?_map,zdv hu];rfl)
  have hfesl:fes.length<64:=by
   have h1:fes.length=fns.length:=Paired.length I6.e
   have h2:=zrb D6.ok.2 D6.u
   have h3:(mks fns).length=fns.length:=List.length_map _
   omega
  refine ⟨_,rfl,_,rfl,d,es,e.2.1,f.1,.ref l,rfl,⟨⟨o,I6.d⟩,kyF _ I6.f⟩,rfl,hqe,hfe,_,rfl,l,lw,_,z,rfl,rfl,SqL.of hl6,(by show atI lw (-1)=_;exact zrt (by rw [hll];exact hz)),_,rfl,_,rfl,nd,fes,e.2.1,f.1,rfl,⟨⟨fo,I6.n⟩,λ a h=>(zkb I6.e a h).1⟩,rfl,hqe,zka (by omega),λ fo'=>?_⟩
  have I7:=I6.putN (fo':=fo') n1 n2 (zxe I6.e hqe hzd)
  have P7:Plain (upd H6 nd (dO P w nd (putM fes f.1 e.2.1 z) fo')):=Plain.ext P6
  have S7:Same H (upd H6 nd (dO P w nd (putM fes f.1 e.2.1 z) fo')):=λ b y hb=>by rw [zga (zda hb hnd0)];exact S6 _ _ hb
  have hqe7:SqT K (upd H6 nd (dO P w nd (putM fes f.1 e.2.1 z) fo')) e.2.1 (mkV f.1):=zsa I6.n (zgb _) hqe
  have hl7:(upd H6 nd (dO P w nd (putM fes f.1 e.2.1 z) fo')) l=some (.lst lw):=by rw [zga (zqf hl6 I6.n (by intro z;cases z))];exact hl6
  have hlw7:DVs K (upd H6 nd (dO P w nd (putM fes f.1 e.2.1 z) fo')) (f.2.map ver) lw:=zna I6.n (zgb _) _ _ (zdg _) hlw
  generalize upd H6 nd (dO P w nd (putM fes f.1 e.2.1 z) fo')=H7 at I7 P7 S7 hqe7 hl7 hlw7 ⊢
  refine ⟨_,rfl,_,rfl,d,es,e.2.1,f.1,.ref l,rfl,⟨⟨o,I7.d⟩,kyF _ I7.f⟩,rfl,hqe7,hfe,l,rfl,⟨_,SqL.of hl7⟩,λ D hD=>zqd (λ j=>lw.getD j .non) (λ j y H=>∀ v,f.2[j]? = some v→DV K H (pwd v.2) y) hD P7 (n:=lw.length) (sm1 ((by omega))) (zil (SqL.of hl7)) ?_ ?_ ?_⟩
  ·exact λ j y Ha Hb h k hz v ev=>DV.mono k hz _ _ (zzo _ (zqx (okf v (List.mem_of_getElem? ev))).1) (h v ev)
  ·intro j H8 R hj P8 S8 hR
   have hjf:j<f.2.length:=by omega
   obtain ⟨y,hy,hyd⟩:=hlw7.get (i:=j) (d:=ver f.2[j]) (by rw [List.getElem?_map,List.getElem?_eq_getElem hjf];rfl)
   obtain ⟨ty,py,rfl,hty,hpy⟩:=zvi hyd
   have eg:lw.getD j .non = .ref ty:=by rw [List.getD_eq_getElem?_getD,hy];rfl
   rw [eg]
   refine ⟨_,rfl,_,rfl,ty,_,rfl,S8.seqT hty,λ p9 H9 hp9 s9 pl9=>hR _ _ (λ v ev=>?_) s9 (pl9 P8)⟩
   rw [List.getElem?_eq_getElem hjf] at ev
   cases ev
   rw [show cutV [V.int f.2[j].1,py,.str f.2[j].2.2] (some 1) none=[py,.str f.2[j].2.2] by rw [zgu (by decide)];rfl] at hp9
   exact ⟨p9,_,rfl,hp9,_,_,rfl,DV.same (S8.trans s9) _ _ hpy,_,_,rfl,rfl,rfl⟩
  intro zs H8 hzl hzs hD8 S78 P8
  have d8:DVs K H8 (f.2.map λ v=>pwd v.2) zs:=DVs.of (by omega) λ j y v hy hv=>hzs j y hy v hv
  refine ⟨D,_,zs,rfl,SqL.of hD8,d8,(λ x hx=>by obtain ⟨v,hv,rfl⟩:=List.mem_map.mp hx;exact zqx (okf v hv)),by rw [List.length_map];omega,λ sa qs hsa SA hin hle=>?_⟩
  rw [List.length_map] at hle
  generalize hH9:upd H8 sa (zbt _ sa qs)=H9 at SA ⊢
  have s9:Same H8 H9:=hH9 ▸ zba hsa
  have P9:Plain H9:=hH9 ▸ Plain.ext P8
  clear hH9
  have S79:=S78.trans s9
  have I9:=I7.same S79
  have hqe9:=S79.seqT hqe7
  have hl9:=S79 _ _ hl7
  have hlw9:=DVs.same S79 _ _ hlw7
  have hsz:=(zsv (qs:=qs.map (·.2)) (ds:=f.2.map λ v=>pwd v.2) SA.nd (λ x=>by rw [← hin x,List.mem_map]) (by rw [List.length_map,List.length_map];exact hle)).trans (zh0 okf)
  rw [List.length_map,List.length_map] at hsz
  refine ⟨sa,qs,rfl,SA,by omega,_,rfl,_,rfl,d,es,e.2.1,f.1,.ref l,rfl,⟨⟨o,I9.d⟩,kyF _ I9.f⟩,rfl,hqe9,hfe,l,lw,rfl,.inl (SqL.of hl9),rfl,_,rfl,zzv (λ hq=>?_) (λ hq=>?_)⟩
  case refine_2 =>
   have hc:¬ (f.2.map (·.2)).Nodup:=λ z=>hq (by show V.int _=V.int _;rw [hsz.mpr z,hll])
   exact ⟨_,_,_,fo',_,ces,co,al,aws,A,rfl,P9,S7.trans S79,I9,(D6.step FO hf fU hu (okf u hum) e.2.1).2 hc,by omega⟩
  have hc:(f.2.map (·.2)).Nodup:=hsz.mp (by have:=V.int.inj (show V.int _=V.int _ from hq);omega)
  have D10:=(D6.step FO hf fU hu (okf u hum) e.2.1).1 hc
  refine ⟨_,rfl,_,rfl,cd,ces,e.2.1,f.1,rfl,⟨⟨co,I9.c⟩,I9.k⟩,rfl,hqe9,zka (by omega),λ co'=>?_⟩
  have kc:∀ a∈putM ces f.1 e.2.1 (.bl true),SqT K H9 a.2.1 (mkV a.1):=λ a ha=>by
   unfold putM at ha
   split at ha
   ·obtain ⟨a0,ha0,rfl⟩:=List.mem_map.mp ha
    split
    ·exact I9.k a0 ha0
    ·exact I9.k a0 ha0
   ·rcases List.mem_append.mp ha with ha | ha
    ·exact I9.k a ha
    ·rw [List.mem_singleton.mp ha];exact hqe9
  have I10:=I9.putC (co':=co') n3 n2.symm kc
  have P10:Plain (upd H9 cd (dO P w cd (putM ces f.1 e.2.1 (.bl true)) co')):=Plain.ext P9
  have S10:Same H (upd H9 cd (dO P w cd (putM ces f.1 e.2.1 (.bl true)) co')):=λ b y hb=>by rw [zga (zda hb hcdH)];exact (S7.trans S79) _ _ hb
  have hqe10:SqT K (upd H9 cd (dO P w cd (putM ces f.1 e.2.1 (.bl true)) co')) e.2.1 (mkV f.1):=zsa I9.c (zgb _) hqe9
  have hl10:(upd H9 cd (dO P w cd (putM ces f.1 e.2.1 (.bl true)) co')) l=some (.lst lw):=by rw [zga (zqf hl9 I9.c (by intro z;cases z))];exact hl9
  have hlw10:DVs K (upd H9 cd (dO P w cd (putM ces f.1 e.2.1 (.bl true)) co')) (f.2.map ver) lw:=zna I9.c (zgb _) _ _ (zdg _) hlw9
  have pl10:(putM ces f.1 e.2.1 (.bl true)).length≤ces.length+1:=by
   unfold putM
   split
   ·rw [List.length_map];omega
   ·rw [List.length_append,List.length_singleton];omega
  generalize upd H9 cd (dO P w cd (putM ces f.1 e.2.1 (.bl true)) co')=H10 at I10 P10 S10 hqe10 hl10 hlw10 ⊢
  generalize putM ces f.1 e.2.1 (.bl true)=ces' at I10 D10 pl10
  refine ⟨_,rfl,_,rfl,_,rfl,d,es,e.2.1,f.1,.ref l,rfl,⟨⟨o,I10.d⟩,kyF _ I10.f⟩,rfl,hqe10,hfe,_,rfl,_,rfl,l,lw,rfl,SqL.of hl10,λ pc hp11=>?_⟩
  rw [zfu]
  generalize hH11:upd H10 pc (HO.lst _)=H11
  have s11:Same H10 H11:=hH11 ▸ zba hp11
  have P11:Plain H11:=hH11 ▸ P10.lst
  have h11:=(congrFun hH11 pc).symm.trans upd_same
  have hlq:DVs K H11 (f.2.dropLast.map ver) (lw.take (lw.length - 1)):=by
   rw [List.dropLast_eq_take,List.map_take,hll]
   exact DVs.take _ (DVs.same s11 _ _ hlw10)
  generalize lw.take (lw.length - 1)=lq at hlq h11 hH11
  have hlql:lq.length=f.2.dropLast.length:=by rw [hlq.length,List.length_map]
  have hdl:f.2.dropLast.length≤6:=by rw [List.length_dropLast];omega
  have hqe11:=s11.seqT hqe10
  refine ⟨pc,rfl,⟨_,SqL.of h11⟩,λ D2 hD2=>zqd (λ j=>lq.getD j .non) (λ j y H=>∀ v,f.2.dropLast[j]? = some v→DV K H (prD (f.1,v)) y) hD2 P11 (n:=lq.length) (sm1 ((by omega))) (zil (SqL.of h11)) ?_ ?_ ?_⟩
  ·exact λ j y Ha Hb h k hz v ev=>DV.mono k hz _ _ (by have:=zxb [(f.1,v)];rw [List.map_cons,noLs,Bool.and_eq_true] at this;exact this.1) (h v ev)
  ·intro j H12 R hj P12 S12 hR
   have hjf:j<f.2.dropLast.length:=by omega
   obtain ⟨y,hy,hyd⟩:=hlq.get (i:=j) (d:=ver f.2.dropLast[j]) (by rw [List.getElem?_map,List.getElem?_eq_getElem hjf];rfl)
   have eg:lq.getD j .non=y:=by rw [List.getD_eq_getElem?_getD,hy];rfl
   rw [eg]
   refine ⟨_,rfl,_,rfl,sz_2,λ t hp13=>?_⟩
   have s13:Same H12 (upd H12 t (.tup [.ref e.2.1,y])):=zba hp13
   refine hR _ _ (λ v ev=>?_) s13 P12.tup
   rw [List.getElem?_eq_getElem hjf] at ev
   cases ev
   exact ⟨t,_,rfl,SqT.of upd_same,_,_,rfl,zsg ((S12.trans s13).seqT hqe11),_,_,rfl,DV.same (S12.trans s13) _ _ hyd,rfl⟩
  intro zq H12 hzql hzqs hD12 S1112 P12
  have d12:DVs K H12 ((f.2.dropLast.map λ v=>(f.1,v)).map prD) zq:=by
   rw [List.map_map]
   exact DVs.of (f:=prD ∘ λ v=>(f.1,v)) (by omega) λ j y v hy hv=>hzqs j y hy v hv
  have S1012:=s11.trans S1112
  have I12:=I10.same S1012
  have fewA:A.length≤48:=zfd TI.li D6.nd λ x hx=>(FO.pm x.1).mem_iff.mp ((List.dropLast_sublist _).subset ((D6.ma x).mp hx).2.2)
  have hawl:aws.length=A.length:=by rw [I12.v.length,List.length_map]
  refine ⟨al,D2,aws,zq,rfl,rfl,I12.a,hD12,sm1 ((by omega)),λ al' hp13=>?_⟩
  have s13:Same H12 (upd H12 al' (.lst (aws++zq))):=zba hp13
  have I13:=I12.same s13
  refine ⟨_,_,_,fo',_,ces',co',al',aws++zq,_,rfl,P12.lst,(S10.trans S1012).trans s13,⟨I13.d,I13.f,I13.n,I13.e,I13.c,I13.k,upd_same,?_⟩,D10,by omega⟩
  rw [List.map_append]
  exact (DVs.same s13 _ _ I12.v).append (DVs.same s13 _ _ d12)
theorem sc_law:FnScope ["_law_script", "_law_base", "_law_many", "_law_tables", "_law_turn", "_law_order", "_law_pairs_here", "_law_clear", "_law_aside", "_law_some", "_law_found", "_law_told"] ["_law_script"] (zja zxv):=by walk_at "sc"
theorem zk1 (T:Txt K mg A) (G_q5:ziz P w K mg B A) (G_q7:zc3 P w K mg B A) (G_q10:zfx P w K mg B A) (G_q6:zp3 P w K mg B A) (G_q12:zyx P w K mg B A):zd2 P w K mg B A:=by
 have B_q5:=T.b_q5
 have B_q7:=T.b_q7
 have B_q10:=T.b_q10
 have B_q6:=T.b_q6
 have B_q12:=T.b_q12
 refine T.F_law.okN sc_law (λ vs H Q E h=>?_) (λ _ _ _ _ H vs Q E hr h=>?_)
 ·obtain ⟨a,ns,rfl,_⟩:=h
  rfl
 ·obtain ⟨a,ns,rfl,hS,hlen,kk,hP⟩:=h
  refine ⟨_,(zca (zpa (i:=1) sc_law.nd rfl (Or.inl rfl) (zya (znb hr.u100) rfl T.n_sorted (by decide +kernel) (zaa (zhb G_q7 (hr.mono (by decide)) rfl T.g_q7 T.k_q7 B_q7 .nil zde (zaa (zlc zph (pv 0) zmf (zqc zea)) zfa)) zfa)))
   (zca (zpa (i:=2) sc_law.nd rfl (Or.inr rfl) (zoa ztb zea (zoa zwa (zya zac rfl T.n_len (by decide +kernel) (zaa (zlc zph (pv 0) (zqc zea) (zqc zea)) zfa)) zea)))
   (zca (zpa (i:=3) sc_law.nd rfl (Or.inl rfl) (zhb G_q10 (hr.mono (by decide)) rfl T.g_q10 T.k_q10 B_q10 .nil zde (zaa (pv 1) (zaa (zoa zsl (zlc zph (pv 0) (zqc zea) (zqc zea)) (zlc zph (pv 0) zmf (zqc zea))) (zaa (pv 2) zfa)))))
   (zca (zpa (i:=4) sc_law.nd rfl (Or.inr rfl) (zoa zwa (zsb zma (zhb G_q5 (hr.mono (by decide)) rfl T.g_q5 T.k_q5 B_q5 .nil zde (zaa (zsb zma (zoa ziw (pv 0) (zrd (zaa zea zfa))) zea (λ _ _=>rfl)) (zaa zea zfa))) zea (λ _ _=>rfl)) (pv 2)))
   (zca (znw ["_law_k", "_law_many", "_law_turn"] 1 [2,4] (i:=5) sc_law.nd rfl (Or.inl rfl) rfl (znc rfl T.n_range (zaa (pv 2) zfa)) gk1 (λ _ _ _ _ _=>zia (i:=0) (show List.Nodup (["_law_k", "_law_many", "_law_turn"]:List Str) by decide +kernel) rfl (Or.inl rfl)) (λ _ _ _ _ _=>zxd) (λ _ _ _ _ _=>(zoa zwa (zoa ztb (pv 0) (pv 2)) (pv 1))))
   (zca (zet (zhb G_q12 (hr.mono (by decide)) rfl T.g_q12 T.k_q12 B_q12 .nil zde (zaa (pv 1) (zaa (pv 3) zfa))) (zgf rfl (zla (zia (i:=6) sc_law.nd rfl (Or.inl rfl)) (zla (zia (i:=7) sc_law.nd rfl (Or.inr rfl)) (zla (zia (i:=8) sc_law.nd rfl (Or.inl rfl)) zsc)))))
   (zca (ztc PassesOwn.never rfl (zbc (zrd (zaa (zzb (zbi rfl) rfl T.n_list (by decide +kernel) (zaa (zzb zdk rfl T.n_range (by decide +kernel) (zaa (pv 2) zfa)) zfa)) (zaa (zew (zzb (zbi rfl) rfl T.n_list (by decide +kernel) (zaa (zzb zdk rfl T.n_range (by decide +kernel) (zaa (pv 2) zfa)) zfa)) (zhz zep zea)) (zaa (pv 5) (zaa (zew (pv 5) (zhz zep zea)) zfa)))))) (zia (i:=9) sc_law.nd rfl (Or.inl rfl)) (zca (zet (zhb G_q6 (hr.mono (by decide)) rfl T.g_q6 T.k_q6 B_q6 .nil zde (zaa (pv 1) (zaa (pv 3) (zaa (pv 9) zfa)))) (zgf rfl (zla (zia (i:=10) sc_law.nd rfl (Or.inl rfl)) (zla (zia (i:=11) sc_law.nd rfl (Or.inl rfl)) zsc))))
   (zha (zuk (PW.pt (zq3 (zfb (zrk hr.units) (pv 10) (pv 6) (zcc _)) (zsx (zfb (zrk hr.units) (zle ["_law_pair", "_law_clear"] 1 [7] rfl (zbc (pv 11)) gk1 (λ _ _ _ _ _=>zia (i:=0) (show List.Nodup (["_law_pair", "_law_clear"]:List Str) by decide +kernel) rfl (Or.inl rfl)) (λ _ _ _ _ _=>zmw (zfb (zvx (P:=P) (w:=w) (K:=K) rfl rfl rfl (zef hr)) (zsb (zxw (K:=K) rfl) (pv 0) zea (λ _ _=>rfl)) (pv 1) (by rfl))) (λ _ _ _ _ _=>(pv 0))) (pv 8) (zcc _))))) (zha (zmb zxx)) zwb))))
   (zha (zmb zxx))))))))),?_⟩
  have hci:∀ lo hi,∀ x∈cutV (ns.map V.int) lo hi,∃ n,x=V.int n:=λ lo hi x hx=>by
   obtain ⟨i,hi⟩:=List.getElem?_of_mem hx
   exact zhy hi
  refine ⟨_,rfl,8,rfl,a,_,rfl,hS,λ pc hp1=>?_⟩
  have hc1:(cutV (ns.map V.int) none (some 8)).length≤8:=zgs (ns.map V.int) 8
  generalize hH1:upd H pc (HO.lst _)=H1
  have s1:Same H H1:=hH1 ▸ zba hp1
  have P1:Plain H1:=hH1 ▸ hP.lst
  have h1:=(congrFun hH1 pc).symm.trans upd_same
  refine ⟨P1,pc,_,rfl,h1,by omega,hci _ _,λ H2 pl ws ms s2 P2 hpl hw G hml=>?_⟩
  have okm:∀ m∈ms,okV m.2:=λ m h=>(G.ok m h).1
  refine ⟨Mark,List.map (λ x:Mark×Ver=>x.1) ms,(λ m=>[L2.markD m,vdat (look ms m)]),mLt,.tup,pl,ws,rfl,SqL.of hpl,zur G.nd hw,zqr G.nd okm (by omega),λ l3 bs3 ws3 hl3 pm3 pw3 hw3=>?_⟩
  have s3:Same H2 (upd H2 l3 (.lst ws3)):=zba hl3
  have P3:Plain (upd H2 l3 (.lst ws3)):=P2.lst
  have h3:(upd H2 l3 (.lst ws3)) l3=some (.lst ws3):=upd_same
  have hw3':DVs K (upd H2 l3 (.lst ws3)) ((toSh ms bs3).map prD) ws3:=by
   rw [← zjg G.nd pm3]
   exact DVs.same s3 _ _ hw3
  generalize upd H2 l3 (.lst ws3)=H3 at s3 P3 h3 hw3' ⊢
  have pmo:=zbg G.nd pm3
  have hB:BOk (toSh ms bs3):=⟨⟨λ m h=>okm m (pmo.mem_iff.mp h),(pmo.map (λ x:Mark×Ver=>x.1)).nodup_iff.mpr G.nd⟩,by rw [pmo.length_eq];omega,λ m h=>(G.ok m (pmo.mem_iff.mp h)).2.1⟩
  generalize toSh ms bs3=B at hw3' hB
  have S3:=(s1.trans s2).trans s3
  clear pmo hw3 pw3 pm3 hw
  refine ⟨_,rfl,8,rfl,50,rfl,a,_,rfl,S3.seq hS,λ c4 hp4=>?_⟩
  have hc4:(cutV (ns.map V.int) (some 8) (some 50)).length≤42:=zt1 (ns.map V.int) 8 50
  generalize hH4:upd H3 c4 (HO.lst _)=H4
  have s4:Same H3 H4:=hH4 ▸ zba hp4
  have P4:Plain H4:=hH4 ▸ P3.lst
  have h4:=(congrFun hH4 c4).symm.trans upd_same
  refine ⟨c4,_,rfl,.inl (SqL.of h4),_,_,rfl,rfl,ip_5,_,_,rfl,rfl,?_⟩
  have n2:(2:Int)≤2+((cutV (ns.map V.int) (some 8) (some 50)).length:Int) % 5∧2+((cutV (ns.map V.int) (some 8) (some 50)).length:Int) % 5≤6:=by omega
  dsimp only
  generalize 2+((cutV (ns.map V.int) (some 8) (some 50)).length:Int) % 5=n at n2 ⊢
  have S4:=S3.trans s4
  refine ⟨_,rfl,_,rfl,8,rfl,50,rfl,a,_,rfl,S4.seq hS,λ c5 hp5=>?_⟩
  generalize hH5:upd H4 c5 (HO.lst _)=H5
  have s5:Same H4 H5:=hH5 ▸ zba hp5
  have P5:Plain H5:=hH5 ▸ P4.lst
  have h5:=(congrFun hH5 c5).symm.trans upd_same
  have S5:=S4.trans s5
  refine ⟨_,rfl,6,rfl,a,_,rfl,S5.seq hS,λ c6 hp6=>?_⟩
  have hc6:(cutV (ns.map V.int) none (some 6)).length≤6:=zgs (ns.map V.int) 6
  generalize hH6:upd H5 c6 (HO.lst _)=H6
  have s6:Same H5 H6:=hH6 ▸ zba hp6
  have P6:Plain H6:=hH6 ▸ P5.lst
  have h6:=(congrFun hH6 c6).symm.trans upd_same
  refine ⟨c5,c6,_,_,rfl,rfl,s6 _ _ h5,h6,sm1 ((by omega)),λ c7 hp7=>?_⟩
  generalize hH7:upd H6 c7 (HO.lst _)=H7
  have s7:Same H6 H7:=hH7 ▸ zba hp7
  have P7:Plain H7:=hH7 ▸ P6.lst
  have h7:=(congrFun hH7 c7).symm.trans upd_same
  have hci7:∀ x∈cutV (ns.map V.int) (some 8) (some 50)++cutV (ns.map V.int) none (some 6),∃ n,x=V.int n:=λ x hx=>(List.mem_append.mp hx).elim (hci _ _ x) (hci _ _ x)
  have len7:(cutV (ns.map V.int) (some 8) (some 50)++cutV (ns.map V.int) none (some 6)).length≤48:=by rw [List.length_append];omega
  have S37:=((s4.trans s5).trans s6).trans s7
  have S7:=S3.trans S37
  refine ⟨_,rfl,P7,l3,c7,n,ws3,_,B,rfl,n2.1,n2.2,S37 _ _ h3,DVs.same S37 _ _ hw3',hB,h7,hci7,len7,λ tl ds Ts U H8 ntl s8 P8 TB hTn hA hL hU hbu=>?_⟩
  have S38:=S37.trans s8
  have S8:=S7.trans s8
  have TI:TIn P w K H8 l3 tl ws3 B ds Ts U:=⟨S38 _ _ h3,DVs.same S38 _ _ hw3',hB,TB,by omega,by rw [hTn];exact hA,hL,hU,hbu⟩
  clear hH4 hH5 hH6 hH7 hH1 hci7 len7
  refine ⟨_,rfl,sz_1,λ c9 hp9=>?_⟩
  generalize hH9:upd H8 c9 (HO.lst _)=H9
  have s9:Same H8 H9:=hH9 ▸ zba hp9
  have P9:Plain H9:=hH9 ▸ P8.lst
  have h9:=(congrFun hH9 c9).symm.trans upd_same
  have S9:=S8.trans s9
  refine ⟨a,c9,_,_,rfl,rfl,S9.seq hS,SqL.of h9,sm1 ((by show (ns.map V.int).length+1≤1000;rw [List.length_map];omega)),λ ca hpa=>?_⟩
  generalize hHa:upd H9 ca (HO.lst _)=Ha
  have sa:Same H9 Ha:=hHa ▸ zba hpa
  have Pa:Plain Ha:=hHa ▸ P9.lst
  have ha:=(congrFun hHa ca).symm.trans upd_same
  obtain ⟨c0,hc0⟩:∃ c0:Int,atI (ns.map V.int++[V.int 0]) 0=some (.int c0):=by
   cases ns with
   | nil=>exact ⟨0,rfl⟩
   | cons x r=>exact ⟨x,zlf (j:=0) rfl⟩
  refine ⟨ca,_,_,_,rfl,rfl,SqL.of ha,hc0,Pa,(c0,3),rfl,λ l ol hl ho=>?_⟩
  obtain ⟨d0,d1,d2,d3,d4,d5,d6,d7,rfl,e0,e1,e2,e3,e4,e5,e6,e7⟩:=ho
  have sb:Same Ha (upd Ha l (.lst [.int d0,.int d1,.int d2,.int d3,.int d4,.int d5,.int d6,.int d7])):=zba hl
  have Pb:Plain (upd Ha l (.lst [.int d0,.int d1,.int d2,.int d3,.int d4,.int d5,.int d6,.int d7])):=Pa.lst
  have hb:(upd Ha l (.lst [.int d0,.int d1,.int d2,.int d3,.int d4,.int d5,.int d6,.int d7])) l=some (.lst [.int d0,.int d1,.int d2,.int d3,.int d4,.int d5,.int d6,.int d7]):=upd_same
  generalize upd Ha l (.lst [.int d0,.int d1,.int d2,.int d3,.int d4,.int d5,.int d6,.int d7])=Hb at sb Pb hb ⊢
  refine ⟨l,_,_,_,rfl,rfl,SqL.of hb,rfl,_,rfl,_,_,rfl,rfl,(by show (0:Int)<n;omega),?_⟩
  dsimp only
  obtain ⟨r,hr⟩:∃ r:Nat,d0 % n=r:=⟨(d0 % n).toNat,by have:=Int.emod_nonneg d0 (show n≠0 by omega);omega⟩
  obtain ⟨N,hN⟩:∃ N:Nat,n=N:=⟨n.toNat,by omega⟩
  have hrN:r<N:=by have:=Int.emod_lt_of_pos d0 (show 0<n by omega);omega
  have hNT:N=Ts.length:=by omega
  rw [hr]
  have S8b:=(s9.trans sa).trans sb
  refine ⟨_,rfl,n,rfl,by omega,by omega,λ D hD=>zqd (n:=n.toNat) (λ i=>.int (0+((i:Nat):Int))) (λ i y H=>y=V.int (((i+r) % N:Nat):Int)) hD Pb (sm1 ((by omega))) zk2 (λ i y Ha Hb h _ _=>h) ?_ ?_⟩
  ·intro i H10 R hi P10 S10 hR
   refine ⟨_,rfl,_,rfl,_,_,rfl,rfl,_,rfl,_,_,rfl,rfl,(by show (0:Int)<n;omega),hR _ _ ?_ (Same.refl _) P10⟩
   show V.int ((0+(i:Int)+(r:Int)) % n)=_
   rw [hN,Int.natCast_emod,Int.natCast_add,Int.zero_add]
  intro zs Hc hzl hzs hDc Sbc Pc
  have ezs:zs=((List.range N).map λ k=>(k+r) % N).map λ (i:Nat)=>V.int (i:Int):=by
   refine List.ext_getElem? λ i=>?_
   rw [List.map_map,List.getElem?_map]
   by_cases hi:i<N
   ·obtain ⟨y,hy⟩:∃ y,zs[i]? = some y:=⟨_,List.getElem?_eq_getElem (by omega)⟩
    rw [hy,List.getElem?_range hi,hzs i y hy]
    rfl
   ·rw [List.getElem?_eq_none (by omega),List.getElem?_eq_none (by rw [List.length_range];omega)]
    rfl
  rw [ezs] at hDc
  have S8c:=S8b.trans Sbc
  refine ⟨_,rfl,_,rfl,Pc,l3,tl,ws3,B,ds,Ts,U,rfl,TI.same S8c,λ t l1 cd l2 ces w1 w2 s Dd A' Hd sd Pd ht h1 hw1 hcd h2 hw2 hs du=>?_⟩
  refine ⟨t,_,rfl,ht,rfl,_,_,rfl,_,_,rfl,_,_,rfl,rfl,?_⟩
  subst hN
  refine ⟨_,rfl,N,rfl,λ rp hrp=>?_⟩
  have tp:Same Hd (upd Hd rp (rngO rp N)):=zba hrp
  have Qp:Plain (upd Hd rp (rngO rp N)):=Plain.ext Pd
  have gp:(upd Hd rp (rngO rp N)) rp=some (rngO rp N):=upd_same
  generalize upd Hd rp (rngO rp N)=Jp at tp Qp gp ⊢
  refine ⟨rp,N,rfl,gp,by omega,λ la hlp=>?_⟩
  have up:Same Jp (upd Jp la (.lst ((List.range N).map λ (i:Nat)=>V.int (i:Int)))):=zba hlp
  have PXp:Plain (upd Jp la (.lst ((List.range N).map λ (i:Nat)=>V.int (i:Int)))):=Qp.lst
  have hxp:(upd Jp la (.lst ((List.range N).map λ (i:Nat)=>V.int (i:Int)))) la=some (.lst ((List.range N).map λ (i:Nat)=>V.int (i:Int))):=upd_same
  generalize upd Jp la (.lst ((List.range N).map λ (i:Nat)=>V.int (i:Int)))=HXp at up PXp hxp ⊢
  refine ⟨_,rfl,N,rfl,λ rq hrq=>?_⟩
  have tq:Same HXp (upd HXp rq (rngO rq N)):=zba hrq
  have Qq:Plain (upd HXp rq (rngO rq N)):=Plain.ext PXp
  have gq:(upd HXp rq (rngO rq N)) rq=some (rngO rq N):=upd_same
  generalize upd HXp rq (rngO rq N)=Jq at tq Qq gq ⊢
  refine ⟨rq,N,rfl,gq,by omega,λ lb0 hlq=>?_⟩
  have uq:Same Jq (upd Jq lb0 (.lst ((List.range N).map λ (i:Nat)=>V.int (i:Int)))):=zba hlq
  have PXq:Plain (upd Jq lb0 (.lst ((List.range N).map λ (i:Nat)=>V.int (i:Int)))):=Qq.lst
  have hxq:(upd Jq lb0 (.lst ((List.range N).map λ (i:Nat)=>V.int (i:Int)))) lb0=some (.lst ((List.range N).map λ (i:Nat)=>V.int (i:Int))):=upd_same
  generalize upd Jq lb0 (.lst ((List.range N).map λ (i:Nat)=>V.int (i:Int)))=HXq at uq PXq hxq ⊢
  refine ⟨1,rfl,rfl,lb0,_,rfl,SqL.of hxq,λ lb hpf=>?_⟩
  rw [← List.map_reverse]
  generalize hHf:upd HXq lb (HO.lst _)=Hf
  have sf:Same HXq Hf:=hHf ▸ zba hpf
  have Pf:Plain Hf:=hHf ▸ PXq.lst
  have hf:=(congrFun hHf lb).symm.trans upd_same
  have Sdq:=(((tp.trans up).trans tq).trans uq)
  have Sdf:=Sdq.trans sf
  have hDf:=(sd.trans Sdf) _ _ hDc
  refine ⟨_,rfl,_,rfl,1,rfl,rfl,D,_,rfl,SqL.of hDf,λ lg hpg=>?_⟩
  rw [← List.map_reverse]
  generalize hHg:upd Hf lg (HO.lst _)=Hg
  have sg:Same Hf Hg:=hHg ▸ zba hpg
  have Pg:Plain Hg:=hHg ▸ Pf.lst
  have hg:=(congrFun hHg lg).symm.trans upd_same
  refine ⟨sz_4,λ ll hph=>?_⟩
  generalize hHh:upd Hg ll (HO.lst _)=Hh
  have sh:Same Hg Hh:=hHh ▸ zba hph
  have Ph:Plain Hh:=hHh ▸ Pg.lst
  have hh:=(congrFun hHh ll).symm.trans upd_same
  clear hHf hHg hHh
  have rp:=zgt hrN
  have hall:∀ y∈[V.ref la,.ref lb,.ref D,.ref lg],∃ (od:Addr) (os:List Nat),y = .ref od∧Hh od=some (.lst (os.map λ (i:Nat)=>V.int (i:Int)))∧os.Perm (List.range Ts.length):=λ y hy=>by
   rw [← hNT]
   rcases List.mem_cons.mp hy with rfl | hy
   ·exact ⟨la,_,rfl,((((tq.trans uq).trans sf).trans sg).trans sh) _ _ hxp,.refl _⟩
   rcases List.mem_cons.mp hy with rfl | hy
   ·exact ⟨lb,_,rfl,(sg.trans sh) _ _ hf,List.reverse_perm _⟩
   rcases List.mem_cons.mp hy with rfl | hy
   ·exact ⟨D,_,rfl,(sg.trans sh) _ _ hDf,rp⟩
   rw [List.mem_singleton.mp hy]
   exact ⟨lg,_,rfl,sh _ _ hg,(List.reverse_perm _).trans rp⟩
  have Sdh:=(Sdf.trans sg).trans sh
  have TIh:=TI.same ((S8c.trans sd).trans Sdh)
  refine ⟨ll,rfl,⟨_,SqL.of hh⟩,zwc (K:=K) (a:=ll) (xs:=[V.ref la,.ref lb,.ref D,.ref lg]) (λ i σ H4=>∃ (o9 oa ob:Option V),σ=[some (.ref a),some (.ref l3),some (.int (N:Int)),some (.ref tl),some (.int (r:Int)),some (.ref D),some (.ref l1),some (.ref cd),some (.ref l2),o9,oa,ob]∧Plain H4∧Same Hh H4)
   ⟨_,_,_,rfl,Ph,Same.refl _⟩ (λ i σ H4 _ ⟨_,_,_,_,_,s⟩=>SqL.of (s _ _ hh)) ?_ ?_⟩
  case refine_2 =>
   rintro σ H4 ⟨o9,oa,ob,rfl,_,_⟩
   exact kk _
  rintro i y σ H4 hy ⟨o9,oa,ob,rfl,P4,S4⟩
  obtain ⟨od,os,rfl,hod,hos⟩:=hall y (List.mem_of_getElem? hy)
  refine ⟨_,rfl,_,rfl,_,rfl,P4,l3,tl,od,ws3,B,ds,Ts,U,os,rfl,TIh.same S4,S4 _ _ hod,hos,λ tf f1 f2 v1 v2 D' Af Hk sk Pk htf hf1 hv1 sD' okD' hf2 hv2 sA' okA' hfin=>?_⟩
  refine ⟨tf,_,rfl,htf,rfl,_,_,rfl,_,_,rfl,rfl,?_⟩
  obtain ⟨e1,e2⟩:=zzx hs du sD' sA' hfin λ m=>zpl (zti hos) m
  subst e1
  have Sdk:=(Sdh.trans S4).trans sk
  refine ⟨_,rfl,_,rfl,.list (D'.map prD),.list (D'.map prD),⟨f1,v1,rfl,SqL.of hf1,hv1⟩,⟨l1,w1,rfl,SqL.of (Sdk _ _ h1),DVs.same Sdk _ _ hw1⟩,zgc okD',zgc okD',?_⟩
  rw [zos okD']
  refine ⟨false,rfl,iteF ?_⟩
  obtain ⟨df,_⟩:∃ df:Mark×Ver,df=df:=⟨((0,0),(0,[], "")),rfl⟩
  have hvl:v2.length=Af.length:=by rw [hv2.length,List.length_map]
  have fewA:v2.length<1000:=by
   have h1:Af.length≤48:=zfd TI.li (zpu sA') λ x hx=>(zpl (zti hos) x.1).mem_iff.mp ((zin (hfin x.1)).2 _ (asd_mem.mpr hx))
   omega
  have hcdk:DM P w K Hk cd ces:=by
   obtain ⟨⟨oc,hoc⟩,hky⟩:=hcd
   exact ⟨⟨oc,Sdk _ _ hoc⟩,λ e he=>Sdk.seqT (hky e he)⟩
  refine ⟨_,rfl,f2,rfl,⟨_,SqL.of hf2⟩,λ Dq hDq=>zjp (λ i=>v2.getD i .non) (λ i=>(zab ces (Af.getD i df).1).isSome) (λ i y H=>DV K H (prD (Af.getD i df)) y) hDq Pk (n:=v2.length) (sm1 ((by omega))) (zil (SqL.of hf2)) ?_ ?_ ?_⟩
  ·exact λ j y Ha Hb h k hz=>DV.mono k hz _ _ (by have:=zxb [Af.getD j df];rw [List.map_cons,noLs,Bool.and_eq_true] at this;exact this.1) h
  ·intro j H5 Tt Tf hj P5 S5 htt hff
   have hjA:j<Af.length:=by omega
   have ec:Af.getD j df=Af[j]:=by rw [List.getD_eq_getElem?_getD,List.getElem?_eq_getElem hjA];rfl
   rw [ec] at htt hff
   obtain ⟨y,hy,hyd⟩:=hv2.get (i:=j) (d:=prD Af[j]) (by rw [List.getElem?_map,List.getElem?_eq_getElem hjA];rfl)
   obtain ⟨t2,q1,vx,rfl,ht2,hq1,hvx⟩:=zwk hyd
   have eg:v2.getD j .non = .ref t2:=by rw [List.getD_eq_getElem?_getD,hy];rfl
   rw [eg]
   have hc5:DM P w K H5 cd ces:=by
    obtain ⟨⟨oc,hoc⟩,hky⟩:=hcdk
    exact ⟨⟨oc,S5 _ _ hoc⟩,λ e he=>S5.seqT (hky e he)⟩
   refine ⟨_,rfl,t2,_,_,_,rfl,rfl,S5.seqT ht2,rfl,_,rfl,q1,Af[j].1,cd,ces,rfl,S5.seqT hq1,rfl,hc5,_,rfl,?_⟩
   cases eb:(zab ces Af[j].1).isSome with
   | true =>
    refine iteT ?_
    exact ⟨_,rfl,htt eb _ _ (DV.same S5 _ _ hyd) (Same.refl _) P5⟩
   | false=>exact iteF (hff eb _ (Same.refl _) P5)
  intro ys H5 hys hD5 S5 P5
  have hdv:=zwh (f:=λ i=>prD (Af.getD i df)) hys
  rw [hvl,zpv Af df (λ x:Mark×Ver=>(zab ces x.1).isSome) prD,e2] at hdv
  refine ⟨_,rfl,.list (A'.map prD),.list (A'.map prD),⟨Dq,ys,rfl,SqL.of hD5,hdv⟩,⟨l2,w2,rfl,SqL.of ((Sdk.trans S5) _ _ h2),DVs.same (Sdk.trans S5) _ _ hw2⟩,zgc du.ka,zgc du.ka,?_⟩
  rw [zos du.ka]
  refine ⟨false,rfl,iteF ?_⟩
  exact ⟨_,_,_,rfl,P5,(S4.trans sk).trans S5⟩
end
theorem ln_1 {us:List Value} (h:us.length=1):∃ a0,us=[a0]:=match us,h with | [a0],_=>⟨a0,rfl⟩
theorem ln_2 {us:List Value} (h:us.length=2):∃ a0 a1,us=[a0,a1]:=match us,h with | [a0,a1],_=>⟨a0,a1,rfl⟩
theorem ln_3 {us:List Value} (h:us.length=3):∃ a0 a1 a2,us=[a0,a1,a2]:=match us,h with | [a0,a1,a2],_=>⟨a0,a1,a2,rfl⟩
set_option maxHeartbeats 0 in
theorem all_mk {l:W.OpenLaw} {w:World} {K:W.Frag} {h:Heap} {mg:Str→Option Value} {fa:Addr} (X:K.In h) (G:h.Ns mainGlobals mg) (hfa:mg "law" = some (.ref fa))
  {f_q16:Addr} {d_q16:FuncData}
  {f_q15:Addr} {d_q15:FuncData}
  {f_q0:Addr} {d_q0:FuncData}
  {f_q2:Addr} {d_q2:FuncData}
  {f_q1:Addr} {d_q1:FuncData}
  {f_q13:Addr} {d_q13:FuncData}
  {f_q11:Addr} {d_q11:FuncData}
  {f_q14:Addr} {d_q14:FuncData}
  {f_q5:Addr} {d_q5:FuncData}
  {f_q9:Addr} {d_q9:FuncData}
  {f_q8:Addr} {d_q8:FuncData}
  {f_q3:Addr} {d_q3:FuncData}
  {f_q7:Addr} {d_q7:FuncData}
  {f_q10:Addr} {d_q10:FuncData}
  {f_q6:Addr} {d_q6:FuncData}
  {f_q4:Addr} {d_q4:FuncData}
  {f_q12:Addr} {d_q12:FuncData}
  {f_law:Addr} {d_law:FuncData}
  {C_NoSheet:Addr}
  {C_Sheet:Addr}
  (a_q16:W.nsIn K mainGlobals "alike" = some (some (.ref f_q16))) (F_q16:Fun K "alike" "alike" ztz f_q16 d_q16)
  (a_q15:W.nsIn K mainGlobals "later" = some (some (.ref f_q15))) (F_q15:Fun K "later" "later" zm2 f_q15 d_q15)
  (a_q0:W.findIn K (.ref C_Sheet) "__init__" = some (some (.ref f_q0))) (i_q0:W.isFn K (.ref f_q0)=true) (F_q0:Fun K "__init__" "Sheet.__init__" s_q0 f_q0 d_q0)
  (a_q2:W.findIn K (.ref C_Sheet) "pairs" = some (some (.ref f_q2))) (i_q2:W.isFn K (.ref f_q2)=true) (F_q2:Fun K "pairs" "Sheet.pairs" s_q2 f_q2 d_q2)
  (a_q1:W.findIn K (.ref C_Sheet) "version" = some (some (.ref f_q1))) (i_q1:W.isFn K (.ref f_q1)=true) (F_q1:Fun K "version" "Sheet.version" s_q1 f_q1 d_q1)
  (a_q13:W.nsIn K mainGlobals "marks_of" = some (some (.ref f_q13))) (F_q13:Fun K "marks_of" "marks_of" zc2 f_q13 d_q13)
  (a_q11:W.nsIn K mainGlobals "clash_due" = some (some (.ref f_q11))) (F_q11:Fun K "clash_due" "clash_due" zs1 f_q11 d_q11)
  (a_q14:W.nsIn K mainGlobals "merged" = some (some (.ref f_q14))) (F_q14:Fun K "merged" "merged" zv2 f_q14 d_q14)
  (a_q5:W.nsIn K mainGlobals "_law_digits" = some (some (.ref f_q5))) (F_q5:Fun K "_law_digits" "_law_digits" s_q5 f_q5 d_q5)
  (a_q9:W.nsIn K mainGlobals "_law_signs" = some (some (.ref f_q9))) (F_q9:Fun K "_law_signs" "_law_signs" s_q9 f_q9 d_q9)
  (a_q8:W.nsIn K mainGlobals "_law_words" = some (some (.ref f_q8))) (F_q8:Fun K "_law_words" "_law_words" s_q8 f_q8 d_q8)
  (a_q3:W.nsIn K mainGlobals "_law_version" = some (some (.ref f_q3))) (F_q3:Fun K "_law_version" "_law_version" s_q3 f_q3 d_q3)
  (a_q7:W.nsIn K mainGlobals "_law_pairs" = some (some (.ref f_q7))) (F_q7:Fun K "_law_pairs" "_law_pairs" s_q7 f_q7 d_q7)
  (a_q10:W.nsIn K mainGlobals "_law_dealt" = some (some (.ref f_q10))) (F_q10:Fun K "_law_dealt" "_law_dealt" zv0 f_q10 d_q10)
  (a_q6:W.nsIn K mainGlobals "_law_folded" = some (some (.ref f_q6))) (F_q6:Fun K "_law_folded" "_law_folded" s_q6 f_q6 d_q6)
  (a_q4:W.nsIn K mainGlobals "_law_touched" = some (some (.ref f_q4))) (F_q4:Fun K "_law_touched" "_law_touched" s_q4 f_q4 d_q4)
  (a_q12:W.nsIn K mainGlobals "_law_due" = some (some (.ref f_q12))) (F_q12:Fun K "_law_due" "_law_due" zrz f_q12 d_q12)
  (a_law:W.nsIn K mainGlobals "law" = some (some (.ref f_law))) (F_law:Fun K "law" "law" zxv f_law d_law)
  (q_NoSheet:W.nsIn K mainGlobals "NoSheet" = some (some (.ref C_NoSheet)))
  (x_NoSheet:XCls K C_NoSheet)
  (q_Sheet:W.nsIn K mainGlobals "Sheet" = some (some (.ref C_Sheet)))
  (pg_Sheet:W.plainGet K C_Sheet Str.empty=true) (hd_Sheet:W.hasDictIn K C_Sheet=true) (po_Sheet:W.plainOver K C_Sheet=true) (sa_Sheet:W.findIn K (.ref C_Sheet) "__setattr__" = some (some (.builtin "object.__setattr__"))) (mk_Sheet:W.makesIn K C_Sheet=true) (kc_Sheet:W.keepIn K (.ref C_Sheet)=true)
  (na_Sheet_versions:W.findIn K (.ref C_Sheet) "versions" = some none)
  (n_dict:W.nsIn K mainGlobals "dict" = some none)
  (n_enumerate:W.nsIn K mainGlobals "enumerate" = some none)
  (n_len:W.nsIn K mainGlobals "len" = some none)
  (n_list:W.nsIn K mainGlobals "list" = some none)
  (n_max:W.nsIn K mainGlobals "max" = some none)
  (n_range:W.nsIn K mainGlobals "range" = some none)
  (n_set:W.nsIn K mainGlobals "set" = some none)
  (n_sorted:W.nsIn K mainGlobals "sorted" = some none)
  (n_tuple:W.nsIn K mainGlobals "tuple" = some none)
  : ∃ fd:FuncData,(∀ (s:Shared) (v:Value),BindsTo s fd ⟨[v],[]⟩ [("_law_script",v)])∧∀ B:Heap,K.In B→B.Ns mainGlobals mg→FnOk l.prog w K mg B (CX1 l.prog w B) 5 fa fd ["_law_script"] (sp_law K):=by
 have e:=hfa.symm.trans (W.mg_of X G a_law)
 cases e
 obtain ⟨oc_law,od_law,kV_law,dc_law,pm_law,an_law,cd_law,ct_law,sl_law,rfl,l_law,c_law⟩:=id F_law.ex
 have T:Txt K mg ⟨f_q16,d_q16,f_q15,d_q15,f_q0,d_q0,f_q2,d_q2,f_q1,d_q1,f_q13,d_q13,f_q11,d_q11,f_q14,d_q14,f_q5,d_q5,f_q9,d_q9,f_q8,d_q8,f_q3,d_q3,f_q7,d_q7,f_q10,d_q10,f_q6,d_q6,f_q4,d_q4,f_q12,d_q12,fa,_,C_NoSheet,C_Sheet⟩:=⟨F_q16,(W.mg_of X G a_q16),F_q16.kp,(F_q16.binds λ _ _ _ _ _ _ us hl=>by obtain ⟨a0,a1,rfl⟩:=ln_2 hl;rfl),F_q15,(W.mg_of X G a_q15),F_q15.kp,(F_q15.binds λ _ _ _ _ _ _ us hl=>by obtain ⟨a0,a1,rfl⟩:=ln_2 hl;rfl),F_q0,(F_q0.binds λ _ _ _ _ _ _ us hl=>by obtain ⟨a0,a1,rfl⟩:=ln_2 hl;rfl),⟨mk_Sheet,a_q0,i_q0,kc_Sheet⟩,F_q2,(F_q2.binds λ _ _ _ _ _ _ us hl=>by obtain ⟨a0,rfl⟩:=ln_1 hl;rfl),⟨a_q2,i_q2,F_q2.kp⟩,F_q1,(F_q1.binds λ _ _ _ _ _ _ us hl=>by obtain ⟨a0,a1,rfl⟩:=ln_2 hl;rfl),⟨a_q1,i_q1,F_q1.kp⟩,F_q13,(W.mg_of X G a_q13),F_q13.kp,(F_q13.binds λ _ _ _ _ _ _ us hl=>by obtain ⟨a0,a1,rfl⟩:=ln_2 hl;rfl),F_q11,(W.mg_of X G a_q11),F_q11.kp,(F_q11.binds λ _ _ _ _ _ _ us hl=>by obtain ⟨a0,a1,a2,rfl⟩:=ln_3 hl;rfl),F_q14,(W.mg_of X G a_q14),F_q14.kp,(F_q14.binds λ _ _ _ _ _ _ us hl=>by obtain ⟨a0,a1,a2,rfl⟩:=ln_3 hl;rfl),F_q5,(W.mg_of X G a_q5),F_q5.kp,(F_q5.binds λ _ _ _ _ _ _ us hl=>by obtain ⟨a0,a1,rfl⟩:=ln_2 hl;rfl),F_q9,(W.mg_of X G a_q9),F_q9.kp,(F_q9.binds λ _ _ _ _ _ _ us hl=>match us,hl with | [],_=>rfl),F_q8,(W.mg_of X G a_q8),F_q8.kp,(F_q8.binds λ _ _ _ _ _ _ us hl=>by obtain ⟨a0,a1,rfl⟩:=ln_2 hl;rfl),F_q3,(W.mg_of X G a_q3),F_q3.kp,(F_q3.binds λ _ _ _ _ _ _ us hl=>by obtain ⟨a0,rfl⟩:=ln_1 hl;rfl),F_q7,(W.mg_of X G a_q7),F_q7.kp,(F_q7.binds λ _ _ _ _ _ _ us hl=>by obtain ⟨a0,rfl⟩:=ln_1 hl;rfl),F_q10,(W.mg_of X G a_q10),F_q10.kp,(F_q10.binds λ _ _ _ _ _ _ us hl=>by obtain ⟨a0,a1,a2,rfl⟩:=ln_3 hl;rfl),F_q6,(W.mg_of X G a_q6),F_q6.kp,(F_q6.binds λ _ _ _ _ _ _ us hl=>by obtain ⟨a0,a1,a2,rfl⟩:=ln_3 hl;rfl),F_q4,(W.mg_of X G a_q4),F_q4.kp,(F_q4.binds λ _ _ _ _ _ _ us hl=>by obtain ⟨a0,a1,rfl⟩:=ln_2 hl;rfl),F_q12,(W.mg_of X G a_q12),F_q12.kp,(F_q12.binds λ _ _ _ _ _ _ us hl=>by obtain ⟨a0,a1,rfl⟩:=ln_2 hl;rfl),F_law,(W.mg_of X G a_law),F_law.kp,(F_law.binds λ _ _ _ _ _ _ us hl=>match us,hl with | [_],_=>rfl),(W.mg_of X G q_NoSheet),x_NoSheet,(W.mg_of X G q_Sheet),⟨pg_Sheet,hd_Sheet,po_Sheet,sa_Sheet⟩,na_Sheet_versions,(W.mg_none_of X G n_dict),(W.mg_none_of X G n_enumerate),(W.mg_none_of X G n_len),(W.mg_none_of X G n_list),(W.mg_none_of X G n_max),(W.mg_none_of X G n_range),(W.mg_none_of X G n_set),(W.mg_none_of X G n_sorted),(W.mg_none_of X G n_tuple)⟩
 refine ⟨W.fnOf "law" "law" (zfh zxv) (zaf zxv) (zja zxv) .none kV_law dc_law pm_law an_law cd_law ct_law,λ s v=>.of_eq rfl,λ B _ _=>?_⟩
 have G_q16:=za2 (P:=l.prog) (w:=w) (B:=B) T
 have G_q15:=zb2 (P:=l.prog) (w:=w) (B:=B) T
 have G_q0:=zt3 (P:=l.prog) (w:=w) (B:=B) T
 have G_q2:=zy4 (P:=l.prog) (w:=w) (B:=B) T
 have G_q1:=za5 (P:=l.prog) (w:=w) (B:=B) T
 have G_q13:=zt2 (P:=l.prog) (w:=w) (B:=B) T G_q2
 have G_q11:=zb0 (P:=l.prog) (w:=w) (B:=B) T G_q16
 have G_q14:=zw0 (P:=l.prog) (w:=w) (B:=B) T G_q15 G_q0 G_q1 G_q13 G_q11
 have G_q5:=zd4 (P:=l.prog) (w:=w) (B:=B) T
 have G_q9:=zv3 (P:=l.prog) (w:=w) (B:=B) T
 have G_q8:=zg4 (P:=l.prog) (w:=w) (B:=B) T G_q9
 have G_q3:=zw4 (P:=l.prog) (w:=w) (B:=B) T G_q8
 have G_q7:=zp4 (P:=l.prog) (w:=w) (B:=B) T G_q5 G_q3
 have G_q10:=zh1 (P:=l.prog) (w:=w) (B:=B) T G_q5 G_q3
 have G_q6:=ze4 (P:=l.prog) (w:=w) (B:=B) T G_q0 G_q2 G_q14
 have G_q4:=zb4 (P:=l.prog) (w:=w) (B:=B) T
 have G_q12:=zy1 (P:=l.prog) (w:=w) (B:=B) T G_q4
 have G_law:=zk1 (P:=l.prog) (w:=w) (B:=B) T G_q5 G_q7 G_q10 G_q6 G_q12
 exact G_law
theorem walk {l:W.OpenLaw} {q:Program} {loose:List Str} {XP:(Str→Option Value)→Heap→Prop} {YP:World→Heap→Prop} {d:DefRec} {K:Params→W.Frag} (hn:l.most=some 63) (hdf:d.params.defaults=[])
  (hY:∀ (w:World) (h:Heap),YP w h→(K w.params).In h)
  (F:∀ (w:World) (mg:Str→Option Value) (fa:Addr) (h:Heap),(K w.params).In h→h.Ns mainGlobals mg→mg d.name=some (.ref fa) →
   ∃ fd:FuncData,(∀ (s:Shared) (u:Value),BindsTo s fd ⟨[u],[]⟩ [("_law_script",u)])∧∀ B:Heap,(K w.params).In B→B.Ns mainGlobals mg→FnOk l.prog w (K w.params) mg B (CX1 l.prog w B) 5 fa fd ["_law_script"] (sp_law (K w.params))) :
  W.WalkO q loose XP YP l.row.toRowW d [] (λ f vs=>PySem.call f vs) :=
 ztt (n:=63) (k:=5) (x := "_law_script") (sp:=λ w=>sp_law (K w.params)) hn (by decide) hdf ⟨rfl,by decide,by decide⟩ hY F (λ _ _ a ns hl hO hS=>⟨a,ns,rfl,hS,hl,λ _=>rfl,hO.plain⟩)
end My
open PySem PySem.W PyProof.Rows
open Lean in
local macro_rules
 | `(tactic| o_head $H)=>do
  let (hl,hw,hc):=(mkIdent `hl,mkIdent `hw,mkIdent `hc)
  `(tactic| refine PySem.W.holds_open (q:=My.viewQ) (loose:=[]) (Xt:=λ s=>xlAt My.viewQ [] s && recOk (RowW.records PySem.Challenge.rw_twotabs_k24_merged_in_any_order.row.toRowW) s) (XP:=XL My.viewQ []) (Yf:=Hook.obs $H) (Ya:=Hook.val $H) (YP:=Hook.says $H) (N:=3500) ?$hl (Hook.of $H) (Hook.keeps $H) (λ s e=>xl_of s (Bool.and_eq_true_iff.mp e).1) XL.keeps (by rfl) (by rfl) (by rfl) (λ s e=>recFacts_of (Bool.and_eq_true_iff.mp e).2) (by rfl) (by assumption) (by decide +kernel) ⟨rfl,rfl,rfl,rfl,rfl,by decide +kernel⟩ ?$hw ?$hc)
local macro_rules | `(tactic| walk_at "fn") => `(tactic| (refine' L2.fun_mk ?l ?c ?k; (case l=>k_is); (case c=>k_is); (case k=>k_is)))
set_option maxRecDepth 100000 in
set_option maxHeartbeats 0 in
theorem PySem.Challenge.cw_twotabs_k24_merged_in_any_order_holds : PySem.Challenge.rw_twotabs_k24_merged_in_any_order.Holds := by
 w_on;o_law;k_head; (case hw=>w_witness2); (case hl=>exact My.hlQ)
 k_fill
 refine My.walk (l:=PySem.Challenge.rw_twotabs_k24_merged_in_any_order) rfl rfl (λ w h Y=>PySem.W.kIn_of Y) ?F
 case F =>
  intro w mg fa h KX G hmg
  refine' My.all_mk KX G hmg ?a_q16 ?F_q16 ?a_q15 ?F_q15 ?a_q0 ?i_q0 ?F_q0 ?a_q2 ?i_q2 ?F_q2 ?a_q1 ?i_q1 ?F_q1 ?a_q13 ?F_q13 ?a_q11 ?F_q11 ?a_q14 ?F_q14 ?a_q5 ?F_q5 ?a_q9 ?F_q9 ?a_q8 ?F_q8 ?a_q3 ?F_q3 ?a_q7 ?F_q7 ?a_q10 ?F_q10 ?a_q6 ?F_q6 ?a_q4 ?F_q4 ?a_q12 ?F_q12 ?a_law ?F_law ?q_NoSheet ?x_NoSheet ?q_Sheet ?pg_Sheet ?hd_Sheet ?po_Sheet ?sa_Sheet ?mk_Sheet ?kc_Sheet ?na_Sheet_versions ?n_dict ?n_enumerate ?n_len ?n_list ?n_max ?n_range ?n_set ?n_sorted ?n_tuple
  (case q_Sheet=>k_is)
  (case a_q16=>k_is)
  (case F_q16=>walk_at "fn")
  (case a_q15=>k_is)
  (case F_q15=>walk_at "fn")
  (case a_q0=>k_is)
  (case i_q0=>k_is)
  (case F_q0=>walk_at "fn")
  (case a_q2=>k_is)
  (case i_q2=>k_is)
  (case F_q2=>walk_at "fn")
  (case a_q1=>k_is)
  (case i_q1=>k_is)
  (case F_q1=>walk_at "fn")
  (case a_q13=>k_is)
  (case F_q13=>walk_at "fn")
  (case a_q11=>k_is)
  (case F_q11=>walk_at "fn")
  (case a_q14=>k_is)
  (case F_q14=>walk_at "fn")
  (case a_q5=>k_is)
  (case F_q5=>walk_at "fn")
  (case a_q9=>k_is)
  (case F_q9=>walk_at "fn")
  (case a_q8=>k_is)
  (case F_q8=>walk_at "fn")
  (case a_q3=>k_is)
  (case F_q3=>walk_at "fn")
  (case a_q7=>k_is)
  (case F_q7=>walk_at "fn")
  (case a_q10=>k_is)
  (case F_q10=>walk_at "fn")
  (case a_q6=>k_is)
  (case F_q6=>walk_at "fn")
  (case a_q4=>k_is)
  (case F_q4=>walk_at "fn")
  (case a_q12=>k_is)
  (case F_q12=>walk_at "fn")
  (case a_law=>k_is)
  (case F_law=>walk_at "fn")
  (case q_NoSheet=>k_is)
  (case x_NoSheet=>refine' L2.XCls.mk ?_ ?_ ?_ ?_ ?_ ?_ ?_ ?_ ?_;all_goals (first | k_is | k_exc))
  (case pg_Sheet=>k_is)
  (case hd_Sheet=>k_is)
  (case po_Sheet=>k_is)
  (case sa_Sheet=>k_is)
  (case mk_Sheet=>k_is)
  (case kc_Sheet=>k_is)
  (case na_Sheet_versions=>k_is)
  (case n_dict=>k_is)
  (case n_enumerate=>k_is)
  (case n_len=>k_is)
  (case n_list=>k_is)
  (case n_max=>k_is)
  (case n_range=>k_is)
  (case n_set=>k_is)
  (case n_sorted=>k_is)
  (case n_tuple=>k_is)
